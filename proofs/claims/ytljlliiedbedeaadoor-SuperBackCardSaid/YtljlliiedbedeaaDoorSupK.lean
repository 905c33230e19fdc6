/- Superblocks: the code's unpacked. -/
import Derived.Test.YtljlliiedbedeaaDoorSupJ
namespace Go.Proofs.YtljlliiedbedeaaDoor
open Go Go.RowKit Go.Proofs

/-- The superblock that a body's bytes say, its first k subvolumes; kept shut. -/
def rdTo7 (g : Int) (l : List UInt8) (k : Nat) : Sp := ⟨g, (gN l 0 2 : Int), (gN l 2 2 : Int), (List.range 8).map (fun i => if i < k then rdV (l.drop (4 + 18 * i)) else Vl.zero), by simp⟩
def rdS (g : Int) (l : List UInt8) : Sp := rdTo7 g l 8
def sp0 (g a b : Int) : Sp := ⟨g, a, b, List.replicate 8 Vl.zero, rfl⟩
theorem rdTo7_zero (g : Int) (l : List UInt8) : rdTo7 g l 0 = sp0 g (gN l 0 2 : Int) (gN l 2 2 : Int) := rfl
theorem rdTo7_next (g : Int) (l : List UInt8) {k : Nat} (_hk : k < 8) : (rdTo7 g l k).setV k (rdV (l.drop (4 + 18 * k))) = rdTo7 g l (k + 1) := by
  refine Sp.ext' rfl rfl rfl ?_
  show (((List.range 8).map (fun i => if i < k then rdV (l.drop (4 + 18 * i)) else Vl.zero)).set k (rdV (l.drop (4 + 18 * k)))) = (List.range 8).map (fun i => if i < k + 1 then rdV (l.drop (4 + 18 * i)) else Vl.zero)
  refine List.ext_getElem (by simp) fun i h1 h2 => ?_
  have hi : i < 8 := by simpa using h2
  rw [List.getElem_set]
  by_cases h : k = i
  · subst h
    simp
  · rw [if_neg h]
    simp only [List.getElem_map, List.getElem_range]
    by_cases h3 : i < k
    · rw [if_pos h3, if_pos (by omega)]
    · rw [if_neg h3, if_neg (by omega)]
theorem rdTo7_at (g : Int) (l : List UInt8) (k : Nat) {i : Nat} (hi : i < 8) : (rdTo7 g l k).at_ i = if i < k then rdV (l.drop (4 + 18 * i)) else Vl.zero := by
  have h := (rdTo7 g l k).get hi
  have h2 : (rdTo7 g l k).vols[i]? = some (if i < k then rdV (l.drop (4 + 18 * i)) else Vl.zero) := by
    show ((List.range 8).map (fun i => if i < k then rdV (l.drop (4 + 18 * i)) else Vl.zero))[i]? = _
    rw [List.getElem?_map, List.getElem?_range hi]
    rfl
  rw [h] at h2
  exact Option.some.inj h2
theorem rdS_fine (g : Int) (l : List UInt8) : (rdS g l).fine := fun k hk => by
  unfold rdS
  rw [rdTo7_at g l 8 hk, if_pos hk]
  have := rdN_size (l.drop (4 + 18 * k))
  unfold maxLen
  show (rdN _).size ≤ _
  omega
theorem SB.set1 {w : World} {b : Nat} {S : Sp} (H : SB w b S) (x : Int) : SB (w.setCell ⟨b, 1, none⟩ (.int .i64 x)) b ⟨S.gen, x, S.log, S.vols, S.len⟩ := by
  obtain ⟨t, H⟩ := H
  exact ⟨t, heap_setCell_same w b 1 _ t _ H⟩
theorem SB.set2 {w : World} {b : Nat} {S : Sp} (H : SB w b S) (x : Int) : SB (w.setCell ⟨b, 2, none⟩ (.int .i64 x)) b ⟨S.gen, S.sectors, x, S.vols, S.len⟩ := by
  obtain ⟨t, H⟩ := H
  exact ⟨t, heap_setCell_same w b 2 _ t _ H⟩
/-- The k-th subvolume is stored, its place as the walk reckons it. -/
theorem wp_store_vj {ops : Array Oper} {rest : List Oper} {o : Oper} {a : Act} {w : World} {Q : Exit → Act → World → Prop} (hg : o.guard = none) (x y : Operand) (hop : o.op = Op.store 23 x y)
    (b k : Nat) (hk : k < 8) (hx : a.eval x = .pointer (some ⟨b, 3 + k * 4, none⟩)) (v : Vl) (S : Sp) (hy : a.eval y = v.v) (H : SB w b S)
    (hK : ∀ w', SB w' b (S.setV k v) → (∀ B, B ≤ b → Below B w w') → Turn (fun k => k = b) w w' → wpList Tryd.prog ops Q rest (a.put o.dst undef) w') : wpList Tryd.prog ops Q (o :: rest) a w :=
  wp_store_vk hg x y hop b k hk (by rw [hx, Nat.mul_comm]) v S hy H hK

/-- A superblock's making, as a variable and as a value, kept shut. -/
def alS (h : Bool) (old : Value) : Sem Value := Instr.alloc 26 h old
theorem alS_shut (h : Bool) (old : Value) : Instr.alloc 26 h old = alS h old := rfl
def bdS (parts : Array (Nat × Value)) : Sem Value := Instr.build 26 parts
theorem bdS_shut (parts : Array (Nat × Value)) : Instr.build 26 parts = bdS parts := rfl
set_option maxRecDepth 10000 in
theorem alS_run (h : Bool) (w : World) : (alS h (.tuple #[])).run Tryd.prog w = .ok (.pointer (some ⟨w.heap.size, 0, none⟩)) (w.alloc (.cells Sp.zero.vs.toArray 26)) := by
  cases h
  · show (Instr.alloc 26 false (.tuple #[])).run Tryd.prog w = _; kernel_rfl
  · show (Instr.alloc 26 true (.tuple #[])).run Tryd.prog w = _; kernel_rfl
theorem bdS_zero (w : World) : (bdS #[]).run Tryd.prog w = .ok (.agg Sp.zero.vs.toArray) w := by
  show (Instr.build 26 #[]).run Tryd.prog w = _; kernel_rfl
theorem bdS_gen (g : Int) (w : World) : (bdS #[(0, .int .i64 g)]).run Tryd.prog w = .ok (.agg (sp0 g 0 0).vs.toArray) w := by
  show (Instr.build 26 #[(0, .int .i64 g)]).run Tryd.prog w = _; kernel_rfl

attribute [local go_sem ↓] ldS_shut ldA_shut alS_shut bdS_shut
set_option maxRecDepth 100000 in
set_option maxHeartbeats 4000000 in
theorem sunpacked_any (g : Int) (A : Option Addr) (n c : Nat) (l : List UInt8) (w : World) (hs : Sl w A n c l) (hn : 148 ≤ n) (hn2 : n ≤ 1000) :
    Calls Tryd.prog 31 #[.int .i64 g, .slice A n c] w fun e w' => e = .returned (.agg (rdS g l).vs.toArray) ∧ Below w.heap.size w w' := by
  have hal := alS_run
  have hbd := bdS_gen g
  have Z1 := SB.new w Sp.zero 26
  have b1 : Below w.heap.size w (w.alloc (.cells Sp.zero.vs.toArray 26)) := (Below.refl _ _).alloc (Nat.le_refl _) _
  have z1 : (w.alloc (.cells Sp.zero.vs.toArray 26)).heap.size = w.heap.size + 1 := by simp
  have H2 := SB.new (w.alloc (.cells Sp.zero.vs.toArray 26)) Sp.zero 26
  rw [z1] at H2
  go_enter Tryd.func31, Tryd.ntmps31
  go_wp2_with (first
    | (refine wp_store_sp rfl _ _ rfl (w.heap.size + 1) rfl (sp0 g 0 0) Sp.zero rfl H2 ?_; intro w3 H3 hb3 T3)
    | fail)
  have b2 : Below (w.alloc (.cells Sp.zero.vs.toArray 26)).heap.size (w.alloc (.cells Sp.zero.vs.toArray 26)) ((w.alloc (.cells Sp.zero.vs.toArray 26)).alloc (.cells Sp.zero.vs.toArray 26)) := (Below.refl _ _).alloc (Nat.le_refl _) _
  rw [z1] at b2
  have b3 := b2.trans (hb3 _ (Nat.le_refl _))
  have Z3 := Z1.below b3 (by omega)
  have B3 := b1.trans (b3.mono (by omega))
  obtain ⟨bk, hbk⟩ : ∃ bk, w.heap.size + 1 = bk := ⟨_, rfl⟩
  rw [hbk] at H3 ⊢
  have hwb : w.heap.size < bk := by omega
  have hs3 := hs.below B3
  clear Z1 b1 z1 H2 hb3 T3 b2 b3 hbk hal hbd
  refine (ctake (l0 := l) 0 2 n hs3 2 rfl (by omega) (by omega) (by omega) (by omega)).mono ?_
  rintro e w4 ⟨A4, n4, c4, rfl, own4, hn4, hb4⟩
  have H4 := H3.below hb4 H3.lt
  have Z4 := Z3.below hb4 Z3.lt
  have B4 := B3.trans (hb4.mono B3.size)
  have q4 := H4.c1
  have f4 := H4.fz 1
  obtain ⟨x0, hx0⟩ : ∃ x0 : Int, (gN l 0 2 : Int) = x0 := ⟨_, rfl⟩
  rw [hx0]
  have own5 := own_set own4 (show bk < w3.heap.size from H3.lt) (j := 1) (.int .i64 x0)
  have bs5 := below_set w4 bk 1 (.int .i64 x0)
  have H5 := H4.set1 x0
  have Z5 := Z4.below bs5 (by omega)
  have B5 := B4.trans (bs5.mono (by omega))
  have z5 : (w4.setCell ⟨bk, 1, none⟩ (.int .i64 x0)).heap.size = w4.heap.size := World.size_setCell ..
  go_wp2_with fail
  clear own4 bs5 q4 f4 H4 Z4 B4 H3 Z3 B3 hs3
  have hz4 := hb4.size
  generalize w4.setCell ⟨bk, 1, none⟩ (.int .i64 x0) = w5 at own5 H5 Z5 B5 z5 ⊢
  refine (ctake (l0 := l) 2 2 n4 own5.sl 2 rfl (by omega) (by omega) (by omega) (by omega)).mono ?_
  rintro e w6 ⟨A6, n6, c6, rfl, own6, hn6, hb6⟩
  have H6 := H5.below hb6 H5.lt
  have Z6 := Z5.below hb6 Z5.lt
  have B6 := B5.trans (hb6.mono B5.size)
  have q6 := H6.c2
  have f6 := H6.fz 2
  obtain ⟨y0, hy0⟩ : ∃ y0 : Int, (gN l 2 2 : Int) = y0 := ⟨_, rfl⟩
  rw [hy0]
  have own7 := own_set own6 (show bk < w5.heap.size from H5.lt) (j := 2) (.int .i64 y0)
  have bs7 := below_set w6 bk 2 (.int .i64 y0)
  have H7 := H6.set2 y0
  have Z7 := Z6.below bs7 (by omega)
  have B7 := B6.trans (bs7.mono (by omega))
  have z7 : (w6.setCell ⟨bk, 2, none⟩ (.int .i64 y0)).heap.size = w6.heap.size := World.size_setCell ..
  go_wp2_with fail
  clear own6 bs7 q6 f6 H6 Z6 B6 H5 Z5 B5
  have hn7 : n6 + 4 ≤ n ∧ n ≤ n6 + 4 := by omega
  have e7 : ∀ H : Sp, SB (w6.setCell ⟨bk, 2, none⟩ (.int .i64 y0)) bk H → H = sp0 g x0 y0 → SB (w6.setCell ⟨bk, 2, none⟩ (.int .i64 y0)) bk (rdTo7 g l 0) := fun H h e => by
    rw [rdTo7_zero, hx0, hy0, ← e]
    exact h
  have H7 := e7 _ H7 rfl
  generalize w6.setCell ⟨bk, 2, none⟩ (.int .i64 y0) = w7 at own7 H7 Z7 B7 z7 e7 ⊢
  have sl7 : Sl w7 A6 n6 c6 (l.drop (4 + 18 * 0)) := own7.sl
  clear e7 own7 hb6 hb4 hx0 hy0 z7 z5 hn6 hn4 hz4
  go_loopw [1, 23] (fun b i wr => ∃ (k m : Nat) (A : Option Addr) (c : Nat), k ≤ 8 ∧ n ≤ m + 4 + 18 * k ∧ m ≤ n ∧ b = .slice A m c ∧ i = .int .i64 (k : Int) ∧ Sl wr A m c (l.drop (4 + 18 * k)) ∧ SB wr bk (rdTo7 g l k) ∧ SB wr w.heap.size Sp.zero ∧ Below w.heap.size w wr) (fun _ i _ => 8 - (intOf i).toNat)
  case atStart => exact ⟨0, n6, A6, c6, by omega, by omega, by omega, rfl, rfl, sl7, H7, Z7, B7⟩
  case round =>
    clear sl7 H7 Z7 B7
    obtain ⟨k, m, A, c, hk, hm1, hm2, rfl, rfl, sl, H, Z, hB⟩ := hrel
    by_cases hlt : k < 8
    · have hk0 : (0 : Int) ≤ (k : Int) := by omega
      have hnx := Lib.hid (rdTo7_next g l hlt)
      go_wp2_with fail
      refine (takevol_any A m c _ wr sl (by omega) (by omega)).mono ?_
      rintro e w8 ⟨A8, n8, c8, rfl, own8, hn8, hb8⟩
      have H8 := H.below hb8 H.lt
      have Z8 := Z.below hb8 Z.lt
      have B8 := hB.trans (hb8.mono hB.size)
      rw [List.drop_drop, show 4 + 18 * k + 18 = 4 + 18 * (k + 1) by omega] at own8
      have hlk := H.lt
      have hn9 : n ≤ n8 + 4 + 18 * (k + 1) := by omega
      have hn10 : n8 ≤ n := by omega
      clear H Z hB sl hn8
      obtain ⟨v, hv⟩ : ∃ v, rdV (l.drop (4 + 18 * k)) = v := ⟨_, rfl⟩
      have Hnx := Lib.hid (show (rdTo7 g l k).setV k v = rdTo7 g l (k + 1) by rw [← hv]; exact hnx.out)
      rw [hv]
      clear hv hnx
      go_wp2_with (first
        | (refine wp_store_vj rfl _ _ rfl bk k hlt rfl v (rdTo7 g l k) rfl H8 ?_; intro w9 H9 hb9 T9)
        | fail)
      rw [Hnx.out] at H9
      have own9 := own8.turn (w' := w9) fun q hq hl => T9.block q hl (by show ¬ q = bk; omega)
      have Z9 := Z8.below (hb9 bk (Nat.le_refl _)) hwb
      have B9 := B8.trans (hb9 _ (by omega))
      clear Hnx H8 Z8 B8 own8 T9 hb9
      go_wp2
      exact ⟨⟨k + 1, n8, A8, c8, by omega, hn9, hn10, rfl, by go_num, own9.sl, H9, Z9, B9⟩, by simp [intOf]; omega⟩
    · have hk8 : k = 8 := by omega
      subst hk8
      have H : SB wr bk (rdS g l) := H
      have hld := H.ld
      go_wp2_with (first
        | (refine wp_store_sp rfl _ _ rfl w.heap.size rfl (rdS g l) Sp.zero rfl Z ?_; intro w9 H9 hb9 T9)
        | fail)
      refine bodyPost_ret (results_cell1 Tryd.results31 rfl (load_sp H9)) rfl ?_
      exact ⟨rfl, hB.trans (hb9 _ (Nat.le_refl _))⟩
end Go.Proofs.YtljlliiedbedeaaDoor
