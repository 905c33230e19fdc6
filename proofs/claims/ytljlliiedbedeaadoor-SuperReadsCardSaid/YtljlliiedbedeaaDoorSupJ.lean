/- Superblocks: the code's takeVol. -/
import Derived.Test.YtljlliiedbedeaaDoorSupG
import Derived.Test.YtljlliiedbedeaaDoorSealJ
namespace Go.Proofs.YtljlliiedbedeaaDoor
open Go Go.RowKit Go.Proofs

/-- What eighteen bytes say. -/
def rdN (l : List UInt8) : ByteArray := ⟨((l.drop 1).take (min (gN l 0 1) 10)).toArray⟩
def rdV (l : List UInt8) : Vl := ⟨rdN l, decide (gN l 11 1 ≠ 0), (gN l 12 2 : Int), (gN l 14 4 : Int)⟩
theorem rdN_size (l : List UInt8) : (rdN l).size ≤ 10 := by
  unfold rdN
  show (List.take _ _).toArray.size ≤ 10
  rw [List.size_toArray, List.length_take]
  omega
theorem gN_lt (l : List UInt8) (p m : Nat) : gN l p m < 256 ^ m := by
  unfold gN
  refine Nat.lt_of_lt_of_le (numL_lt _) (Nat.pow_le_pow_right (by omega) ?_)
  rw [List.length_take]
  omega
theorem ctake {l0 : List UInt8} (p m n : Nat) {A : Option Addr} {c : Nat} {w : World} (h : Sl w A n c (l0.drop p)) (wd : Int) (hw : wd = (m : Int)) (h1 : 1 ≤ m) (h7 : m ≤ 7) (hn : m ≤ n) (hn2 : n ≤ 100000) :
    Calls Tryd.prog 43 #[.slice A n c, .int .i64 wd] w fun e w' => ∃ A' n' c', e = .returned (.tuple #[.int .i64 (gN l0 p m), .slice A' n' c', .int .i64 0]) ∧ Own w' w.heap.size 5 A' n' c' (l0.drop (p + m)) ∧ (n' + m ≤ n ∧ n ≤ n' + m) ∧ Below w.heap.size w w' := by
  refine (take_yes A n c _ wd w h (by omega) (by omega) (by omega) (by omega)).mono ?_
  rintro e w' ⟨A', n', c', rfl, own, hb⟩
  subst hw
  rw [Int.toNat_natCast, List.drop_drop] at own
  rw [Int.toNat_natCast]
  have hk := own.len
  have hl := h.len
  rw [List.length_drop] at hk hl
  exact ⟨A', n', c', rfl, own, ⟨by omega, by omega⟩, hb⟩

theorem Own.some_ {w : World} {base n c : Nat} {e : TypeId} {A : Option Addr} {l : List UInt8} (h : Own w base e A n c l) (h0 : 0 < n) : ∃ g, A = some ⟨g, 0, none⟩ := by
  rcases h.2 with ⟨hv, rfl⟩ | ⟨g, cap, cur, hv, _⟩
  · omega
  · injection hv with e1
    exact ⟨g, e1⟩
theorem VB.set0 {w : World} {b : Nat} {v : Vl} (H : VB w b v) (s : ByteArray) : VB (w.setCell ⟨b, 0, none⟩ (.string s)) b ⟨s, v.ro, v.root, v.next⟩ := by
  obtain ⟨t, H⟩ := H
  exact ⟨t, heap_setCell_same w b 0 _ t _ H⟩
theorem VB.set1 {w : World} {b : Nat} {v : Vl} (H : VB w b v) (x : Bool) : VB (w.setCell ⟨b, 1, none⟩ (.bool x)) b ⟨v.name, x, v.root, v.next⟩ := by
  obtain ⟨t, H⟩ := H
  exact ⟨t, heap_setCell_same w b 1 _ t _ H⟩
theorem VB.set2 {w : World} {b : Nat} {v : Vl} (H : VB w b v) (x : Int) : VB (w.setCell ⟨b, 2, none⟩ (.int .i64 x)) b ⟨v.name, v.ro, x, v.next⟩ := by
  obtain ⟨t, H⟩ := H
  exact ⟨t, heap_setCell_same w b 2 _ t _ H⟩
theorem VB.set3 {w : World} {b : Nat} {v : Vl} (H : VB w b v) (x : Int) : VB (w.setCell ⟨b, 3, none⟩ (.int .i64 x)) b ⟨v.name, v.ro, v.root, x⟩ := by
  obtain ⟨t, H⟩ := H
  exact ⟨t, heap_setCell_same w b 3 _ t _ H⟩
theorem own_set {w : World} {b base n c j : Nat} {e : TypeId} {A : Option Addr} {l : List UInt8} (own : Own w base e A n c l) (hb : b < base) (x : Value) : Own (w.setCell ⟨b, j, none⟩ x) base e A n c l :=
  own.turn fun g hg _ => Below.heap_setCell _ _ _ _ (by show g ≠ b; omega)
theorem below_set (w : World) (b j : Nat) (x : Value) : Below b w (w.setCell ⟨b, j, none⟩ x) := (Below.refl _ w).setCell (p := ⟨b, j, none⟩) (Nat.le_refl _) _

theorem results_cell2 {fn : Func} {p a : Tmp} {ty : TypeId} {ad : Addr} {v : Value} {P : Program} {w : World} {tmps : Array Value} (h : fn.results = #[.cell p ty, .tmp a]) (hp : tmps.getD p undef = .pointer (some ad)) (hl : (loadVar ty ad).run P w = .ok v w) :
    (results fn tmps).run P w = .ok (.tuple #[v, tmps.getD a undef]) w := by
  have e : (results fn tmps).run P w = ((asAddr (tmps.getD p undef)).run P w).andThen fun ad w₁ => ((loadVar ty ad).run P w₁).andThen fun v w₂ => .ok (.tuple #[v, tmps.getD a undef]) w₂ := by
    simp only [results, h]
    simp [Sem.run_bind, Result.andThen]
  rw [e, hp]
  simp [asAddr, hl]

set_option maxRecDepth 100000 in
set_option maxHeartbeats 4000000 in
theorem takevol_any (A : Option Addr) (n c : Nat) (l : List UInt8) (w : World) (hs : Sl w A n c l) (hn : 18 ≤ n) (hn2 : n ≤ 1000) :
    Calls Tryd.prog 44 #[.slice A n c] w fun e w' =>
      ∃ A' n' c', e = .returned (.tuple #[(rdV l).v, .slice A' n' c']) ∧ Own w' w.heap.size 5 A' n' c' (l.drop 18) ∧ (n' + 18 ≤ n ∧ n ≤ n' + 18) ∧ Below w.heap.size w w' := by
  have Z1 : VB (w.alloc (.cells #[.string ⟨#[]⟩, .bool false, .int .i64 0, .int .i64 0] 23)) w.heap.size Vl.zero := VB.new w Vl.zero _
  have b1 : Below w.heap.size w (w.alloc (.cells #[.string ⟨#[]⟩, .bool false, .int .i64 0, .int .i64 0] 23)) := (Below.refl _ _).alloc (Nat.le_refl _) _
  have z1 : (w.alloc (.cells #[.string ⟨#[]⟩, .bool false, .int .i64 0, .int .i64 0] 23)).heap.size = w.heap.size + 1 := by simp
  go_enter Tryd.func44, Tryd.ntmps44
  go_wp2_with fail
  generalize w.alloc (.cells #[.string ⟨#[]⟩, .bool false, .int .i64 0, .int .i64 0] 23) = w1 at Z1 b1 z1 ⊢
  rw [← z1]
  have V2 : VB (w1.alloc (.cells #[.string ⟨#[]⟩, .bool false, .int .i64 0, .int .i64 0] 23)) w1.heap.size Vl.zero := VB.new w1 Vl.zero _
  have b2 : Below w1.heap.size w1 (w1.alloc (.cells #[.string ⟨#[]⟩, .bool false, .int .i64 0, .int .i64 0] 23)) := (Below.refl _ _).alloc (Nat.le_refl _) _
  generalize w1.alloc (.cells #[.string ⟨#[]⟩, .bool false, .int .i64 0, .int .i64 0] 23) = w2 at V2 b2 ⊢
  have Z2 := Z1.below b2 (by omega)
  have B2 := b1.trans (b2.mono b1.size)
  obtain ⟨bk, hbk⟩ : ∃ bk, w1.heap.size = bk := ⟨_, rfl⟩
  rw [hbk] at V2 ⊢
  have hwb : w.heap.size < bk := by omega
  clear Z1 b1 b2 z1 hbk
  refine (ctake (l0 := l) 0 1 n (hs.below B2) 1 rfl (by omega) (by omega) (by omega) (by omega)).mono ?_
  rintro e w3 ⟨A3, n3, c3, rfl, own3, hn3, hb3⟩
  have V3 := V2.below hb3 V2.lt
  have Z3 := Z2.below hb3 Z2.lt
  have B3 := B2.trans (hb3.mono B2.size)
  have hlt3 := V2.lt
  obtain ⟨m, hm⟩ : ∃ m, gN l 0 1 = m := ⟨_, rfl⟩
  have hrdn := Lib.hid (show rdN l = ⟨((l.drop 1).take (min m 10)).toArray⟩ by unfold rdN; rw [hm])
  rw [hm]
  clear hm Z2 V2
  have v3 := V3.c0
  have f3 := V3.fz 0
  have own3 : Own w3 w2.heap.size 5 A3 n3 c3 (l.drop 1) := own3
  have c3a := own3.sl.cap
  have c3m := own3.sl.max
  unfold maxLen at c3m
  obtain ⟨g3, hg3⟩ := own3.some_ (by omega)
  subst hg3
  obtain ⟨nm, hnm⟩ : ∃ nm, rdN l = nm := ⟨_, rfl⟩
  have Hnm := Lib.hid hnm
  have hs1 : m ≤ 10 → (convert 28 9 (.slice (some ⟨g3, 0, none⟩) m c3)).run Tryd.prog w3 = .ok (.string nm) w3 := fun h => by
    have := str_bs (own3.sl.take (k := m) (by omega))
    rw [this, ← hnm, hrdn.out, Nat.min_eq_left h]
  have hs2 : 10 < m → (convert 28 9 (.slice (some ⟨g3, 0, none⟩) 10 c3)).run Tryd.prog w3 = .ok (.string nm) w3 := fun h => by
    have := str_bs (own3.sl.take (k := 10) (by omega))
    rw [this, ← hnm, hrdn.out, Nat.min_eq_right (by omega)]
  have d10 := own3.sl.drop (k := 10) (by omega)
  rw [if_neg (by omega), List.drop_drop] at d10
  have d10 : Sl w3 (some ⟨g3, 10, none⟩) (n3 - 10) (c3 - 10) (l.drop 11) := d10
  have i1 : (10 : Nat) ≤ c3 := by omega
  have i2 : ¬ c3 = 10 := by omega
  clear hnm hrdn
  rcases (by omega : m ≤ 10 ∨ 10 < m) with hm | hm
  all_goals
    have i3 : ((m : Int) ≤ 10) = (m ≤ 10) := by rw [eq_iff_iff]; omega
    first | (have hstr := hs1 hm; have i4 : (m : Int) ≤ 10 := by omega) | (have hstr := hs2 hm; have i4 : ¬ (m : Int) ≤ 10 := by omega)
    have i5 : (0 : Int) ≤ (m : Int) := by omega
    have i6 : m ≤ 10 → m ≤ c3 := by omega
    clear hs1 hs2 i3
    have own4 := own_set own3 (show bk < w2.heap.size from hlt3) (j := 0) (.string nm)
    have bs4 := below_set w3 bk 0 (.string nm)
    have d11 : Sl (w3.setCell ⟨bk, 0, none⟩ (.string nm)) (some ⟨g3, 10, none⟩) (n3 - 10) (c3 - 10) (l.drop 11) := by
      have := own4.sl.drop (k := 10) (by omega)
      rw [if_neg (by omega), List.drop_drop] at this
      exact this
    have V4 := V3.set0 nm
    have Z4 := Z3.below bs4 (by omega)
    have B4 := B3.trans (bs4.mono (by omega))
    have z4 : (w3.setCell ⟨bk, 0, none⟩ (.string nm)).heap.size = w3.heap.size := World.size_setCell ..
    go_wp2_with fail
    clear hstr own4 bs4 d10 v3 f3 V3 Z3 B3 own3
    have hz3 := hb3.size
    have hk4 : bk < (w3.setCell ⟨bk, 0, none⟩ (.string nm)).heap.size := by omega
    generalize w3.setCell ⟨bk, 0, none⟩ (.string nm) = w4 at d11 V4 Z4 B4 z4 hk4 ⊢
    refine (ctake (l0 := l) 11 1 (n3 - 10) d11 1 rfl (by omega) (by omega) (by omega) (by omega)).mono ?_
    rintro e w5 ⟨A5, n5, c5, rfl, own5, hn5, hb5⟩
    have V5 := V4.below hb5 V4.lt
    have Z5 := Z4.below hb5 Z4.lt
    have B5 := B4.trans (hb5.mono B4.size)
    obtain ⟨mk, hmk⟩ : ∃ mk, gN l 11 1 = mk := ⟨_, rfl⟩
    rw [hmk]
    have v5 := V5.c1
    have f5 := V5.fz 1
    obtain ⟨ro, hro⟩ : ∃ ro, decide (mk ≠ 0) = ro := ⟨_, rfl⟩
    have hro1 : ((mk : Int) != 0) = ro := by rw [← hro, Bool.eq_iff_iff]; simp
    have Hro := Lib.hid (show decide (gN l 11 1 ≠ 0) = ro by rw [hmk]; exact hro)
    have own6 := own_set own5 (show bk < w4.heap.size from hk4) (j := 1) (.bool ro)
    have bs6 := below_set w5 bk 1 (.bool ro)
    have V6 := V5.set1 ro
    have Z6 := Z5.below bs6 (by omega)
    have B6 := B5.trans (bs6.mono (by omega))
    have z6 : (w5.setCell ⟨bk, 1, none⟩ (.bool ro)).heap.size = w5.heap.size := World.size_setCell ..
    clear hro hmk
    go_wp2_with fail
    clear own5 bs6 v5 f5 V5 Z5 B5 hro1 d11 V4 Z4 B4 z4
    have hz5 := hb5.size
    have hk6 : bk < (w5.setCell ⟨bk, 1, none⟩ (.bool ro)).heap.size := by omega
    have hw6 : w4.heap.size ≤ (w5.setCell ⟨bk, 1, none⟩ (.bool ro)).heap.size := by omega
    generalize w5.setCell ⟨bk, 1, none⟩ (.bool ro) = w6 at own6 V6 Z6 B6 z6 hk6 hw6 ⊢
    refine (ctake (l0 := l) 12 2 n5 own6.sl 2 rfl (by omega) (by omega) (by omega) (by omega)).mono ?_
    rintro e w7 ⟨A7, n7, c7, rfl, own7, hn7, hb7⟩
    have V7 := V6.below hb7 V6.lt
    have Z7 := Z6.below hb7 Z6.lt
    have B7 := B6.trans (hb7.mono B6.size)
    have v7 := V7.c2
    have f7 := V7.fz 2
    have own8 := own_set own7 (show bk < w6.heap.size from hk6) (j := 2) (.int .i64 (gN l 12 2 : Int))
    have bs8 := below_set w7 bk 2 (.int .i64 (gN l 12 2 : Int))
    have V8 := V7.set2 (gN l 12 2 : Int)
    have Z8 := Z7.below bs8 (by omega)
    have B8 := B7.trans (bs8.mono (by omega))
    have z8 : (w7.setCell ⟨bk, 2, none⟩ (.int .i64 (gN l 12 2 : Int))).heap.size = w7.heap.size := World.size_setCell ..
    go_wp2_with fail
    clear own7 bs8 v7 f7 V7 Z7 B7 own6 V6 Z6 B6 z6
    have hz7 := hb7.size
    have hk8 : bk < (w7.setCell ⟨bk, 2, none⟩ (.int .i64 (gN l 12 2 : Int))).heap.size := by omega
    generalize w7.setCell ⟨bk, 2, none⟩ (.int .i64 (gN l 12 2 : Int)) = w8 at own8 V8 Z8 B8 z8 hk8 ⊢
    refine (ctake (l0 := l) 14 4 n7 own8.sl 4 rfl (by omega) (by omega) (by omega) (by omega)).mono ?_
    rintro e w9 ⟨A9, n9, c9, rfl, own9, hn9, hb9⟩
    have V9 := V8.below hb9 V8.lt
    have Z9 := Z8.below hb9 Z8.lt
    have B9 := B8.trans (hb9.mono B8.size)
    have v9 := V9.c3
    have f9 := V9.fz 3
    have own10 := own_set own9 (show bk < w8.heap.size from hk8) (j := 3) (.int .i64 (gN l 14 4 : Int))
    have bs10 := below_set w9 bk 3 (.int .i64 (gN l 14 4 : Int))
    have V10 := V9.set3 (gN l 14 4 : Int)
    have Z10 := Z9.below bs10 (by omega)
    have B10 := B9.trans (bs10.mono (by omega))
    have u0 := V10.c0
    have u1 := V10.c1
    have u2 := V10.c2
    have u3 := V10.c3
    have hz9 := hb9.size
    have hw8 : w.heap.size < w8.heap.size := by omega
    clear own9 bs10 V9 Z9 B9 own8 V8 Z8 B8 z8
    go_wp2_with (first
      | (refine wp_store_vl rfl _ _ rfl w.heap.size rfl ⟨nm, ro, (gN l 12 2 : Int), (gN l 14 4 : Int)⟩ Vl.zero rfl Z10 ?_; intro w11 V11 hb11 T11)
      | fail)
    have own11 := own10.turn (w' := w11) fun g hg hl => T11.block g hl (by show ¬ g = w.heap.size; omega)
    have B11 := B10.trans (hb11 _ (Nat.le_refl _))
    have hrd : rdV l = ⟨nm, ro, (gN l 12 2 : Int), (gN l 14 4 : Int)⟩ := by unfold rdV; rw [Hnm.out, Hro.out]
    refine bodyPost_ret (results_cell2 Tryd.results44 rfl (load_vl V11)) rfl ?_
    rw [hrd]
    exact ⟨A9, n9, c9, rfl, own11.less (by omega), ⟨by omega, by omega⟩, B11⟩
end Go.Proofs.YtljlliiedbedeaaDoor
