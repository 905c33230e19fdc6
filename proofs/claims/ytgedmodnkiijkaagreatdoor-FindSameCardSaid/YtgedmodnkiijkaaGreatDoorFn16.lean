/- Superblocks: the code's body and Write. Superblocks: the code's takeVol. Superblocks: the code's unpacked. Superblocks: the code's Write. -/
import Derived.Test.YtgedmodnkiijkaaGreatDoorFn7
import Derived.Test.YtgedmodnkiijkaaGreatDoorFn13
import Derived.Test.YtgedmodnkiijkaaGreatDoorFn15
namespace Go.Proofs.YtgedmodnkiijkaaGreatDoor
open Go Go.RowKit Go.Proofs

/-- A superblock's load, and that of its subvolumes, kept shut. -/
def ldS (p : Value) : Sem Value := Instr.loadAt 87 p
theorem ldS_shut (p : Value) : Instr.loadAt 87 p = ldS p := rfl
def ldA (p : Value) : Sem Value := Instr.loadAt 85 p
theorem ldA_shut (p : Value) : Instr.loadAt 85 p = ldA p := rfl
theorem SB.ld {w : World} {b : Nat} {S : Sp} (H : SB w b S) : (ldS (.pointer (some ⟨b, 0, none⟩))).run Tryz.prog w = .ok (.agg S.vs.toArray) w := la_sp H
theorem SB.lda {w : World} {b : Nat} {S : Sp} (H : SB w b S) : (ldA (.pointer (some ⟨b, 3, none⟩))).run Tryz.prog w = .ok (.agg (S.vols.flatMap Vl.vs).toArray) w := la_va H
attribute [local go_sem ↓] ldS_shut ldA_shut
def bodyB (S : Sp) : List UInt8 := bodyTo S 8

set_option maxRecDepth 100000 in
set_option maxHeartbeats 4000000 in
theorem sbody_any (S : Sp) (hv : ∀ j, j < 8 → (S.at_ j).name.size ≤ 10) (w : World) :
    Calls Tryz.prog 113 #[.agg S.vs.toArray] w fun e w' => ∃ A' n' c', e = .returned (.slice A' n' c') ∧ Own w' w.heap.size 5 A' n' c' (bodyB S) ∧ Below w.heap.size w w' := by
  have H1 := SB.new w S 87
  have b1 : Below w.heap.size w (w.alloc (.cells S.vs.toArray 87)) := (Below.refl _ _).alloc (Nat.le_refl _) _
  have q1 := H1.c1
  go_enter Tryz.func113, Tryz.ntmps113
  go_wp2_with fail
  generalize w.alloc (.cells S.vs.toArray 87) = w1 at H1 b1 q1 ⊢
  refine (putin_s none 0 0 [] S.sectors 2 _ (sl_nil _) (by omega) (by omega) (by omega)).mono ?_
  rintro e w2 ⟨A2, n2, c2, rfl, own2, hn2, hb2⟩
  have H2 := H1.below hb2 H1.lt
  have B2 := b1.trans (hb2.mono b1.size)
  have q2 := H2.c2
  clear q1
  go_wp2_with fail
  refine (putin_s A2 n2 c2 _ S.log 2 _ own2.sl (by omega) (by omega) (by omega)).mono ?_
  rintro e w3 ⟨A3, n3, c3, rfl, own3, hn3, hb3⟩
  have H3 := H2.below hb3 H2.lt
  have B3 := B2.trans (hb3.mono B2.size)
  have q3 := H3.lda
  have e3 : [] ++ dig S.sectors (2 : Int).toNat ++ dig S.log (2 : Int).toNat = bodyTo S 0 := by rw [bodyTo_zero]; rfl
  rw [e3] at own3
  have own3 := own3.less B2.size
  clear q2 H1 H2 own2
  go_wp2_with fail
  go_loopw [3, 15] (fun b i wr => ∃ (k : Nat) (A : Option Addr) (n c : Nat), k ≤ 8 ∧ n ≤ 4 + 18 * k ∧ b = .slice A n c ∧ i = .int .i64 (k : Int) ∧ Own wr w.heap.size 5 A n c (bodyTo S k) ∧ Below w.heap.size w wr) (fun _ i _ => 8 - (intOf i).toNat)
  case atStart => exact ⟨0, A3, n3, c3, by omega, by omega, rfl, rfl, own3, B3⟩
  case round =>
    obtain ⟨k, A, n, c, hk, hn, rfl, rfl, own, hB⟩ := hrel
    by_cases hlt : k < 8
    · have hix := ix_vl S hlt
      have hk0 : (0 : Int) ≤ (k : Int) := by omega
      have hnx := Lib.hid (bodyTo_next S hlt)
      have hsz := hv k hlt
      obtain ⟨x, hx⟩ : ∃ x, S.at_ k = x := ⟨_, rfl⟩
      rw [hx] at hix hsz hnx
      clear hx
      go_wp2_with fail
      have bx : Below wr.heap.size wr (wr.alloc (.cells #[.string x.name, .bool x.ro, .int .i64 x.root, .int .i64 x.next] 84)) := (Below.refl _ _).alloc (Nat.le_refl _) _
      have owx := own.below bx
      have hBx := hB.trans (bx.mono hB.size)
      generalize wr.alloc (.cells #[.string x.name, .bool x.ro, .int .i64 x.root, .int .i64 x.next] 84) = wx at bx owx hBx ⊢
      refine (putvol_any x hsz A n c _ wx owx.sl (by omega)).mono ?_
      rintro e w5 ⟨A5, n5, c5, rfl, own5, hn5, hb5⟩
      rw [← hnx.out] at own5
      have hn5' : n5 ≤ 4 + 18 * (k + 1) := by omega
      clear hn5
      go_wp2
      exact ⟨⟨k + 1, A5, n5, c5, by omega, hn5', rfl, by go_num, own5.less hBx.size, hBx.trans (hb5.mono hBx.size)⟩, by simp [intOf]; omega⟩
    · have hk8 : k = 8 := by omega
      rw [hk8] at own
      go_wp2
      go_ret
      exact ⟨_, _, _, rfl, own, hB⟩
end Go.Proofs.YtgedmodnkiijkaaGreatDoor

namespace Go.Proofs.YtgedmodnkiijkaaGreatDoor
open Go Go.RowKit Go.Proofs

/-- What eighteen bytes say. -/
def rdN (l : List UInt8) : ByteArray := ⟨((l.drop 1).take (min (gN l 0 1) 10)).toArray⟩
def rdV (l : List UInt8) : Vl := ⟨rdN l, decide (gN l 11 1 ≠ 0), (gN l 12 2 : Int), (gN l 14 4 : Int)⟩
theorem rdN_size (l : List UInt8) : (rdN l).size ≤ 10 := by
  unfold rdN
  show (List.take _ _).toArray.size ≤ 10
  rw [List.size_toArray, List.length_take]
  omega
theorem ctake {l0 : List UInt8} (p m n : Nat) {A : Option Addr} {c : Nat} {w : World} (h : Sl w A n c (l0.drop p)) (wd : Int) (hw : wd = (m : Int)) (h1 : 1 ≤ m) (h7 : m ≤ 7) (hn : m ≤ n) (hn2 : n ≤ 100000) :
    Calls Tryz.prog 119 #[.slice A n c, .int .i64 wd] w fun e w' => ∃ A' n' c', e = .returned (.tuple #[.int .i64 (gN l0 p m), .slice A' n' c', .int .i64 0]) ∧ Own w' w.heap.size 5 A' n' c' (l0.drop (p + m)) ∧ (n' + m ≤ n ∧ n ≤ n' + m) ∧ Below w.heap.size w w' := by
  refine (take_yes A n c _ wd w h (by omega) (by omega) (by omega) (by omega)).mono ?_
  rintro e w' ⟨A', n', c', rfl, own, hb⟩
  subst hw
  rw [Int.toNat_natCast, List.drop_drop] at own
  rw [Int.toNat_natCast]
  have hk := own.len
  have hl := h.len
  rw [List.length_drop] at hk hl
  exact ⟨A', n', c', rfl, own, ⟨by omega, by omega⟩, hb⟩

theorem Own.some_ {w : World} {base n c : Nat} {e : TypeId} {A : Option Addr} {l : List UInt8} (h : Own w base e A n c l) (h0 : 0 < n) : ∃ g, A = some ⟨g, 0, none⟩ := by
  rcases h.2 with ⟨hv, rfl⟩ | ⟨g, cap, cur, hv, _⟩
  · omega
  · injection hv with e1
    exact ⟨g, e1⟩
theorem VB.set0 {w : World} {b : Nat} {v : Vl} (H : VB w b v) (s : ByteArray) : VB (w.setCell ⟨b, 0, none⟩ (.string s)) b ⟨s, v.ro, v.root, v.next⟩ := by
  obtain ⟨t, H⟩ := H
  exact ⟨t, heap_setCell_same w b 0 _ t _ H⟩
theorem VB.set1 {w : World} {b : Nat} {v : Vl} (H : VB w b v) (x : Bool) : VB (w.setCell ⟨b, 1, none⟩ (.bool x)) b ⟨v.name, x, v.root, v.next⟩ := by
  obtain ⟨t, H⟩ := H
  exact ⟨t, heap_setCell_same w b 1 _ t _ H⟩
theorem VB.set2 {w : World} {b : Nat} {v : Vl} (H : VB w b v) (x : Int) : VB (w.setCell ⟨b, 2, none⟩ (.int .i64 x)) b ⟨v.name, v.ro, x, v.next⟩ := by
  obtain ⟨t, H⟩ := H
  exact ⟨t, heap_setCell_same w b 2 _ t _ H⟩
theorem VB.set3 {w : World} {b : Nat} {v : Vl} (H : VB w b v) (x : Int) : VB (w.setCell ⟨b, 3, none⟩ (.int .i64 x)) b ⟨v.name, v.ro, v.root, x⟩ := by
  obtain ⟨t, H⟩ := H
  exact ⟨t, heap_setCell_same w b 3 _ t _ H⟩
theorem own_set {w : World} {b base n c j : Nat} {e : TypeId} {A : Option Addr} {l : List UInt8} (own : Own w base e A n c l) (hb : b < base) (x : Value) : Own (w.setCell ⟨b, j, none⟩ x) base e A n c l :=
  own.turn fun g hg _ => Below.heap_setCell _ _ _ _ (by show g ≠ b; omega)
theorem below_set (w : World) (b j : Nat) (x : Value) : Below b w (w.setCell ⟨b, j, none⟩ x) := (Below.refl _ w).setCell (p := ⟨b, j, none⟩) (Nat.le_refl _) _

theorem results_cell2 {fn : Func} {p a : Tmp} {ty : TypeId} {ad : Addr} {v : Value} {P : Program} {w : World} {tmps : Array Value} (h : fn.results = #[.cell p ty, .tmp a]) (hp : tmps.getD p undef = .pointer (some ad)) (hl : (loadVar ty ad).run P w = .ok v w) :
    (results fn tmps).run P w = .ok (.tuple #[v, tmps.getD a undef]) w := by
  have e : (results fn tmps).run P w = ((asAddr (tmps.getD p undef)).run P w).andThen fun ad w₁ => ((loadVar ty ad).run P w₁).andThen fun v w₂ => .ok (.tuple #[v, tmps.getD a undef]) w₂ := by
    simp only [results, h]
    simp [Sem.run_bind, Result.andThen]
  rw [e, hp]
  simp [asAddr, hl]

set_option maxRecDepth 100000 in
set_option maxHeartbeats 4000000 in
theorem takevol_any (A : Option Addr) (n c : Nat) (l : List UInt8) (w : World) (hs : Sl w A n c l) (hn : 18 ≤ n) (hn2 : n ≤ 1000) :
    Calls Tryz.prog 162 #[.slice A n c] w fun e w' =>
      ∃ A' n' c', e = .returned (.tuple #[(rdV l).v, .slice A' n' c']) ∧ Own w' w.heap.size 5 A' n' c' (l.drop 18) ∧ (n' + 18 ≤ n ∧ n ≤ n' + 18) ∧ Below w.heap.size w w' := by
  have Z1 : VB (w.alloc (.cells #[.string ⟨#[]⟩, .bool false, .int .i64 0, .int .i64 0] 84)) w.heap.size Vl.zero := VB.new w Vl.zero _
  have b1 : Below w.heap.size w (w.alloc (.cells #[.string ⟨#[]⟩, .bool false, .int .i64 0, .int .i64 0] 84)) := (Below.refl _ _).alloc (Nat.le_refl _) _
  have z1 : (w.alloc (.cells #[.string ⟨#[]⟩, .bool false, .int .i64 0, .int .i64 0] 84)).heap.size = w.heap.size + 1 := by simp
  go_enter Tryz.func162, Tryz.ntmps162
  go_wp2_with fail
  generalize w.alloc (.cells #[.string ⟨#[]⟩, .bool false, .int .i64 0, .int .i64 0] 84) = w1 at Z1 b1 z1 ⊢
  rw [← z1]
  have V2 : VB (w1.alloc (.cells #[.string ⟨#[]⟩, .bool false, .int .i64 0, .int .i64 0] 84)) w1.heap.size Vl.zero := VB.new w1 Vl.zero _
  have b2 : Below w1.heap.size w1 (w1.alloc (.cells #[.string ⟨#[]⟩, .bool false, .int .i64 0, .int .i64 0] 84)) := (Below.refl _ _).alloc (Nat.le_refl _) _
  generalize w1.alloc (.cells #[.string ⟨#[]⟩, .bool false, .int .i64 0, .int .i64 0] 84) = w2 at V2 b2 ⊢
  have Z2 := Z1.below b2 (by omega)
  have B2 := b1.trans (b2.mono b1.size)
  obtain ⟨bk, hbk⟩ : ∃ bk, w1.heap.size = bk := ⟨_, rfl⟩
  rw [hbk] at V2 ⊢
  have hwb : w.heap.size < bk := by omega
  clear Z1 b1 b2 z1 hbk
  refine (ctake (l0 := l) 0 1 n (hs.below B2) 1 rfl (by omega) (by omega) (by omega) (by omega)).mono ?_
  rintro e w3 ⟨A3, n3, c3, rfl, own3, hn3, hb3⟩
  have V3 := V2.below hb3 V2.lt
  have Z3 := Z2.below hb3 Z2.lt
  have B3 := B2.trans (hb3.mono B2.size)
  have hlt3 := V2.lt
  obtain ⟨m, hm⟩ : ∃ m, gN l 0 1 = m := ⟨_, rfl⟩
  have hrdn := Lib.hid (show rdN l = ⟨((l.drop 1).take (min m 10)).toArray⟩ by unfold rdN; rw [hm])
  rw [hm]
  clear hm Z2 V2
  have v3 := V3.c0
  have f3 := V3.fz 0
  have own3 : Own w3 w2.heap.size 5 A3 n3 c3 (l.drop 1) := own3
  have c3a := own3.sl.cap
  have c3m := own3.sl.max
  unfold maxLen at c3m
  obtain ⟨g3, hg3⟩ := own3.some_ (by omega)
  subst hg3
  obtain ⟨nm, hnm⟩ : ∃ nm, rdN l = nm := ⟨_, rfl⟩
  have Hnm := Lib.hid hnm
  have hs1 : m ≤ 10 → (convert 35 9 (.slice (some ⟨g3, 0, none⟩) m c3)).run Tryz.prog w3 = .ok (.string nm) w3 := fun h => by
    have := str_bs (own3.sl.take (k := m) (by omega))
    rw [this, ← hnm, hrdn.out, Nat.min_eq_left h]
  have hs2 : 10 < m → (convert 35 9 (.slice (some ⟨g3, 0, none⟩) 10 c3)).run Tryz.prog w3 = .ok (.string nm) w3 := fun h => by
    have := str_bs (own3.sl.take (k := 10) (by omega))
    rw [this, ← hnm, hrdn.out, Nat.min_eq_right (by omega)]
  have d10 := own3.sl.drop (k := 10) (by omega)
  rw [if_neg (by omega), List.drop_drop] at d10
  have d10 : Sl w3 (some ⟨g3, 10, none⟩) (n3 - 10) (c3 - 10) (l.drop 11) := d10
  have i1 : (10 : Nat) ≤ c3 := by omega
  have i2 : ¬ c3 = 10 := by omega
  clear hnm hrdn
  rcases (by omega : m ≤ 10 ∨ 10 < m) with hm | hm
  all_goals
    have i3 : ((m : Int) ≤ 10) = (m ≤ 10) := by rw [eq_iff_iff]; omega
    first | (have hstr := hs1 hm; have i4 : (m : Int) ≤ 10 := by omega) | (have hstr := hs2 hm; have i4 : ¬ (m : Int) ≤ 10 := by omega)
    have i5 : (0 : Int) ≤ (m : Int) := by omega
    have i6 : m ≤ 10 → m ≤ c3 := by omega
    clear hs1 hs2 i3
    have own4 := own_set own3 (show bk < w2.heap.size from hlt3) (j := 0) (.string nm)
    have bs4 := below_set w3 bk 0 (.string nm)
    have d11 : Sl (w3.setCell ⟨bk, 0, none⟩ (.string nm)) (some ⟨g3, 10, none⟩) (n3 - 10) (c3 - 10) (l.drop 11) := by
      have := own4.sl.drop (k := 10) (by omega)
      rw [if_neg (by omega), List.drop_drop] at this
      exact this
    have V4 := V3.set0 nm
    have Z4 := Z3.below bs4 (by omega)
    have B4 := B3.trans (bs4.mono (by omega))
    have z4 : (w3.setCell ⟨bk, 0, none⟩ (.string nm)).heap.size = w3.heap.size := World.size_setCell ..
    go_wp2_with fail
    clear hstr own4 bs4 d10 v3 f3 V3 Z3 B3 own3
    have hz3 := hb3.size
    have hk4 : bk < (w3.setCell ⟨bk, 0, none⟩ (.string nm)).heap.size := by omega
    generalize w3.setCell ⟨bk, 0, none⟩ (.string nm) = w4 at d11 V4 Z4 B4 z4 hk4 ⊢
    refine (ctake (l0 := l) 11 1 (n3 - 10) d11 1 rfl (by omega) (by omega) (by omega) (by omega)).mono ?_
    rintro e w5 ⟨A5, n5, c5, rfl, own5, hn5, hb5⟩
    have V5 := V4.below hb5 V4.lt
    have Z5 := Z4.below hb5 Z4.lt
    have B5 := B4.trans (hb5.mono B4.size)
    obtain ⟨mk, hmk⟩ : ∃ mk, gN l 11 1 = mk := ⟨_, rfl⟩
    rw [hmk]
    have v5 := V5.c1
    have f5 := V5.fz 1
    obtain ⟨ro, hro⟩ : ∃ ro, decide (mk ≠ 0) = ro := ⟨_, rfl⟩
    have hro1 : ((mk : Int) != 0) = ro := by rw [← hro, Bool.eq_iff_iff]; simp
    have Hro := Lib.hid (show decide (gN l 11 1 ≠ 0) = ro by rw [hmk]; exact hro)
    have own6 := own_set own5 (show bk < w4.heap.size from hk4) (j := 1) (.bool ro)
    have bs6 := below_set w5 bk 1 (.bool ro)
    have V6 := V5.set1 ro
    have Z6 := Z5.below bs6 (by omega)
    have B6 := B5.trans (bs6.mono (by omega))
    have z6 : (w5.setCell ⟨bk, 1, none⟩ (.bool ro)).heap.size = w5.heap.size := World.size_setCell ..
    clear hro hmk
    go_wp2_with fail
    clear own5 bs6 v5 f5 V5 Z5 B5 hro1 d11 V4 Z4 B4 z4
    have hz5 := hb5.size
    have hk6 : bk < (w5.setCell ⟨bk, 1, none⟩ (.bool ro)).heap.size := by omega
    have hw6 : w4.heap.size ≤ (w5.setCell ⟨bk, 1, none⟩ (.bool ro)).heap.size := by omega
    generalize w5.setCell ⟨bk, 1, none⟩ (.bool ro) = w6 at own6 V6 Z6 B6 z6 hk6 hw6 ⊢
    refine (ctake (l0 := l) 12 2 n5 own6.sl 2 rfl (by omega) (by omega) (by omega) (by omega)).mono ?_
    rintro e w7 ⟨A7, n7, c7, rfl, own7, hn7, hb7⟩
    have V7 := V6.below hb7 V6.lt
    have Z7 := Z6.below hb7 Z6.lt
    have B7 := B6.trans (hb7.mono B6.size)
    have v7 := V7.c2
    have f7 := V7.fz 2
    have own8 := own_set own7 (show bk < w6.heap.size from hk6) (j := 2) (.int .i64 (gN l 12 2 : Int))
    have bs8 := below_set w7 bk 2 (.int .i64 (gN l 12 2 : Int))
    have V8 := V7.set2 (gN l 12 2 : Int)
    have Z8 := Z7.below bs8 (by omega)
    have B8 := B7.trans (bs8.mono (by omega))
    have z8 : (w7.setCell ⟨bk, 2, none⟩ (.int .i64 (gN l 12 2 : Int))).heap.size = w7.heap.size := World.size_setCell ..
    go_wp2_with fail
    clear own7 bs8 v7 f7 V7 Z7 B7 own6 V6 Z6 B6 z6
    have hz7 := hb7.size
    have hk8 : bk < (w7.setCell ⟨bk, 2, none⟩ (.int .i64 (gN l 12 2 : Int))).heap.size := by omega
    generalize w7.setCell ⟨bk, 2, none⟩ (.int .i64 (gN l 12 2 : Int)) = w8 at own8 V8 Z8 B8 z8 hk8 ⊢
    refine (ctake (l0 := l) 14 4 n7 own8.sl 4 rfl (by omega) (by omega) (by omega) (by omega)).mono ?_
    rintro e w9 ⟨A9, n9, c9, rfl, own9, hn9, hb9⟩
    have V9 := V8.below hb9 V8.lt
    have Z9 := Z8.below hb9 Z8.lt
    have B9 := B8.trans (hb9.mono B8.size)
    have v9 := V9.c3
    have f9 := V9.fz 3
    have own10 := own_set own9 (show bk < w8.heap.size from hk8) (j := 3) (.int .i64 (gN l 14 4 : Int))
    have bs10 := below_set w9 bk 3 (.int .i64 (gN l 14 4 : Int))
    have V10 := V9.set3 (gN l 14 4 : Int)
    have Z10 := Z9.below bs10 (by omega)
    have B10 := B9.trans (bs10.mono (by omega))
    have u0 := V10.c0
    have u1 := V10.c1
    have u2 := V10.c2
    have u3 := V10.c3
    have hz9 := hb9.size
    have hw8 : w.heap.size < w8.heap.size := by omega
    clear own9 bs10 V9 Z9 B9 own8 V8 Z8 B8 z8
    go_wp2_with (first
      | (refine wp_store_vl rfl _ _ rfl w.heap.size rfl ⟨nm, ro, (gN l 12 2 : Int), (gN l 14 4 : Int)⟩ Vl.zero rfl Z10 ?_; intro w11 V11 hb11 T11)
      | fail)
    have own11 := own10.turn (w' := w11) fun g hg hl => T11.block g hl (by show ¬ g = w.heap.size; omega)
    have B11 := B10.trans (hb11 _ (Nat.le_refl _))
    have hrd : rdV l = ⟨nm, ro, (gN l 12 2 : Int), (gN l 14 4 : Int)⟩ := by unfold rdV; rw [Hnm.out, Hro.out]
    refine bodyPost_ret (results_cell2 Tryz.results162 rfl (load_vl V11)) rfl ?_
    rw [hrd]
    exact ⟨A9, n9, c9, rfl, own11.less (by omega), ⟨by omega, by omega⟩, B11⟩
end Go.Proofs.YtgedmodnkiijkaaGreatDoor

namespace Go.Proofs.YtgedmodnkiijkaaGreatDoor
open Go Go.RowKit Go.Proofs

/-- The superblock that a body's bytes say, its first k subvolumes; kept shut. -/
def rdTo7 (g : Int) (l : List UInt8) (k : Nat) : Sp := ⟨g, (gN l 0 2 : Int), (gN l 2 2 : Int), (List.range 8).map (fun i => if i < k then rdV (l.drop (4 + 18 * i)) else Vl.zero), by simp⟩
def rdS (g : Int) (l : List UInt8) : Sp := rdTo7 g l 8
def sp0 (g a b : Int) : Sp := ⟨g, a, b, List.replicate 8 Vl.zero, rfl⟩
theorem rdTo7_zero (g : Int) (l : List UInt8) : rdTo7 g l 0 = sp0 g (gN l 0 2 : Int) (gN l 2 2 : Int) := rfl
theorem rdTo7_next (g : Int) (l : List UInt8) {k : Nat} (_hk : k < 8) : (rdTo7 g l k).setV k (rdV (l.drop (4 + 18 * k))) = rdTo7 g l (k + 1) := by
  refine Sp.ext' rfl rfl rfl ?_
  show (((List.range 8).map (fun i => if i < k then rdV (l.drop (4 + 18 * i)) else Vl.zero)).set k (rdV (l.drop (4 + 18 * k)))) = (List.range 8).map (fun i => if i < k + 1 then rdV (l.drop (4 + 18 * i)) else Vl.zero)
  refine List.ext_getElem (by simp) fun i h1 h2 => ?_
  have hi : i < 8 := by simpa using h2
  rw [List.getElem_set]
  by_cases h : k = i
  · subst h
    simp
  · rw [if_neg h]
    simp only [List.getElem_map, List.getElem_range]
    by_cases h3 : i < k
    · rw [if_pos h3, if_pos (by omega)]
    · rw [if_neg h3, if_neg (by omega)]
theorem rdTo7_at (g : Int) (l : List UInt8) (k : Nat) {i : Nat} (hi : i < 8) : (rdTo7 g l k).at_ i = if i < k then rdV (l.drop (4 + 18 * i)) else Vl.zero := by
  have h := (rdTo7 g l k).get hi
  have h2 : (rdTo7 g l k).vols[i]? = some (if i < k then rdV (l.drop (4 + 18 * i)) else Vl.zero) := by
    show ((List.range 8).map (fun i => if i < k then rdV (l.drop (4 + 18 * i)) else Vl.zero))[i]? = _
    rw [List.getElem?_map, List.getElem?_range hi]
    rfl
  rw [h] at h2
  exact Option.some.inj h2
theorem rdS_fine (g : Int) (l : List UInt8) : (rdS g l).fine := fun k hk => by
  unfold rdS
  rw [rdTo7_at g l 8 hk, if_pos hk]
  have := rdN_size (l.drop (4 + 18 * k))
  unfold maxLen
  show (rdN _).size ≤ _
  omega
theorem SB.set1 {w : World} {b : Nat} {S : Sp} (H : SB w b S) (x : Int) : SB (w.setCell ⟨b, 1, none⟩ (.int .i64 x)) b ⟨S.gen, x, S.log, S.vols, S.len⟩ := by
  obtain ⟨t, H⟩ := H
  exact ⟨t, heap_setCell_same w b 1 _ t _ H⟩
theorem SB.set2 {w : World} {b : Nat} {S : Sp} (H : SB w b S) (x : Int) : SB (w.setCell ⟨b, 2, none⟩ (.int .i64 x)) b ⟨S.gen, S.sectors, x, S.vols, S.len⟩ := by
  obtain ⟨t, H⟩ := H
  exact ⟨t, heap_setCell_same w b 2 _ t _ H⟩
/-- The k-th subvolume is stored, its place as the walk reckons it. -/
theorem wp_store_vj {ops : Array Oper} {rest : List Oper} {o : Oper} {a : Act} {w : World} {Q : Exit → Act → World → Prop} (hg : o.guard = none) (x y : Operand) (hop : o.op = Op.store 84 x y)
    (b k : Nat) (hk : k < 8) (hx : a.eval x = .pointer (some ⟨b, 3 + k * 4, none⟩)) (v : Vl) (S : Sp) (hy : a.eval y = v.v) (H : SB w b S)
    (hK : ∀ w', SB w' b (S.setV k v) → (∀ B, B ≤ b → Below B w w') → Turn (fun k => k = b) w w' → wpList Tryz.prog ops Q rest (a.put o.dst undef) w') : wpList Tryz.prog ops Q (o :: rest) a w :=
  wp_store_vk hg x y hop b k hk (by rw [hx, Nat.mul_comm]) v S hy H hK

/-- A superblock's making, as a variable and as a value, kept shut. -/
def alS (h : Bool) (old : Value) : Sem Value := Instr.alloc 87 h old
theorem alS_shut (h : Bool) (old : Value) : Instr.alloc 87 h old = alS h old := rfl
def bdS (parts : Array (Nat × Value)) : Sem Value := Instr.build 87 parts
theorem bdS_shut (parts : Array (Nat × Value)) : Instr.build 87 parts = bdS parts := rfl
set_option maxRecDepth 10000 in
theorem alS_run (h : Bool) (w : World) : (alS h (.tuple #[])).run Tryz.prog w = .ok (.pointer (some ⟨w.heap.size, 0, none⟩)) (w.alloc (.cells Sp.zero.vs.toArray 87)) := by
  cases h
  · show (Instr.alloc 87 false (.tuple #[])).run Tryz.prog w = _; kernel_rfl
  · show (Instr.alloc 87 true (.tuple #[])).run Tryz.prog w = _; kernel_rfl
theorem bdS_zero (w : World) : (bdS #[]).run Tryz.prog w = .ok (.agg Sp.zero.vs.toArray) w := by
  show (Instr.build 87 #[]).run Tryz.prog w = _; kernel_rfl
theorem bdS_gen (g : Int) (w : World) : (bdS #[(0, .int .i64 g)]).run Tryz.prog w = .ok (.agg (sp0 g 0 0).vs.toArray) w := by
  show (Instr.build 87 #[(0, .int .i64 g)]).run Tryz.prog w = _; kernel_rfl

attribute [local go_sem ↓] ldS_shut ldA_shut alS_shut bdS_shut
set_option maxRecDepth 100000 in
set_option maxHeartbeats 4000000 in
theorem sunpacked_any (g : Int) (A : Option Addr) (n c : Nat) (l : List UInt8) (w : World) (hs : Sl w A n c l) (hn : 148 ≤ n) (hn2 : n ≤ 1000) :
    Calls Tryz.prog 140 #[.int .i64 g, .slice A n c] w fun e w' => e = .returned (.agg (rdS g l).vs.toArray) ∧ Below w.heap.size w w' := by
  have hal := alS_run
  have hbd := bdS_gen g
  have Z1 := SB.new w Sp.zero 87
  have b1 : Below w.heap.size w (w.alloc (.cells Sp.zero.vs.toArray 87)) := (Below.refl _ _).alloc (Nat.le_refl _) _
  have z1 : (w.alloc (.cells Sp.zero.vs.toArray 87)).heap.size = w.heap.size + 1 := by simp
  have H2 := SB.new (w.alloc (.cells Sp.zero.vs.toArray 87)) Sp.zero 87
  rw [z1] at H2
  go_enter Tryz.func140, Tryz.ntmps140
  go_wp2_with (first
    | (refine wp_store_sp rfl _ _ rfl (w.heap.size + 1) rfl (sp0 g 0 0) Sp.zero rfl H2 ?_; intro w3 H3 hb3 T3)
    | fail)
  have b2 : Below (w.alloc (.cells Sp.zero.vs.toArray 87)).heap.size (w.alloc (.cells Sp.zero.vs.toArray 87)) ((w.alloc (.cells Sp.zero.vs.toArray 87)).alloc (.cells Sp.zero.vs.toArray 87)) := (Below.refl _ _).alloc (Nat.le_refl _) _
  rw [z1] at b2
  have b3 := b2.trans (hb3 _ (Nat.le_refl _))
  have Z3 := Z1.below b3 (by omega)
  have B3 := b1.trans (b3.mono (by omega))
  obtain ⟨bk, hbk⟩ : ∃ bk, w.heap.size + 1 = bk := ⟨_, rfl⟩
  rw [hbk] at H3 ⊢
  have hwb : w.heap.size < bk := by omega
  have hs3 := hs.below B3
  clear Z1 b1 z1 H2 hb3 T3 b2 b3 hbk hal hbd
  refine (ctake (l0 := l) 0 2 n hs3 2 rfl (by omega) (by omega) (by omega) (by omega)).mono ?_
  rintro e w4 ⟨A4, n4, c4, rfl, own4, hn4, hb4⟩
  have H4 := H3.below hb4 H3.lt
  have Z4 := Z3.below hb4 Z3.lt
  have B4 := B3.trans (hb4.mono B3.size)
  have q4 := H4.c1
  have f4 := H4.fz 1
  obtain ⟨x0, hx0⟩ : ∃ x0 : Int, (gN l 0 2 : Int) = x0 := ⟨_, rfl⟩
  rw [hx0]
  have own5 := own_set own4 (show bk < w3.heap.size from H3.lt) (j := 1) (.int .i64 x0)
  have bs5 := below_set w4 bk 1 (.int .i64 x0)
  have H5 := H4.set1 x0
  have Z5 := Z4.below bs5 (by omega)
  have B5 := B4.trans (bs5.mono (by omega))
  have z5 : (w4.setCell ⟨bk, 1, none⟩ (.int .i64 x0)).heap.size = w4.heap.size := World.size_setCell ..
  go_wp2_with fail
  clear own4 bs5 q4 f4 H4 Z4 B4 H3 Z3 B3 hs3
  have hz4 := hb4.size
  generalize w4.setCell ⟨bk, 1, none⟩ (.int .i64 x0) = w5 at own5 H5 Z5 B5 z5 ⊢
  refine (ctake (l0 := l) 2 2 n4 own5.sl 2 rfl (by omega) (by omega) (by omega) (by omega)).mono ?_
  rintro e w6 ⟨A6, n6, c6, rfl, own6, hn6, hb6⟩
  have H6 := H5.below hb6 H5.lt
  have Z6 := Z5.below hb6 Z5.lt
  have B6 := B5.trans (hb6.mono B5.size)
  have q6 := H6.c2
  have f6 := H6.fz 2
  obtain ⟨y0, hy0⟩ : ∃ y0 : Int, (gN l 2 2 : Int) = y0 := ⟨_, rfl⟩
  rw [hy0]
  have own7 := own_set own6 (show bk < w5.heap.size from H5.lt) (j := 2) (.int .i64 y0)
  have bs7 := below_set w6 bk 2 (.int .i64 y0)
  have H7 := H6.set2 y0
  have Z7 := Z6.below bs7 (by omega)
  have B7 := B6.trans (bs7.mono (by omega))
  have z7 : (w6.setCell ⟨bk, 2, none⟩ (.int .i64 y0)).heap.size = w6.heap.size := World.size_setCell ..
  go_wp2_with fail
  clear own6 bs7 q6 f6 H6 Z6 B6 H5 Z5 B5
  have hn7 : n6 + 4 ≤ n ∧ n ≤ n6 + 4 := by omega
  have e7 : ∀ H : Sp, SB (w6.setCell ⟨bk, 2, none⟩ (.int .i64 y0)) bk H → H = sp0 g x0 y0 → SB (w6.setCell ⟨bk, 2, none⟩ (.int .i64 y0)) bk (rdTo7 g l 0) := fun H h e => by
    rw [rdTo7_zero, hx0, hy0, ← e]
    exact h
  have H7 := e7 _ H7 rfl
  generalize w6.setCell ⟨bk, 2, none⟩ (.int .i64 y0) = w7 at own7 H7 Z7 B7 z7 e7 ⊢
  have sl7 : Sl w7 A6 n6 c6 (l.drop (4 + 18 * 0)) := own7.sl
  clear e7 own7 hb6 hb4 hx0 hy0 z7 z5 hn6 hn4 hz4
  go_loopw [1, 23] (fun b i wr => ∃ (k m : Nat) (A : Option Addr) (c : Nat), k ≤ 8 ∧ n ≤ m + 4 + 18 * k ∧ m ≤ n ∧ b = .slice A m c ∧ i = .int .i64 (k : Int) ∧ Sl wr A m c (l.drop (4 + 18 * k)) ∧ SB wr bk (rdTo7 g l k) ∧ SB wr w.heap.size Sp.zero ∧ Below w.heap.size w wr) (fun _ i _ => 8 - (intOf i).toNat)
  case atStart => exact ⟨0, n6, A6, c6, by omega, by omega, by omega, rfl, rfl, sl7, H7, Z7, B7⟩
  case round =>
    clear sl7 H7 Z7 B7
    obtain ⟨k, m, A, c, hk, hm1, hm2, rfl, rfl, sl, H, Z, hB⟩ := hrel
    by_cases hlt : k < 8
    · have hk0 : (0 : Int) ≤ (k : Int) := by omega
      have hnx := Lib.hid (rdTo7_next g l hlt)
      go_wp2_with fail
      refine (takevol_any A m c _ wr sl (by omega) (by omega)).mono ?_
      rintro e w8 ⟨A8, n8, c8, rfl, own8, hn8, hb8⟩
      have H8 := H.below hb8 H.lt
      have Z8 := Z.below hb8 Z.lt
      have B8 := hB.trans (hb8.mono hB.size)
      rw [List.drop_drop, show 4 + 18 * k + 18 = 4 + 18 * (k + 1) by omega] at own8
      have hlk := H.lt
      have hn9 : n ≤ n8 + 4 + 18 * (k + 1) := by omega
      have hn10 : n8 ≤ n := by omega
      clear H Z hB sl hn8
      obtain ⟨v, hv⟩ : ∃ v, rdV (l.drop (4 + 18 * k)) = v := ⟨_, rfl⟩
      have Hnx := Lib.hid (show (rdTo7 g l k).setV k v = rdTo7 g l (k + 1) by rw [← hv]; exact hnx.out)
      rw [hv]
      clear hv hnx
      go_wp2_with (first
        | (refine wp_store_vj rfl _ _ rfl bk k hlt rfl v (rdTo7 g l k) rfl H8 ?_; intro w9 H9 hb9 T9)
        | fail)
      rw [Hnx.out] at H9
      have own9 := own8.turn (w' := w9) fun q hq hl => T9.block q hl (by show ¬ q = bk; omega)
      have Z9 := Z8.below (hb9 bk (Nat.le_refl _)) hwb
      have B9 := B8.trans (hb9 _ (by omega))
      clear Hnx H8 Z8 B8 own8 T9 hb9
      go_wp2
      exact ⟨⟨k + 1, n8, A8, c8, by omega, hn9, hn10, rfl, by go_num, own9.sl, H9, Z9, B9⟩, by simp [intOf]; omega⟩
    · have hk8 : k = 8 := by omega
      subst hk8
      have H : SB wr bk (rdS g l) := H
      have hld := H.ld
      go_wp2_with (first
        | (refine wp_store_sp rfl _ _ rfl w.heap.size rfl (rdS g l) Sp.zero rfl Z ?_; intro w9 H9 hb9 T9)
        | fail)
      refine bodyPost_ret (results_cell1 Tryz.results140 rfl (load_sp H9)) rfl ?_
      exact ⟨rfl, hB.trans (hb9 _ (Nat.le_refl _))⟩
end Go.Proofs.YtgedmodnkiijkaaGreatDoor

namespace Go.Proofs.YtgedmodnkiijkaaGreatDoor
open Go Go.RowKit Go.Proofs

/-- The header of a superblock's block; P7.1's Write. -/
def hdS (S : Sp) (slot : Int) : Hd := ⟨1, slot, 0, 0, S.gen⟩
def swOk (S : Sp) (slot : Int) : Bool := S.may && decide (0 ≤ slot ∧ slot ≤ 1)
def swE (S : Sp) (slot : Int) : Int := if swOk S slot = true then 0 else 1
def swB (S : Sp) (slot : Int) : List UInt8 := if swOk S slot = true then blkL (hdS S slot) (bodyB S) else []
theorem may_parts {S : Sp} (h : S.may = true) : (1 ≤ S.gen ∧ S.gen ≤ 1099511627775 ∧ 32 ≤ S.sectors ∧ S.sectors ≤ 2048 ∧ 0 ≤ S.log ∧ S.log ≤ S.sectors - 1) ∧ ∀ j, j < 8 → S.ok1 j = true := by
  unfold Sp.may at h
  rw [Bool.and_eq_true] at h
  exact ⟨of_decide_eq_true h.1, fun j hj => List.all_eq_true.1 h.2 j (List.mem_range.2 hj)⟩
theorem lab_size {s : ByteArray} (h : labL s = true) : 1 ≤ s.size ∧ s.size ≤ 10 := by
  unfold labL at h
  rw [Bool.and_eq_true] at h
  exact of_decide_eq_true h.2
theorem ok1_parts {S : Sp} {j : Nat} (h : S.ok1 j = true) : S.at_ j = Vl.zero ∨ (labL (S.at_ j).name = true ∧ (0 ≤ (S.at_ j).root ∧ (S.at_ j).root ≤ S.sectors - 1) ∧ (2 ≤ (S.at_ j).next ∧ (S.at_ j).next ≤ 2147483647)) := by
  unfold Sp.ok1 at h
  rw [Bool.or_eq_true] at h
  rcases h with h | h
  · exact .inl ((Vl.same_iff _ _).1 h)
  · rw [Bool.and_eq_true] at h
    have h := h.1
    unfold Vl.ok at h
    rw [Bool.and_eq_true, Bool.and_eq_true] at h
    exact .inr ⟨h.1, of_decide_eq_true h.2.1, of_decide_eq_true h.2.2⟩
theorem may_names {S : Sp} (h : S.may = true) : ∀ j, j < 8 → (S.at_ j).name.size ≤ 10 := fun j hj => by
  rcases ok1_parts ((may_parts h).2 j hj) with e | ⟨h, _⟩
  · rw [e]; show 0 ≤ 10; omega
  · exact (lab_size h).2
theorem hdS_ok {S : Sp} {slot : Int} (h : swOk S slot = true) : (hdS S slot).ok = true := by
  unfold swOk at h
  rw [Bool.and_eq_true] at h
  have h1 := (may_parts h.1).1
  have h2 := of_decide_eq_true h.2
  refine decide_eq_true ⟨⟨?_, ?_⟩, ⟨?_, ?_⟩, ⟨?_, ?_⟩, ⟨?_, ?_⟩, ?_, ?_⟩ <;> (dsimp only [hdS]; omega)
theorem bodyB_len {S : Sp} (h : S.may = true) : (bodyB S).length = 148 := bodyTo_len S 8 (by omega) (may_names h)
theorem sw_yes {S : Sp} {slot : Int} (h : swOk S slot = true) : swE S slot = 0 ∧ swB S slot = blkL (hdS S slot) (bodyB S) ∧ sealE (hdS S slot) (bodyB S) = 0 ∧ sealB (hdS S slot) (bodyB S) = blkL (hdS S slot) (bodyB S) := by
  have hm : S.may = true := by unfold swOk at h; rw [Bool.and_eq_true] at h; exact h.1
  have hl := bodyB_len hm
  unfold swE swB sealE sealB
  rw [if_pos h, if_pos h, if_pos (hdS_ok h), if_pos (by omega), if_pos (hdS_ok h), if_pos (by omega)]
  exact ⟨rfl, rfl, rfl, rfl⟩
theorem sw_no {S : Sp} {slot : Int} (h : swOk S slot = false) : swE S slot = 1 ∧ swB S slot = [] := by
  unfold swE swB
  rw [h]
  exact ⟨rfl, rfl⟩
attribute [local go_sem ↓] ldS_shut ldA_shut
set_option maxRecDepth 100000 in
set_option maxHeartbeats 4000000 in
theorem swrite_any (S : Sp) (slot : Int) (hf : S.fine) (w : World) (ht : Tab w) :
    Calls Tryz.prog 70 #[.agg S.vs.toArray, .int .i64 slot] w fun e w' =>
      ∃ A' n' c', e = .returned (.tuple #[.slice A' n' c', .int .i64 (swE S slot)]) ∧ Own w' w.heap.size 5 A' n' c' (swB S slot) ∧ (swOk S slot = true → ∃ g, A' = some ⟨g, 0, none⟩ ∧ n' = 256 ∧ c' = 256) ∧ Below w.heap.size w w' := by
  have H1 := SB.new w S 87
  have b1 : Below w.heap.size w (w.alloc (.cells S.vs.toArray 87)) := (Below.refl _ _).alloc (Nat.le_refl _) _
  have t1 := ht.below b1 ht.1
  have hl1 := H1.ld
  obtain ⟨m, hm⟩ : ∃ m, S.may = m := ⟨_, rfl⟩
  go_enter Tryz.func70, Tryz.ntmps70
  go_wp2_with fail
  generalize w.alloc (.cells S.vs.toArray 87) = w1 at H1 b1 hl1 t1 ⊢
  refine (smay_any S m hm hf w1).mono ?_
  rintro e w2 ⟨rfl, hb2⟩
  have H2 := H1.below hb2 H1.lt
  have B2 := b1.trans (hb2.mono b1.size)
  have t2 := t1.below hb2 t1.1
  have hl2 := H2.ld
  have q2 := H2.c0
  clear H1 hl1 hb2 t1
  cases m
  · obtain ⟨h1, h2⟩ := sw_no (S := S) (slot := slot) (by unfold swOk; rw [hm]; rfl)
    have hno : swOk S slot = false := by unfold swOk; rw [hm]; rfl
    go_wp2
    go_ret2
    rw [h1, h2, hno]
    exact ⟨_, _, _, rfl, own_nil _ _ _, fun h => (by cases h), B2⟩
  · go_wp2_with fail
    by_cases hsl : 0 ≤ slot ∧ slot ≤ 1
    · have hok : swOk S slot = true := by unfold swOk; rw [hm, decide_eq_true hsl]; rfl
      obtain ⟨h1, h2, h3, h4⟩ := sw_yes hok
      have h1h := Lib.hid h1
      have h2h := Lib.hid h2
      have hokh := Lib.hid hok
      refine (swithin_any slot 0 1 true (decide_eq_true hsl) _).mono ?_
      rintro e w3 ⟨rfl, rfl⟩
      go_wp2_with fail
      have hS : ∀ w' : World, Below w2.heap.size w2 w' → w'.cell? ⟨w.heap.size, 0, none⟩ = some (.int .i64 S.gen) ∧ (ldS (.pointer (some ⟨w.heap.size, 0, none⟩))).run Tryz.prog w' = .ok (.agg S.vs.toArray) w' ∧ Below w2.heap.size w2 w' :=
        fun w' hb => ⟨(hb.cell (p := ⟨w.heap.size, 0, none⟩) H2.lt).trans q2, (H2.below hb H2.lt).ld, hb⟩
      have BD : Below w2.heap.size w2 w2.drew := (Below.refl _ _).drew
      have zd : w2.heap.size ≤ w2.drew.heap.size := Nat.le_refl _
      have hvn := may_names hm
      clear hsl h1 h2 hl2 hok
      go_region_held3 (fun w' => w'.cell? ⟨w.heap.size, 0, none⟩ = some (.int .i64 S.gen) ∧ (ldS (.pointer (some ⟨w.heap.size, 0, none⟩))).run Tryz.prog w' = .ok (.agg S.vs.toArray) w' ∧ Below w2.heap.size w2 w')
        (first | assumption | exact hS _ BD | exact hS _ bb3 | exact hS _ bb4)
        (first
          | (go_at_call 113; refine (sbody_any S hvn _).mono ?_; rintro e w3 ⟨A3, n3, c3, rfl, own3', hb3⟩; have own3 : Own w3 w2.heap.size 5 A3 n3 c3 _ := own3'; have bb3 : Below w2.heap.size w2 w3 := BD.trans (hb3.mono zd))
          | (go_at_call 66; refine (seal_any (hdS S slot) A3 n3 c3 _ w3 own3.sl (t2.below bb3 t2.1)).mono ?_; rw [h3, h4]; rintro e w4 ⟨A4, n4, c4, rfl, own4, hg4, hb4⟩; have bb4 : Below w2.heap.size w2 w4 := bb3.trans (hb4.mono (Below.size bb3)))
          | fail)
      go_wp2
      go_ret2
      rw [h1h.out, h2h.out]
      exact ⟨_, _, _, rfl, (own4.less (Below.size bb3)).less B2.size, fun _ => hg4 (by first | trivial | rfl), B2.trans (bb4.mono B2.size)⟩
    · have hno : swOk S slot = false := by unfold swOk; rw [hm, decide_eq_false hsl]; rfl
      obtain ⟨h1, h2⟩ := sw_no hno
      refine (swithin_any slot 0 1 false (decide_eq_false hsl) _).mono ?_
      rintro e w3 ⟨rfl, rfl⟩
      go_wp2
      go_ret2
      rw [h1, h2, hno]
      exact ⟨_, _, _, rfl, own_nil _ _ _, fun h => (by cases h), B2⟩
end Go.Proofs.YtgedmodnkiijkaaGreatDoor
