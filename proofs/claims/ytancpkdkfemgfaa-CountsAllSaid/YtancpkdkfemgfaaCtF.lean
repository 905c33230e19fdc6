/- The reference's counts: Body. -/
import Derived.Test.YtancpkdkfemgfaaCtE
namespace Go.Proofs.Ytancpkdkfemgfaa
open Go Go.RowKit Go.Proofs

/-- The first k counts from m on, each as two bytes. -/
def Ct.bodyTo (C : Ct) (m : Int) : Nat → List UInt8
  | 0 => []
  | k + 1 => C.bodyTo m k ++ dig (C.get (m + (k : Int))) 2
theorem Ct.bodyTo_len (C : Ct) (m : Int) (k : Nat) : (C.bodyTo m k).length = 2 * k := by
  induction k with
  | zero => rfl
  | succ k ih => show (C.bodyTo m k ++ dig _ 2).length = _; rw [List.length_append, ih, dig_len]; omega
/-- The bytes of the i-th sector of an area. -/
def Ct.body (C : Ct) (i : Int) : List UInt8 := if 0 ≤ i ∧ i < (areaN C.n : Int) then C.bodyTo (i * 118) 118 else []
theorem refputin_c (A : Option Addr) (k c : Nat) (l : List UInt8) (x : Int) (w : World) (h : Sl w A k c l) (hk : k ≤ 100000) :
    Calls Try.prog 41 #[.slice A k c, .int .i64 x, .int .i64 2] w fun e w' => ∃ A' c', e = .returned (.slice A' (k + 2) c') ∧ Own w' w.heap.size 5 A' (k + 2) c' (l ++ dig x 2) ∧ Below w.heap.size w w' := by
  have h3 := refput_any A k c l x 2 w h (by omega)
  rw [show putS l x 2 = l ++ dig x 2 from if_pos ⟨by omega, by omega⟩] at h3
  refine h3.mono ?_
  rintro e w' ⟨A', n', c', rfl, own, hb⟩
  have h4 := own.len
  rw [List.length_append, dig_len, h.len] at h4
  have : n' = k + 2 := by omega
  subst this
  exact ⟨A', c', rfl, own, hb⟩
set_option maxRecDepth 10000 in
set_option maxHeartbeats 4000000 in
theorem crefbody_any {w : World} {p : Nat} {S : Nat → Prop} {C : Ct} (H : RC w p S C) (i : Int) :
    Calls Try.prog 27 #[.pointer (some ⟨p, 0, none⟩), .int .i64 i] w fun e w' => ∃ A n c, e = .returned (.slice A n c) ∧ Sl w' A n c (C.body i) ∧ Below w.heap.size w w' := by
  obtain ⟨many, hm⟩ : ∃ m, areaN C.n = m := ⟨_, rfl⟩
  have hok := H.ok.1
  have hm2 : many ≤ 1000 := by rw [← hm]; unfold areaN; omega
  obtain ⟨g, cg, b, cb, c0, c1, k1, k2, hnow, hdone, hput⟩ := H.open_
  clear hnow hdone hput c1
  have Hm := Lib.hid hm
  go_enter Try.func27, Try.ntmps27
  go_wp2_with fail
  refine (xrefareas_any (C.n : Int) C.n rfl (by omega) many Hm.out w).mono ?_
  rintro e w1 ⟨rfl, rfl⟩
  clear hm
  by_cases hi : 0 ≤ i ∧ i < (many : Int)
  · have hbd := Lib.hid (show C.body i = C.bodyTo (i * 118) 118 by unfold Ct.body; rw [Hm.out, if_pos hi])
    obtain ⟨q, rfl⟩ := Int.eq_ofNat_of_zero_le hi.1
    have e1 : ¬ (q : Int) < 0 := by omega
    have e2 : ¬ (many : Int) ≤ (q : Int) := by omega
    have hq : q < many := by omega
    have d1 : decide ((q : Int) < 0) = false := by simp
    have d2 : decide ((many : Int) ≤ (q : Int)) = false := by simp; omega
    have d3 : decide (many ≤ q) = false := by simp; omega
    go_wp2_with fail
    go_loopw [7, 8] (fun b k wr => ∃ (j : Nat) (A' : Option Addr) (c' : Nat), j ≤ 118 ∧ k = .int .i64 (j : Int) ∧ b = .slice A' (2 * j) c' ∧ Own wr w.heap.size 5 A' (2 * j) c' (C.bodyTo ((q : Int) * 118) j) ∧ Below w.heap.size w wr) (fun _ k _ => 118 - (intOf k).toNat)
    case atStart => exact ⟨0, _, _, by omega, rfl, rfl, own_empty w 5, (Below.refl _ _).alloc (Nat.le_refl _) _⟩
    case round =>
      obtain ⟨j, A', c', hj, rfl, rfl, own, hB⟩ := hrel
      by_cases hlt : j < 118
      · have Hr := H.below hB
        have e3 : (j : Int) < 118 := by omega
        obtain ⟨x, hx⟩ : ∃ x, C.get ((q : Int) * 118 + (j : Int)) = x := ⟨_, rfl⟩
        have Hnext := Lib.hid (show C.bodyTo ((q : Int) * 118) (j + 1) = C.bodyTo ((q : Int) * 118) j ++ dig x 2 by rw [← hx]; rfl)
        have Hx := Lib.hid hx
        clear hx c0
        go_wp2_with fail
        refine (crefget_any Hr _ x Hx.out).mono ?_
        rintro e w3 ⟨rfl, rfl⟩
        go_wp2_with fail
        refine (refputin_c A' (2 * j) c' _ x wr own.sl (by omega)).mono ?_
        rintro e w4 ⟨A4, c4, rfl, own4, hb4⟩
        rw [← Hnext.out] at own4
        go_wp2
        exact ⟨⟨j + 1, A4, c4, by omega, by go_num, rfl, own4.less hB.size, hB.trans (hb4.mono hB.size)⟩, by simp [intOf]; omega⟩
      · have hj2 : j = 118 := by omega
        subst hj2
        have Hown := own.sl
        go_wp2
        go_ret
        rw [hbd.out]
        exact ⟨_, _, _, rfl, Hown, hB⟩
  · have hbd := Lib.hid (show C.body i = [] by unfold Ct.body; rw [Hm.out, if_neg hi])
    by_cases h0 : i < 0
    · go_wp2
      go_ret
      rw [hbd.out]
      exact ⟨_, _, _, rfl, sl_nil _, Below.refl _ _⟩
    · have e2 : (many : Int) ≤ i := by omega
      have e1 : ¬ i < 0 := h0
      go_wp2
      go_ret
      rw [hbd.out]
      exact ⟨_, _, _, rfl, sl_nil _, Below.refl _ _⟩
end Go.Proofs.Ytancpkdkfemgfaa
