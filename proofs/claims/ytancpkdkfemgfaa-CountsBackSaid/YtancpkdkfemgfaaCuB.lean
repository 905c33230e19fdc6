/- The code's counts: Ref, Unref, Fresh. -/
import Derived.Test.YtancpkdkfemgfaaCuA
namespace Go.Proofs.Ytancpkdkfemgfaa
open Go Go.RowKit Go.Proofs

set_option maxHeartbeats 1000000 in
theorem cref_any {w : World} {p : Nat} {S : Nat → Prop} {C : Ct} (H : CC w p S C) (a : Int) :
    Calls Try.prog 15 #[.pointer (some ⟨p, 0, none⟩), .int .i64 a] w fun e w' => e = .returned (.int .i64 (C.refE a)) ∧ CC w' p S (C.ref a) ∧ Turn S w w' := by
  obtain ⟨x, hx⟩ : ∃ x, C.get a = x := ⟨_, rfl⟩
  have hb := C.get_bounds H.ok a
  rw [hx] at hb
  by_cases h0 : x = 0
  · have hE : C.refE a = 1 := by unfold Ct.refE; rw [hx, if_pos h0]
    have hC : C.ref a = C := by unfold Ct.ref; rw [hE, if_neg (by decide)]
    rw [hE, hC]
    subst h0
    go_enter Try.func15, Try.ntmps15
    go_wp2_with fail
    refine (cget_any H a 0 hx).mono ?_
    rintro e w1 ⟨rfl, rfl⟩
    go_wp2
    go_ret
    exact ⟨rfl, H, Turn.refl _ _⟩
  · by_cases h1 : x = 65535
    · have hE : C.refE a = 7 := by unfold Ct.refE; rw [hx, if_neg h0, if_pos h1]
      have hC : C.ref a = C := by unfold Ct.ref; rw [hE, if_neg (by decide)]
      rw [hE, hC]
      subst h1
      go_enter Try.func15, Try.ntmps15
      go_wp2_with fail
      refine (cget_any H a 65535 hx).mono ?_
      rintro e w1 ⟨rfl, rfl⟩
      go_wp2
      go_ret
      exact ⟨rfl, H, Turn.refl _ _⟩
    · have hE : C.refE a = 0 := by unfold Ct.refE; rw [hx, if_neg h0, if_neg h1]
      have hC : C.ref a = C.put a.toNat (x + 1) := by unfold Ct.ref; rw [hE, if_pos rfl, hx]
      have hE' := Lib.hid hE
      have hC' := Lib.hid hC
      obtain ⟨i0, i1, i2⟩ := Ct.get_in (C := C) (a := a) (by rw [hx]; exact h0)
      obtain ⟨k, rfl⟩ := Int.eq_ofNat_of_zero_le i0
      rw [Int.toNat_natCast] at i2
      rw [hx] at i2
      obtain ⟨g, cg, b, cb, c0, c1, c2, c3, k1, k2, hnow, hdone, hput⟩ := H.open_
      obtain ⟨hc, hfz⟩ := hnow k (by omega)
      rw [← i2] at hc
      obtain ⟨H2, T2, d0, d1⟩ := hput k (x + 1) (by omega) (by omega) (by omega)
      have Hx := Lib.hid hx
      have j1 : ¬ (C.n : Int) ≤ (k : Int) := by omega
      clear hE hC i2 hnow hdone hput
      go_enter Try.func15, Try.ntmps15
      go_wp2_with fail
      refine (cget_any H k x Hx.out).mono ?_
      rintro e w1 ⟨rfl, rfl⟩
      go_wp2
      go_ret
      rw [hE'.out, hC'.out]
      exact ⟨rfl, H2, T2⟩
set_option maxHeartbeats 1000000 in
theorem cunref_any {w : World} {p : Nat} {S : Nat → Prop} {C : Ct} (H : CC w p S C) (a : Int) :
    Calls Try.prog 17 #[.pointer (some ⟨p, 0, none⟩), .int .i64 a] w fun e w' => e = .returned (.tuple #[.int .i64 (C.unrefV a), .int .i64 (C.unrefE a)]) ∧ CC w' p S (C.unref a) ∧ Turn S w w' := by
  obtain ⟨x, hx⟩ : ∃ x, C.get a = x := ⟨_, rfl⟩
  have hb := C.get_bounds H.ok a
  rw [hx] at hb
  by_cases h0 : x = 0
  · have hE : C.unrefE a = 1 ∧ C.unrefV a = 0 ∧ C.unref a = C := by unfold Ct.unrefE Ct.unrefV Ct.unref; rw [hx, if_pos h0, if_pos h0, if_pos h0]; exact ⟨rfl, rfl, rfl⟩
    rw [hE.1, hE.2.1, hE.2.2]
    subst h0
    go_enter Try.func17, Try.ntmps17
    go_wp2_with fail
    refine (cget_any H a 0 hx).mono ?_
    rintro e w1 ⟨rfl, rfl⟩
    go_wp2
    go_ret2
    exact ⟨rfl, H, Turn.refl _ _⟩
  · have hE : C.unrefE a = 0 ∧ C.unrefV a = x - 1 ∧ C.unref a = C.put a.toNat (x - 1) := by unfold Ct.unrefE Ct.unrefV Ct.unref; rw [hx, if_neg h0, if_neg h0, if_neg h0]; exact ⟨rfl, rfl, rfl⟩
    have hE' := Lib.hid hE
    obtain ⟨i0, i1, i2⟩ := Ct.get_in (C := C) (a := a) (by rw [hx]; exact h0)
    obtain ⟨k, rfl⟩ := Int.eq_ofNat_of_zero_le i0
    rw [Int.toNat_natCast] at i2
    rw [hx] at i2
    obtain ⟨g, cg, b, cb, c0, c1, c2, c3, k1, k2, hnow, hdone, hput⟩ := H.open_
    obtain ⟨hc, hfz⟩ := hnow k (by omega)
    rw [← i2] at hc
    obtain ⟨H2, T2, d0, d1⟩ := hput k (x - 1) (by omega) (by omega) (by omega)
    have Hx := Lib.hid hx
    have j1 : ¬ (C.n : Int) ≤ (k : Int) := by omega
    clear hE i2 hnow hdone hput
    go_enter Try.func17, Try.ntmps17
    go_wp2_with fail
    refine (cget_any H k x Hx.out).mono ?_
    rintro e w1 ⟨rfl, rfl⟩
    go_wp2
    go_ret2
    rw [hE'.out.1, hE'.out.2.1, hE'.out.2.2]
    exact ⟨rfl, H2, T2⟩
set_option maxHeartbeats 1000000 in
theorem cfresh_any {w : World} {p : Nat} {S : Nat → Prop} {C : Ct} (H : CC w p S C) (a : Int) (r : Bool) (hr : C.fresh a = r) :
    Calls Try.prog 32 #[.pointer (some ⟨p, 0, none⟩), .int .i64 a] w fun e w' => e = .returned (.bool r) ∧ w = w' := by
  subst hr
  obtain ⟨x, hx⟩ : ∃ x, C.get a = x := ⟨_, rfl⟩
  by_cases h0 : x = 0
  · have hE : C.fresh a = false := by unfold Ct.fresh; rw [hx, if_pos h0]
    rw [hE]
    subst h0
    go_enter Try.func32, Try.ntmps32
    go_wp2_with fail
    refine (cget_any H a 0 hx).mono ?_
    rintro e w1 ⟨rfl, rfl⟩
    go_wp2
    go_ret
    exact ⟨rfl, rfl⟩
  · have hE := Lib.hid (show C.fresh a = decide (nm C.done a.toNat = 0) by unfold Ct.fresh; rw [hx, if_neg h0])
    obtain ⟨i0, i1, i2⟩ := Ct.get_in (C := C) (a := a) (by rw [hx]; exact h0)
    obtain ⟨k, rfl⟩ := Int.eq_ofNat_of_zero_le i0
    rw [Int.toNat_natCast] at hE
    obtain ⟨g, cg, b, cb, c0, c1, c2, c3, k1, k2, hnow, hdone, hput⟩ := H.open_
    have hd := hdone k (by omega)
    obtain ⟨y, hy⟩ : ∃ y, nm C.done k = y := ⟨_, rfl⟩
    rw [hy] at hd hE
    have Hx := Lib.hid hx
    have j1 : ¬ (C.n : Int) ≤ (k : Int) := by omega
    clear i2 hnow hdone hput hy hx
    go_enter Try.func32, Try.ntmps32
    go_wp2_with fail
    refine (cget_any H k x Hx.out).mono ?_
    rintro e w1 ⟨rfl, rfl⟩
    go_wp2
    go_ret
    exact ⟨by rw [hE.out]; first | rfl | (refine congrArg (fun x => Ending.returned (Value.bool x)) ?_; rw [Bool.eq_iff_iff]; simp [h0]), rfl⟩
end Go.Proofs.Ytancpkdkfemgfaa
