/- The reference's counts: Ref, Unref, Fresh, First, Alloc, Free. -/
import Derived.Test.YtancpkdkfemgfaaCtA
import Derived.BigQuiet
namespace Go.Proofs.Ytancpkdkfemgfaa
open Go Go.RowKit Go.Proofs

/-- What the counts' cells are. -/
theorem RC.open_ {w : World} {p : Nat} {S : Nat → Prop} {C : Ct} (H : RC w p S C) : ∃ g cg b cb : Nat, w.cell? ⟨p, 0, none⟩ = some (.slice (some ⟨g, 0, none⟩) C.n cg) ∧ w.cell? ⟨p, 1, none⟩ = some (.slice (some ⟨b, 0, none⟩) C.n cb) ∧
    (C.n ≤ cg ∧ cg ≤ 9223372036854775807) ∧ (C.n ≤ cb ∧ cb ≤ 9223372036854775807) ∧ (∀ k, k < C.n → w.cell? ⟨g, k, none⟩ = some (.int .i64 (nm C.now k)) ∧ w.frozen? ⟨g, k, none⟩ = false) ∧ (∀ k, k < C.n → w.cell? ⟨b, k, none⟩ = some (.int .i64 (nm C.done k))) ∧
    (∀ (k : Nat) (x : Int), k < C.n → 0 ≤ x → x ≤ 65535 → RC (w.setCell ⟨g, k, none⟩ (.int .i64 x)) p S (C.put k x) ∧ Turn S w (w.setCell ⟨g, k, none⟩ (.int .i64 x)) ∧ (w.setCell ⟨g, k, none⟩ (.int .i64 x)).cell? ⟨p, 0, none⟩ = some (.slice (some ⟨g, 0, none⟩) C.n cg) ∧ (w.setCell ⟨g, k, none⟩ (.int .i64 x)).cell? ⟨g, k, none⟩ = some (.int .i64 x)) := by
  obtain ⟨g, cg, b, cb, t, h1, h2, h3, h4, h5, h6⟩ := H
  have k1 := h2.cap
  have k2 := h3.cap
  unfold maxLen at k1 k2
  refine ⟨g, cg, b, cb, by rw [cell_of_row _ _ _ _ _ _ h1]; rfl, by rw [cell_of_row _ _ _ _ _ _ h1]; rfl, ⟨k1.1, by omega⟩, ⟨k2.1, by omega⟩, fun k hk => h2.at_ hk, fun k hk => (h3.at_ hk).1, fun k x hk hx0 hx1 => ?_⟩
  have e : ∀ j, j ≠ g → (w.setCell ⟨g, k, none⟩ (.int .i64 x)).heap[j]? = w.heap[j]? := fun j hj => Below.heap_setCell _ _ _ _ (by show j ≠ g; exact hj)
  have hp := (e p h4.2.1).trans h1
  have hI := h2.set_ k x
  refine ⟨⟨g, cg, b, cb, t, ?_, ?_, ?_, h4, h5, C.put_ok h6 k x hx0 hx1⟩, turn_setCell (a := ⟨g, k, none⟩) _ h5.2.1, by rw [cell_of_row _ _ _ _ _ _ hp]; rfl, ?_⟩
  · rw [C.put_n]; exact hp
  · rw [C.put_n]; exact hI
  · rw [C.put_n]; exact h3.keep (e b (Ne.symm h4.1))
  · have := (hI.at_ hk).1
    rw [nm_set_same _ _ _ (by rw [h2.len]; exact hk)] at this
    exact this

set_option maxHeartbeats 1000000 in
theorem crefref_any {w : World} {p : Nat} {S : Nat → Prop} {C : Ct} (H : RC w p S C) (a : Int) :
    Calls Try.prog 16 #[.pointer (some ⟨p, 0, none⟩), .int .i64 a] w fun e w' => e = .returned (.int .i64 (C.refE a)) ∧ RC w' p S (C.ref a) ∧ Turn S w w' := by
  obtain ⟨x, hx⟩ : ∃ x, C.get a = x := ⟨_, rfl⟩
  have hb := C.get_bounds H.ok a
  rw [hx] at hb
  by_cases h0 : x = 0
  · have hE : C.refE a = 1 := by unfold Ct.refE; rw [hx, if_pos h0]
    have hC : C.ref a = C := by unfold Ct.ref; rw [hE, if_neg (by decide)]
    rw [hE, hC]
    subst h0
    go_enter Try.func16, Try.ntmps16
    go_wp2_with fail
    refine (crefget_any H a 0 hx).mono ?_
    rintro e w1 ⟨rfl, rfl⟩
    go_wp2
    go_ret
    exact ⟨rfl, H, Turn.refl _ _⟩
  · by_cases h1 : x = 65535
    · have hE : C.refE a = 7 := by unfold Ct.refE; rw [hx, if_neg h0, if_pos h1]
      have hC : C.ref a = C := by unfold Ct.ref; rw [hE, if_neg (by decide)]
      rw [hE, hC]
      subst h1
      go_enter Try.func16, Try.ntmps16
      go_wp2_with fail
      refine (crefget_any H a 65535 hx).mono ?_
      rintro e w1 ⟨rfl, rfl⟩
      go_wp2
      go_ret
      exact ⟨rfl, H, Turn.refl _ _⟩
    · have hE : C.refE a = 0 := by unfold Ct.refE; rw [hx, if_neg h0, if_neg h1]
      have hC : C.ref a = C.put a.toNat (x + 1) := by unfold Ct.ref; rw [hE, if_pos rfl, hx]
      have hE' := Lib.hid hE
      have hC' := Lib.hid hC
      obtain ⟨i0, i1, i2⟩ := Ct.get_in (C := C) (a := a) (by rw [hx]; exact h0)
      obtain ⟨k, rfl⟩ := Int.eq_ofNat_of_zero_le i0
      rw [Int.toNat_natCast] at i2
      rw [hx] at i2
      obtain ⟨g, cg, b, cb, c0, c1, k1, k2, hnow, hdone, hput⟩ := H.open_
      obtain ⟨hc, hfz⟩ := hnow k (by omega)
      rw [← i2] at hc
      obtain ⟨H2, T2, d0, d1⟩ := hput k (x + 1) (by omega) (by omega) (by omega)
      have Hx := Lib.hid hx
      have j1 : ¬ (C.n : Int) ≤ (k : Int) := by omega
      clear hE hC i2 hnow hdone hput
      go_enter Try.func16, Try.ntmps16
      go_wp2_with fail
      refine (crefget_any H k x Hx.out).mono ?_
      rintro e w1 ⟨rfl, rfl⟩
      go_wp2
      go_ret
      rw [hE'.out, hC'.out]
      exact ⟨rfl, H2, T2⟩
set_option maxHeartbeats 1000000 in
theorem crefunref_any {w : World} {p : Nat} {S : Nat → Prop} {C : Ct} (H : RC w p S C) (a : Int) :
    Calls Try.prog 18 #[.pointer (some ⟨p, 0, none⟩), .int .i64 a] w fun e w' => e = .returned (.tuple #[.int .i64 (C.unrefV a), .int .i64 (C.unrefE a)]) ∧ RC w' p S (C.unref a) ∧ Turn S w w' := by
  obtain ⟨x, hx⟩ : ∃ x, C.get a = x := ⟨_, rfl⟩
  have hb := C.get_bounds H.ok a
  rw [hx] at hb
  by_cases h0 : x = 0
  · have hE : C.unrefE a = 1 ∧ C.unrefV a = 0 ∧ C.unref a = C := by unfold Ct.unrefE Ct.unrefV Ct.unref; rw [hx, if_pos h0, if_pos h0, if_pos h0]; exact ⟨rfl, rfl, rfl⟩
    rw [hE.1, hE.2.1, hE.2.2]
    subst h0
    go_enter Try.func18, Try.ntmps18
    go_wp2_with fail
    refine (crefget_any H a 0 hx).mono ?_
    rintro e w1 ⟨rfl, rfl⟩
    go_wp2
    go_ret2
    exact ⟨rfl, H, Turn.refl _ _⟩
  · have hE : C.unrefE a = 0 ∧ C.unrefV a = x - 1 ∧ C.unref a = C.put a.toNat (x - 1) := by unfold Ct.unrefE Ct.unrefV Ct.unref; rw [hx, if_neg h0, if_neg h0, if_neg h0]; exact ⟨rfl, rfl, rfl⟩
    have hE' := Lib.hid hE
    obtain ⟨i0, i1, i2⟩ := Ct.get_in (C := C) (a := a) (by rw [hx]; exact h0)
    obtain ⟨k, rfl⟩ := Int.eq_ofNat_of_zero_le i0
    rw [Int.toNat_natCast] at i2
    rw [hx] at i2
    obtain ⟨g, cg, b, cb, c0, c1, k1, k2, hnow, hdone, hput⟩ := H.open_
    obtain ⟨hc, hfz⟩ := hnow k (by omega)
    rw [← i2] at hc
    obtain ⟨H2, T2, d0, d1⟩ := hput k (x - 1) (by omega) (by omega) (by omega)
    have Hx := Lib.hid hx
    have j1 : ¬ (C.n : Int) ≤ (k : Int) := by omega
    clear hE i2 hnow hdone hput
    go_enter Try.func18, Try.ntmps18
    go_wp2_with fail
    refine (crefget_any H k x Hx.out).mono ?_
    rintro e w1 ⟨rfl, rfl⟩
    go_wp2
    go_ret2
    rw [hE'.out.1, hE'.out.2.1, hE'.out.2.2]
    exact ⟨rfl, H2, T2⟩
set_option maxHeartbeats 1000000 in
theorem creffresh_any {w : World} {p : Nat} {S : Nat → Prop} {C : Ct} (H : RC w p S C) (a : Int) (r : Bool) (hr : C.fresh a = r) :
    Calls Try.prog 39 #[.pointer (some ⟨p, 0, none⟩), .int .i64 a] w fun e w' => e = .returned (.bool r) ∧ w = w' := by
  subst hr
  obtain ⟨x, hx⟩ : ∃ x, C.get a = x := ⟨_, rfl⟩
  by_cases h0 : x = 0
  · have hE : C.fresh a = false := by unfold Ct.fresh; rw [hx, if_pos h0]
    rw [hE]
    subst h0
    go_enter Try.func39, Try.ntmps39
    go_wp2_with fail
    refine (crefget_any H a 0 hx).mono ?_
    rintro e w1 ⟨rfl, rfl⟩
    go_wp2
    go_ret
    exact ⟨rfl, rfl⟩
  · have hE := Lib.hid (show C.fresh a = decide (nm C.done a.toNat = 0) by unfold Ct.fresh; rw [hx, if_neg h0])
    obtain ⟨i0, i1, i2⟩ := Ct.get_in (C := C) (a := a) (by rw [hx]; exact h0)
    obtain ⟨k, rfl⟩ := Int.eq_ofNat_of_zero_le i0
    rw [Int.toNat_natCast] at hE
    obtain ⟨g, cg, b, cb, c0, c1, k1, k2, hnow, hdone, hput⟩ := H.open_
    have hd := hdone k (by omega)
    obtain ⟨y, hy⟩ : ∃ y, nm C.done k = y := ⟨_, rfl⟩
    rw [hy] at hd hE
    have Hx := Lib.hid hx
    have j1 : ¬ (C.n : Int) ≤ (k : Int) := by omega
    clear i2 hnow hdone hput hy hx
    go_enter Try.func39, Try.ntmps39
    go_wp2_with fail
    refine (crefget_any H k x Hx.out).mono ?_
    rintro e w1 ⟨rfl, rfl⟩
    go_wp2
    go_ret
    exact ⟨by rw [hE.out]; first | rfl | (refine congrArg (fun x => Ending.returned (Value.bool x)) ?_; rw [Bool.eq_iff_iff]; simp [h0]), rfl⟩
set_option maxHeartbeats 1000000 in
theorem creffirst_any {w : World} {p : Nat} {S : Nat → Prop} {C : Ct} (H : RC w p S C) (f : Nat) (hf : C.first = f) :
    Calls Try.prog 35 #[.pointer (some ⟨p, 0, none⟩)] w fun e w' => e = .returned (.int .i64 (f : Int)) ∧ w = w' := by
  have hok := H.ok.1
  obtain ⟨g, cg, b, cb, c0, c1, k1, k2, _, _, _⟩ := H.open_
  obtain ⟨k, hk⟩ : ∃ k, areaN C.n = k := ⟨_, rfl⟩
  have hfk : (f : Int) = 2 + 2 * (k : Int) := by rw [← hf]; unfold Ct.first; rw [hk]; omega
  have Hfk := Lib.hid hfk
  clear hfk
  go_enter Try.func35, Try.ntmps35
  go_wp2_with fail
  refine (xrefareas_any _ C.n rfl (by omega) k hk w).mono ?_
  rintro e w1 ⟨rfl, rfl⟩
  go_wp2
  go_ret
  exact ⟨by rw [Hfk.out]; rfl, rfl⟩
end Go.Proofs.Ytancpkdkfemgfaa
