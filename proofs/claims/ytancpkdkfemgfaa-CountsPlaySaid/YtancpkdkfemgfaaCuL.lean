/- Counts: both are alike. -/
import Derived.Test.YtancpkdkfemgfaaCuB
import Derived.Test.YtancpkdkfemgfaaCuC
namespace Go.Proofs.Ytancpkdkfemgfaa
open Go Go.RowKit Go.Proofs

set_option maxRecDepth 10000 in
set_option maxHeartbeats 4000000 in
theorem calike_any {w : World} {p q : Nat} {S S' : Nat → Prop} {C : Ct} (H : CC w p S C) (R : RC w q S' C) :
    Calls Try.prog 22 #[.pointer (some ⟨p, 0, none⟩), .pointer (some ⟨q, 0, none⟩)] w fun e w' => e = .returned (.bool true) ∧ w = w' := by
  have hok := H.ok.1
  obtain ⟨g, cg, b, cb, c0, c1, k1, k2, hnow, hdone, hput⟩ := R.open_
  clear hnow hdone hput c1 k2
  go_enter Try.func22, Try.ntmps22
  go_wp2_with fail
  refine (cfreeAll_any H C.free rfl).mono ?_
  rintro e w1 ⟨rfl, rfl⟩
  go_wp2_with fail
  refine (creffree_any R C.free rfl).mono ?_
  rintro e w1 ⟨rfl, rfl⟩
  generalize C.free = m
  go_wp2_with fail
  go_loop [5] (fun i => ∃ k : Nat, k ≤ C.n + 2 ∧ i = .int .i64 ((k : Int) - 1)) (fun i => C.n + 2 - (intOf i + 1).toNat)
  case atStart => exact ⟨0, Nat.zero_le _, rfl⟩
  case round =>
    obtain ⟨k, hk, rfl⟩ := hrel
    by_cases hlt : k < C.n + 2
    · obtain ⟨a, ha⟩ : ∃ a : Int, (k : Int) - 1 = a := ⟨_, rfl⟩
      have ha2 : a + 1 = ((k + 1 : Nat) : Int) - 1 := by omega
      have e3 : a ≤ (C.n : Int) := by omega
      have e4 : -1 ≤ a := by omega
      have e5 : a ≤ 3000 := by omega
      have Hm := Lib.hid (show C.n + 2 - (a + 1 + 1).toNat < C.n + 2 - (a + 1).toNat by omega)
      have Ha2 := Lib.hid ha2
      rw [ha]
      obtain ⟨x, hx⟩ : ∃ x, C.get a = x := ⟨_, rfl⟩
      have Hx := Lib.hid hx
      obtain ⟨r, hr⟩ : ∃ r, C.fresh a = r := ⟨_, rfl⟩
      have Hr := Lib.hid hr
      clear hx hr ha ha2
      go_wp2_with fail
      refine (cget_any H a x Hx.out).mono ?_
      rintro e w1 ⟨rfl, rfl⟩
      go_wp2_with fail
      refine (crefget_any R a x Hx.out).mono ?_
      rintro e w1 ⟨rfl, rfl⟩
      go_wp2_with fail
      refine (cfresh_any H a r Hr.out).mono ?_
      rintro e w1 ⟨rfl, rfl⟩
      go_wp2_with fail
      refine (creffresh_any R a r Hr.out).mono ?_
      rintro e w1 ⟨rfl, rfl⟩
      cases r with
      | true =>
        go_wp2
        exact ⟨⟨k + 1, by omega, by rw [← Ha2.out]⟩, by simp [intOf]; omega⟩
      | false =>
        go_wp2
        exact ⟨⟨k + 1, by omega, by rw [← Ha2.out]⟩, by simp [intOf]; omega⟩
    · have e3 : ¬ (k : Int) - 1 ≤ (C.n : Int) := by omega
      have e4 : (C.n : Int) < (k : Int) - 1 := by omega
      have e5 : k = C.n + 2 := by omega
      go_wp2
      go_ret
      exact ⟨rfl, rfl⟩
end Go.Proofs.Ytancpkdkfemgfaa
