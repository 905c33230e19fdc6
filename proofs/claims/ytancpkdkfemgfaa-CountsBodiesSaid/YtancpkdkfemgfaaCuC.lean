/- The code's counts: Alloc, Free. -/
import Derived.Test.YtancpkdkfemgfaaCuA
namespace Go.Proofs.Ytancpkdkfemgfaa
open Go Go.RowKit Go.Proofs

set_option maxRecDepth 10000 in
set_option maxHeartbeats 4000000 in
theorem calloc_any {w : World} {p : Nat} {S : Nat → Prop} {C : Ct} (H : CC w p S C) :
    Calls Try.prog 13 #[.pointer (some ⟨p, 0, none⟩)] w fun e w' => e = .returned (.tuple #[.int .i64 C.allocV, .int .i64 C.allocE]) ∧ CC w' p S C.alloc ∧ Turn S w w' := by
  have hok := H.ok.1
  obtain ⟨g, cg, b, cb, c0, c1, c2, c3, k1, k2, hnow, hdone, hput⟩ := H.open_
  have Hput := Lib.hid hput
  have Hnow := Lib.hid hnow
  clear hput hnow hdone c1 c2 c3 k2
  go_enter Try.func13, Try.ntmps13
  go_wp2_with fail
  go_loop [4, 10] (fun _ i => ∃ k : Nat, k ≤ C.n ∧ i = .int .i64 (k : Int) ∧ ∀ j, j < k → C.may j = false) (fun _ i => C.n - (intOf i).toNat)
  case atStart => exact ⟨0, Nat.zero_le _, rfl, fun j hj => absurd hj (Nat.not_lt_zero _)⟩
  case round =>
    obtain ⟨k, hk, rfl, hall⟩ := hrel
    by_cases hlt : k < C.n
    · obtain ⟨hc, hfz⟩ := Hnow.out k hlt
      obtain ⟨H2, T2, d0, d1⟩ := Hput.out k 1 hlt (by omega) (by omega)
      obtain ⟨r, hr⟩ : ∃ r, C.may k = r := ⟨_, rfl⟩
      have Hr := Lib.hid hr
      have Hall := Lib.hid hall
      have e3 : (k : Int) < (C.n : Int) := by omega
      have e0 : (0 : Int) ≤ (k : Int) := by omega
      clear hr hall
      go_wp2_with fail
      refine (cfree_any H k hlt r Hr.out).mono ?_
      rintro e w1 ⟨rfl, rfl⟩
      cases r with
      | true =>
        have hE := Lib.hid (Ct.alloc_some (C := C) (k := k) (Ct.pick_some hlt Hr.out Hall.out))
        go_wp2
        go_ret2
        rw [hE.out.1, hE.out.2.1, hE.out.2.2]
        exact ⟨rfl, H2, T2⟩
      | false =>
        go_wp2
        refine ⟨⟨k + 1, by omega, by go_num, fun j hj => ?_⟩, by simp [intOf]; omega⟩
        by_cases hjk : j = k
        · rw [hjk]; exact Hr.out
        · exact Hall.out j (by omega)
    · have hkn : k = C.n := by omega
      have e3 : ¬ (k : Int) < (C.n : Int) := by omega
      have hE := Lib.hid (Ct.alloc_none (Ct.pick_none (C := C) (by rw [← hkn]; exact hall)))
      clear hall hkn
      go_wp2
      go_ret2
      rw [hE.out.1, hE.out.2.1, hE.out.2.2]
      exact ⟨rfl, H, Turn.refl _ _⟩
set_option maxRecDepth 10000 in
set_option maxHeartbeats 4000000 in
theorem cfreeAll_any {w : World} {p : Nat} {S : Nat → Prop} {C : Ct} (H : CC w p S C) (n : Nat) (hn : C.free = n) :
    Calls Try.prog 30 #[.pointer (some ⟨p, 0, none⟩)] w fun e w' => e = .returned (.int .i64 (n : Int)) ∧ w = w' := by
  have hok := H.ok.1
  obtain ⟨g, cg, b, cb, c0, c1, c2, c3, k1, k2, hnow, hdone, _⟩ := H.open_
  have Hn := Lib.hid hn
  clear hnow hdone hn c1 c2 c3 k2
  go_enter Try.func30, Try.ntmps30
  go_wp2_with fail
  go_loop [3, 4, 10] (fun z _ i => ∃ k : Nat, k ≤ C.n ∧ i = .int .i64 (k : Int) ∧ z = .int .i64 (C.freeTo k : Int)) (fun _ _ i => C.n - (intOf i).toNat)
  case atStart => exact ⟨0, Nat.zero_le _, rfl, rfl⟩
  case round =>
    obtain ⟨k, hk, rfl, rfl⟩ := hrel
    have hle := C.freeTo_le k
    by_cases hlt : k < C.n
    · have hnx := Lib.hid (C.freeTo_next k)
      obtain ⟨q, hq⟩ : ∃ q, C.freeTo k = q := ⟨_, rfl⟩
      rw [hq] at hle hnx ⊢
      obtain ⟨r, hr⟩ : ∃ r, C.may k = r := ⟨_, rfl⟩
      have Hr := Lib.hid hr
      have e3 : (k : Int) < (C.n : Int) := by omega
      clear hq hr
      go_wp2_with fail
      refine (cfree_any H k hlt r Hr.out).mono ?_
      rintro e w1 ⟨rfl, rfl⟩
      cases r with
      | true =>
        have hE := Lib.hid (show C.freeTo (k + 1) = q + 1 by rw [hnx.out, if_pos Hr.out])
        go_wp2
        refine ⟨⟨k + 1, by omega, by go_num, by rw [hE.out]; go_num⟩, by simp [intOf]; omega⟩
      | false =>
        have hE := Lib.hid (show C.freeTo (k + 1) = q by rw [hnx.out, if_neg (by rw [Hr.out]; decide), Nat.add_zero])
        go_wp2
        refine ⟨⟨k + 1, by omega, by go_num, by rw [hE.out]⟩, by simp [intOf]; omega⟩
    · have hkn : k = C.n := by omega
      have e3 : ¬ (k : Int) < (C.n : Int) := by omega
      have hE := Lib.hid (show C.freeTo k = n by rw [hkn]; exact Hn.out)
      clear hkn
      go_wp2
      go_ret
      exact ⟨by rw [← hE.out]; rfl, rfl⟩
end Go.Proofs.Ytancpkdkfemgfaa
