/- The code's counts: the law plays. -/
import Derived.Test.YtancpkdkfemgfaaCuB
import Derived.Test.YtancpkdkfemgfaaCuC
import Derived.Test.YtancpkdkfemgfaaCuD
import Derived.Test.YtancpkdkfemgfaaCtK
namespace Go.Proofs.Ytancpkdkfemgfaa
open Go Go.RowKit Go.Proofs

set_option maxRecDepth 10000 in
set_option maxHeartbeats 4000000 in
theorem cplay_any {w : World} {p : Nat} {S : Nat → Prop} {C : Ct} (H : CC w p S C) (A : Option Addr) (n c : Nat) (xs : List (Int × Int)) (L : CtOps w A n c xs) (hS : 0 < n → ∀ g o, A = some ⟨g, o, none⟩ → ¬ S g) :
    Calls Try.prog 23 #[.pointer (some ⟨p, 0, none⟩), .slice A n c] w fun e w' => e = .returned (.tuple #[]) ∧ CC w' p S (C.play xs) ∧ Turn S w w' := by
  obtain ⟨L1, L2, L3, L4⟩ := L
  have HL1 := Lib.hid L1
  have HL4 := Lib.hid L4
  clear L1 L4
  unfold maxLen at L3
  go_enter Try.func23, Try.ntmps23
  go_wp2_with fail
  go_loopw [4] (fun i wr => ∃ j : Nat, j ≤ n ∧ j ≤ 60 ∧ i = .int .i64 (j : Int) ∧ CC wr p S (C.playTo xs j) ∧ Turn S w wr) (fun i _ => 60 - (intOf i).toNat)
  case atStart => exact ⟨0, Nat.zero_le _, Nat.zero_le _, rfl, H, Turn.refl _ _⟩
  case round =>
    obtain ⟨j, hj, hj60, rfl, R, T⟩ := hrel
    by_cases hlt : j < n
    · have e3 : (j : Int) < (n : Int) := by omega
      have e0 : (0 : Int) ≤ (j : Int) := by omega
      by_cases hlt2 : j < 60
      · have e4 : (j : Int) < 60 := by omega
        obtain ⟨⟨hk, ha⟩, g, o, hA, hg, hc0, hc1⟩ := HL4.out j hlt
        subst hA
        have hnS := hS (by omega) g o rfl
        have hb := T.block g hg hnS
        have d0 := (World.cell?_of_block (a := ⟨g, o + j * 2, none⟩) hb).trans hc0
        have d1 := (World.cell?_of_block (a := ⟨g, o + j * 2 + 1, none⟩) hb).trans hc1
        have hstep : C.playTo xs (j + 1) = (C.playTo xs j).playStep (mq (xs.getD j (0, 0)).1 6) (xs.getD j (0, 0)).2 := rfl
        obtain ⟨k, hk'⟩ : ∃ k, (xs.getD j (0, 0)).1 = k := ⟨_, rfl⟩
        obtain ⟨a, ha'⟩ : ∃ a, (xs.getD j (0, 0)).2 = a := ⟨_, rfl⟩
        rw [hk'] at hk d0 hstep
        rw [ha'] at ha d1 hstep
        have Hk := Lib.hid hk
        have Hstep0 := Lib.hid hstep
        clear hk' ha' hc0 hc1 hb hstep hk
        go_wp2_with fail
        refine (ckind_any k 6 Hk.out (by omega) (by omega) wr).mono ?_
        rintro e w4 ⟨rfl, rfl⟩
        have hq6 := mq_lt k 6 (by omega)
        have hstep2 := Hstep0.out
        generalize mq k 6 = q at hq6 hstep2 ⊢
        obtain ⟨C1, hC1⟩ : ∃ C1, C.playTo xs j = C1 := ⟨_, rfl⟩
        rw [hC1] at R hstep2
        have Hstep := Lib.hid hstep2
        clear hC1 hstep2 Hstep0
        rcases (show q = 0 ∨ q = 1 ∨ q = 2 ∨ q = 3 ∨ q = 4 ∨ q = 5 by omega) with rfl | rfl | rfl | rfl | rfl | rfl
        · go_wp2_with fail
          refine (calloc_any R).mono ?_
          rintro e w5 ⟨rfl, R5, T5⟩
          go_wp2
          exact ⟨⟨j + 1, by omega, by omega, by go_num, by rw [Hstep.out]; exact R5, T.then T5⟩, by simp [intOf]; omega⟩
        · go_wp2_with fail
          refine (calloc_any R).mono ?_
          rintro e w5 ⟨rfl, R5, T5⟩
          go_wp2
          exact ⟨⟨j + 1, by omega, by omega, by go_num, by rw [Hstep.out]; exact R5, T.then T5⟩, by simp [intOf]; omega⟩
        · go_wp2_with fail
          refine (calloc_any R).mono ?_
          rintro e w5 ⟨rfl, R5, T5⟩
          go_wp2
          exact ⟨⟨j + 1, by omega, by omega, by go_num, by rw [Hstep.out]; exact R5, T.then T5⟩, by simp [intOf]; omega⟩
        · go_wp2_with fail
          refine (cref_any R a).mono ?_
          rintro e w5 ⟨rfl, R5, T5⟩
          go_wp2
          exact ⟨⟨j + 1, by omega, by omega, by go_num, by rw [Hstep.out]; exact R5, T.then T5⟩, by simp [intOf]; omega⟩
        · go_wp2_with fail
          refine (cunref_any R a).mono ?_
          rintro e w5 ⟨rfl, R5, T5⟩
          go_wp2
          exact ⟨⟨j + 1, by omega, by omega, by go_num, by rw [Hstep.out]; exact R5, T.then T5⟩, by simp [intOf]; omega⟩
        · go_wp2_with fail
          refine (ccommit_any R).mono ?_
          rintro e w5 ⟨rfl, R5, T5⟩
          go_wp2
          exact ⟨⟨j + 1, by omega, by omega, by go_num, by rw [Hstep.out]; exact R5, T.then T5⟩, by simp [intOf]; omega⟩
      · have hj2 : j = 60 := by omega
        have hpl := Lib.hid (show C.play xs = C.playTo xs j by unfold Ct.play; rw [HL1.out, show min n 60 = j by omega])
        have e4 : ¬ (j : Int) < 60 := by omega
        go_wp2
        go_end0
        rw [hpl.out]
        exact ⟨rfl, R, T⟩
    · have hpl := Lib.hid (show C.play xs = C.playTo xs j by unfold Ct.play; rw [HL1.out, show min n 60 = j by omega])
      have e3 : ¬ (j : Int) < (n : Int) := by omega
      go_wp2
      go_end0
      rw [hpl.out]
      exact ⟨rfl, R, T⟩
end Go.Proofs.Ytancpkdkfemgfaa
