/- The code's counts: New. -/
import Derived.Test.YtancpkdkfemgfaaCuD
import Derived.Test.YtancpkdkfemgfaaCtH
namespace Go.Proofs.Ytancpkdkfemgfaa
open Go Go.RowKit Go.Proofs

set_option maxHeartbeats 1000000 in
theorem cnew_bad (n : Int) (h : n < 32 ∨ 2048 < n) (w : World) :
    Calls Try.prog 10 #[.int .i64 n] w fun e w' => e = .returned (.tuple #[.pointer none, .int .i64 1]) ∧ w = w' := by
  by_cases h1 : n < 32
  · go_enter Try.func10, Try.ntmps10
    go_wp2
    go_ret2
    exact ⟨rfl, rfl⟩
  · have h2 : 2048 < n := by omega
    go_enter Try.func10, Try.ntmps10
    go_wp2
    go_ret2
    exact ⟨rfl, rfl⟩
section
attribute [local go_sem ↓] mkI_shut
set_option maxRecDepth 10000 in
set_option maxHeartbeats 2000000 in
theorem cnew_any (n : Nat) (h1 : 32 ≤ n) (h2 : n ≤ 2048) (w : World) :
    Calls Try.prog 10 #[.int .i64 (n : Int)] w fun e w' => ∃ p, e = .returned (.tuple #[.pointer (some ⟨p, 0, none⟩), .int .i64 0]) ∧ CC w' p (fun k => w.heap.size ≤ k) (Ct.zero n) ∧ Below w.heap.size w w' := by
  have e1 : ¬ (n : Int) < 32 := by omega
  have e2 : ¬ (2048 : Int) < (n : Int) := by omega
  have hn : n ≤ 1000000 := by omega
  obtain ⟨m, hm⟩ : ∃ m, areaN n = m := ⟨_, rfl⟩
  have Hm := Lib.hid hm
  have hfirst := Lib.hid (show ((Ct.zero n).first : Int) = 2 + 2 * (m : Int) by unfold Ct.first; rw [Ct.zero_n, hm]; omega)
  clear hm
  have q1 := run_mkI n hn w.drew
  have q2 := run_mkI n hn (litI n w.drew)
  rw [litI_size] at q2
  have z0 : w.drew.heap.size = w.heap.size := rfl
  rw [z0] at q1 q2
  go_enter Try.func10, Try.ntmps10
  go_wp2_with fail
  refine (xareas_any (n : Int) n rfl (by omega) m Hm.out w).mono ?_
  rintro e w1 ⟨rfl, rfl⟩
  go_wp2_with fail
  go_region
  all_goals (
    have r2 : NRow (litI n (litI n w.drew)) (w.heap.size + 1) n n (List.replicate n 0) := by
      have := litI_new n hn (litI n w.drew)
      rw [litI_size, z0] at this
      exact this
    have r1 : NRow (litI n (litI n w.drew)) w.heap.size n n (List.replicate n 0) := by
      have h := litI_new n hn w.drew
      rw [z0] at h
      exact h.keep (heap_alloc_old (litI n w.drew) _ (by rw [litI_size, z0]; omega))
    have bW : Below w.heap.size w (litI n (litI n w.drew)) := ((Below.refl _ _).drew.trans (litI_below n _ _ (Nat.le_refl _))).trans (litI_below n _ _ (by rw [litI_size, z0]; omega))
    have zW : (litI n (litI n w.drew)).heap.size = w.heap.size + 2 := by rw [litI_size, litI_size, z0]
    clear q1 q2
    generalize litI n (litI n w.drew) = W at r1 r2 bW zW ⊢
    go_wp2_with fail
    go_ret2
    rw [zW]
    refine ⟨w.heap.size + 2, rfl, ?_, bW.alloc bW.size _⟩
    have hN := (Ct.zero_n n).symm
    have hF := hfirst.out
    have hM := Hm.out
    first
      | exact ⟨w.heap.size, n, w.heap.size + 1, n, _, by rw [Ct.zero_n, hM, hF, ← zW]; exact heap_alloc_new W _, by rw [Ct.zero_n]; exact r1.keep (heap_alloc_old W _ r1.lt), by rw [Ct.zero_n]; exact r2.keep (heap_alloc_old W _ r2.lt), ⟨by omega, by omega, by omega⟩, ⟨by dsimp only; omega, by dsimp only; omega, by dsimp only; omega⟩, Ct.zero_ok h1 h2⟩
      | exact ⟨w.heap.size + 1, n, w.heap.size, n, _, by rw [Ct.zero_n, hM, hF, ← zW]; exact heap_alloc_new W _, by rw [Ct.zero_n]; exact r2.keep (heap_alloc_old W _ r2.lt), by rw [Ct.zero_n]; exact r1.keep (heap_alloc_old W _ r1.lt), ⟨by omega, by omega, by omega⟩, ⟨by dsimp only; omega, by dsimp only; omega, by dsimp only; omega⟩, Ct.zero_ok h1 h2⟩
      | fail)
end
end Go.Proofs.Ytancpkdkfemgfaa
