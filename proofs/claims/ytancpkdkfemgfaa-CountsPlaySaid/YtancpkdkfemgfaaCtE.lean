/- The reference's counts: New. -/
import Derived.Test.YtancpkdkfemgfaaCtD
namespace Go.Proofs.Ytancpkdkfemgfaa
open Go Go.RowKit Go.Proofs

/-- make of ints, kept shut while the walk runs. -/
def mkI (a b : Value) : Sem Value := Instr.makeSlice 51 a b
theorem mkI_shut (a b : Value) : Instr.makeSlice 51 a b = mkI a b := rfl
def litI (n : Nat) (w : World) : World := w.alloc (.cells (madeCells #[.int .i64 0] (n * 1)) 3)
theorem run_mkI (n : Nat) (hn : n ≤ 1000000) (w : World) : (mkI (.int .i64 (n : Int)) (.int .i64 (n : Int))).run Try.prog w = .ok (.slice (some ⟨w.heap.size, 0, none⟩) n n) (litI n w) := by
  obtain ⟨i, hi, hz0, hz1, hz2⟩ := info_parts TN.info
  have h := run_makeSlice (P := Try.prog) w 51 3 i _ TN.sl hi hz0 .i64 .i64 n n (by omega) (by omega) (by rw [hz1, Int.toNat_natCast]; omega) (by rw [hz2]; omega) (by omega)
  rw [hz1] at h
  exact h
theorem litI_row (n : Nat) (_hn : n ≤ 1000000) (w : World) : (litI n w).heap[w.heap.size]? = some (.cells (madeCells #[.int .i64 0] (n * 1)) 3 (0, 0)) := heap_alloc_new w _
theorem litI_new (n : Nat) (hn : n ≤ 1000000) (w : World) : NRow (litI n w) w.heap.size n n (List.replicate n 0) := by
  have hm : (madeCells #[.int .i64 0] (n * 1)).toList = (List.replicate n (0 : Int)).map cv := madeNums n
  have hl := congrArg List.length hm
  rw [Array.length_toList, List.length_map, List.length_replicate] at hl
  refine ⟨by rw [List.length_map, List.length_replicate, Nat.mul_one], .inr ⟨w.heap.size, n, _, rfl, Nat.zero_le _, heap_alloc_new w _, Nat.le_refl _, by unfold maxLen; omega, by rw [hl, Nat.mul_one], ?_⟩⟩
  rw [hm, List.take_of_length_le (by rw [List.length_map, List.length_replicate, Nat.mul_one]; exact Nat.le_refl _)]
theorem litI_below (n base : Nat) (w : World) (h : base ≤ w.heap.size) : Below base w (litI n w) := (Below.refl _ _).alloc h _
theorem litI_size (n : Nat) (w : World) : (litI n w).heap.size = w.heap.size + 1 := by simp [litI]

section
attribute [local go_sem ↓] mkI_shut
set_option maxRecDepth 10000 in
set_option maxHeartbeats 2000000 in
theorem crefnew_any (n : Nat) (h1 : 32 ≤ n) (h2 : n ≤ 2048) (w : World) :
    Calls Try.prog 11 #[.int .i64 (n : Int)] w fun e w' => ∃ p, e = .returned (.tuple #[.pointer (some ⟨p, 0, none⟩), .int .i64 0]) ∧ RC w' p (fun k => w.heap.size ≤ k) (Ct.zero n) ∧ Below w.heap.size w w' := by
  have e1 : ¬ (n : Int) < 32 := by omega
  have e2 : ¬ (2048 : Int) < (n : Int) := by omega
  have hn : n ≤ 1000000 := by omega
  have q1 := run_mkI n hn w.drew
  have q2 := run_mkI n hn (litI n w.drew)
  rw [litI_size] at q2
  have z0 : w.drew.heap.size = w.heap.size := rfl
  rw [z0] at q1 q2
  go_enter Try.func11, Try.ntmps11
  go_wp2_with fail
  go_region
  all_goals (
    have r2 : NRow (litI n (litI n w.drew)) (w.heap.size + 1) n n (List.replicate n 0) := by
      have := litI_new n hn (litI n w.drew)
      rw [litI_size, z0] at this
      exact this
    have r1 : NRow (litI n (litI n w.drew)) w.heap.size n n (List.replicate n 0) := by
      have h := litI_new n hn w.drew
      rw [z0] at h
      exact h.keep (heap_alloc_old (litI n w.drew) _ (by rw [litI_size, z0]; omega))
    have bW : Below w.heap.size w (litI n (litI n w.drew)) := ((Below.refl _ _).drew.trans (litI_below n _ _ (Nat.le_refl _))).trans (litI_below n _ _ (by rw [litI_size, z0]; omega))
    have zW : (litI n (litI n w.drew)).heap.size = w.heap.size + 2 := by rw [litI_size, litI_size, z0]
    clear q1 q2
    generalize litI n (litI n w.drew) = W at r1 r2 bW zW ⊢
    go_wp2_with fail
    go_ret2
    rw [zW]
    refine ⟨w.heap.size + 2, rfl, ?_, bW.alloc bW.size _⟩
    have hm := (Ct.zero_n n).symm
    first
      | exact ⟨w.heap.size, n, w.heap.size + 1, n, _, by rw [Ct.zero_n, ← zW]; exact heap_alloc_new W _, by rw [Ct.zero_n]; exact r1.keep (heap_alloc_old W _ r1.lt), by rw [Ct.zero_n]; exact r2.keep (heap_alloc_old W _ r2.lt), ⟨by omega, by omega, by omega⟩, ⟨by dsimp only; omega, by dsimp only; omega, by dsimp only; omega⟩, Ct.zero_ok h1 h2⟩
      | exact ⟨w.heap.size + 1, n, w.heap.size, n, _, by rw [Ct.zero_n, ← zW]; exact heap_alloc_new W _, by rw [Ct.zero_n]; exact r2.keep (heap_alloc_old W _ r2.lt), by rw [Ct.zero_n]; exact r1.keep (heap_alloc_old W _ r1.lt), ⟨by omega, by omega, by omega⟩, ⟨by dsimp only; omega, by dsimp only; omega, by dsimp only; omega⟩, Ct.zero_ok h1 h2⟩
      | fail)
end
end Go.Proofs.Ytancpkdkfemgfaa
