/- Counts, plain facts: what calls keep. -/
import Derived.Test.YtancpkdkfemgfaaCtP
import Derived.Test.YtancpkdkfemgfaaCtK
namespace Go.Proofs.Ytancpkdkfemgfaa
open Go Go.RowKit Go.Proofs

theorem Ct.first_of_n {C D : Ct} (h : D.n = C.n) : D.first = C.first := by unfold Ct.first; rw [h]
theorem Ct.put_res {C : Ct} (h : C.res) {k : Nat} (x : Int) (hk : C.first ≤ k) : (C.put k x).res := fun a ha hf => by
  rw [C.put_n] at ha
  rw [Ct.first_of_n (C.put_n k x)] at hf
  rw [put_now C k x a ha, if_neg (by omega)]
  exact h a ha hf
theorem Ct.get_res {C : Ct} (h : C.res) {a : Int} (hg : ¬ C.get a = 0) : 0 ≤ a ∧ a < (C.n : Int) ∧ C.first ≤ a.toNat := by
  obtain ⟨h1, h2, h3⟩ := Ct.get_in hg
  refine ⟨h1, h2, ?_⟩
  rcases Nat.lt_or_ge a.toNat C.first with h4 | h4
  · exact absurd (h3.trans (h a.toNat (by omega) h4)) hg
  · exact h4
theorem Ct.pick_in {C : Ct} {k : Nat} (h : C.pick = some k) : k < C.n ∧ C.first ≤ k ∧ nm C.now k = 0 ∧ nm C.done k = 0 ∧ ∀ j, j < k → C.may j = false := by
  unfold Ct.pick at h
  rw [List.find?_range_eq_some] at h
  obtain ⟨h1, h2, h3⟩ := h
  unfold Ct.may Ct.isFree at h1
  rw [Bool.and_eq_true, decide_eq_true_iff, decide_eq_true_iff] at h1
  exact ⟨List.mem_range.1 h2, h1.1, h1.2.1, h1.2.2, fun j hj => by have := h3 j hj; simpa using this⟩
theorem Ct.pick_not {C : Ct} (h : C.pick = none) : ∀ j, j < C.n → C.may j = false := fun j hj => by
  unfold Ct.pick at h
  rw [List.find?_eq_none] at h
  have := h j (List.mem_range.2 hj)
  simpa using this
theorem Ct.pick_none_free {C : Ct} (h : C.pick = none) : C.free = 0 := by
  unfold Ct.free Ct.freeTo
  rw [List.countP_eq_zero]
  intro j hj
  rw [Ct.pick_not h j (List.mem_range.1 hj)]
  simp
theorem Ct.alloc_n (C : Ct) : C.alloc.n = C.n := by unfold Ct.alloc; split; exact C.put_n _ _; rfl
theorem Ct.ref_n (C : Ct) (a : Int) : (C.ref a).n = C.n := by unfold Ct.ref; split; exact C.put_n _ _; rfl
theorem Ct.unref_n (C : Ct) (a : Int) : (C.unref a).n = C.n := by unfold Ct.unref; split; rfl; exact C.put_n _ _
theorem Ct.commit_n (C : Ct) : C.commit.n = C.n := rfl
theorem Ct.alloc_ok {C : Ct} (h : C.ok) : C.alloc.ok := by unfold Ct.alloc; split; exact Ct.put_ok h _ _ (by omega) (by omega); exact h
theorem Ct.alloc_res {C : Ct} (h : C.res) : C.alloc.res := by
  unfold Ct.alloc
  split
  · rename_i k hk
    exact Ct.put_res h _ (Ct.pick_in hk).2.1
  · exact h
theorem Ct.ref_res {C : Ct} (h : C.res) (a : Int) : (C.ref a).res := by
  unfold Ct.ref
  split
  · rename_i hE
    have hg : ¬ C.get a = 0 := fun e => by unfold Ct.refE at hE; rw [if_pos e] at hE; omega
    exact Ct.put_res h _ (Ct.get_res h hg).2.2
  · exact h
theorem Ct.unref_res {C : Ct} (h : C.res) (a : Int) : (C.unref a).res := by
  unfold Ct.unref
  split
  · exact h
  · rename_i hg
    exact Ct.put_res h _ (Ct.get_res h hg).2.2
theorem Ct.commit_res {C : Ct} (h : C.res) : C.commit.res := h
theorem Ct.ref_ok' {C : Ct} (h : C.ok) (a : Int) : (C.ref a).ok := by
  unfold Ct.ref
  split
  · rename_i hE
    have hb := C.get_bounds h a
    refine Ct.put_ok h _ _ (by omega) ?_
    unfold Ct.refE at hE
    split at hE
    · omega
    · split at hE <;> omega
  · exact h
theorem Ct.unref_ok' {C : Ct} (h : C.ok) (a : Int) : (C.unref a).ok := by
  unfold Ct.unref
  split
  · exact h
  · have hb := C.get_bounds h a
    exact Ct.put_ok h _ _ (by omega) (by omega)
theorem Ct.zero_res (n : Nat) : (Ct.zero n).res := fun a ha _ => by
  rw [Ct.zero_n] at ha
  show nm (List.replicate n 0) a = 0
  unfold nm
  simp [ha]
theorem Ct.step_keeps {C : Ct} (h : C.ok) (hr : C.res) (k : Nat) (a : Int) : (C.playStep k a).ok ∧ (C.playStep k a).res ∧ (C.playStep k a).n = C.n := by
  unfold Ct.playStep
  split
  · exact ⟨Ct.alloc_ok h, Ct.alloc_res hr, C.alloc_n⟩
  · split
    · exact ⟨Ct.ref_ok' h a, Ct.ref_res hr a, C.ref_n a⟩
    · split
      · exact ⟨Ct.unref_ok' h a, Ct.unref_res hr a, C.unref_n a⟩
      · exact ⟨h, hr, rfl⟩
theorem Ct.playTo_keeps {C : Ct} (h : C.ok) (hr : C.res) (xs : List (Int × Int)) (i : Nat) : (C.playTo xs i).ok ∧ (C.playTo xs i).res ∧ (C.playTo xs i).n = C.n := by
  induction i with
  | zero => exact ⟨h, hr, rfl⟩
  | succ i ih =>
    obtain ⟨h1, h2, h3⟩ := Ct.step_keeps ih.1 ih.2.1 (mq (xs.getD i (0, 0)).1 6) (xs.getD i (0, 0)).2
    exact ⟨h1, h2, h3.trans ih.2.2⟩
theorem Ct.play_keeps {C : Ct} (h : C.ok) (hr : C.res) (xs : List (Int × Int)) : (C.play xs).ok ∧ (C.play xs).res ∧ (C.play xs).n = C.n := Ct.playTo_keeps h hr xs _
end Go.Proofs.Ytancpkdkfemgfaa
