/- Counts, plain facts: calls that come in are old; counts stay small; a count that is raised. -/
import Derived.Test.YtancpkdkfemgfaaCtQ
namespace Go.Proofs.Ytancpkdkfemgfaa
open Go Go.RowKit Go.Proofs

theorem CtOps.old {w : World} {A : Option Addr} {n c : Nat} {xs : List (Int × Int)} (h : CtOps w A n c xs) (h0 : 0 < n) : ∀ g o, A = some ⟨g, o, none⟩ → g < w.heap.size := fun g o e => by
  obtain ⟨_, g', o', e', hg, _⟩ := h.2.2.2 0 h0
  rw [e] at e'
  injection e' with e'
  injection e' with e1
  subst e1
  exact hg
/-- No count is above m. -/
def Ct.top (C : Ct) (m : Int) : Prop := ∀ a, a < C.n → nm C.now a ≤ m
theorem Ct.top_more {C : Ct} {m k : Int} (h : C.top m) (hk : m ≤ k) : C.top k := fun a ha => Int.le_trans (h a ha) hk
theorem Ct.top_put {C : Ct} {m : Int} (h : C.top m) (k : Nat) (x : Int) (hx : x ≤ m) : (C.put k x).top m := fun a ha => by
  rw [C.put_n] at ha
  rw [put_now C k x a ha]
  split
  · exact hx
  · exact h a ha
theorem Ct.top_get {C : Ct} {m : Int} (h : C.top m) (h0 : 0 ≤ m) (a : Int) : C.get a ≤ m := by
  unfold Ct.get
  split
  · exact h _ (by omega)
  · exact h0
theorem Ct.top_step {C : Ct} {m : Int} (h : C.top m) (h0 : 0 ≤ m) (k : Nat) (a : Int) : (C.playStep k a).top (m + 1) := by
  have h1 : C.top (m + 1) := Ct.top_more h (by omega)
  have hg := Ct.top_get h h0 a
  unfold Ct.playStep
  split
  · unfold Ct.alloc
    split
    · exact Ct.top_put h1 _ _ (by omega)
    · exact h1
  · split
    · unfold Ct.ref
      split
      · exact Ct.top_put h1 _ _ (by omega)
      · exact h1
    · split
      · unfold Ct.unref
        split
        · exact h1
        · exact Ct.top_put h1 _ _ (by omega)
      · exact h1
theorem Ct.top_playTo {C : Ct} (h : C.top 0) (xs : List (Int × Int)) (i : Nat) : (C.playTo xs i).top (i : Int) := by
  induction i with
  | zero => exact h
  | succ i ih =>
    have := Ct.top_step ih (by omega) (mq (xs.getD i (0, 0)).1 6) (xs.getD i (0, 0)).2
    exact Ct.top_more this (by omega)
theorem Ct.top_zero (n : Nat) : (Ct.zero n).top 0 := fun a ha => by
  rw [Ct.zero_n] at ha
  show nm (List.replicate n 0) a ≤ 0
  unfold nm
  simp [ha]
theorem Ct.top_play (n : Nat) (xs : List (Int × Int)) : ((Ct.zero n).play xs).top 60 :=
  Ct.top_more (Ct.top_playTo (Ct.top_zero n) xs _) (by omega)
theorem Ct.raised {C : Ct} {a : Int} (h0 : C.get a ≠ 0) (h1 : C.get a ≠ 65535) : C.refE a = 0 ∧ (C.ref a).get a = C.get a + 1 := by
  have hE : C.refE a = 0 := by unfold Ct.refE; rw [if_neg h0, if_neg h1]
  refine ⟨hE, ?_⟩
  obtain ⟨i0, i1, i2⟩ := Ct.get_in h0
  have : C.ref a = C.put a.toNat (C.get a + 1) := by unfold Ct.ref; rw [if_pos hE]
  rw [this]
  have e : (C.put a.toNat (C.get a + 1)).get a = nm (C.put a.toNat (C.get a + 1)).now a.toNat := by
    unfold Ct.get
    rw [if_pos ⟨i0, by rw [C.put_n]; exact i1⟩]
  rw [e, put_now C a.toNat _ a.toNat (by omega), if_pos rfl]
theorem Ct.not_raised {C : Ct} {a : Int} (h0 : C.get a = 0) : C.refE a = 1 ∧ C.ref a = C ∧ C.unrefV a = 0 ∧ C.unrefE a = 1 ∧ C.unref a = C ∧ C.fresh a = false := by
  have hE : C.refE a = 1 := by unfold Ct.refE; rw [if_pos h0]
  refine ⟨hE, by unfold Ct.ref; rw [hE, if_neg (by decide)], by unfold Ct.unrefV; rw [if_pos h0], by unfold Ct.unrefE; rw [if_pos h0], by unfold Ct.unref; rw [if_pos h0], by unfold Ct.fresh; rw [if_pos h0]⟩
end Go.Proofs.Ytancpkdkfemgfaa
