/- A region that draws its order, whose first operations read, or call what hands back a plain value and leaves all that was there, and whose last ones follow one another: walked once. -/
import Derived.Test.YtimlhhemfipooaaGrown
import Derived.StillTail
namespace Go.Proofs.Ytimlhhemfipooaa
open Go Go.RowKit Go.Proofs

section
variable {P : Program} {ops : Array Oper} {C : World → Prop} {n : Nat}
/-- In whatever order the first f operations come up (all of them among the first n), L holds of what is listed then, and of the frame. -/
def HeadAll (P : Program) (ops : Array Oper) (C : World → Prop) (n : Nat) (L : Array Bool → Act → Prop) : Nat → Array Bool → Act → Prop
  | 0, s, a => L s a
  | f + 1, s, a => Region.ready .any ops s ≠ [] ∧ ∀ i, i ∈ Region.ready .any ops s → i < n ∧ qOp P ops C i (fun a' => HeadAll P ops C n L f (s.setIfInBounds i true) a') a
variable {L : Array Bool → Act → Prop}
theorem HeadAll.run {g : Nat} {Q : Exit → Act → World → Prop} (hL : ∀ s a w, C w → L s a → wpAny P .any ops Q g s a w) (f : Nat) : ∀ {s : Array Bool} {a : Act} {w : World}, C w → HeadAll P ops C n L f s a → wpAny P .any ops Q (f + g) s a w := by
  induction f with
  | zero => intro s a w hw h; rw [Nat.zero_add]; exact hL s a w hw h
  | succ f ih =>
    intro s a w hw h
    obtain ⟨h1, h2⟩ := h
    have e : f + 1 + g = f + g + 1 := by omega
    rw [e]
    refine ⟨fun e0 => absurd e0 h1, fun i hi => ?_⟩
    exact wpOp_of_qOp hw (fun a' w' hw' h' => ih hw' h') (h2 i hi).2
/-- An operation of the head that may come up, and gives its value in every world, is as good as the first. -/
theorem HeadAll.first {i : Nat} {o : Oper} {v : Value} (ho : ops[i]? = some o) (hsel : ∀ (j : Nat) (x : Oper) cs b, ops[j]? = some x → x.op ≠ .select cs b) (hs : Region.sinkB .any ops n = true) (hc : Region.chainB .any ops n = true)
    (hn : n < ops.size) (hin : i < n) (hend : ∀ s a, L s a → ∀ j, j ∈ Region.ready .any ops s → n ≤ j) (f : Nat) : ∀ {s : Array Bool} {a : Act}, HeadInv .any ops n s →
      (∀ j x, ops[j]? = some x → j ≠ i → s.getD j true = false → (∀ e ∈ x.after, Region.binds .any e = true → e.on ≠ i) → o.apart ops x = true) → i ∈ Region.ready .any ops s → YieldsIn P ops C o v a →
      HeadAll P ops C n L f (s.setIfInBounds i true) (a.put o.dst v) → HeadAll P ops C n L (f + 1) s a := by
  induction f with
  | zero =>
    intro s a inv hap hr hy H
    refine ⟨List.ne_nil_of_mem hr, fun j hj => ?_⟩
    have hlt : j < n := Classical.byContradiction fun h => tail_waits hs hc hn inv _ i rfl hin (mem_ready.1 hr).1 j (by omega) hj
    by_cases e : j = i
    · subst e; exact ⟨hlt, hy.qOp ho H⟩
    · have := hend _ _ H j (ready_mono hj e)
      omega
  | succ f ih =>
    intro s a inv hap hr hy H
    refine ⟨List.ne_nil_of_mem hr, fun j hj => ?_⟩
    have hun := (mem_ready.1 hr).1
    have hlt : j < n := Classical.byContradiction fun h => tail_waits hs hc hn inv _ i rfl hin hun j (by omega) hj
    by_cases e : j = i
    · subst e; exact ⟨hlt, hy.qOp ho H⟩
    · refine ⟨hlt, ?_⟩
      obtain ⟨jun, x, hx, hw⟩ := mem_ready.1 hj
      have hno : ∀ e ∈ x.after, Region.binds .any e = true → e.on ≠ i := fun e' he hb h => by
        have h1 := hw e' he hb
        rw [h, getD_both hun] at h1
        cases h1
      have hq := qOp_put hx (hap j x hx e jun hno) (fun cs b => hsel i o cs b ho) (fun cs b => hsel j x cs b hx) hy (H.2 j (ready_mono hj e)).2
      refine qOp_mono (fun a' ha' => ?_) hq
      refine ih (inv.set hj hlt) (fun k y hk hki hku hkn => hap k y hk hki ?_ hkn) (ready_mono hr (Ne.symm e)) ha'.1 ?_
      · by_cases hjk : j = k
        · subst hjk; exact jun
        · rwa [getD_set_ne true hjk] at hku
      · rw [Array.setIfInBounds_comm _ _ e]
        exact ha'.2
theorem HeadAll.lex {g : Nat} {R : Act → Prop} (hsel : Region.noSelect ops = true) (hs : Region.sinkB .any ops n = true) (hc : Region.chainB .any ops n = true) (hn : n < ops.size) :
    ∀ (l : List Oper) (k : Nat) {s : Array Bool} {a : Act}, (∀ j, j < l.length → l[j]? = ops[k + j]?) → k + l.length = n → HeadInv .any ops n s → Region.lexHead .any ops g l.length k s = true →
      wpQuiet P ops C R l a → HeadAll P ops C n (fun s' a' => Region.seqB .any ops g n s' = true ∧ R a') l.length s a := by
  intro l
  induction l with
  | nil =>
    intro k s a _ hk _ hB h
    obtain rfl : k = n := by simpa using hk
    exact ⟨by simpa [Region.lexHead] using hB, h⟩
  | cons o l ih =>
    intro k s a hl hk inv hB h
    rw [List.length_cons] at hk hB
    have h0 : ops[k]? = some o := by simpa using (hl 0 (Nat.succ_pos _)).symm
    have hkn : k < n := by omega
    simp only [Region.lexHead, Bool.and_eq_true] at hB
    have hr : k ∈ Region.ready .any ops s := by simpa using hB.1.1
    obtain ⟨v, hy, hK⟩ := yieldsIn_of_qOp (K := fun a => wpQuiet P ops C R l a) h0 (by unfold qOp; rw [h0]; exact h)
    refine HeadAll.first h0 (Region.noSelect_spec hsel) hs hc hn hkn (fun s' a' hL => seqB_ready hL.1) l.length inv (Region.free_spec h0 hB.1.2) hr hy ?_
    exact ih (k + 1) (fun j hj => by have := hl (j + 1) (by simpa using hj); rw [List.getElem?_cons_succ] at this; rw [this]; congr 1; omega) (by omega) (inv.set hr hkn) hB.2 hK
end
/-- The region: its first m operations, then the others. -/
theorem wp_region_tail {P : Program} {id : Nat} {Q : Exit → Act → World → Prop} {a : Act} {w : World} {l : List Oper} (m : Nat) (hm : P.follows .mixedOrders = true) (hB : Region.lexTailB .any l.toArray m = true)
    (h : wpQuiet P l.toArray (fun w' => ∃ u : Grown w, w' = u.to) (fun a' => ∀ w', (∃ u : Grown w, w' = u.to) → wpList P l.toArray Q (l.drop m) a' w') (l.take m) a) : (Code.region id l.toArray true).wp P Q a w := by
  simp only [Region.lexTailB, Bool.and_eq_true, decide_eq_true_eq] at hB
  obtain ⟨⟨⟨⟨b1, b2⟩, b3⟩, b4⟩, b5⟩ := hB
  have hml : m < l.length := by simpa using b2
  have ht : (l.take m).length = m := by rw [List.length_take]; omega
  have hd : (l.drop m).length = l.toArray.size - m := by simp
  have i0 : HeadInv .any l.toArray m (Array.replicate l.toArray.size false) :=
    ⟨by simp, fun j x _ hl => (by rw [getD_replicate_false] at hl; cases hl), fun t _ ht => getD_in (by simpa using ht) (getD_replicate_false _ _)⟩
  have H := HeadAll.lex (P := P) (C := fun w' => ∃ u : Grown w, w' = u.to) (g := l.toArray.size - m) b1 b3 b4 b2 (l.take m) 0 (fun j hj => by rw [ht] at hj; simp [hj]) (by omega) i0 (by rw [ht]; exact b5) h
  refine wp_region_any hm ?_
  have := HeadAll.run (n := m) (Q := Q) (g := l.toArray.size - m) (fun s a' w' hw hL => by
    have := wpAny_of_seq (md := .any) (Q' := Q) (l.drop m) m s a' w' (fun j => by simp [List.getElem?_drop]) (by rw [hd]; exact hL.1) (hL.2 w' hw)
    rwa [hd] at this) _ (w := { w with drawn := w.drawn + 1 }) ⟨⟨_, (Below.refl _ w).drew⟩, rfl⟩ H
  have e : (l.take m).length + (l.toArray.size - m) = l.toArray.size := by rw [ht]; simp; omega
  rw [e] at this
  exact this
end Go.Proofs.Ytimlhhemfipooaa
