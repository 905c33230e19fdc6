/- Counts: rows of the law's own; copy and make of ints; the relation of CountsSafe. -/
import Derived.Test.YtancpkdkfemgfaaCuM
import Derived.Test.YtancpkdkfemgfaaCuN
namespace Go.Proofs.Ytancpkdkfemgfaa
open Go Go.RowKit Go.Proofs

/-- copy of all numbers of a row into another one. -/
theorem wp_copy_i {w : World} {ops : Array Oper} {rest : List Oper} {o : Oper} {a : Act} {Q : Exit → Act → World → Prop} (hgd : o.guard = none) (d s : Operand)
    (ho : o.op = .call { callee := .builtin .copy, args := #[d, s], argTypes := #[51, 51] }) (g n c : Nat) (l : List Int) (hr : NRow w g n c l) (hd : a.eval d = .slice (some ⟨g, 0, none⟩) n c)
    (g2 c2 : Nat) (l2 : List Int) (hr2 : NRow w g2 n c2 l2) (hs : a.eval s = .slice (some ⟨g2, 0, none⟩) n c2)
    (hK : ∀ w', NRow w' g n c l2 → (∀ k, k ≠ g → w'.heap[k]? = w.heap[k]?) → (∀ S : Nat → Prop, S g → Turn S w w') → wpList Try.prog ops Q rest (a.put o.dst (goInt n)) w') : wpList Try.prog ops Q (o :: rest) a w :=
  wpList_plain hgd fun K hKK => by
    have h := step_copy_i (ops := ops) (K := K) (Q := Q) (E := True) hgd d s ho g n c l hr hd g2 c2 l2 hr2 hs fun w' h1 h2 h3 => hKK _ _ (hK w' h1 h2 h3)
    rwa [if_pos (by simp [Region.wanted, hgd])] at h
/-- make of n ints. -/
theorem wp_make_i {w : World} {ops : Array Oper} {rest : List Oper} {o : Oper} {a : Act} {Q : Exit → Act → World → Prop}
    (hg : o.guard = none) (l c : Operand) (hop : o.op = Op.makeSlice 51 l c) (n : Nat) (hl : a.eval l = .int .i64 (n : Int)) (hc : a.eval c = .int .i64 (n : Int)) (b2 : n ≤ 1000000)
    (hK : ∀ w', NRow w' w.heap.size n n (List.replicate n 0) → Below w.heap.size w w' → wpList Try.prog ops Q rest (a.put o.dst (.slice (some ⟨w.heap.size, 0, none⟩) n n)) w') : wpList Try.prog ops Q (o :: rest) a w :=
  wpList_plain hg fun K hKK => by
    have h := step_make_i (P := Try.prog) (w := w) (ops := ops) (K := K) (Q := Q) (E := True) TN hg l c hop .i64 .i64 n hl hc b2 fun w' h1 h2 h3 => hKK _ _ (hK w' (owns_base h1 (Nat.zero_le _)) h2)
    rwa [if_pos (by simp [Region.wanted, hg])] at h

/-- The law's rows are those of the counts. -/
structure Safe (w0 : World) (p ga gb n : Nat) (S : Nat → Prop) (j : Nat) (C : Ct) (w : World) : Prop where
  cc : CC w p S C
  now : NRow w ga n n C.now
  don : NRow w gb n n C.done
  len : C.n = n
  top : C.top (j : Int)
  below : Below w0.heap.size w0 w
  hS : ∀ k, S k → w0.heap.size ≤ k
  ha : w0.heap.size ≤ ga ∧ ¬ S ga
  hb : w0.heap.size ≤ gb ∧ ¬ S gb
  ne : ga ≠ gb
section
variable {w0 w w' : World} {p ga gb n j j' : Nat} {S : Nat → Prop} {C C' : Ct}
/-- A call of the counts. -/
theorem Safe.call (h : Safe w0 p ga gb n S j C w) (_R : CC w' p S C') (T : Turn S w w') : NRow w' ga n n C.now ∧ NRow w' gb n n C.done ∧ Below w0.heap.size w0 w' :=
  ⟨h.now.keep (T.block ga h.now.lt h.ha.2), h.don.keep (T.block gb h.don.lt h.hb.2), h.below.trans (T.below h.hS h.below.size)⟩
/-- A call of the counts, and what is stored in the law's row. -/
theorem Safe.put (h : Safe w0 p ga gb n S j C w) (b : Nat) (x : Int) (R : CC w' p S (C.put b x)) (T : Turn S w w') (ht : (C.put b x).top (j' : Int)) : Safe w0 p ga gb n S j' (C.put b x) (w'.setCell ⟨ga, b, none⟩ (.int .i64 x)) := by
  obtain ⟨h1, h2, h3⟩ := h.call R T
  have e : ∀ k, k ≠ ga → (w'.setCell ⟨ga, b, none⟩ (.int .i64 x)).heap[k]? = w'.heap[k]? := fun k hk => Below.heap_setCell _ _ _ _ (by show k ≠ ga; exact hk)
  refine ⟨R.keep fun k _ hk => e k fun hh => h.ha.2 (hh ▸ hk), h1.set_ b x, h2.keep (e gb (Ne.symm h.ne)), (C.put_n b x).trans h.len, ht, ?_, h.hS, h.ha, h.hb, h.ne⟩
  exact h3.trans ((turn_setCell (S := fun k => k = ga) (a := ⟨ga, b, none⟩) _ rfl).below (fun k hk => by have := h.ha.1; omega) h3.size)
theorem Safe.drewN (h : Safe w0 p ga gb n S j C w) (k : Nat) : Safe w0 p ga gb n S j C (w.drewN k) := ⟨h.cc, h.now, h.don, h.len, h.top, below_drewN h.below k, h.hS, h.ha, h.hb, h.ne⟩
theorem Safe.same (h : Safe w0 p ga gb n S j C w) (R : CC w' p S C) (T : Turn S w w') (hj : j ≤ j') : Safe w0 p ga gb n S j' C w' := by
  obtain ⟨h1, h2, h3⟩ := h.call R T
  exact ⟨R, h1, h2, h.len, Ct.top_more h.top (by omega), h3, h.hS, h.ha, h.hb, h.ne⟩
/-- All is committed. -/
theorem Safe.commit {w'' : World} (h : Safe w0 p ga gb n S j C w) (R : CC w' p S C.commit) (T : Turn S w w') (hj : j ≤ j') (hr : NRow w'' gb n n C.now) (he : ∀ k, k ≠ gb → w''.heap[k]? = w'.heap[k]?) (ht : ∀ S : Nat → Prop, S gb → Turn S w' w'') : Safe w0 p ga gb n S j' C.commit w'' := by
  obtain ⟨h1, h2, h3⟩ := h.call R T
  exact ⟨R.keep fun k _ hk => he k fun hh => h.hb.2 (hh ▸ hk), h1.keep (he ga h.ne), hr, h.len, Ct.top_more h.top (by omega), h3.trans ((ht (fun k => k = gb) rfl).below (fun k hk => by have := h.hb.1; omega) h3.size), h.hS, h.ha, h.hb, h.ne⟩
end
/-- What calls of one sector answer. -/
theorem Ct.get_at {C : Ct} {b : Nat} (hb : b < C.n) : C.get (b : Int) = nm C.now b := by
  unfold Ct.get
  rw [if_pos ⟨by omega, by omega⟩, Int.toNat_natCast]
theorem Ct.fresh_at {C : Ct} {b : Nat} (hb : b < C.n) {x y : Int} (hx : nm C.now b = x) (hy : nm C.done b = y) : C.fresh (b : Int) = (!decide (x = 0) && decide (y = 0)) := by
  unfold Ct.fresh
  rw [Ct.get_at hb, hx, Int.toNat_natCast, hy]
  by_cases h : x = 0
  · rw [if_pos h, decide_eq_true h]; rfl
  · rw [if_neg h, decide_eq_false h]; rfl
theorem Ct.ref_at {C : Ct} {b : Nat} (hb : b < C.n) {x : Int} (hx : nm C.now b = x) (h0 : x ≠ 0) (h1 : x ≠ 65535) : C.refE (b : Int) = 0 ∧ C.ref (b : Int) = C.put b (x + 1) := by
  have hE : C.refE (b : Int) = 0 := by unfold Ct.refE; rw [Ct.get_at hb, hx, if_neg h0, if_neg h1]
  exact ⟨hE, by unfold Ct.ref; rw [if_pos hE, Ct.get_at hb, hx, Int.toNat_natCast]⟩
theorem Ct.unref_at {C : Ct} {b : Nat} (hb : b < C.n) {x : Int} (hx : nm C.now b = x) (h0 : x ≠ 0) : (C.unrefV (b : Int) = x - 1 ∧ C.unrefE (b : Int) = 0) ∧ C.unref (b : Int) = C.put b (x - 1) :=
  ⟨⟨by unfold Ct.unrefV; rw [Ct.get_at hb, hx, if_neg h0], by unfold Ct.unrefE; rw [Ct.get_at hb, hx, if_neg h0]⟩, by unfold Ct.unref; rw [Ct.get_at hb, hx, if_neg h0, Int.toNat_natCast]⟩
end Go.Proofs.Ytancpkdkfemgfaa
