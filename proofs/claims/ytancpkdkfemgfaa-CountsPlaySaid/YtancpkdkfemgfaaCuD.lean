/- The code's counts: Commit, Clone, New. -/
import Derived.Test.YtancpkdkfemgfaaCuA
import Derived.Test.YtancpkdkfemgfaaCtE
import Derived.Laws.CopyOwn
import Derived.Deep.RegionHeld3
namespace Go.Proofs.Ytancpkdkfemgfaa
open Go Go.RowKit Go.Proofs

theorem NRow.whole {w : World} {g n c : Nat} {l : List Int} (h : NRow w g n c l) : ∃ cur : Array Value, w.heap[g]? = some (.cells cur 3 (0, 0)) ∧ cur.size = c ∧ cur.toList.take n = l.map cv ∧ n ≤ c ∧ c ≤ maxLen := by
  rcases h.2 with ⟨hv, _⟩ | ⟨g', cap, cur, hv, hb, hg, h1, h2, h3, h4⟩
  · injection hv with e1; cases e1
  · injection hv with e1 e2 e3
    injection e1 with e1
    injection e1 with e1
    subst e1; subst e3
    rw [Nat.mul_one] at h3 h4
    exact ⟨cur, hg, h3, h4, h1, h2⟩
theorem NRow.of_whole {w : World} {g n c : Nat} {l : List Int} (cur : Array Value) (hg : w.heap[g]? = some (.cells cur 3 (0, 0))) (h3 : cur.size = c) (h4 : cur.toList.take n = l.map cv) (hl : l.length = n) (h1 : n ≤ c) (h2 : c ≤ maxLen) : NRow w g n c l :=
  ⟨by rw [List.length_map, hl, Nat.mul_one], .inr ⟨g, c, cur, rfl, Nat.zero_le _, hg, h1, h2, by rw [h3, Nat.mul_one], by rw [Nat.mul_one]; exact h4⟩⟩
/-- copy of all numbers of a row into another one, as a step of a region that draws its order. -/
theorem step_copy_i {w : World} {ops : Array Oper} {o : Oper} {a : Act} {K : Act → World → Prop} {Q : Exit → Act → World → Prop} {E : Prop} (hgd : o.guard = none) (d s : Operand)
    (ho : o.op = .call { callee := .builtin .copy, args := #[d, s], argTypes := #[51, 51] }) (g n c : Nat) (l : List Int) (hr : NRow w g n c l) (hd : a.eval d = .slice (some ⟨g, 0, none⟩) n c)
    (g2 c2 : Nat) (l2 : List Int) (hr2 : NRow w g2 n c2 l2) (hs : a.eval s = .slice (some ⟨g2, 0, none⟩) n c2)
    (hK : ∀ w', NRow w' g n c l2 → (∀ k, k ≠ g → w'.heap[k]? = w.heap[k]?) → (∀ S : Nat → Prop, S g → Turn S w w') → K (a.put o.dst (goInt n)) w') : if Region.wanted o (yielded ops a.tmps) = true then Oper.wp Try.prog o a w K Q else E := by
  rw [if_pos (by simp [Region.wanted, hgd])]
  obtain ⟨i, hi, hz0, hz1, hz2⟩ := info_parts TN.info
  obtain ⟨cur, hg, h3, h4, h1, h2⟩ := hr.whole
  have hl2 := hr2.len
  have hrun := run_copy_row (P := Try.prog) w 51 51 o.type 3 g 0 n c ⟨g2, 0, none⟩ n c2 cur 3 (l2.map cv) TN.sl (by rw [hi]; simp [hz1]) hg (by rw [List.length_map, hl2]; exact (Nat.min_self n).symm) hr2.cells (by rw [List.length_map, hl2, h3]; omega) (cv_one _)
  rw [List.length_map, hl2] at hrun
  unfold Oper.wp
  simp [execOp, ho, resolve, invoke, builtin, hd, hs, hrun, Result.andThen]
  have hh : (w.setRow g (l2.map cv ++ cur.toList.drop n).toArray).heap[g]? = some (.cells (l2.map cv ++ cur.toList.drop n).toArray 3 (0, 0)) := setRow_heap w g _ _ 3 _ hg
  have e : ∀ k, k ≠ g → (w.setRow g (l2.map cv ++ cur.toList.drop n).toArray).heap[k]? = w.heap[k]? := fun k hk => setRow_other w g k _ hk
  have key := hK (w.setRow g (l2.map cv ++ cur.toList.drop n).toArray) (NRow.of_whole _ hh (by rw [List.size_toArray, List.length_append, List.length_map, List.length_drop, hl2, Array.length_toList, h3]; omega) (by rw [List.take_left' (by rw [List.length_map, hl2])]) hl2 h1 h2) e (fun S hS => ⟨rfl, rfl, rfl, by simp [World.setRow], fun k _ hn => e k fun h => hn (h ▸ hS)⟩)
  exact key

set_option maxRecDepth 10000 in
set_option maxHeartbeats 2000000 in
theorem ccommit_any {w : World} {p : Nat} {S : Nat → Prop} {C : Ct} (H : CC w p S C) :
    Calls Try.prog 19 #[.pointer (some ⟨p, 0, none⟩)] w fun e w' => e = .returned (.tuple #[]) ∧ CC w' p S C.commit ∧ Turn S w w' := by
  obtain ⟨g, cg, b, cb, t, h1, h2, h3, h4, h5, h6⟩ := H
  have c0 : w.drew.cell? ⟨p, 0, none⟩ = some (.slice (some ⟨g, 0, none⟩) C.n cg) := by rw [cell_of_row w.drew _ _ _ _ _ h1]; rfl
  have c1 : w.drew.cell? ⟨p, 1, none⟩ = some (.slice (some ⟨b, 0, none⟩) C.n cb) := by rw [cell_of_row w.drew _ _ _ _ _ h1]; rfl
  have h2' : NRow w.drew g C.n cg C.now := h2
  have h3' : NRow w.drew b C.n cb C.done := h3
  go_enter Try.func19, Try.ntmps19
  go_wp2_with fail
  go_region_held3 (fun w' => w'.cell? ⟨p, 0, none⟩ = some (.slice (some ⟨g, 0, none⟩) C.n cg) ∧ w'.cell? ⟨p, 1, none⟩ = some (.slice (some ⟨b, 0, none⟩) C.n cb))
    (first | assumption | exact ⟨c0, c1⟩ | exact d01)
    (first
      | (refine step_copy_i rfl (.tmp 5) (.tmp 9) rfl b C.n cb C.done h3' rfl g cg C.now h2' rfl ?_; intro w5 r5 e5 T5; have d01 : w5.cell? ⟨p, 0, none⟩ = some (.slice (some ⟨g, 0, none⟩) C.n cg) ∧ w5.cell? ⟨p, 1, none⟩ = some (.slice (some ⟨b, 0, none⟩) C.n cb) := ⟨(World.cell?_of_block (a := ⟨p, 0, none⟩) (e5 p h4.2.2)).trans c0, (World.cell?_of_block (a := ⟨p, 1, none⟩) (e5 p h4.2.2)).trans c1⟩)
      | fail)
  all_goals (
    go_end0
    refine ⟨rfl, ⟨g, cg, b, cb, t, (e5 p h4.2.2).trans h1, h2.keep (e5 g h4.1), r5, h4, h5, Ct.commit_ok h6⟩, ?_⟩
    have T := T5 S h5.2.2
    exact (Turn.refl S w).drew.then T)
end Go.Proofs.Ytancpkdkfemgfaa
