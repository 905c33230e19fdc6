/- Words for the laws over many calls: pairs' cells, and a round that writes. -/
import Derived.Test.YtbikmnjagfkajaaDrvS
import Derived.Test.YtbikmnjagfkajaaLaw3
namespace Go.Proofs.Ytbikmnjagfkajaa
open Go Go.RowKit Go.Proofs

theorem run_index_pair (w : World) (g o n c j : Nat) (hj : j < n) : (Instr.indexAt 50 (.slice (some ⟨g, o, none⟩) n c) (.int .i64 (j : Int))).run Try.prog w = .ok (.pointer (some ⟨g, o + j * 2, none⟩)) w := by
  have hz : (sizeOf 52).run Try.prog w = .ok 2 w := by
    have h : (Try.prog.info? 52).map (fun i => i.size) = some 2 := by kernel_rfl
    obtain ⟨i, hi, hs⟩ := Option.map_eq_some_iff.1 h
    simp [sizeOf, typeInfo, hi, hs]
  have ha : (⟨g, o, none⟩ : Addr).add (j * 2) = ⟨g, o + j * 2, none⟩ := Addr.add_mid g o (j * 2)
  simp [Instr.indexAt, asIntOf, run_underlying Try.underlying50, hz, hj, ha]
/-- The k-th pair. -/
theorem Pairs.at_ {w : World} {A : Option Addr} {n c : Nat} {ps : List (Int × Int)} (h : Pairs w A n c ps) {k : Nat} (hk : k < n) :
    ∃ g o x, ps[k]? = some x ∧ A = some ⟨g, o, none⟩ ∧ g < w.heap.size ∧ w.cell? ⟨g, o + k * 2, none⟩ = some (.int .i64 x.1) ∧ w.cell? ⟨g, o + k * 2 + 1, none⟩ = some (.int .i64 x.2) ∧ i64 x.1 ∧ i64 x.2 := by
  have hl : k < ps.length := by have := h.1; omega
  obtain ⟨g, o, e, hg, h1, h2⟩ := h.2.2.2.2 k ps[k] (List.getElem?_eq_getElem hl)
  exact ⟨g, o, ps[k], List.getElem?_eq_getElem hl, e, hg, h1, h2, h.2.2.2.1 _ (List.getElem_mem hl)⟩
/-- The drive works: the power is on, no fuse. -/
structure DM.fine (D : DM) : Prop where
  n : D.n = 32
  off : D.off = false
  fused : D.fused = false
theorem DM.fine.stop {D : DM} (h : D.fine) : D.stop = false := by unfold DM.stop; rw [h.off, h.fused]; rfl
theorem fine_mk0 : (DM.mk0 32).fine := ⟨rfl, rfl, rfl⟩
theorem DM.fine.bad {D : DM} (h : D.fine) {s : Nat} (hs : s < 32) {x : List UInt8} (hx : x.length = 256) : D.bad s x = false := by
  unfold DM.bad
  rw [decide_eq_false_iff_not, h.n]
  intro h2
  rcases h2 with h2 | h2
  · exact h2 ⟨by omega, by omega⟩
  · exact h2 hx
theorem DM.fine.write {D : DM} (h : D.fine) {s : Nat} (hs : s < 32) {x : List UInt8} (hx : x.length = 256) :
    D.writeE s x = 0 ∧ D.writeD s x = { D with steps := D.steps + 1, cac := upd D.cac s (D.cac s ++ [x]) } := by
  have hb := h.bad hs hx
  have hst := h.stop
  unfold DM.writeE DM.writeD DM.err
  rw [hb, hst]
  refine ⟨rfl, ?_⟩
  simp only [Bool.false_eq_true, if_false, Int.toNat_natCast]
  unfold DM.stepD
  rw [hst, h.off, h.fused]
  simp
theorem DM.fine.writeD {D : DM} (h : D.fine) {s : Nat} (hs : s < 32) {x : List UInt8} (hx : x.length = 256) : (D.writeD s x).fine := by
  rw [(h.write hs hx).2]; exact ⟨h.n, h.off, h.fused⟩
theorem DM.fine.flush {D : DM} (h : D.fine) : D.err = 0 ∧ D.flushD = { D with steps := D.steps + 1, dur := D.newest, cac := fun _ => [] } := by
  have hst := h.stop
  unfold DM.flushD DM.err
  rw [hst]
  refine ⟨rfl, ?_⟩
  simp only [Bool.false_eq_true, if_false]
  unfold DM.flush DM.stepD
  rw [hst, h.off, h.fused]
  simp
  rfl
theorem DM.fine.read {D : DM} (h : D.fine) {s : Nat} (hs : s < 32) : D.readE s = 0 ∧ D.readL s = D.newest s := by
  unfold DM.readE DM.readL
  have hc : 0 ≤ (s : Int) ∧ (s : Int) < ((32 : Nat) : Int) := ⟨by omega, by omega⟩
  rw [h.off, h.n, if_neg Bool.false_ne_true, if_neg Bool.false_ne_true, if_pos hc, if_pos hc, Int.toNat_natCast]
  exact ⟨rfl, rfl⟩
theorem newest_write (D : DM) (s : Nat) (x : List UInt8) (k n steps : Nat) (dur : Nat → List UInt8) (off fused : Bool) (left : Nat) (hd : dur = D.dur) : ({ n := n, dur := dur, cac := upd D.cac s (D.cac s ++ [x]), off := off, fused := fused, left := left, steps := steps } : DM).newest k = if k = s then x else D.newest k := by
  subst hd
  unfold DM.newest
  by_cases h : k = s
  · subst h; simp [upd]
  · simp [upd, h]
end Go.Proofs.Ytbikmnjagfkajaa
