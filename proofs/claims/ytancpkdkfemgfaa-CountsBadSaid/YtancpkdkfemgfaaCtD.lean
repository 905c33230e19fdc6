/- The reference's counts: Commit; noughts. -/
import Derived.Test.YtancpkdkfemgfaaCtC
import Derived.Maps.AppendAt
namespace Go.Proofs.Ytancpkdkfemgfaa
open Go Go.RowKit Go.Proofs

/-- t is the type of slices of ints e. -/
structure NumT (P : Program) (t e : TypeId) : Prop where
  sl : P.underlying t = some (.slice e)
  info : (P.info? e).map (fun i => (i.zero, i.size, i.bytes)) = some (some (.int .i64 0), 1, 8)
theorem TN : NumT Try.prog 51 3 := ⟨Try.underlying51, by kernel_rfl⟩
section
variable {P : Program} {t e : TypeId} (w : World)
/-- append of some numbers onto an empty literal: a new row. -/
theorem run_append_lit_i (T : NumT P t e) (ty : TypeId) (g : Nat) (ad : Addr) (m d : Nat) (l2 : List Int) (hl : l2.length = m) (hcells : ∀ (j : Nat) u, (l2.map cv)[j]? = some u → w.cell? (ad.add j) = some u) (h0 : 0 < m) (hm : m ≤ 1000000) :
    ∃ c' w', (Builtin.append_ #[t, t] ty #[.slice (some ⟨g, 0, none⟩) 0 0, .slice (some ad) m d]).run P w = .ok (.slice (some ⟨w.heap.size, 0, none⟩) m c') w' ∧ w'.ownsRow w.heap.size e 1 (.slice (some ⟨w.heap.size, 0, none⟩) m c') m (l2.map cv) ∧ Below w.heap.size w w' := by
  obtain ⟨i, hi, hz0, hz1, hz2⟩ := info_parts T.info
  have hl2 : (l2.map cv).length = m := by simpa using hl
  have hrun := run_append_grow (P := P) w t ty e i _ T.sl hi hz0 ⟨g, 0, none⟩ 0 0 [] (by simp) (by simp) ad m d (l2.map cv) (by rw [hz1, hl2]; omega) hcells (by omega) (by omega) (growslice_fits (by omega) (by rw [hz2]; omega))
  rw [Nat.zero_add] at hrun
  have hge := grownCap_ge w m 0 e
  refine ⟨_, _, hrun, ⟨by rw [hl2]; omega, .inr ⟨w.heap.size, _, _, rfl, Nat.le_refl _, heap_alloc_new w.drew _, hge, grownCap_le_maxLen w m 0 e (by unfold maxLen; omega), ?_, ?_⟩⟩, (Below.refl _ _).drew.alloc (Nat.le_refl _) _⟩
  · simp only [Array.size_append, List.size_toArray, size_zeroCells, List.length_nil, hl2, show (Value.int .i64 0).cells.size = 1 from rfl]
    omega
  · simp only [Array.toList_append, List.nil_append]
    rw [List.take_append_of_le_length (by simp; omega)]
    simp [List.take_of_length_le, hl]
theorem wp_append_lit_i (T : NumT P t e) {ops : Array Oper} {rest : List Oper} {o : Oper} {a : Act} {Q : Exit → Act → World → Prop} (hgd : o.guard = none) (s x : Operand)
    (ho : o.op = .call { callee := .builtin .append, args := #[s, x], argTypes := #[t, t] }) (g : Nat) (hs : a.eval s = .slice (some ⟨g, 0, none⟩) 0 0) (ad : Addr) (m d : Nat) (hx : a.eval x = .slice (some ad) m d)
    (l2 : List Int) (hl : l2.length = m) (hcells : ∀ (j : Nat) u, (l2.map cv)[j]? = some u → w.cell? (ad.add j) = some u) (h0 : 0 < m) (hm : m ≤ 1000000)
    (h : ∀ c' w', w'.ownsRow w.heap.size e 1 (.slice (some ⟨w.heap.size, 0, none⟩) m c') m (l2.map cv) → Below w.heap.size w w' → wpList P ops Q rest (a.put o.dst (.slice (some ⟨w.heap.size, 0, none⟩) m c')) w') : wpList P ops Q (o :: rest) a w :=
  wpList_plain hgd fun K hK => by
    obtain ⟨c', w', hrun, h2, h3⟩ := run_append_lit_i (P := P) w T o.type g ad m d l2 hl hcells h0 hm
    unfold Oper.wp execOp
    simp only [ho, resolve, invoke, builtin, Sem.run_bind, Sem.run_pure, Result.andThen_ok, List.map_toArray, List.map_cons, List.map_nil, hs, hx, hrun]
    exact hK _ _ (h c' w' h2 h3)
end
theorem NRow.cells {w : World} {g n c : Nat} {l : List Int} (h : NRow w g n c l) : ∀ (j : Nat) u, (l.map cv)[j]? = some u → w.cell? ((⟨g, 0, none⟩ : Addr).add j) = some u := fun j u hu => by
  have hj : j < n := by have := (List.getElem?_eq_some_iff.1 hu).1; rw [List.length_map, h.len] at this; exact this
  rw [Addr.add_mid, Nat.zero_add, World.ownsRow.cellAt h j (by omega), hu]

set_option maxRecDepth 10000 in
set_option maxHeartbeats 2000000 in
theorem crefcommit_any {w : World} {p : Nat} {S : Nat → Prop} {C : Ct} (H : RC w p S C) :
    Calls Try.prog 20 #[.pointer (some ⟨p, 0, none⟩)] w fun e w' => e = .returned (.tuple #[]) ∧ RC w' p (fun k => S k ∨ w.heap.size ≤ k) C.commit ∧ Turn S w w' := by
  obtain ⟨g, cg, b, cb, t, h1, h2, h3, h4, h5, h6⟩ := H
  have hok := h6.1
  have hp : p < w.heap.size := (Array.getElem?_eq_some_iff.1 h1).1
  have b1 : Below w.heap.size w (w.alloc (.cells #[] 3)) := (Below.refl _ _).alloc (Nat.le_refl _) _
  have h1' := (b1.block p hp).trans h1
  have h2' : NRow (w.alloc (.cells #[] 3)) g C.n cg C.now := h2.keep (b1.block g h2.lt)
  have c0 : (w.alloc (.cells #[] 3)).cell? ⟨p, 0, none⟩ = some (.slice (some ⟨g, 0, none⟩) C.n cg) := by rw [cell_of_row _ _ _ _ _ _ h1']; rfl
  have k1 := h2.cap
  unfold maxLen at k1
  go_enter Try.func20, Try.ntmps20
  go_wp2_with (first
    | (at_builtin; refine wp_append_lit_i _ TN rfl _ _ rfl w.heap.size rfl ⟨g, 0, none⟩ C.n cg rfl C.now h2'.len h2'.cells (by omega) (by omega) ?_; intro c3 w3 own3 hb3; have b3 := b1.trans (hb3.mono b1.size); have h13 := (b3.block p hp).trans h1; have d0 : w3.cell? ⟨p, 1, none⟩ = some (.slice (some ⟨b, 0, none⟩) C.n cb) := (by rw [cell_of_row _ _ _ _ _ _ h13]; rfl); have f0 : w3.frozen? ⟨p, 1, none⟩ = false := (by unfold World.frozen?; rw [h13]; simp))
    | fail)
  go_end0
  have z1 : (w.alloc (.cells #[] 3)).heap.size = w.heap.size + 1 := by simp
  rw [z1] at own3
  have hz3 := b3.size
  have hrow : NRow w3 (w.heap.size + 1) C.n c3 C.now := owns_base own3 (Nat.zero_le _)
  have hnl := hrow.lt
  have e4 : ∀ j, j ≠ p → (w3.setCell ⟨p, 1, none⟩ (.slice (some ⟨w.heap.size + 1, 0, none⟩) C.n c3)).heap[j]? = w3.heap[j]? := fun j hj => Below.heap_setCell _ _ _ _ (by show j ≠ p; exact hj)
  have h14 := heap_setCell_same w3 p 1 _ t (.slice (some ⟨w.heap.size + 1, 0, none⟩) C.n c3) h13
  refine ⟨rfl, ⟨g, cg, w.heap.size + 1, c3, t, h14, ?_, ?_, ⟨by have := h2.lt; omega, h4.2.1, by omega⟩, ⟨.inl h5.1, .inl h5.2.1, .inr (by omega)⟩, Ct.commit_ok h6⟩, ?_⟩
  · exact (h2.keep (b3.block g h2.lt)).keep (e4 g (Ne.symm h4.2.1))
  · exact hrow.keep (e4 _ (by omega))
  · exact (turn_below b3).then (turn_setCell (a := ⟨p, 1, none⟩) _ h5.1)

/-- Counts of n sectors, all noughts. -/
def Ct.zero (n : Nat) : Ct := ⟨List.replicate n 0, List.replicate n 0, rfl⟩
theorem Ct.zero_n (n : Nat) : (Ct.zero n).n = n := List.length_replicate
theorem Ct.zero_ok {n : Nat} (h1 : 32 ≤ n) (h2 : n ≤ 2048) : (Ct.zero n).ok := by
  refine ⟨by rw [Ct.zero_n]; exact ⟨h1, h2⟩, fun k hk => ?_⟩
  rw [Ct.zero_n] at hk
  show 0 ≤ nm (List.replicate n 0) k ∧ nm (List.replicate n 0) k ≤ 65535
  unfold nm
  simp [hk]
section
variable {P : Program} {t e : TypeId} (w : World)
theorem madeNums (n : Nat) : (madeCells (Value.int .i64 0).cells (n * 1)).toList = (List.replicate n (0 : Int)).map cv := by
  rw [show (Value.int .i64 0).cells = #[.int .i64 0] from rfl, Nat.mul_one, toList_madeCells_one]
  simp [cv]
/-- make of n noughts, in a region that draws. -/
theorem step_make_i (T : NumT P t e) {ops : Array Oper} {o : Oper} {a : Act} {K : Act → World → Prop} {Q : Exit → Act → World → Prop} {E : Prop}
    (hg : o.guard = none) (l c : Operand) (hop : o.op = Op.makeSlice t l c) (kl kc : IntKind) (n : Nat) (hl : a.eval l = .int kl (n : Int)) (hc : a.eval c = .int kc (n : Int)) (b2 : n ≤ 1000000)
    (hK : ∀ w', w'.ownsRow w.heap.size e 1 (.slice (some ⟨w.heap.size, 0, none⟩) n n) n ((List.replicate n 0).map cv) → Below w.heap.size w w' → w.heap.size < w'.heap.size → K (a.put o.dst (.slice (some ⟨w.heap.size, 0, none⟩) n n)) w') :
    if Region.wanted o (yielded ops a.tmps) = true then Oper.wp P o a w K Q else E := by
  rw [if_pos (by simp [Region.wanted, hg])]
  obtain ⟨i, hi, hz0, hz1, hz2⟩ := info_parts T.info
  obtain ⟨w', hrun, r1, r2⟩ := run_make_full (P := P) w w.heap.size t e i _ 1 T.sl hi hz0 hz1 kl kc n (by rw [hz2]; omega) (by unfold maxLen; omega) (Nat.le_refl _)
  rw [madeNums] at r1
  have hlt : w.heap.size < w'.heap.size := by
    rcases r1.2 with ⟨hv, _⟩ | ⟨g', cap, cur, hv, _, hgg, _⟩
    · injection hv with e1; cases e1
    · injection hv with e1
      injection e1 with e1
      injection e1 with e1
      rw [e1]
      exact (Array.getElem?_eq_some_iff.1 hgg).1
  unfold Oper.wp
  simp [execOp, hop, hl, hc, hrun, Result.andThen]
  exact hK w' r1 ((Below.refl _ _).grown r2 (Nat.le_refl _) (by simp)) hlt
end
end Go.Proofs.Ytancpkdkfemgfaa
