/- Rows of texts that a call made itself: append onto them, and onto an empty literal (as XBase has it for bytes). -/
import Derived.Test.YtlofgjpnpfgpfaaBase
namespace Go.Proofs.Ytlofgjpnpfgpfaa
open Go Go.RowKit

/-- t is the type of slices of texts e. -/
structure TxtT (P : Program) (t e : TypeId) : Prop where
  sl : P.underlying t = some (.slice e)
  info : (P.info? e).map (fun i => (i.zero, i.size, i.bytes)) = some (some (.string ⟨#[]⟩), 1, 16)
def OwnT (w : World) (base : Nat) (e : TypeId) (A : Option Addr) (n c : Nat) (l : List ByteArray) : Prop := w.ownsRow base e 1 (.slice A n c) n (l.map Value.string)

theorem bv_one_t (l : List ByteArray) : ∀ u ∈ l.map Value.string, u.oneCell' = true := by
  intro u hu
  obtain ⟨_, _, rfl⟩ := List.mem_map.1 hu
  rfl
section
variable {w w' : World} {base n c : Nat} {e : TypeId} {A : Option Addr} {l : List ByteArray}
theorem OwnT.len (h : OwnT w base e A n c l) : l.length = n := by have := h.1; simpa using this
theorem OwnT.sl (h : OwnT w base e A n c l) (hz : ∀ s ∈ l, s.size ≤ maxLen) : StrSl w A n c l := by
  refine ⟨⟨by have := h.len; simpa using this, ?_, ?_, fun j u hu => ?_⟩, hz⟩
  · rcases h.2 with ⟨hv, rfl⟩ | ⟨g, cap, cur, hv, _, _, h1, h2, _⟩
    · omega
    · injection hv with _ _ h3; omega
  · rcases h.2 with ⟨hv, rfl⟩ | ⟨g, cap, cur, hv, _, _, h1, h2, _⟩
    · injection hv with _ _ h3; unfold maxLen; omega
    · injection hv with _ _ h3; omega
  · rcases h.2 with ⟨hv, rfl⟩ | ⟨g, cap, cur, hv, hb, hg, h1, h2, h3, h4⟩
    · have := h.len; have h0 := (List.getElem?_eq_some_iff.1 hu).1; simp at h0; omega
    · have hA : A = some ⟨g, 0, none⟩ := by injection hv
      subst hA
      exact ⟨_, rfl, (Array.getElem?_eq_some_iff.1 hg).1, h.cells (g := g) rfl j u hu⟩
theorem OwnT.block (h : OwnT w base e A n c l) : ∀ ad, A = some ad → base ≤ ad.block ∧ ad.block < w.heap.size := by
  intro ad had; subst had
  exact h.lt ad.block rfl
theorem OwnT.less {b : Nat} (h : OwnT w base e A n c l) (hb : b ≤ base) : OwnT w b e A n c l := by
  refine ⟨h.1, ?_⟩
  rcases h.2 with hv | ⟨g, cap, cur, hv, h1, r⟩
  · exact .inl hv
  · exact .inr ⟨g, cap, cur, hv, Nat.le_trans hb h1, r⟩
theorem OwnT.drew (h : OwnT w base e A n c l) : OwnT w.drew base e A n c l := h
theorem OwnT.below (h : OwnT w base e A n c l) (hb : Below w.heap.size w w') : OwnT w' base e A n c l := by
  refine ⟨h.1, ?_⟩
  rcases h.2 with hv | ⟨g, cap, cur, hv, h1, hg, r⟩
  · exact .inl hv
  · exact .inr ⟨g, cap, cur, hv, h1, (hb.block g (Array.getElem?_eq_some_iff.1 hg).1).trans hg, r⟩
end
section
variable {P : Program} {t e : TypeId} (w : World)
theorem run_append_sl_t (T : TxtT P t e) (ty : TypeId) (base : Nat) (A : Option Addr) (n c : Nat) (l : List ByteArray) (hown : OwnT w base e A n c l)
    (B : Option Addr) (m d : Nat) (l2 : List ByteArray) (hr : StrSl w B m d l2) (hnm : n + m ≤ 1000000) (hbase : base ≤ w.heap.size) :
    ∃ A' c' w', (Builtin.append_ #[t, t] ty #[.slice A n c, .slice B m d]).run P w = .ok (.slice A' (n + m) c') w' ∧ OwnT w' base e A' (n + m) c' (l ++ l2) ∧ Below base w w' ∧
      w.grownBy w' (Value.ownBlock (.slice A n c)) := by
  obtain ⟨i, hi, hz0, hz1, hz2⟩ := info_parts T.info
  have fin : ∀ v' w', (Builtin.append_ #[t, t] ty #[.slice A n c, .slice B m d]).run P w = .ok v' w' → w'.ownsRow base e 1 v' (n + m) (l.map Value.string ++ l2.map Value.string) →
      w.grownBy w' (Value.ownBlock (.slice A n c)) → ∃ A' c' w', (Builtin.append_ #[t, t] ty #[.slice A n c, .slice B m d]).run P w = .ok (.slice A' (n + m) c') w' ∧ OwnT w' base e A' (n + m) c' (l ++ l2) ∧ Below base w w' ∧
      w.grownBy w' (Value.ownBlock (.slice A n c)) := by
    intro v' w' h1 h2 h3
    have hb : Below base w w' := (Below.refl _ _).grown h3 hbase (fun k hk => (hown.lt k hk).1)
    rw [← List.map_append] at h2
    rcases h2.2 with ⟨rfl, h0⟩ | ⟨g, cap, cur, rfl, _⟩
    · exact ⟨none, 0, w', by rw [h1, h0], by unfold OwnT; rw [h0] at h2 ⊢; exact h2, hb, h3⟩
    · exact ⟨_, _, w', h1, h2, hb, h3⟩
  rcases B with _ | ad
  · have hm : m = 0 := by
      rcases Nat.eq_zero_or_pos m with h0 | h0
      · exact h0
      · obtain ⟨ad, h, _⟩ := hr.cell h0
        cases h
    subst hm
    have hn : l2 = [] := List.eq_nil_of_length_eq_zero hr.len
    subst hn
    refine fin (.slice A n c) w ?_ (by rw [Nat.add_zero, List.map_nil, List.append_nil]; exact hown) (World.grownBy.refl w _)
    rcases hown.2 with ⟨hv, rfl⟩ | ⟨g, cap, cur, hv, _, _, hnc, _⟩
    · rw [hv]; simp [Builtin.append_, run_underlying T.sl, sizeOf, typeInfo, hi, Builtin.lenOf, Builtin.firstCells]
    · rw [hv]; simp [Builtin.append_, run_underlying T.sl, sizeOf, typeInfo, hi, Builtin.lenOf, Builtin.firstCells, hnc, storeCells]
  · have hcells : ∀ j u, (l2.map Value.string)[j]? = some u → w.cell? (ad.add j) = some u := by
      intro j u hu
      obtain ⟨ad', h, _, hc⟩ := hr.1.2.2.2 j u hu
      injection h with h
      subst h
      exact hc
    obtain ⟨v', w', h1, h2, h3, _, _⟩ := run_append_own_at (P := P) w base t ty e i _ 1 16 T.sl hi hz0 hz1 hz2 rfl (by omega) _ n _ hown ad m d (l2.map Value.string) (by have := hr.len; simpa using this) hcells (bv_one_t _) (by unfold maxLen; omega) (by omega) hbase
    exact fin v' w' h1 h2 h3

/-- append onto the call's own row. -/
theorem wp_append_b_t (T : TxtT P t e) {ops : Array Oper} {rest : List Oper} {o : Oper} {a : Act} {Q : Exit → Act → World → Prop} (hgd : o.guard = none) (s x : Operand)
    (ho : o.op = .call { callee := .builtin .append, args := #[s, x], argTypes := #[t, t] })
    (base : Nat) (A : Option Addr) (n c : Nat) (l : List ByteArray) (hs : a.eval s = .slice A n c) (hown : OwnT w base e A n c l)
    (B : Option Addr) (m d : Nat) (l2 : List ByteArray) (hx : a.eval x = .slice B m d) (hr : StrSl w B m d l2) (hnm : n + m ≤ 1000000) (hbase : base ≤ w.heap.size)
    (h : ∀ A' c' w', OwnT w' base e A' (n + m) c' (l ++ l2) → Below base w w' → wpList P ops Q rest (a.put o.dst (.slice A' (n + m) c')) w') : wpList P ops Q (o :: rest) a w :=
  wpList_plain hgd fun K hK => by
    obtain ⟨A', c', w', hrun, h2, h3, _⟩ := run_append_sl_t (P := P) w T o.type base A n c l hown B m d l2 hr hnm hbase
    unfold Oper.wp execOp
    simp only [ho, resolve, invoke, builtin, Sem.run_bind, Sem.run_pure, Result.andThen_ok, List.map_toArray, List.map_cons, List.map_nil, hs, hx, hrun]
    exact hK _ _ (h A' c' w' h2 h3)
end
section
variable {P : Program} {t e : TypeId} (w : World)
theorem run_append_lit_t (T : TxtT P t e) (ty : TypeId) (base g : Nat) (hown : OwnT w base e (some ⟨g, 0, none⟩) 0 0 [])
    (B : Option Addr) (m d : Nat) (l2 : List ByteArray) (hr : StrSl w B m d l2) (hnm : m ≤ 1000000) (hbase : base ≤ w.heap.size) :
    ∃ A' c' w', (Builtin.append_ #[t, t] ty #[.slice (some ⟨g, 0, none⟩) 0 0, .slice B m d]).run P w = .ok (.slice A' m c') w' ∧ OwnT w' base e A' m c' l2 ∧ Below w.heap.size w w' := by
  obtain ⟨i, hi, hz0, hz1, hz2⟩ := info_parts T.info
  rcases Nat.eq_zero_or_pos m with h0 | h0
  · subst h0
    have hn : l2 = [] := List.eq_nil_of_length_eq_zero hr.len
    subst hn
    refine ⟨some ⟨g, 0, none⟩, 0, w, ?_, hown, Below.refl _ _⟩
    rcases B with _ | ad
    · simp [Builtin.append_, run_underlying T.sl, sizeOf, typeInfo, hi, Builtin.lenOf, Builtin.firstCells, storeCells]
    · simp [Builtin.append_, run_underlying T.sl, sizeOf, typeInfo, hi, Builtin.lenOf, Builtin.firstCells, storeCells, loadCells, loadCellsFrom]
  · obtain ⟨ad, rfl, _⟩ := hr.cell h0
    have hcells : ∀ j u, (l2.map Value.string)[j]? = some u → w.cell? (ad.add j) = some u := by
      intro j u hu
      obtain ⟨ad', h, _, hc⟩ := hr.1.2.2.2 j u hu
      injection h with h
      subst h
      exact hc
    have hl : (l2.map Value.string).length = m := by have := hr.len; simpa using this
    have hrun := run_append_grow (P := P) w t ty e i _ T.sl hi hz0 ⟨g, 0, none⟩ 0 0 [] (by simp) (by simp) ad m d (l2.map Value.string) (by rw [hz1, hl]; omega) hcells (by omega) (by omega) (growslice_fits (by omega) (by rw [hz2]; omega))
    rw [Nat.zero_add] at hrun
    have hge := grownCap_ge w m 0 e
    refine ⟨_, _, _, hrun, ⟨by rw [hl]; omega, .inr ⟨w.heap.size, _, _, rfl, hbase, heap_alloc_new w.drew _, hge, grownCap_le_maxLen w m 0 e (by unfold maxLen; omega), ?_, ?_⟩⟩, (Below.refl _ _).drew.alloc (Nat.le_refl _) _⟩
    · simp only [Array.size_append, List.size_toArray, size_zeroCells, List.length_nil, hl, show (Value.string ⟨#[]⟩).cells.size = 1 from rfl]
      omega
    · simp only [Array.toList_append, List.nil_append]
      rw [List.take_append_of_le_length (by simp; have := hr.len; omega)]
      simp [List.take_of_length_le, hr.len]
theorem wp_append_lit0_t (T : TxtT P t e) {o : Oper} {a : Act} {K : Act → World → Prop} {Q : Exit → Act → World → Prop} (s x : Operand)
    (ho : o.op = .call { callee := .builtin .append, args := #[s, x], argTypes := #[t, t] })
    (base g : Nat) (hs : a.eval s = .slice (some ⟨g, 0, none⟩) 0 0) (hown : OwnT w base e (some ⟨g, 0, none⟩) 0 0 [])
    (B : Option Addr) (m d : Nat) (l2 : List ByteArray) (hx : a.eval x = .slice B m d) (hr : StrSl w B m d l2) (hnm : m ≤ 1000000) (hbase : base ≤ w.heap.size)
    (h : ∀ A' c' w', OwnT w' base e A' m c' l2 → Below w.heap.size w w' → K (a.put o.dst (.slice A' m c')) w') : o.wp P a w K Q := by
  obtain ⟨A', c', w', hrun, h2, h3⟩ := run_append_lit_t (P := P) w T o.type base g hown B m d l2 hr hnm hbase
  unfold Oper.wp execOp
  simp only [ho, resolve, invoke, builtin, Sem.run_bind, Sem.run_pure, Result.andThen_ok, List.map_toArray, List.map_cons, List.map_nil, hs, hx, hrun]
  exact h A' c' w' h2 h3
/-- In a plain region. -/
theorem wp_append_lit_t (T : TxtT P t e) {ops : Array Oper} {rest : List Oper} {o : Oper} {a : Act} {Q : Exit → Act → World → Prop} (hgd : o.guard = none) (s x : Operand)
    (ho : o.op = .call { callee := .builtin .append, args := #[s, x], argTypes := #[t, t] })
    (base g : Nat) (hs : a.eval s = .slice (some ⟨g, 0, none⟩) 0 0) (hown : OwnT w base e (some ⟨g, 0, none⟩) 0 0 [])
    (B : Option Addr) (m d : Nat) (l2 : List ByteArray) (hx : a.eval x = .slice B m d) (hr : StrSl w B m d l2) (hnm : m ≤ 1000000) (hbase : base ≤ w.heap.size)
    (h : ∀ A' c' w', OwnT w' base e A' m c' l2 → Below w.heap.size w w' → wpList P ops Q rest (a.put o.dst (.slice A' m c')) w') : wpList P ops Q (o :: rest) a w :=
  wpList_plain hgd fun _ hK => wp_append_lit0_t w T s x ho base g hs hown B m d l2 hx hr hnm hbase fun A' c' w' h1 h2 => hK _ _ (h A' c' w' h1 h2)
/-- In a region that draws. -/
theorem step_append_lit_t (T : TxtT P t e) {ops : Array Oper} {o : Oper} {a : Act} {K : Act → World → Prop} {Q : Exit → Act → World → Prop} {E : Prop} (hgd : o.guard = none) (s x : Operand)
    (ho : o.op = .call { callee := .builtin .append, args := #[s, x], argTypes := #[t, t] })
    (base g : Nat) (hs : a.eval s = .slice (some ⟨g, 0, none⟩) 0 0) (hown : OwnT w base e (some ⟨g, 0, none⟩) 0 0 [])
    (B : Option Addr) (m d : Nat) (l2 : List ByteArray) (hx : a.eval x = .slice B m d) (hr : StrSl w B m d l2) (hnm : m ≤ 1000000) (hbase : base ≤ w.heap.size)
    (h : ∀ A' c' w', OwnT w' base e A' m c' l2 → Below w.heap.size w w' → K (a.put o.dst (.slice A' m c')) w') :
    if Region.wanted o (yielded ops a.tmps) = true then Oper.wp P o a w K Q else E := by
  rw [if_pos (by simp [Region.wanted, hgd])]
  exact wp_append_lit0_t w T s x ho base g hs hown B m d l2 hx hr hnm hbase h
end
end Go.Proofs.Ytlofgjpnpfgpfaa
