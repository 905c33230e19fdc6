/- Rows of structs that grow beside values in blocks of their own: an append turns the row's own block alone. -/
import Derived.Test.YtipejjgodnnkaaaGreatDoorTurn
import Derived.Test.YtipejjgodnnkaaaGreatDoorRow
namespace Go.Proofs.YtipejjgodnnkaaaGreatDoor
open Go Go.RowKit Go.Proofs

/-- The block of a slice's address. -/
def blockOf : Option Addr → Option Nat
  | some a => some a.block
  | none => none
section
variable {P : Program} {t e : TypeId} {s b : Nat} {z : Value} (w : World)
theorem run_append_g (T : RowT P t e s b z) (ty : TypeId) (base : Nat) (A : Option Addr) (n c : Nat) (xs : List (List Value)) (hown : OwnS w base e s A n c xs)
    (B : Option Addr) (m d : Nat) (ys : List (List Value)) (hr : Sls w s B m d ys) (hm0 : 0 < m) (h1 : ∀ y ∈ ys, ∀ u ∈ y, u.oneCell' = true) (hnm : n + m ≤ 1000000) (hb : b ≤ 100000) (hbase : base ≤ w.heap.size) :
    ∃ A' c' w', (Builtin.append_ #[t, t] ty #[.slice A n c, .slice B m d]).run P w = .ok (.slice A' (n + m) c') w' ∧ OwnS w' base e s A' (n + m) c' (xs ++ ys) ∧ Turn (fun k => blockOf A = some k) w w' ∧ (blockOf A' = blockOf A ∨ blockOf A' = some w.heap.size) ∧ blockOf A' ≠ none := by
  obtain ⟨i, hi, hz0, hz1, hz2⟩ := info_parts T.info
  obtain ⟨g, o, rfl, hg, hl0, hr0⟩ := hr.at_ hm0
  have hys : ∀ y ∈ ys, y.length = s := fun y hy => by
    obtain ⟨j, hj⟩ := List.mem_iff_getElem?.1 hy
    obtain ⟨_, _, _, _, h, _⟩ := hr.2.2.2 j y hj
    exact h
  have hcells : ∀ j u, ys.flatten[j]? = some u → w.cell? ((⟨g, o, none⟩ : Addr).add j) = some u := by
    intro j u hu
    obtain ⟨y, hy, hv⟩ := fl_at T.pos hys j u hu
    obtain ⟨g', o', e', _, _, hr'⟩ := hr.2.2.2 _ y hy
    injection e' with e'
    injection e' with e1 e2
    subst e1 e2
    have := hr' _ u hv
    rw [Addr.add_mid]
    rw [Nat.add_assoc, Nat.mul_comm, Nat.div_add_mod] at this
    exact this
  have hbb : (n + m) * b ≤ 140737488355328 := Nat.le_trans (Nat.mul_le_mul hnm hb) (by decide)
  obtain ⟨v', w', hrun, h2, h3, h4, h5⟩ := run_append_own_at (P := P) w base t ty e i z s b T.sl hi hz0 hz1 hz2 T.cells T.pos _ n _ hown.1 ⟨g, o, none⟩ m d ys.flatten (by rw [fl_len hys, hr.len]) hcells (fun u hu => by
    obtain ⟨y, hy, hu⟩ := List.mem_flatten.1 hu
    exact h1 y hy u hu) (by unfold maxLen; omega) hbb hbase
  have hob : ∀ (X : Option Addr) p q, Value.ownBlock (.slice X p q) = blockOf X := fun X p q => by cases X <;> rfl
  rw [hob] at h3 h5
  rw [← List.flatten_append] at h2
  have hall : ∀ x ∈ xs ++ ys, x.length = s := fun x hx => by
    rcases List.mem_append.1 hx with h | h
    · exact hown.2 x h
    · exact hys x h
  rcases h2.2 with ⟨rfl, h0⟩ | ⟨g', cap, cur, rfl, _⟩
  · omega
  · rw [hob] at h5
    exact ⟨_, _, w', hrun, ⟨h2, hall⟩, turn_grown h3 (fun k hk => hk), h5, by simp [blockOf]⟩
/-- append onto the call's own row of structs: only the row's block turns. -/
theorem wp_append_g (T : RowT P t e s b z) {ops : Array Oper} {rest : List Oper} {o : Oper} {a : Act} {Q : Exit → Act → World → Prop} (hgd : o.guard = none) (so x : Operand)
    (ho : o.op = .call { callee := .builtin .append, args := #[so, x], argTypes := #[t, t] })
    (base : Nat) (A : Option Addr) (n c : Nat) (xs : List (List Value)) (hs : a.eval so = .slice A n c) (hown : OwnS w base e s A n c xs)
    (B : Option Addr) (m d : Nat) (ys : List (List Value)) (hx : a.eval x = .slice B m d) (hr : Sls w s B m d ys) (hm0 : 0 < m) (h1 : ∀ y ∈ ys, ∀ u ∈ y, u.oneCell' = true) (hnm : n + m ≤ 1000000) (hb : b ≤ 100000) (hbase : base ≤ w.heap.size)
    (h : ∀ A' c' w', OwnS w' base e s A' (n + m) c' (xs ++ ys) → Turn (fun k => blockOf A = some k) w w' → (blockOf A' = blockOf A ∨ blockOf A' = some w.heap.size) → blockOf A' ≠ none → wpList P ops Q rest (a.put o.dst (.slice A' (n + m) c')) w') : wpList P ops Q (o :: rest) a w :=
  wpList_plain hgd fun K hK => by
    obtain ⟨A', c', w', hrun, h2, h3, h4, h5⟩ := run_append_g (P := P) w T o.type base A n c xs hown B m d ys hr hm0 h1 hnm hb hbase
    unfold Oper.wp execOp
    simp only [ho, resolve, invoke, builtin, Sem.run_bind, Sem.run_pure, Result.andThen_ok, List.map_toArray, List.map_cons, List.map_nil, hs, hx, hrun]
    exact hK _ _ (h A' c' w' h2 h3 h4 h5)
end
/-- A slice that reads stays where its block does not turn. -/
theorem Sl.turned {w w' : World} {A : Option Addr} {n c : Nat} {l : List UInt8} (h : Sl w A n c l) {S : Nat → Prop} (T : Turn S w w') (hA : ∀ k, blockOf A = some k → ¬ S k) : Sl w' A n c l :=
  ⟨h.1, h.2.1, h.2.2.1, fun j u hu => by
    obtain ⟨ad, e, hb, hc⟩ := h.2.2.2 j u hu
    refine ⟨ad, e, by have := T.size; omega, ?_⟩
    rw [World.cell?_of_block (a := ad.add j) (w' := w') (w := w) (by rw [addr_block]; exact T.block _ hb (hA _ (by rw [e]; rfl)))]
    exact hc⟩
theorem OwnS.turned {w w' : World} {base : Nat} {e : TypeId} {s : Nat} {A : Option Addr} {n c : Nat} {xs : List (List Value)} (h : OwnS w base e s A n c xs) {S : Nat → Prop} (T : Turn S w w') (hA : ∀ k, blockOf A = some k → ¬ S k) : OwnS w' base e s A n c xs := by
  refine ⟨⟨h.1.1, ?_⟩, h.2⟩
  rcases h.1.2 with hv | ⟨g, cap, cur, hv, h1, hg, r⟩
  · exact .inl hv
  · refine .inr ⟨g, cap, cur, hv, h1, (T.block g (Array.getElem?_eq_some_iff.1 hg).1 (hA g ?_)).trans hg, r⟩
    injection hv with hv
    rw [hv]; rfl
theorem OwnS.blockLt {w : World} {base : Nat} {e : TypeId} {s : Nat} {A : Option Addr} {n c : Nat} {xs : List (List Value)} (h : OwnS w base e s A n c xs) : ∀ k, blockOf A = some k → base ≤ k ∧ k < w.heap.size := by
  intro k hk
  rcases h.1.2 with ⟨hv, _⟩ | ⟨g, cap, cur, hv, h1, hg, r⟩
  · injection hv with hv
    rw [hv] at hk; cases hk
  · injection hv with hv
    rw [hv] at hk
    obtain rfl : g = k := Option.some.inj hk
    exact ⟨h1, (Array.getElem?_eq_some_iff.1 hg).1⟩
end Go.Proofs.YtipejjgodnnkaaaGreatDoor
