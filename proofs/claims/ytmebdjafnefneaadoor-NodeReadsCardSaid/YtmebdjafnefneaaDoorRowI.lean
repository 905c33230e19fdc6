/- The call's own row of items, each value in a block of its own. -/
import Derived.Test.YtmebdjafnefneaaDoorRowG
import Derived.Test.YtmebdjafnefneaaDoorNodeH
import Derived.Test.YtmebdjafnefneaaDoorPkS
namespace Go.Proofs.YtmebdjafnefneaaDoor
open Go Go.RowKit Go.Proofs

theorem TItem : RowT Tryd.prog 22 52 4 48 (.agg #[.int .i64 0, .int .i64 0, .int .i64 0, .slice none 0 0]) := ⟨Tryd.underlying22, by kernel_rfl, rfl, by omega⟩
theorem TKid : RowT Tryd.prog 23 59 4 32 (.agg #[.int .i64 0, .int .i64 0, .int .i64 0, .int .i64 0]) := ⟨Tryd.underlying23, by kernel_rfl, rfl, by omega⟩
theorem Sl.turned' {w w' : World} {A : Option Addr} {n c : Nat} {l : List UInt8} (h : Sl w A n c l) {S : Nat → Prop} (T : Turn S w w') (hA : l ≠ [] → ∀ k, blockOf A = some k → ¬ S k) : Sl w' A n c l := by
  by_cases hl : l = []
  · subst hl
    exact ⟨h.1, h.2.1, h.2.2.1, fun j u hu => by simp at hu⟩
  · exact h.turned T (hA hl)
theorem Sl.blockLt {w : World} {A : Option Addr} {n c : Nat} {l : List UInt8} (h : Sl w A n c l) (hl : l ≠ []) : ∀ k, blockOf A = some k → k < w.heap.size := by
  intro k hk
  have hn : 0 < n := by have := h.len; have : l.length ≠ 0 := fun e => hl (List.eq_nil_of_length_eq_zero e); omega
  obtain ⟨ad, rfl, hb, _⟩ := h.cell hn
  obtain rfl : ad.block = k := Option.some.inj hk
  exact hb
def itvs (k : Kd) (V : Option Addr) (p q : Nat) : List Value := [.int .i64 k.obj, .int .i64 k.kind, .int .i64 k.off, .slice V p q]
/-- The own row of items. -/
def IRow (w : World) (base : Nat) (A : Option Addr) (n c : Nat) (xs : List Itm) : Prop :=
  ∃ raw, OwnS w base 52 4 A n c raw ∧ raw.length = xs.length ∧ ∀ (j : Nat) r x, raw[j]? = some r → xs[j]? = some x → ∃ V p q, r = itvs x.k V p q ∧ Sl w V p q x.v ∧ (x.v ≠ [] → ∀ g, blockOf V = some g → base ≤ g ∧ blockOf A ≠ some g)
section
variable {w w' : World} {base n c : Nat} {A : Option Addr} {xs : List Itm}
theorem irow_nil (w : World) (base : Nat) : IRow w base none 0 0 [] := ⟨[], owns_none _ _ _ _, rfl, fun j r x hr => by simp at hr⟩
theorem IRow.below (h : IRow w base A n c xs) (hb : Below w.heap.size w w') : IRow w' base A n c xs := by
  obtain ⟨raw, h1, h2, h3⟩ := h
  refine ⟨raw, h1.below hb, h2, fun j r x hr hx => ?_⟩
  obtain ⟨V, p, q, e, hs, hne⟩ := h3 j r x hr hx
  exact ⟨V, p, q, e, hs.below hb, hne⟩
theorem IRow.itms (h : IRow w base A n c xs) : Itms w A n c xs := by
  obtain ⟨raw, h1, h2, h3⟩ := h
  refine ⟨raw, h1.sls (by omega), h2, fun j r x hr hx => ?_⟩
  obtain ⟨V, p, q, e, hs, _⟩ := h3 j r x hr hx
  exact ⟨V, p, q, e, hs⟩
theorem IRow.blockLt (h : IRow w base A n c xs) : ∀ k, blockOf A = some k → base ≤ k ∧ k < w.heap.size := by
  obtain ⟨raw, h1, _⟩ := h
  exact h1.blockLt
theorem IRow.low (h : IRow w base A n c xs) {S : Nat → Prop} (T : Turn S w w') (hS : ∀ k, S k → k < base) : IRow w' base A n c xs := by
  obtain ⟨raw, h1, h2, h3⟩ := h
  refine ⟨raw, h1.turned T (fun k hk e => by have := (h1.blockLt k hk).1; have := hS k e; omega), h2, fun j r x hr hx => ?_⟩
  obtain ⟨V, p, q, e, hs, hne⟩ := h3 j r x hr hx
  exact ⟨V, p, q, e, hs.turned' T (fun hl k hk e => by have := (hne hl k hk).1; have := hS k e; omega), hne⟩
end
theorem HB.keep {w w' : World} {bp : Nat} {h : Hd} (H : HB w bp h) (e : w'.heap[bp]? = w.heap[bp]?) : HB w' bp h := by
  obtain ⟨t, H⟩ := H
  exact ⟨t, e.trans H⟩
theorem itvs_one (k : Kd) (V : Option Addr) (p q : Nat) : ∀ y ∈ [itvs k V p q], ∀ u ∈ y, u.oneCell' = true := by
  intro y hy u hu
  obtain rfl : y = itvs k V p q := by simpa using hy
  simp [itvs] at hu
  rcases hu with rfl | rfl | rfl | rfl <;> rfl
/-- append of one item whose value lies in a block of its own. -/
theorem wp_append_item {w : World} {ops : Array Oper} {rest : List Oper} {o : Oper} {a : Act} {Q : Exit → Act → World → Prop} (hgd : o.guard = none) (so x : Operand)
    (ho : o.op = .call { callee := .builtin .append, args := #[so, x], argTypes := #[22, 22] })
    (base : Nat) (A : Option Addr) (n c : Nat) (xs : List Itm) (hs : a.eval so = .slice A n c) (hown : IRow w base A n c xs)
    (B : Option Addr) (d : Nat) (it : Itm) (V : Option Addr) (p q : Nat) (hx : a.eval x = .slice B 1 d) (hr : Sls w 4 B 1 d [itvs it.k V p q]) (hv : Sl w V p q it.v) (hva : it.v ≠ [] → ∀ g, blockOf V = some g → base ≤ g ∧ blockOf A ≠ some g) (hn : n ≤ 1000) (hbase : base ≤ w.heap.size)
    (h : ∀ A' c' w', IRow w' base A' (n + 1) c' (xs ++ [it]) → Turn (fun k => blockOf A = some k) w w' → (blockOf A' = blockOf A ∨ blockOf A' = some w.heap.size) → wpList Tryd.prog ops Q rest (a.put o.dst (.slice A' (n + 1) c')) w') : wpList Tryd.prog ops Q (o :: rest) a w := by
  obtain ⟨raw, h1, h2, h3⟩ := hown
  refine wp_append_g w TItem hgd so x ho base A n c raw hs h1 B 1 d [itvs it.k V p q] hx hr (by omega) (itvs_one _ _ _ _) (by omega) (by omega) hbase ?_
  intro A' c' w' own' T hA' _
  refine h A' c' w' ⟨_, own', by simp [h2], fun j r x hr hx => ?_⟩ T hA'
  have old : ∀ (V : Option Addr) (p q : Nat) (v : List UInt8), Sl w V p q v → (v ≠ [] → ∀ g, blockOf V = some g → base ≤ g ∧ blockOf A ≠ some g) → Sl w' V p q v ∧ (v ≠ [] → ∀ g, blockOf V = some g → base ≤ g ∧ blockOf A' ≠ some g) := by
    intro V p q v hs hne
    refine ⟨hs.turned' T (fun hl k hk e => (hne hl k hk).2 e), fun hl g hg => ⟨(hne hl g hg).1, fun e => ?_⟩⟩
    rcases hA' with h5 | h5
    · exact (hne hl g hg).2 (h5.symm.trans e)
    · have := hs.blockLt hl g hg
      rw [h5] at e
      have := Option.some.inj e
      omega
  by_cases hj : j < raw.length
  · rw [List.getElem?_append_left hj] at hr
    rw [List.getElem?_append_left (by omega)] at hx
    obtain ⟨V', p', q', e, hs', hne⟩ := h3 j r x hr hx
    obtain ⟨o1, o2⟩ := old V' p' q' x.v hs' hne
    exact ⟨V', p', q', e, o1, o2⟩
  · rw [List.getElem?_append_right (by omega)] at hr hx
    have hj0 : j - raw.length = 0 := by
      have := (List.getElem?_eq_some_iff.1 hr).1
      simp at this; omega
    rw [hj0] at hr
    rw [← h2, hj0] at hx
    obtain rfl : itvs it.k V p q = r := by simpa using hr
    obtain rfl : it = x := by simpa using hx
    obtain ⟨o1, o2⟩ := old V p q it.v hv hva
    exact ⟨V, p, q, rfl, o1, o2⟩
end Go.Proofs.YtmebdjafnefneaaDoor
