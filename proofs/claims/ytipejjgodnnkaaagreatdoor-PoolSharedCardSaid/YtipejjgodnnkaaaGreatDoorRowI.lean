/- The call's own row of items, each value in a block of its own. -/
import Derived.Test.YtipejjgodnnkaaaGreatDoorPy4
import Derived.Test.YtipejjgodnnkaaaGreatDoorPy12
import Derived.Test.YtipejjgodnnkaaaGreatDoorRowG
namespace Go.Proofs.YtipejjgodnnkaaaGreatDoor
open Go Go.RowKit Go.Proofs

theorem Sl.turned' {w w' : World} {A : Option Addr} {n c : Nat} {l : List UInt8} (h : Sl w A n c l) {S : Nat → Prop} (T : Turn S w w') (hA : l ≠ [] → ∀ k, blockOf A = some k → ¬ S k) : Sl w' A n c l := by
  by_cases hl : l = []
  · subst hl
    exact ⟨h.1, h.2.1, h.2.2.1, fun j u hu => by simp at hu⟩
  · exact h.turned T (hA hl)
theorem Sl.blockLt {w : World} {A : Option Addr} {n c : Nat} {l : List UInt8} (h : Sl w A n c l) (hl : l ≠ []) : ∀ k, blockOf A = some k → k < w.heap.size := by
  intro k hk
  have hn : 0 < n := by have := h.len; have : l.length ≠ 0 := fun e => hl (List.eq_nil_of_length_eq_zero e); omega
  obtain ⟨ad, rfl, hb, _⟩ := h.cell hn
  obtain rfl : ad.block = k := Option.some.inj hk
  exact hb
def itvs (k : Kd) (V : Option Addr) (p q : Nat) : List Value := [.int .i64 k.obj, .int .i64 k.kind, .int .i64 k.off, .slice V p q]
/-- The own row of items. -/
def IRow (w : World) (base : Nat) (A : Option Addr) (n c : Nat) (xs : List Itm) : Prop :=
  ∃ raw, OwnS w base 142 4 A n c raw ∧ raw.length = xs.length ∧ ∀ (j : Nat) r x, raw[j]? = some r → xs[j]? = some x → ∃ V p q, r = itvs x.k V p q ∧ Sl w V p q x.v ∧ (x.v ≠ [] → ∀ g, blockOf V = some g → base ≤ g ∧ blockOf A ≠ some g)
section
variable {w w' : World} {base n c : Nat} {A : Option Addr} {xs : List Itm}
theorem IRow.below (h : IRow w base A n c xs) (hb : Below w.heap.size w w') : IRow w' base A n c xs := by
  obtain ⟨raw, h1, h2, h3⟩ := h
  refine ⟨raw, h1.below hb, h2, fun j r x hr hx => ?_⟩
  obtain ⟨V, p, q, e, hs, hne⟩ := h3 j r x hr hx
  exact ⟨V, p, q, e, hs.below hb, hne⟩
theorem IRow.blockLt (h : IRow w base A n c xs) : ∀ k, blockOf A = some k → base ≤ k ∧ k < w.heap.size := by
  obtain ⟨raw, h1, _⟩ := h
  exact h1.blockLt
theorem IRow.low (h : IRow w base A n c xs) {S : Nat → Prop} (T : Turn S w w') (hS : ∀ k, S k → k < base) : IRow w' base A n c xs := by
  obtain ⟨raw, h1, h2, h3⟩ := h
  refine ⟨raw, h1.turned T (fun k hk e => by have := (h1.blockLt k hk).1; have := hS k e; omega), h2, fun j r x hr hx => ?_⟩
  obtain ⟨V, p, q, e, hs, hne⟩ := h3 j r x hr hx
  exact ⟨V, p, q, e, hs.turned' T (fun hl k hk e => by have := (hne hl k hk).1; have := hS k e; omega), hne⟩
end
theorem HB.keep {w w' : World} {bp : Nat} {h : Hd} (H : HB w bp h) (e : w'.heap[bp]? = w.heap[bp]?) : HB w' bp h := by
  obtain ⟨t, H⟩ := H
  exact ⟨t, e.trans H⟩
end Go.Proofs.YtipejjgodnnkaaaGreatDoor
