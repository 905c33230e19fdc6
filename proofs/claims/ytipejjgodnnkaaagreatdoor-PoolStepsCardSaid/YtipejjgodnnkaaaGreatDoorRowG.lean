/- Rows of structs that grow beside values in blocks of their own: an append turns the row's own block alone. -/
import Derived.Test.YtipejjgodnnkaaaGreatDoorTurn
import Derived.Test.YtipejjgodnnkaaaGreatDoorRow
namespace Go.Proofs.YtipejjgodnnkaaaGreatDoor
open Go Go.RowKit Go.Proofs

/-- The block of a slice's address. -/
def blockOf : Option Addr → Option Nat
  | some a => some a.block
  | none => none
section
variable {P : Program} {t e : TypeId} {s b : Nat} {z : Value} (w : World)
end
/-- A slice that reads stays where its block does not turn. -/
theorem Sl.turned {w w' : World} {A : Option Addr} {n c : Nat} {l : List UInt8} (h : Sl w A n c l) {S : Nat → Prop} (T : Turn S w w') (hA : ∀ k, blockOf A = some k → ¬ S k) : Sl w' A n c l :=
  ⟨h.1, h.2.1, h.2.2.1, fun j u hu => by
    obtain ⟨ad, e, hb, hc⟩ := h.2.2.2 j u hu
    refine ⟨ad, e, by have := T.size; omega, ?_⟩
    rw [World.cell?_of_block (a := ad.add j) (w' := w') (w := w) (by rw [addr_block]; exact T.block _ hb (hA _ (by rw [e]; rfl)))]
    exact hc⟩
theorem OwnS.turned {w w' : World} {base : Nat} {e : TypeId} {s : Nat} {A : Option Addr} {n c : Nat} {xs : List (List Value)} (h : OwnS w base e s A n c xs) {S : Nat → Prop} (T : Turn S w w') (hA : ∀ k, blockOf A = some k → ¬ S k) : OwnS w' base e s A n c xs := by
  refine ⟨⟨h.1.1, ?_⟩, h.2⟩
  rcases h.1.2 with hv | ⟨g, cap, cur, hv, h1, hg, r⟩
  · exact .inl hv
  · refine .inr ⟨g, cap, cur, hv, h1, (T.block g (Array.getElem?_eq_some_iff.1 hg).1 (hA g ?_)).trans hg, r⟩
    injection hv with hv
    rw [hv]; rfl
theorem OwnS.blockLt {w : World} {base : Nat} {e : TypeId} {s : Nat} {A : Option Addr} {n c : Nat} {xs : List (List Value)} (h : OwnS w base e s A n c xs) : ∀ k, blockOf A = some k → base ≤ k ∧ k < w.heap.size := by
  intro k hk
  rcases h.1.2 with ⟨hv, _⟩ | ⟨g, cap, cur, hv, h1, hg, r⟩
  · injection hv with hv
    rw [hv] at hk; cases hk
  · injection hv with hv
    rw [hv] at hk
    obtain rfl : g = k := Option.some.inj hk
    exact ⟨h1, (Array.getElem?_eq_some_iff.1 hg).1⟩
end Go.Proofs.YtipejjgodnnkaaaGreatDoor
