/- Laws of the pool: bools, pairs of parts, and how the power goes off, as they come in. -/
import Derived.Test.YtipejjgodnnkaaaGreatDoorLaw2
import Derived.Test.YtipejjgodnnkaaaGreatDoorPw23
import Derived.Deep.Grids
namespace Go.Proofs.YtipejjgodnnkaaaGreatDoor
open Go Go.RowKit Go.Proofs Go.ChangeShapes Go.WideShapes Go.ChangeAt

/-- Bools that came in. -/
def Bools (w : World) (A : Option Addr) (n c : Nat) (f : Nat → Bool) : Prop := n ≤ c ∧ c ≤ maxLen ∧ ∀ j, j < n → ∃ ad, A = some ad ∧ ad.block < w.heap.size ∧ w.cell? (ad.add j) = some (.bool (f j))
theorem open_bools {H : Type} {enc : TypeId × Value → H} {P : Program} {W : World} {t e : TypeId} {v : Value} {d : DataW H} {ps : List MemPlace} (ht : P.underlying t = some (.slice e)) (he : P.underlying e = some .bool) (hc : P.cellsOf e = 1)
    (hv : ∃ a len cap, v = .slice a len cap) (h : DataW.Trod enc P W 0 (fun _ => true) true t v d ps) : ∃ A n c f, v = .slice A n c ∧ Bools W A n c f := by
  obtain ⟨fuel, hf⟩ := h
  obtain ⟨a0, len0, cap0, rfl⟩ := hv
  rcases Go.Deep.open_bools ht he hc hf with ⟨hcs, _⟩ | ⟨a, len, cap, B, hcs, _, hl, hm, _, hcell⟩
  · simp [Value.cells] at hcs
    obtain ⟨rfl, rfl, rfl⟩ := hcs
    exact ⟨_, _, _, fun _ => false, rfl, Nat.le_refl _, by unfold maxLen; omega, fun j hj => absurd hj (Nat.not_lt_zero _)⟩
  · simp [Value.cells] at hcs
    obtain ⟨rfl, rfl, rfl⟩ := hcs
    refine ⟨_, _, _, B, rfl, hl, hm, fun j hj => ⟨a, rfl, ?_, hcell j (by omega)⟩⟩
    have := World.block_lt_of_cell? W (a.add j) (hcell j (by omega))
    rwa [addr_block] at this
end Go.Proofs.YtipejjgodnnkaaaGreatDoor
