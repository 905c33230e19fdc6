/- How arrays of ints, slices of pairs and slices of ints that come in are opened. Laws of the pool: pairs that came in. -/
import Derived.Test.YtipejjgodnnkaaaGreatDoorLaw
import Derived.Test.YtipejjgodnnkaaaGreatDoorPx15
import Derived.Deep.Slices
namespace Go.Proofs.YtipejjgodnnkaaaGreatDoor
open Go Go.RowKit Go.ChangeShapes Go.WideShapes Go.ChangeAt

def i64 (z : Int) : Prop := -9223372036854775808 ≤ z ∧ z ≤ 9223372036854775807
/-- Pairs that came in. -/
def Pairs (w : World) (A : Option Addr) (n c : Nat) (ps : List (Int × Int)) : Prop :=
  ps.length = n ∧ n ≤ c ∧ c ≤ maxLen ∧ (∀ x ∈ ps, i64 x.1 ∧ i64 x.2) ∧ ∀ (j : Nat) x, ps[j]? = some x → ∃ g o, A = some ⟨g, o, none⟩ ∧ g < w.heap.size ∧ w.cell? ⟨g, o + j * 2, none⟩ = some (.int .i64 x.1) ∧ w.cell? ⟨g, o + j * 2 + 1, none⟩ = some (.int .i64 x.2)
section
variable {H : Type} {enc : TypeId × Value → H} {P : Program} {W : World}
/-- A slice of ints. -/
theorem open_nums {t e : TypeId} {v : Value} {d : DataW H} {ps : List MemPlace} (ht : P.underlying t = some (.slice e)) (he : P.underlying e = some (.int .i64)) (hc : P.cellsOf e = 1)
    (hv : ∃ a len cap, v = .slice a len cap) (h : DataW.Trod enc P W 0 (fun _ => true) true t v d ps) : ∃ A n c zs, v = .slice A n c ∧ Ints W A n c zs := by
  obtain ⟨fuel, hf⟩ := h
  obtain ⟨a0, len0, cap0, rfl⟩ := hv
  rcases open_ints ht he hc hf with ⟨hcs, _⟩ | ⟨a, len, cap, zs, hcs, _, hl, hm, hz, _, hcell, hw⟩
  · simp [Value.cells] at hcs
    obtain ⟨rfl, rfl, rfl⟩ := hcs
    exact ⟨_, _, _, [], rfl, ints_nil W⟩
  · simp [Value.cells] at hcs
    obtain ⟨rfl, rfl, rfl⟩ := hcs
    rw [if_pos rfl] at hz
    refine ⟨_, _, _, zs.take len0, rfl, ⟨?_, hl, hm, fun j u hu => ?_⟩, fun z hz' => bounds_i64 (hw z (List.mem_of_mem_take hz'))⟩
    · simp; omega
    · have hj : j < len0 := by have := (List.getElem?_eq_some_iff.1 hu).1; simp at this; omega
      have hj2 : j < zs.length := by omega
      have hc := hcell j hj2
      refine ⟨a, rfl, ?_, ?_⟩
      · have := World.block_lt_of_cell? W (a.add j) hc
        rwa [addr_block] at this
      · rw [hc, ← hu]
        rw [List.getElem?_map, List.getElem?_take_of_lt hj, List.getElem?_eq_getElem hj2]
        simp [List.getD, hj2]
end
section
variable {w w' : World} {A : Option Addr} {n c : Nat} {ps : List (Int × Int)}
theorem Pairs.below (h : Pairs w A n c ps) (hb : Below w.heap.size w w') : Pairs w' A n c ps :=
  ⟨h.1, h.2.1, h.2.2.1, h.2.2.2.1, fun j x hx => by
    obtain ⟨g, o, e, hg, h1, h2⟩ := h.2.2.2.2 j x hx
    exact ⟨g, o, e, by have := hb.size; omega, (hb.cell (p := ⟨g, _, none⟩) hg).trans h1, (hb.cell (p := ⟨g, _, none⟩) hg).trans h2⟩⟩
end
end Go.Proofs.YtipejjgodnnkaaaGreatDoor

namespace Go.Proofs.YtipejjgodnnkaaaGreatDoor
open Go Go.RowKit Go.Proofs

/-- The k-th pair. -/
theorem Pairs.get {w : World} {A : Option Addr} {n c : Nat} {ps : List (Int × Int)} (h : Pairs w A n c ps) {k : Nat} (hk : k < n) :
    ∃ g o xa xb, A = some ⟨g, o, none⟩ ∧ g < w.heap.size ∧ w.cell? ⟨g, o + k * 2, none⟩ = some (.int .i64 xa) ∧ w.cell? ⟨g, o + k * 2 + 1, none⟩ = some (.int .i64 xb) ∧ i64 xa ∧ i64 xb := by
  have hl : k < ps.length := by have := h.1; omega
  obtain ⟨g, o, e, hg, h1, h2⟩ := h.2.2.2.2 k ps[k] (List.getElem?_eq_getElem hl)
  exact ⟨g, o, _, _, e, hg, h1, h2, h.2.2.2.1 _ (List.getElem_mem hl)⟩
end Go.Proofs.YtipejjgodnnkaaaGreatDoor
