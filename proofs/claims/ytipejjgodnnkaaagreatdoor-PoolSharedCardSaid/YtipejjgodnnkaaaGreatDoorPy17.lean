/- The code's node: takeItem and takeKid. The reference's Read. -/
import Derived.Test.YtipejjgodnnkaaaGreatDoorPy3
import Derived.Test.YtipejjgodnnkaaaGreatDoorPy5
import Derived.Test.YtipejjgodnnkaaaGreatDoorKeyB
import Derived.Test.YtipejjgodnnkaaaGreatDoorPy12
import Derived.Test.YtipejjgodnnkaaaGreatDoorNodeD
import Derived.Test.YtipejjgodnnkaaaGreatDoorRowG
import Derived.Test.YtipejjgodnnkaaaGreatDoorRowI
import Derived.Deep.RegionLaw
import Derived.Deep.RegionHeld3
import Derived.Deep.QuietTactic
import Derived.BigQuiet
import Derived.Laws.StructEq
namespace Go.Proofs.YtipejjgodnnkaaaGreatDoor
open Go Go.RowKit Go.Proofs

/-- The block that holds one row of cells. -/
def RB (w : World) (b : Nat) (r : List Value) : Prop := ∃ t, w.heap[b]? = some (.cells r.toArray t (0, 0))
section
variable {w w' : World} {b : Nat} {r : List Value}
theorem RB.new (w : World) (r : List Value) (t : TypeId) : RB (w.alloc (.cells r.toArray t)) w.heap.size r := ⟨t, heap_alloc_new w _⟩
theorem RB.below (H : RB w b r) {B : Nat} (hb : Below B w w') (hB : b < B) : RB w' b r := by
  obtain ⟨t, H⟩ := H
  exact ⟨t, (hb.block b hB).trans H⟩
theorem RB.keep (H : RB w b r) (h : w'.heap[b]? = w.heap[b]?) : RB w' b r := by
  obtain ⟨t, H⟩ := H
  exact ⟨t, h.trans H⟩
theorem RB.lt (H : RB w b r) : b < w.heap.size := by
  obtain ⟨t, H⟩ := H
  exact (Array.getElem?_eq_some_iff.1 H).1
theorem RB.range (H : RB w b r) : w.rangeAt b 0 r := fun j v hv => by
  obtain ⟨t, H⟩ := H
  rw [cell_of_row _ _ _ _ _ _ H, Nat.zero_add]
  simpa using hv
theorem RB.there (H : RB w b r) : w.there b 0 r.length := fun j hj => by
  obtain ⟨t, H⟩ := H
  refine ⟨?_, by unfold World.frozen?; rw [H]; simp⟩
  rw [cell_of_row _ _ _ _ _ _ H, Nat.zero_add, Array.getElem?_eq_getElem (by simpa using hj)]; rfl
end
end Go.Proofs.YtipejjgodnnkaaaGreatDoor

namespace Go.Proofs.YtipejjgodnnkaaaGreatDoor
open Go Go.RowKit Go.Proofs

section
variable {w w' : World} {b : Nat} {l : Int} {A B : Option Addr} {n c m d : Nat}
theorem NB.keep (H : NB w b l A n c B m d) (h : w'.heap[b]? = w.heap[b]?) : NB w' b l A n c B m d := by
  obtain ⟨t, H⟩ := H
  exact ⟨t, h.trans H⟩
theorem NB.fz (H : NB w b l A n c B m d) (i : Nat) : w.frozen? ⟨b, i, none⟩ = false := by
  obtain ⟨t, H⟩ := H
  unfold World.frozen?
  rw [H]
  simp
theorem NB.set1 (H : NB w b l A n c B m d) (A' : Option Addr) (n' c' : Nat) : NB (w.setCell ⟨b, 1, none⟩ (.slice A' n' c')) b l A' n' c' B m d := by
  obtain ⟨t, H⟩ := H
  exact ⟨t, setCell_at _ H⟩
theorem NB.set2 (H : NB w b l A n c B m d) (A' : Option Addr) (n' c' : Nat) : NB (w.setCell ⟨b, 2, none⟩ (.slice A' n' c')) b l A n c A' n' c' := by
  obtain ⟨t, H⟩ := H
  exact ⟨t, setCell_at _ H⟩
theorem NB.there (H : NB w b l A n c B m d) : w.there b 0 3 := fun j hj => by
  obtain ⟨t, H⟩ := H
  refine ⟨?_, by unfold World.frozen?; rw [H]; simp⟩
  rw [cell_of_row _ _ _ _ _ _ H, Nat.zero_add, Array.getElem?_eq_getElem (by simpa using hj)]; rfl
theorem NB.stored (H : NB w b l A n c B m d) (l2 : Int) (A2 : Option Addr) (n2 c2 : Nat) (B2 : Option Addr) (m2 d2 : Nat) : NB (w.setCells b 0 [.int .i64 l2, .slice A2 n2 c2, .slice B2 m2 d2]) b l2 A2 n2 c2 B2 m2 d2 := by
  obtain ⟨t, H⟩ := H
  exact ⟨t, setCell_at _ (setCell_at _ (setCell_at _ H))⟩
end
end Go.Proofs.YtipejjgodnnkaaaGreatDoor
