/- Keys: the code's and the reference's Less and May; First and Last. -/
import Derived.Test.YtipejjgodnnkaaaGreatDoorPy2
import Derived.Test.YtipejjgodnnkaaaGreatDoorPy3
import Derived.Deep.MidRow
namespace Go.Proofs.YtipejjgodnnkaaaGreatDoor
open Go Go.RowKit Go.Proofs

def Kd.v (k : Kd) : Value := .agg #[.int .i64 k.obj, .int .i64 k.kind, .int .i64 k.off]
def Kd.vs (k : Kd) : List Value := [.int .i64 k.obj, .int .i64 k.kind, .int .i64 k.off]
/-- The block that holds a key. -/
def KB (w : World) (b : Nat) (k : Kd) : Prop := ∃ t, w.heap[b]? = some (.cells #[.int .i64 k.obj, .int .i64 k.kind, .int .i64 k.off] t (0, 0))
theorem KB.new (w : World) (x y z : Int) (t : TypeId) : KB (w.alloc (.cells #[.int .i64 x, .int .i64 y, .int .i64 z] t)) w.heap.size ⟨x, y, z⟩ := ⟨t, heap_alloc_new w _⟩
theorem KB.below {w w' : World} {b : Nat} {k : Kd} (H : KB w b k) {B : Nat} (hb : Below B w w') (hB : b < B) : KB w' b k := by
  obtain ⟨t, H⟩ := H
  exact ⟨t, (hb.block b hB).trans H⟩
theorem KB.range {w : World} {b : Nat} {k : Kd} (H : KB w b k) : w.rangeAt b 0 k.vs := fun j v hv => by
  obtain ⟨t, H⟩ := H
  rw [cell_of_row _ _ _ _ _ _ H, Nat.zero_add]
  simpa [Kd.vs] using hv
theorem KB.c0 {w : World} {b : Nat} {k : Kd} (H : KB w b k) : w.cell? ⟨b, 0, none⟩ = some (.int .i64 k.obj) := H.range 0 _ rfl
theorem KB.c1 {w : World} {b : Nat} {k : Kd} (H : KB w b k) : w.cell? ⟨b, 1, none⟩ = some (.int .i64 k.kind) := H.range 1 _ rfl
theorem KB.c2 {w : World} {b : Nat} {k : Kd} (H : KB w b k) : w.cell? ⟨b, 2, none⟩ = some (.int .i64 k.off) := H.range 2 _ rfl
end Go.Proofs.YtipejjgodnnkaaaGreatDoor
