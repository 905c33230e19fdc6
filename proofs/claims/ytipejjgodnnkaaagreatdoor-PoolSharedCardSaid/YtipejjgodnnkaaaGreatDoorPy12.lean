/- The reference's may: whether keys may be, and rise. The reference's Keys: a node's keys. The reference's May: whether a node may be. The laws' few of layer 6; the reference's Same. The reference's Kids: the blocks that a node names. -/
import Derived.Test.YtipejjgodnnkaaaGreatDoorNodeIn
import Derived.Test.YtipejjgodnnkaaaGreatDoorKeyB
import Derived.Laws.StructEq
import Derived.Deep.RegionHeld3
import Derived.Deep.QuietTactic
import Derived.BigQuiet
namespace Go.Proofs.YtipejjgodnnkaaaGreatDoor
open Go Go.RowKit Go.Proofs

/-- Whether the i-th key may be, and stands behind the one ahead of it; kept shut. -/
def riseOk (ks : List Kd) (i : Nat) : Bool := (keyAt ks i).may && (decide (i = 0) || (keyAt ks (i - 1)).less (keyAt ks i))
/-- Whether keys may be, and rise. -/
def rises (ks : List Kd) : Bool := (List.range ks.length).all (riseOk ks)
end Go.Proofs.YtipejjgodnnkaaaGreatDoor

namespace Go.Proofs.YtipejjgodnnkaaaGreatDoor
open Go Go.RowKit Go.Proofs

def Nd.keys (N : Nd) : List Kd := N.items.map (·.k) ++ N.kids.map (·.k)
/-- The block that holds a node. -/
def NB (w : World) (b : Nat) (l : Int) (A : Option Addr) (n c : Nat) (B : Option Addr) (m d : Nat) : Prop := ∃ t, w.heap[b]? = some (.cells #[.int .i64 l, .slice A n c, .slice B m d] t (0, 0))
section
variable {w w' : World} {b : Nat} {l : Int} {A B : Option Addr} {n c m d : Nat}
theorem NB.new (w : World) (l : Int) (A : Option Addr) (n c : Nat) (B : Option Addr) (m d : Nat) (t : TypeId) : NB (w.alloc (.cells #[.int .i64 l, .slice A n c, .slice B m d] t)) w.heap.size l A n c B m d := ⟨t, heap_alloc_new w _⟩
theorem NB.below (H : NB w b l A n c B m d) {E : Nat} (hb : Below E w w') (hB : b < E) : NB w' b l A n c B m d := by
  obtain ⟨t, H⟩ := H
  exact ⟨t, (hb.block b hB).trans H⟩
theorem NB.lt (H : NB w b l A n c B m d) : b < w.heap.size := by
  obtain ⟨t, H⟩ := H
  exact (Array.getElem?_eq_some_iff.1 H).1
theorem NB.c0 (H : NB w b l A n c B m d) : w.cell? ⟨b, 0, none⟩ = some (.int .i64 l) := by
  obtain ⟨t, H⟩ := H
  rw [cell_of_row _ _ _ _ _ _ H]; rfl
theorem NB.c1 (H : NB w b l A n c B m d) : w.cell? ⟨b, 1, none⟩ = some (.slice A n c) := by
  obtain ⟨t, H⟩ := H
  rw [cell_of_row _ _ _ _ _ _ H]; rfl
theorem NB.c2 (H : NB w b l A n c B m d) : w.cell? ⟨b, 2, none⟩ = some (.slice B m d) := by
  obtain ⟨t, H⟩ := H
  rw [cell_of_row _ _ _ _ _ _ H]; rfl
end
end Go.Proofs.YtipejjgodnnkaaaGreatDoor

namespace Go.Proofs.YtipejjgodnnkaaaGreatDoor
open Go Go.RowKit Go.Proofs

def itemsOk (N : Nd) : Bool := N.items.all fun x => decide (x.v.length ≤ 28)
def kidsOk (N : Nd) : Bool := N.kids.all fun x => decide (1 ≤ x.a ∧ x.a < 2048)
/-- P6.1. -/
def Nd.may (N : Nd) : Bool :=
  if N.lvl = 0 then itemsOk N && (rises N.keys && decide (N.kids.length = 0 ∧ 1 ≤ N.items.length ∧ N.items.length ≤ 6))
  else kidsOk N && (rises N.keys && decide (1 ≤ N.lvl ∧ N.lvl < 8 ∧ N.items.length = 0 ∧ 2 ≤ N.kids.length ∧ N.kids.length ≤ 12))
end Go.Proofs.YtipejjgodnnkaaaGreatDoor

namespace Go.Proofs.YtipejjgodnnkaaaGreatDoor
open Go Go.RowKit Go.Proofs

theorem NB.range {w : World} {b : Nat} {l : Int} {A B : Option Addr} {n c m d : Nat} (H : NB w b l A n c B m d) : w.rangeAt b 0 [.int .i64 l, .slice A n c, .slice B m d] := fun j v hv => by
  obtain ⟨t, H⟩ := H
  rw [cell_of_row _ _ _ _ _ _ H, Nat.zero_add]
  simpa using hv
end Go.Proofs.YtipejjgodnnkaaaGreatDoor

namespace Go.Proofs.YtipejjgodnnkaaaGreatDoor
open Go Go.RowKit Go.Proofs

section
variable {P : Program} {t e : TypeId} {s b : Nat} {z : Value} (w : World)
end
theorem TInt : RowT Tryz.prog 33 3 1 8 (.int .i64 0) := ⟨Tryz.underlying33, by kernel_rfl, rfl, by omega⟩
def iv (z : Int) : List Value := [.int .i64 z]
theorem lit1_int (w : World) (x : Int) : Sls (w.alloc (.cells #[.int .i64 x] 3)) 1 (some ⟨w.heap.size, 0, none⟩) 1 1 [iv x] := (owns_lit1 w 3 1 (iv x) _ rfl rfl).sls (by omega)
end Go.Proofs.YtipejjgodnnkaaaGreatDoor
