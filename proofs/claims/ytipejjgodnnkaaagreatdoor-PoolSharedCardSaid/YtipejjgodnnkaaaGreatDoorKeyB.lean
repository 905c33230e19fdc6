/- Keys: Put, the code's and the reference's. -/
import Derived.Test.YtipejjgodnnkaaaGreatDoorTurn
import Derived.Test.YtipejjgodnnkaaaGreatDoorKeyA
import Derived.Deep.RegionHeld3
namespace Go.Proofs.YtipejjgodnnkaaaGreatDoor
open Go Go.RowKit Go.Proofs

theorem KB.lt {w : World} {b : Nat} {k : Kd} (H : KB w b k) : b < w.heap.size := by
  obtain ⟨t, H⟩ := H
  exact lt_of_heap H
theorem KB.there {w : World} {b : Nat} {k : Kd} (H : KB w b k) : w.there b 0 3 := fun j hj => by
  obtain ⟨t, H⟩ := H
  refine ⟨?_, by unfold World.frozen?; rw [H]; simp⟩
  rw [cell_of_row _ _ _ _ _ _ H, Nat.zero_add, Array.getElem?_eq_getElem (by simpa using hj)]; rfl
theorem KB.stored {w : World} {b : Nat} {k : Kd} (H : KB w b k) (k2 : Kd) : KB (w.setCells b 0 k2.vs) b k2 := by
  obtain ⟨t, H⟩ := H
  exact ⟨t, setCell_at _ (setCell_at _ (setCell_at _ H))⟩
theorem KB.keep {w w' : World} {b : Nat} {k : Kd} (H : KB w b k) (h : w'.heap[b]? = w.heap[b]?) : KB w' b k := by
  obtain ⟨t, H⟩ := H
  exact ⟨t, h.trans H⟩
theorem KB.fz {w : World} {b : Nat} {k : Kd} (H : KB w b k) (i : Nat) : w.frozen? ⟨b, i, none⟩ = false := by
  obtain ⟨t, H⟩ := H
  unfold World.frozen?
  rw [H]
  simp
theorem KB.set0 {w : World} {b : Nat} {k : Kd} (H : KB w b k) (x : Int) : KB (w.setCell ⟨b, 0, none⟩ (.int .i64 x)) b ⟨x, k.kind, k.off⟩ := by
  obtain ⟨t, H⟩ := H
  exact ⟨t, setCell_at _ H⟩
theorem KB.set1 {w : World} {b : Nat} {k : Kd} (H : KB w b k) (x : Int) : KB (w.setCell ⟨b, 1, none⟩ (.int .i64 x)) b ⟨k.obj, x, k.off⟩ := by
  obtain ⟨t, H⟩ := H
  exact ⟨t, setCell_at _ H⟩
theorem KB.set2 {w : World} {b : Nat} {k : Kd} (H : KB w b k) (x : Int) : KB (w.setCell ⟨b, 2, none⟩ (.int .i64 x)) b ⟨k.obj, k.kind, x⟩ := by
  obtain ⟨t, H⟩ := H
  exact ⟨t, setCell_at _ H⟩
theorem Own.keep {w w' : World} {base n c : Nat} {e : TypeId} {A : Option Addr} {l : List UInt8} (h : Own w base e A n c l) (hk : ∀ g, base ≤ g → g < w.heap.size → w'.heap[g]? = w.heap[g]?) : Own w' base e A n c l := by
  refine ⟨h.1, ?_⟩
  rcases h.2 with hv | ⟨g, cap, cur, hv, h1, hg, r⟩
  · exact .inl hv
  · exact .inr ⟨g, cap, cur, hv, h1, (hk g h1 (Array.getElem?_eq_some_iff.1 hg).1).trans hg, r⟩
end Go.Proofs.YtipejjgodnnkaaaGreatDoor
