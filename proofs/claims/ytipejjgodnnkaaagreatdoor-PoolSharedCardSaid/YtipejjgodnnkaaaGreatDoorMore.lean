/- More words for slices: a literal of bytes that is marked as a text's; a part in the middle. Nothing here speaks of one program. -/
import Derived.Test.YtipejjgodnnkaaaGreatDoorPy1
import Derived.Lib.SlBytesConst
namespace Go.Proofs.YtipejjgodnnkaaaGreatDoor
open Go Go.RowKit

/-- A new row of bytes, whatever its mark is. -/
theorem sl_mark (w : World) (e : TypeId) (fr : Nat × Nat) (l : List UInt8) (cs : Array Value) (h : cs.toList = l.map bv) (hm : l.length ≤ 16777216) : Sl (w.alloc (.cells cs e fr)) (some ⟨w.heap.size, 0, none⟩) l.length l.length l := by
  refine ⟨by simp, Nat.le_refl _, by unfold maxLen; omega, fun j u hu => ⟨_, rfl, by simp, ?_⟩⟩
  rw [Addr.add_lit, Nat.zero_add, World.cell?_alloc_mark, ← hu, ← h]
  simp

/-- One byte of a row, as a slice: 's[k:k+1]'. -/
theorem Sl.one {w : World} {A : Option Addr} {n c : Nat} {l : List UInt8} (h : Sl w A n c l) {k : Nat} (hk : k < n) : ∃ ad, A = some ad ∧ Sl w (some (ad.add k)) 1 (c - k) [UInt8.ofNat (byt l k)] := by
  obtain ⟨ad, rfl, hb, hc⟩ := h.cell hk
  refine ⟨ad, rfl, ⟨rfl, by have := h.cap; omega, by have := h.max; omega, fun j u hu => ?_⟩⟩
  rcases j with _ | j
  · refine ⟨_, rfl, by rw [addr_block]; exact hb, ?_⟩
    rw [addr_add, Nat.add_zero, hc]
    have hb := byt_le l k
    have e : u = bv (UInt8.ofNat (byt l k)) := by simpa using hu.symm
    rw [e]
    unfold bv
    rw [UInt8.toNat_ofNat', Nat.mod_eq_of_lt (by omega)]
  · simp at hu
end Go.Proofs.YtipejjgodnnkaaaGreatDoor
