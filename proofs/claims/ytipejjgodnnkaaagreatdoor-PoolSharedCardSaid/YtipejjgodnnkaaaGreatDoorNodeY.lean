/- Plain facts of nodes: what was written is read; the two ways to say what is read. -/
import Derived.Test.YtipejjgodnnkaaaGreatDoorGrown
import Derived.Test.YtipejjgodnnkaaaGreatDoorPy5
import Derived.Test.YtipejjgodnnkaaaGreatDoorPy8
import Derived.Test.YtipejjgodnnkaaaGreatDoorPy12
import Derived.Test.YtipejjgodnnkaaaGreatDoorNodeW
import Derived.Test.YtipejjgodnnkaaaGreatDoorPy17
import Derived.Deep.RegionHeld3
import Derived.Deep.QuietTactic
import Derived.BigQuiet
namespace Go.Proofs.YtipejjgodnnkaaaGreatDoor
open Go Go.RowKit Go.Proofs

theorem blk_pad (h : Hd) (l r : List UInt8) (hr : allZ r = true) (hl : l.length + r.length = 236) : blkL h l = blkL h (l ++ r) := by
  have e : restL h l = restL h (l ++ r) := by
    unfold restL
    have z := allZ_rep hr
    rw [show 236 - (l ++ r).length = 0 by rw [List.length_append]; omega, show 236 - l.length = r.length by omega, ← z]
    simp
  unfold blkL
  rw [e]
end Go.Proofs.YtipejjgodnnkaaaGreatDoor
