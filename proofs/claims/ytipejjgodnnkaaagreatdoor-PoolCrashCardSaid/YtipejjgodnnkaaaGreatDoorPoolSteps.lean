/- PoolSteps's walk. -/
import Derived.Test.YtipejjgodnnkaaaGreatDoorPx9
import Derived.Test.YtipejjgodnnkaaaGreatDoorPx15
import Derived.Test.YtipejjgodnnkaaaGreatDoorPx23
import Derived.Test.YtipejjgodnnkaaaGreatDoorLaw2
import Derived.Test.YtipejjgodnnkaaaGreatDoorPx24
import Derived.Deep.Grids
namespace Go.Proofs.YtipejjgodnnkaaaGreatDoor
open Go Go.RowKit Go.Proofs

/-- What the law's loop keeps. -/
structure Stepped (kn mm : Nat) (D : DM) (P : Pl) (j many : Nat) : Prop where
  ok : P.ok
  n : P.C.n = kn
  S : P.S = fmtS kn
  sound : Sound D P (fmtS kn) (Ct.zero kn)
  new : P.new.length = many
  free : j < mm → P.C.free + j = kn - (2 + 2 * areaN kn)
attribute [local go_sem ↓] fldS_shut
end Go.Proofs.YtipejjgodnnkaaaGreatDoor
