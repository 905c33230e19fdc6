/- The reference's May and Seal. -/
import Derived.Test.YthkfkhejjmhomaaGreatDoorEs10
namespace Go.Proofs.YthkfkhejjmhomaaGreatDoor
open Go Go.RowKit Go.Proofs
def lenV:Value->Nat
 |.slice _ n _=>n
 |_=>0
