/- The code's find: what a node that was read holds; kid. -/
import Derived.Test.YtnnbaihfboacoaaGreatDoorEt25
namespace Go.Proofs.YtnnbaihfboacoaaGreatDoor
open Go Go.RowKit Go.Proofs
section
variable {w w':World}{lo hi n c m d:Nat}{A B:Option Addr}{M:Nd}
theorem Held.vals (h:Held w lo hi A n c B m d M):Rq w lo hi A n M.items:=(h.2.2.2 w (Nat.le_refl _) λ_ _ _=>rfl).2.2
end
