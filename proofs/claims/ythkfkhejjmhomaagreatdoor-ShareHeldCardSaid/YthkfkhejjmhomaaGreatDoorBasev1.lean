/- Words for slices whose cells are read, over the kit's library; nothing here speaks of one  -/
import Derived.Test.YthkfkhejjmhomaaGreatDoorEs1
namespace Go.Proofs.YthkfkhejjmhomaaGreatDoor
open Go Go.RowKit Go.Proofs
section
variable {w w':World}{B B' n c:Nat}{A:Option Addr}{xs:List Value}
end
section
variable {w w':World}{n c:Nat}{A:Option Addr}{l:List UInt8}
theorem Sl.drewN (h:Sl w A n c l)(k:Nat):Sl (w.drewN k) A n c l:=h
end
section
variable {w w':World}{base n c:Nat}{e:TypeId}{A:Option Addr}{l:List UInt8}
end
section
variable {P:Program}{t e:TypeId}(w:World)
end
section
variable {w w':World}{k c:Nat}{A:Option Addr}{ls:List (List UInt8)}
end
section
variable {P:Program}{t e:TypeId}(w:World)
end
section
variable {w w':World}{n c:Nat}{A:Option Addr}{ss:List ByteArray}
end
