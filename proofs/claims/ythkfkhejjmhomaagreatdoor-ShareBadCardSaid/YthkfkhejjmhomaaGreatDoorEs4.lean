/- Rows of structs: slices whose elements are rows of s cells; nothing here speaks of one pro -/
import Derived.Test.YthkfkhejjmhomaaGreatDoorEs3
namespace Go.Proofs.YthkfkhejjmhomaaGreatDoor
open Go Go.RowKit Go.Proofs
section
variable {w w':World}{s n c:Nat}{A:Option Addr}{xs:List (List Value)}
end
section
variable {w w':World}{base s n c:Nat}{e:TypeId}{A:Option Addr}{xs:List (List Value)}
theorem q3r (w:World)(e:TypeId)(s:Nat):Qo (w.alloc (.cells #[] e)) w.1.size e s (some ⟨w.1.size,0,none⟩) 0 0 []:=
 ⟨⟨by simp,.inr ⟨w.1.size,0,#[],rfl,Nat.le_refl _,heap_alloc_new w _,Nat.le_refl _,Nat.zero_le _,by simp,by simp⟩⟩,λx d=>by simp at d⟩
end
section
variable {P:Program}{t e:TypeId}{s b:Nat}{z:Value}(w:World)
end
section
open Go.ChangeMaps (setBlock)
section
variable {S S':Nat->Prop}{w w' w'':World}
theorem qgr {base d:Nat}{e:TypeId}{size n:Nat}{v:Value}{xs:List Value}(h:w.ownsRow base e size v n xs)(p:d<=base):w.ownsRow d e size v n xs:=by
 refine⟨h.1,?_⟩;rcases h.2 with m|⟨g,cap,f,m,h1,r⟩
 ·exact .inl m
 ·exact .inr ⟨g,cap,f,m,by omega,r⟩
end
end
