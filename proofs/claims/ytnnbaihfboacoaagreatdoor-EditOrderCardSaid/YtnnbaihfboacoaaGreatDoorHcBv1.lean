/- The laws of edit: a new pool, the document's example. -/
import Derived.Test.YtnnbaihfboacoaaGreatDoorEt34
import Derived.Test.YtnnbaihfboacoaaGreatDoorEt36
namespace Go.Proofs.YtnnbaihfboacoaaGreatDoor
open Go Go.RowKit Go.Proofs
section
variable {b:Nat}{w w':World}{d p:Nat}{U:Nat->Prop}{D:DM}{P:Pl}{H H0:List Int}{m:Nat}{g:Int}{root:Int}{its:List Qc}
theorem Ed.room (E:Ed b w d p U D P H m g){L:List (Nat × Int × List Qc)}(hL:Nw (P.store D) L)(hH:∀a∈H,∃x∈L,x.2.1=a):P.C.n<=P.C.free+(P.C.first+((L.map λx=>x.2.2.length).sum+P.C.kept)):=by
 obtain⟨f,e,K⟩:=E.keep;rw[<-Nh] at hL;have h1:=K.used hL hH;have h2:=qau P.C;omega
end
