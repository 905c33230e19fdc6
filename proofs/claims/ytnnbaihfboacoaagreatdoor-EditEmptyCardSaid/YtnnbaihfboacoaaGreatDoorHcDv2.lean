/- The laws of edit: rows that stay while a pool turns; what puts and deletes in order come t -/
import Derived.Test.YtnnbaihfboacoaaGreatDoorEt39
namespace Go.Proofs.YtnnbaihfboacoaaGreatDoor
open Go Go.RowKit Go.Proofs
section
variable {U:Nat->Prop}{w w':World}{A:Option Addr}{n c:Nat}{xs:List Qc}
end
theorem qyh {l:List Qc}(u:Qd l){j:Nat}(h:j<l.length):Jv (Qj l j).k l=l.take j++l.drop (j+1):=by
 have d:=qer h;have b:=u;rw[d] at b;obtain⟨_,h2,h1⟩:=List.pairwise_append.1 b;have p:=(List.pairwise_cons.1 h2).1;obtain⟨x,B⟩:∃x,Qj l j=x:=⟨_,rfl⟩;rw[B] at d h1 p ⊢;have e:Jv x.k l=Jv x.k (l.take j++x::l.drop (j+1)):=by rw[<-d]
 rw[e];unfold Jv;rw[List.filter_append,List.filter_cons];have f:x.k.same x.k=true:=(Kd.same_iff _ _).2 ⟨rfl,rfl,rfl⟩;rw[f,List.filter_eq_self.2 λy m=>by rw[(Iq (h1 y m x (List.mem_cons_self ..))).1];rfl,List.filter_eq_self.2 λy m=>by rw[(Iq (p y m)).2];rfl];simp
