/- What a call may turn: a set of blocks -/
import Derived.Test.YtnnbaihfboacoaaGreatDoorEt2
namespace Go.Proofs.YtnnbaihfboacoaaGreatDoor
open Go Go.RowKit Go.Proofs
set_option maxRecDepth 100000
section
open Go.ChangeMaps (setBlock)
section
variable {S S':Nat->Prop}{w w' w'':World}
theorem qr6 {base b:Nat}{e:TypeId}{size n:Nat}{v:Value}{xs:List Value}(h:w.ownsRow base e size v n xs)(m:b<=base):w.ownsRow b e size v n xs:=by
 refine⟨h.1,?_⟩;rcases h.2 with d|⟨g,cap,f,d,h1,r⟩
 ·exact .inl d
 ·exact .inr ⟨g,cap,f,d,by omega,r⟩
end
end
section
open Go.ChangeShapes Go.WideShapes Go.ChangeAt Go.Deep
section
variable {H:Type}{enc:TypeId × Value->H}{W:World}
theorem qww {b:List (List Value)}(h:∀r∈b,∃k:Kd,r=kvs k):∃d:List Kd,b=d.map kvs:=by
 induction b with
 |nil=>exact⟨[],rfl⟩
 |cons r l ih=>
  obtain⟨x,m⟩:=h r (List.mem_cons_self ..);obtain⟨f,h1⟩:=ih λr e=>h r (List.mem_cons_of_mem _ e)
  exact⟨x::f,by rw[List.map_cons,<-m,<-h1]⟩
theorem qr7 {v:Value}{d:DataW H}{ps:List MemPlace}(p:∃a len cap,v=.slice a len cap)(h:DataW.Trod enc Tryz.prog W 0 (λ_=>true) true 42 v d ps):∃A n c b,v=.slice A n c/\Ah W A n c b:=by
 obtain⟨a,len,cap,rfl⟩:=p;obtain⟨fuel,E⟩:=h;obtain⟨A,n,c,D,e,B,m⟩:=qjq (s:=3) (by omega) Tryz.underlying42 (by kernel_rfl) E;obtain⟨I,F,G,K⟩:=Qb2;obtain⟨b,rfl⟩:=qww λr hm=>by
  obtain⟨f,y,u⟩:=m r hm;exact qjr K.st K.one K.cells K.h0 K.h1 K.h2 u
 exact⟨A,n,c,b,e,B⟩
end
end
