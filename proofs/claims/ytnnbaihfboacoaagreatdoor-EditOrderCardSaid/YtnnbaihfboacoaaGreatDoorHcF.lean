/- The laws of edit: rows of unlike keys put in any order. -/
import Derived.Test.YtnnbaihfboacoaaGreatDoorHcBv1
import Derived.Test.YtnnbaihfboacoaaGreatDoorEt39
namespace Go.Proofs.YtnnbaihfboacoaaGreatDoor
open Go Go.RowKit Go.Proofs
theorem qbl:∀{b a:List Qc},Qd a->Qd b->(∀x∈a,x∈b)->a.Sublist b
 |[],a,_,_,h=>by
  cases a with
  |nil=>exact List.Sublist.refl _
  |cons x t=>exact absurd (h x (List.mem_cons_self ..)) (by simp)
 |y::b,a,ha,hb,h=>by
  cases a with
  |nil=>exact List.nil_sublist _
  |cons x t=>
   obtain⟨h1,h2⟩:=List.pairwise_cons.1 ha;obtain⟨E,B⟩:=List.pairwise_cons.1 hb;rcases List.mem_cons.1 (h x (List.mem_cons_self ..)) with rfl|A
   ·refine List.Sublist.cons_cons _ (qbl h2 B λz f=>?_);rcases List.mem_cons.1 (h z (List.mem_cons_of_mem _ f)) with rfl|e
    ·exact absurd (h1 z f) (by rw[q38];simp)
    ·exact e
   ·refine List.Sublist.cons _ (qbl ha B λz f=>?_);rcases List.mem_cons.1 (h z f) with rfl|e
    ·rcases List.mem_cons.1 f with rfl|u
     ·exact A
     ·exact absurd (h1 z u) (by rw[q6k (E x A)];simp)
    ·exact e
theorem qru {a b:List Qc}(f:Qd a)(u:Qd b)(h:∀x∈a,x∈b)(y:b.length<=a.length):a=b:=by
 have e:=qbl f u h;have:=e.length_le;exact e.eq_of_length (by omega)
theorem qld {k:Kd}{v:List UInt8}:∀{l:List Qc},Qd l->(∀y∈l,y.k.same k=false)->(Zo k v false l).length=l.length+1
 |[],_,_=>by simp[Zo]
 |x::r,hr,h=>by
  rw[q1p hr];split
  ·rfl
  ·rw[h x (List.mem_cons_self ..)];rw[if_neg (by simp)];rw[List.length_cons,qld (List.pairwise_cons.1 hr).2 λy e=>h y (List.mem_cons_of_mem _ e)];rfl
theorem qrv {l:List Qc}(u:Qd l){j:Nat}(h:j<l.length):∀z∈l.take j++l.drop (j+1),(Qj l j).k.same z.k=false:=λz f=>by
 have y:=qer h;have e:=u;rw[y] at e;obtain⟨_,h2,h1⟩:=List.pairwise_append.1 e;rcases List.mem_append.1 f with f|f
 ·exact (Iq (h1 z f _ (List.mem_cons_self ..))).2
 ·exact (Iq ((List.pairwise_cons.1 h2).1 z f)).1
section
variable {b:Nat}{w w':World}{d p:Nat}{U:Nat->Prop}{D:DM}{P P':Pl}{H H0:List Int}{m:Nat}{g:Int}{root one r:Int}{its its1:List Qc}
theorem Ed.Qau (E:Ed b w d p U D P (Jr root++Jr one) m g)(hT:Zb (P.store D) root its)(hT1:Zb (P.store D) one its1):P.C.n<=P.C.free+(P.C.first+(its.length+its1.length+P.C.kept)):=by
 have key:∀{a:Int} {l:List Qc},Zb (P.store D) a l->∃L,Nw (P.store D) L/\(∀c∈Jr a,∃x∈L,x.2.1=c)/\(L.map λx=>x.2.2.length).sum=l.length:=by
  intro a l h;rcases h with⟨rfl,rfl⟩|⟨K,_,h,h1,_⟩
  ·exact⟨[],λx f=>by (cases f),λc u=>by (cases u),rfl⟩
  ·refine⟨[(K,a,l)],λx f=>by cases List.mem_singleton.1 f;exact h,λc u=>?_,by simp⟩;have e:Jr a=[a]:=if_neg (by omega);rw[e] at u;exact⟨_,List.mem_singleton_self _,(List.mem_singleton.1 u).symm⟩
 obtain⟨y,B,F,a3⟩:=key hT;obtain⟨A,G,I,J⟩:=key hT1;have:=E.room (L:=y++A) (λx f=>(List.mem_append.1 f).elim (B x) (G x)) λc u=>by
  rcases List.mem_append.1 u with h|h
  ·obtain⟨x,f,e⟩:=F c h;exact⟨x,List.mem_append_left _ f,e⟩
  ·obtain⟨x,f,e⟩:=I c h;exact⟨x,List.mem_append_right _ f,e⟩
 rw[List.map_append,List.sum_append,a3,J] at this;exact this
theorem Bd.other (h:Bd b w w' d p U D P P' r (Jr one) its m g)(hT:Zb (P.store D) one its1):Zb (P'.store D) one its1:=by
 rcases hT with h1|⟨u,h0,h1,h2,f⟩
 ·exact .inl h1
 ·have e:Jr one=[one]:=if_neg (by omega);exact .inr ⟨u,h0,h.old _ _ _ (by rw[e];exact List.mem_singleton_self _) h1,h2,f⟩
end
