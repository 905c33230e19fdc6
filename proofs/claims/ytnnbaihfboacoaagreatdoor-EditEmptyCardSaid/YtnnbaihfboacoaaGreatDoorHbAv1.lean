/- append of a row of items onto the call's own row, with a word of where each value lies. -/
import Derived.Test.YtnnbaihfboacoaaGreatDoorEt15
namespace Go.Proofs.YtnnbaihfboacoaaGreatDoor
open Go Go.RowKit Go.Proofs
theorem qbk {F:Option Addr->List UInt8->Prop}{w:World}(ty:TypeId)(base:Nat)(A:Option Addr)(n c:Nat)(xs:List Qc)(H:Je F w base A n c xs)(B:Option Addr)(m d:Nat)(ys:List Qc)(hy:Zg F w B m d ys)(a1:∀V v,F V v->v≠[]->∀g,q01 V=some g->q01 A≠some g)(hn:n+m<=100000)(I:base<=w.1.size) :
  ∃J c' K,(Builtin.append_ #[26,26] ty #[.slice A n c,.slice B m d]).run Tryz.prog w=.ok (.slice J (n+m) c') K/\Je F K base J (n+m) c' (xs++ys)/\Turn (λk=>q01 A=some k) w K/\(q01 J=q01 A\/q01 J=some w.1.size):=by
 by_cases hm:m=0
 ·subst hm;obtain⟨b,hr,W,_⟩:=hy;have a2:ys=[]:=List.length_eq_zero_iff.1 (by have:=hr.len;omega);subst a2;obtain⟨f,h1,h2,h3⟩:=H;obtain⟨i,hi,b0,a6,b1⟩:=info_parts Ad.info;refine⟨A,c,w,q2y (P:=Tryz.prog) base 26 ty 68 i 4 Ad.sl hi A n c f.flatten h1.1 B d (by omega) a6,?_,Turn.refl _ _,.inl rfl⟩;rw[List.append_nil];exact⟨f,h1,h2,h3⟩
 ·obtain⟨f,h1,h2,h3⟩:=H;obtain⟨b,hr,W,Q⟩:=hy;have one:∀y∈b,∀u∈y,u.oneCell'=true:=λy a7 u hu=>by
   obtain⟨j,hj⟩:=List.mem_iff_getElem?.1 a7;have a8:=(List.getElem?_eq_some_iff.1 hj).1;obtain⟨V,p,q,e,_⟩:=Q j y _ hj (List.getElem?_eq_getElem (by omega));subst e;exact q91 _ V p q _ (List.mem_singleton.2 rfl) u hu
  obtain⟨J,c',K,U,X,T,Z,_⟩:=q1w (P:=Tryz.prog) w Ad ty base A n c f h1 B m d b hr (by omega) one (by omega) (by omega) I;refine⟨J,c',K,U,⟨_,X,by rw[List.length_append,List.length_append,h2,W],λj r x D R=>?_⟩,T,Z⟩;have old:∀(V:Option Addr) (p q:Nat) (v:List UInt8),Le F w V p q v->(v≠[]->∀g,q01 V=some g->q01 A≠some g)->Le F K V p q v/\(v≠[]->∀g,q01 V=some g->q01 J≠some g):=by
   intro V p q v hs G;refine⟨⟨hs.1.turned' T (λhl k hk e=>G hl k hk e),hs.2⟩,λhl g hg e=>?_⟩;rcases Z with h5|h5
   ·exact (G hl g hg) (h5.symm.trans e)
   ·have:=hs.1.Qa hl g hg;rw[h5] at e;have:=Option.some.inj e;omega
  by_cases hj:j<f.length
  ·rw[List.getElem?_append_left hj] at D;rw[List.getElem?_append_left (by omega)] at R;obtain⟨O,Y,M,e,E,G⟩:=h3 j r x D R;obtain⟨o1,o2⟩:=old O Y M x.v E G;exact⟨O,Y,M,e,o1,o2⟩
  ·rw[List.getElem?_append_right (by omega)] at D R;rw[<-h2] at R;obtain⟨O,Y,M,e,E⟩:=Q _ r x D R;obtain⟨o1,o2⟩:=old O Y M x.v E (a1 _ _ E.2);exact⟨O,Y,M,e,o1,o2⟩
