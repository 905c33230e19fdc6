/- A region that draws its order, whose operations read and whose callees hand back plain val -/
import Derived.Test.YthkfkhejjmhomaaGreatDoorDz1
import Derived.Deep.QuietTactic
import Derived.BigQuiet
import Derived.StillTail
namespace Go.Proofs.YthkfkhejjmhomaaGreatDoor
open Go Go.RowKit Go.Proofs
structure Grown (w:World) where
 «to»:World
 ok:Below w.heap.size w «to»
instance grownThere (w:World):Nonempty (Grown w):=⟨⟨w,Below.refl _ w⟩⟩
theorem Grown.cell {w:World}{a:Addr}{v:Value}(h:w.cell? a=some v)(ha:a.block<w.1.size)(u:Grown w):u.to.cell? a=some v:=(u.ok.cell ha).trans h
theorem Iq {P:Program}{g:Nat}{Q:Exit->Act->World->Prop}{a:Act}{w:World}{l:List Oper}(hm:P.follows .mixedOrders=true)(f:Region.lexB .any l.toArray=true)
  (h:wpQuiet P l.toArray (λd=>∃u:Grown w,d=u.to) (λe=>∀d,(∃u:Grown w,d=u.to)->Q .normal e d) l a):(Code.region g l.toArray true).wp P Q a w:=
 wp_region_quiet (C:=λd=>∃u:Grown w,d=u.to) hm f ⟨⟨_,(Below.refl _ w).drew⟩,rfl⟩ (by rw[List.toList_toArray];exact h)
theorem Calls.grown {P:Program}{f:FuncId}{args:Array Value}{w:World}{u:Grown w}{v:Value}
  (h:Calls P f args u.to λe d=>e=.returned v/\Below u.to.1.size u.to d):Calls P f args u.to λe g=>e=.returned v/\∃q:Grown w,g=q.to:=
 h.mono λ_ d ⟨p,m⟩=>⟨p,⟨d,u.ok.trans (m.mono u.ok.size)⟩,rfl⟩
theorem Calls.Oh {P:Program}{f:FuncId}{args:Array Value}{w:World}{u:Grown w}{v:Value}
  (h:Calls P f args u.to λe q=>e=.returned v/\u.to=q):Calls P f args u.to λe d=>e=.returned v/\∃p:Grown w,d=p.to:=
 h.mono λ_ _ ⟨g,m⟩=>⟨g,u,m.symm⟩
section
variable {P:Program}{ops:Array Oper}{C:World->Prop}{n:Nat}
def P9 (P:Program)(ops:Array Oper)(C:World->Prop)(n:Nat)(L:Array Bool->Act->Prop):Nat->Array Bool->Act->Prop
 |0,s,a=>L s a
 |f+1,s,a=>Region.ready .any ops s≠[]/\∀i,i∈Region.ready .any ops s->i<n/\qOp P ops C i (λd=>P9 P ops C n L f (s.setIfInBounds i true) d) a
variable {L:Array Bool->Act->Prop}
theorem P9.run {g:Nat}{Q:Exit->Act->World->Prop}(hL:∀s a w,C w->L s a->wpAny P .any ops Q g s a w)(f:Nat):∀{s:Array Bool} {a:Act} {w:World},C w->P9 P ops C n L f s a->wpAny P .any ops Q (f+g) s a w:=by
 induction f with
 |zero=>intro s a w d h;rw[Nat.zero_add];exact hL s a w d h
 |succ f ih=>
  intro s a w d h;obtain⟨h1,h2⟩:=h;have e:f+1+g=f+g+1:=by omega
  rw[e];refine⟨λp=>absurd p h1,λi hi=>?_⟩;exact wpOp_of_qOp d (λu y m q=>ih m q) (h2 i hi).2
theorem P9.first {i:Nat}{o:Oper}{v:Value}(ho:ops[i]?=some o)(hsel:∀(j:Nat) (x:Oper) u b,ops[j]?=some x->x.op≠.select u b)(hs:Region.sinkB .any ops n=true)(hc:Region.chainB .any ops n=true)
  (hn:n<ops.size) (hin:i<n) (hend:∀s a,L s a->∀j,j∈Region.ready .any ops s->n<=j) (f:Nat):∀{s:Array Bool} {a:Act},HeadInv .any ops n s->
   (∀j x,ops[j]?=some x->j≠i->s.getD j true=false->(∀e∈x.after,Region.binds .any e=true->e.on≠i)->o.apart ops x=true)->i∈Region.ready .any ops s->YieldsIn P ops C o v a->
   P9 P ops C n L f (s.setIfInBounds i true) (a.put o.dst v)->P9 P ops C n L (f+1) s a:=by
 induction f with
 |zero=>
  intro s a g m q E H;refine⟨List.ne_nil_of_mem q,λj p=>?_⟩;have d:j<n:=Classical.byContradiction λh=>tail_waits hs hc hn g _ i rfl hin (mem_ready.1 q).1 j (by omega) p
  by_cases e:j=i
  ·subst e;exact⟨d,E.qOp ho H⟩
  ·have:=hend _ _ H j (ready_mono p e);omega
 |succ f ih=>
  intro s a g m q E H;refine⟨List.ne_nil_of_mem q,λj p=>?_⟩;have B:=(mem_ready.1 q).1;have d:j<n:=Classical.byContradiction λh=>tail_waits hs hc hn g _ i rfl hin B j (by omega) p
  by_cases e:j=i
  ·subst e;exact⟨d,E.qOp ho H⟩
  ·refine⟨d,?_⟩;obtain⟨D,x,K,U⟩:=mem_ready.1 p;have J:∀e∈x.after,Region.binds .any e=true->e.on≠i:=λM Q O h=>by
    have h1:=U M Q O;rw[h,getD_both B] at h1
    cases h1
   have T:=qOp_put K (m j x K e D J) (λu b=>hsel i o u b ho) (λu b=>hsel j x u b K) E (H.2 j (ready_mono p e)).2;refine qOp_mono (λV z=>?_) T;refine ih (g.set p d) (λk y R F I G=>m k y R F ?_ G) (ready_mono q (Ne.symm e)) z.1 ?_
   ·by_cases A:j=k
    ·subst A;exact D
    ·rwa [getD_set_ne true A] at I
   ·rw[Array.setIfInBounds_comm _ _ e];exact z.2
theorem P9.lex {g:Nat}{R:Act->Prop}(hsel:Region.noSelect ops=true)(hs:Region.sinkB .any ops n=true)(hc:Region.chainB .any ops n=true)(hn:n<ops.size) :
  ∀(l:List Oper) (k:Nat) {s:Array Bool} {a:Act},(∀j,j<l.length->l[j]?=ops[k+j]?)->k+l.length=n->HeadInv .any ops n s->Region.lexHead .any ops g l.length k s=true->
   wpQuiet P ops C R l a->P9 P ops C n (λy p=>Region.seqB .any ops g n y=true/\R p) l.length s a:=by
 intro l;induction l with
 |nil=>
  intro k s a _ m _ d h;obtain rfl:k=n:=by simpa using m
  exact⟨by simpa [Region.lexHead] using d,h⟩
 |cons o l ih=>
  intro k s a q m f d h;rw[List.length_cons] at m d;have h0:ops[k]?=some o:=by simpa using (q 0 (Nat.succ_pos _)).symm
  have e:k<n:=by omega
  simp only[Region.lexHead,Bool.and_eq_true] at d;have u:k∈Region.ready .any ops s:=by simpa using d.1.1
  obtain⟨v,D,z⟩:=yieldsIn_of_qOp (K:=λa=>wpQuiet P ops C R l a) h0 (by unfold qOp;rw[h0];exact h);refine P9.first h0 (Region.noSelect_spec hsel) hs hc hn e (λy p A=>seqB_ready A.1) l.length f (Region.free_spec h0 d.1.2) u D ?_
  exact ih (k+1) (λj B=>by have:=q (j+1) (by simpa using B);rw[List.getElem?_cons_succ] at this;rw[this];congr 1;omega) (by omega) (f.set u e) d.2 z
end
theorem Oq {P:Program}{M:Nat}{Q:Exit->Act->World->Prop}{a:Act}{w:World}{l:List Oper}(m:Nat)(hm:P.follows .mixedOrders=true)(y:Region.lexTailB .any l.toArray m=true)
  (h:wpQuiet P l.toArray (λd=>∃u:Grown w,d=u.to) (λp=>∀d,(∃u:Grown w,d=u.to)->wpList P l.toArray Q (l.drop m) p d) (l.take m) a):(Code.region M l.toArray true).wp P Q a w:=by
 simp only[Region.lexTailB,Bool.and_eq_true,decide_eq_true_eq] at y;obtain⟨⟨⟨⟨D,q⟩,E⟩,F⟩,G⟩:=y;have I:m<l.length:=by simpa using q
 have f:(l.take m).length=m:=by rw[List.length_take];omega
 have hd:(l.drop m).length=l.toArray.size-m:=by simp
 have K:HeadInv .any l.toArray m (Array.replicate l.toArray.size false):=
  ⟨by simp,λj x _ B=>(by rw[getD_replicate_false] at B;cases B),λt _ f=>getD_in (by simpa using f) (getD_replicate_false _ _)⟩
 have H:=P9.lex (P:=P) (C:=λd=>∃u:Grown w,d=u.to) (g:=l.toArray.size-m) D E F q (l.take m) 0 (λj A=>by rw[f] at A;simp[A]) (by omega) K (by rw[f];exact G) h;refine wp_region_any hm ?_;have:=P9.run (n:=m) (Q:=Q) (g:=l.toArray.size-m) (λs p d J z=>by
  have:=wpAny_of_seq (md:=.any) (Q':=Q) (l.drop m) m s p d (λj=>by simp[List.getElem?_drop]) (by rw[hd];exact z.1) (z.2 d J);rwa [hd] at this) _ (w:={ w with drawn:=w.drawn+1 }) ⟨⟨_,(Below.refl _ w).drew⟩,rfl⟩ H
 have e:(l.take m).length+(l.toArray.size-m)=l.toArray.size:=by rw[f];simp;omega
 rw[e] at this;exact this
