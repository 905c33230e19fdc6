/- A region that draws its order, whose operations read and whose callees hand back plain val -/
import Derived.Test.YthkfkhejjmhomaaGreatDoorEs1
import Derived.Deep.QuietTactic
import Derived.BigQuiet
import Derived.StillTail
namespace Go.Proofs.YthkfkhejjmhomaaGreatDoor
open Go Go.RowKit Go.Proofs
structure Grown (w:World) where
 «to»:World
 ok:Below w.heap.size w «to»
instance grownThere (w:World):Nonempty (Grown w):=⟨⟨w,Below.refl _ w⟩⟩
theorem Grown.cell {w:World}{a:Addr}{v:Value}(h:w.cell? a=some v)(ha:a.block<w.1.size)(u:Grown w):u.to.cell? a=some v:=(u.ok.cell ha).trans h
theorem Ua {P:Program}{f:Nat}{Q:Exit->Act->World->Prop}{a:Act}{w:World}{l:List Oper}(hm:P.follows .mixedOrders=true)(e:Region.lexB .any l.toArray=true)
  (h:wpQuiet P l.toArray (λb=>∃u:Grown w,b=u.to) (λd=>∀b,(∃u:Grown w,b=u.to)->Q .normal d b) l a):(Code.region f l.toArray true).wp P Q a w:=
 wp_region_quiet (C:=λb=>∃u:Grown w,b=u.to) hm e ⟨⟨_,(Below.refl _ w).drew⟩,rfl⟩ (by rw[List.toList_toArray];exact h)
theorem Calls.grown {P:Program}{f:FuncId}{args:Array Value}{w:World}{u:Grown w}{v:Value}
  (h:Calls P f args u.to λe b=>e=.returned v/\Below u.to.1.size u.to b):Calls P f args u.to λe d=>e=.returned v/\∃y:Grown w,d=y.to:=
 h.mono λ_ b ⟨p,m⟩=>⟨p,⟨b,u.ok.trans (m.mono u.ok.size)⟩,rfl⟩
theorem Calls.J7 {P:Program}{f:FuncId}{args:Array Value}{w:World}{u:Grown w}{v:Value}
  (h:Calls P f args u.to λe y=>e=.returned v/\u.to=y):Calls P f args u.to λe b=>e=.returned v/\∃p:Grown w,b=p.to:=
 h.mono λ_ _ ⟨d,m⟩=>⟨d,u,m.symm⟩
section
variable {P:Program}{ops:Array Oper}{C:World->Prop}{n:Nat}
def q31 (P:Program)(ops:Array Oper)(C:World->Prop)(n:Nat)(L:Array Bool->Act->Prop):Nat->Array Bool->Act->Prop
 |0,s,a=>L s a
 |f+1,s,a=>Region.ready .any ops s≠[]/\∀i,i∈Region.ready .any ops s->i<n/\qOp P ops C i (λb=>q31 P ops C n L f (s.setIfInBounds i true) b) a
variable {L:Array Bool->Act->Prop}
theorem q31.run {g:Nat}{Q:Exit->Act->World->Prop}(hL:∀s a w,C w->L s a->wpAny P .any ops Q g s a w)(f:Nat):∀{s:Array Bool} {a:Act} {w:World},C w->q31 P ops C n L f s a->wpAny P .any ops Q (f+g) s a w:=by
 induction f with
 |zero=>intro s a w b h;rw[Nat.zero_add];exact hL s a w b h
 |succ f ih=>
  intro s a w b h;obtain⟨h1,h2⟩:=h;have e:f+1+g=f+g+1:=by omega
  rw[e];refine⟨λm=>absurd m h1,λi u=>?_⟩;exact wpOp_of_qOp b (λy A d p=>ih d p) (h2 i u).2
theorem q31.first {i:Nat}{o:Oper}{v:Value}(ho:ops[i]?=some o)(hsel:∀(j:Nat) (x:Oper) A b,ops[j]?=some x->x.op≠.select A b)(hs:Region.sinkB .any ops n=true)(hc:Region.chainB .any ops n=true)
  (hn:n<ops.size) (hin:i<n) (hend:∀s a,L s a->∀j,j∈Region.ready .any ops s->n<=j) (f:Nat):∀{s:Array Bool} {a:Act},HeadInv .any ops n s->
   (∀j x,ops[j]?=some x->j≠i->s.getD j true=false->(∀e∈x.after,Region.binds .any e=true->e.on≠i)->o.apart ops x=true)->i∈Region.ready .any ops s->YieldsIn P ops C o v a->
   q31 P ops C n L f (s.setIfInBounds i true) (a.put o.dst v)->q31 P ops C n L (f+1) s a:=by
 induction f with
 |zero=>
  intro s a inv m u G H;refine⟨List.ne_nil_of_mem u,λj p=>?_⟩;have d:j<n:=Classical.byContradiction λh=>tail_waits hs hc hn inv _ i rfl hin (mem_ready.1 u).1 j (by omega) p
  by_cases e:j=i
  ·subst e;exact⟨d,G.qOp ho H⟩
  ·have:=hend _ _ H j (ready_mono p e);omega
 |succ f ih=>
  intro s a inv m u G H;refine⟨List.ne_nil_of_mem u,λj p=>?_⟩;have E:=(mem_ready.1 u).1;have d:j<n:=Classical.byContradiction λh=>tail_waits hs hc hn inv _ i rfl hin E j (by omega) p
  by_cases e:j=i
  ·subst e;exact⟨d,G.qOp ho H⟩
  ·refine⟨d,?_⟩;obtain⟨F,x,O,X⟩:=mem_ready.1 p;have M:∀e∈x.after,Region.binds .any e=true->e.on≠i:=λQ T R h=>by
    have h1:=X Q T R;rw[h,getD_both E] at h1
    cases h1
   have W:=qOp_put O (m j x O e F M) (λA b=>hsel i o A b ho) (λA b=>hsel j x A b O) G (H.2 j (ready_mono p e)).2;refine qOp_mono (λY B=>?_) W;refine ih (inv.set p d) (λk y U I K J=>m k y U I ?_ J) (ready_mono u (Ne.symm e)) B.1 ?_
   ·by_cases D:j=k
    ·subst D;exact F
    ·rwa [getD_set_ne true D] at K
   ·rw[Array.setIfInBounds_comm _ _ e];exact B.2
theorem q31.lex {g:Nat}{R:Act->Prop}(hsel:Region.noSelect ops=true)(hs:Region.sinkB .any ops n=true)(hc:Region.chainB .any ops n=true)(hn:n<ops.size) :
  ∀(l:List Oper) (k:Nat) {s:Array Bool} {a:Act},(∀j,j<l.length->l[j]?=ops[k+j]?)->k+l.length=n->HeadInv .any ops n s->Region.lexHead .any ops g l.length k s=true->
   wpQuiet P ops C R l a->q31 P ops C n (λu f=>Region.seqB .any ops g n u=true/\R f) l.length s a:=by
 intro l;induction l with
 |nil=>
  intro k s a _ e _ b h;obtain rfl:k=n:=by simpa using e
  exact⟨by simpa [Region.lexHead] using b,h⟩
 |cons o l ih=>
  intro k s a m e inv b h;rw[List.length_cons] at e b;have h0:ops[k]?=some o:=by simpa using (m 0 (Nat.succ_pos _)).symm
  have d:k<n:=by omega
  simp only[Region.lexHead,Bool.and_eq_true] at b;have p:k∈Region.ready .any ops s:=by simpa using b.1.1
  obtain⟨v,D,y⟩:=yieldsIn_of_qOp (K:=λa=>wpQuiet P ops C R l a) h0 (by unfold qOp;rw[h0];exact h);refine q31.first h0 (Region.noSelect_spec hsel) hs hc hn d (λu f A=>seqB_ready A.1) l.length inv (Region.free_spec h0 b.1.2) p D ?_
  exact ih (k+1) (λj B=>by have:=m (j+1) (by simpa using B);rw[List.getElem?_cons_succ] at this;rw[this];congr 1;omega) (by omega) (inv.set p d) b.2 y
end
theorem q25 {P:Program}{O:Nat}{Q:Exit->Act->World->Prop}{a:Act}{w:World}{l:List Oper}(m:Nat)(hm:P.follows .mixedOrders=true)(y:Region.lexTailB .any l.toArray m=true)
  (h:wpQuiet P l.toArray (λb=>∃u:Grown w,b=u.to) (λf=>∀b,(∃u:Grown w,b=u.to)->wpList P l.toArray Q (l.drop m) f b) (l.take m) a):(Code.region O l.toArray true).wp P Q a w:=by
 simp only[Region.lexTailB,Bool.and_eq_true,decide_eq_true_eq] at y;obtain⟨⟨⟨⟨E,p⟩,F⟩,G⟩,I⟩:=y;have J:m<l.length:=by simpa using p
 have d:(l.take m).length=m:=by rw[List.length_take];omega
 have hd:(l.drop m).length=l.toArray.size-m:=by simp
 have M:HeadInv .any l.toArray m (Array.replicate l.toArray.size false):=
  ⟨by simp,λj x _ D=>(by rw[getD_replicate_false] at D;cases D),λt _ d=>getD_in (by simpa using d) (getD_replicate_false _ _)⟩
 have H:=q31.lex (P:=P) (C:=λb=>∃u:Grown w,b=u.to) (g:=l.toArray.size-m) E F G p (l.take m) 0 (λj B=>by rw[d] at B;simp[B]) (by omega) M (by rw[d];exact I) h;refine wp_region_any hm ?_;have:=q31.run (n:=m) (Q:=Q) (g:=l.toArray.size-m) (λs f b K A=>by
  have:=wpAny_of_seq (md:=.any) (Q':=Q) (l.drop m) m s f b (λj=>by simp[List.getElem?_drop]) (by rw[hd];exact A.1) (A.2 b K);rwa [hd] at this) _ (w:={ w with drawn:=w.drawn+1 }) ⟨⟨_,(Below.refl _ w).drew⟩,rfl⟩ H
 have e:(l.take m).length+(l.toArray.size-m)=l.toArray.size:=by rw[d];simp;omega
 rw[e] at this;exact this
