/- A region that draws its order, whose operations read and whose callees hand back plain val -/
import Derived.Test.YtloolbmdiimanaaGreatDoorGv1
import Derived.Deep.QuietTactic
import Derived.BigQuiet
import Derived.StillTail
namespace Go.Proofs.YtloolbmdiimanaaGreatDoor
open Go Go.RowKit Go.Proofs
structure Grown (w:WD) where
 «to»:WD
 ok:Below w.heap.size w «to»
instance grownThere (w:WD):Nonempty (Grown w):=⟨⟨w,AI _ w⟩⟩
theorem Grown.cell {w:WD}{a:Addr}{v:Value}(h:w.cell? a=some v)(ha:a.block<w.1.size)(u:Grown w):u.to.cell? a=some v:=(u.ok.cell ha).trans h
theorem Ug {P:Program}{g:Nat}{Q:Exit->Act->WD->Prop}{a:Act}{w:WD}{l:List Oper}(hm:P.follows .mixedOrders=true)(f:Region.lexB .any l.toArray=true)
  (h:wpQuiet P l.toArray (λd=>∃u:Grown w,d=u.to) (λe=>∀d,(∃u:Grown w,d=u.to)->Q .normal e d) l a):(Code.region g l.toArray true).wp P Q a w:=
 wp_region_quiet (C:=λd=>∃u:Grown w,d=u.to) hm f ⟨⟨_,(AI _ w).drew⟩,rfl⟩ (by rw[List.toList_toArray];exact h)
theorem Calls.grown {P:Program}{f:FuncId}{args:Array Value}{w:WD}{u:Grown w}{v:Value}
  (h:Calls P f args u.to λe d=>e=.returned v/\Below u.to.1.size u.to d):Calls P f args u.to λe g=>e=.returned v/\∃y:Grown w,g=y.to:=
 h.mono λ_ d ⟨p,m⟩=>⟨p,⟨d,u.ok.trans (m.mono u.ok.size)⟩,rfl⟩
theorem Calls.J7 {P:Program}{f:FuncId}{args:Array Value}{w:WD}{u:Grown w}{v:Value}
  (h:Calls P f args u.to λe y=>e=.returned v/\u.to=y):Calls P f args u.to λe d=>e=.returned v/\∃p:Grown w,d=p.to:=
 h.mono λ_ _ ⟨g,m⟩=>⟨g,u,m.symm⟩
section
variable {P:Program}{ops:Array Oper}{C:WD->Prop}{n:Nat}
def q30 (P:Program)(ops:Array Oper)(C:WD->Prop)(n:Nat)(L:Array Bool->Act->Prop):Nat->Array Bool->Act->Prop
 |0,s,a=>L s a
 |f+1,s,a=>Region.ready .any ops s≠[]/\∀i,i∈Region.ready .any ops s->i<n/\qOp P ops C i (λd=>q30 P ops C n L f (s.setIfInBounds i true) d) a
variable {L:Array Bool->Act->Prop}
theorem q30.run {g:Nat}{Q:Exit->Act->WD->Prop}(hL:∀s a w,C w->L s a->wpAny P .any ops Q g s a w)(f:Nat):∀{s:Array Bool} {a:Act} {w:WD},C w->q30 P ops C n L f s a->wpAny P .any ops Q (f+g) s a w:=by
 induction f with
 |zero=>intro s a w d h;rw[AT];exact hL s a w d h
 |succ f ih=>
  intro s a w d h;obtain⟨h1,h2⟩:=h;have e:f+1+g=f+g+1:=by omega
  rw[e];refine⟨λp=>absurd p h1,λi hi=>?_⟩;exact wpOp_of_qOp d (λy A m u=>ih m u) (h2 i hi).2
theorem q30.first {i:Nat}{o:Oper}{v:Value}(ho:ops[i]?=some o)(hsel:∀(j:Nat) (x:Oper) A b,ops[j]?=some x->x.op≠.select A b)(hs:Region.sinkB .any ops n=true)(hc:Region.chainB .any ops n=true)
  (hn:n<ops.size) (hin:i<n) (hend:∀s a,L s a->∀j,j∈Region.ready .any ops s->n<=j) (f:Nat):∀{s:Array Bool} {a:Act},HeadInv .any ops n s->
   (∀j x,ops[j]?=some x->j≠i->s.getD j true=false->(∀e∈x.after,Region.binds .any e=true->e.on≠i)->o.apart ops x=true)->i∈Region.ready .any ops s->YieldsIn P ops C o v a->
   q30 P ops C n L f (s.setIfInBounds i true) (a.put o.dst v)->q30 P ops C n L (f+1) s a:=by
 induction f with
 |zero=>
  intro s a g m u G H;refine⟨List.ne_nil_of_mem u,λj p=>?_⟩;have d:j<n:=Classical.byContradiction λh=>tail_waits hs hc hn g _ i rfl hin (mem_ready.1 u).1 j (by omega) p
  by_cases e:j=i
  ·subst e;exact⟨d,G.qOp ho H⟩
  ·have:=hend _ _ H j (ready_mono p e);omega
 |succ f ih=>
  intro s a g m u G H;refine⟨List.ne_nil_of_mem u,λj p=>?_⟩;have E:=(mem_ready.1 u).1;have d:j<n:=Classical.byContradiction λh=>tail_waits hs hc hn g _ i rfl hin E j (by omega) p
  by_cases e:j=i
  ·subst e;exact⟨d,G.qOp ho H⟩
  ·refine⟨d,?_⟩;obtain⟨F,x,O,X⟩:=mem_ready.1 p;have M:∀e∈x.after,Region.binds .any e=true->e.on≠i:=λQ T R h=>by
    have h1:=X Q T R;rw[h,getD_both E] at h1
    cases h1
   have W:=qOp_put O (m j x O e F M) (λA b=>hsel i o A b ho) (λA b=>hsel j x A b O) G (H.2 j (ready_mono p e)).2;refine qOp_mono (λY B=>?_) W;refine ih (g.set p d) (λk y U I K J=>m k y U I ?_ J) (ready_mono u (Ne.symm e)) B.1 ?_
   ·by_cases D:j=k
    ·subst D;exact F
    ·rwa [getD_set_ne true D] at K
   ·rw[Array.setIfInBounds_comm _ _ e];exact B.2
theorem q30.lex {g:Nat}{R:Act->Prop}(hsel:Region.noSelect ops=true)(hs:Region.sinkB .any ops n=true)(hc:Region.chainB .any ops n=true)(hn:n<ops.size) :
  ∀(l:List Oper) (k:Nat) {s:Array Bool} {a:Act},(∀j,j<l.length->l[j]?=ops[k+j]?)->k+l.length=n->HeadInv .any ops n s->Region.lexHead .any ops g l.length k s=true->
   wpQuiet P ops C R l a->q30 P ops C n (λA p=>Region.seqB .any ops g n A=true/\R p) l.length s a:=by
 intro l;induction l with
 |nil=>
  intro k s a _ m _ d h;obtain rfl:k=n:=by simpa using m
  exact⟨by simpa [Region.lexHead] using d,h⟩
 |cons o l ih=>
  intro k s a u m f d h;rw[AX] at m d;have h0:ops[k]?=some o:=by simpa using (u 0 (Nat.succ_pos _)).symm
  have e:k<n:=by omega
  simp only[Region.lexHead,BN] at d;have y:k∈Region.ready .any ops s:=by simpa using d.1.1
  obtain⟨v,F,B⟩:=yieldsIn_of_qOp (K:=λa=>wpQuiet P ops C R l a) h0 (by unfold qOp;rw[h0];exact h);refine q30.first h0 (Region.noSelect_spec hsel) hs hc hn e (λA p D=>seqB_ready D.1) l.length f (Region.free_spec h0 d.1.2) y F ?_
  exact ih (k+1) (λj E=>by have:=u (j+1) (by simpa using E);rw[List.getElem?_cons_succ] at this;rw[this];congr 1;omega) (by omega) (f.set y e) d.2 B
end
theorem q27 {P:Program}{R:Nat}{Q:Exit->Act->WD->Prop}{a:Act}{w:WD}{l:List Oper}(m:Nat)(hm:P.follows .mixedOrders=true)(A:Region.lexTailB .any l.toArray m=true)
  (h:wpQuiet P l.toArray (λd=>∃u:Grown w,d=u.to) (λp=>∀d,(∃u:Grown w,d=u.to)->wpList P l.toArray Q (l.drop m) p d) (l.take m) a):(Code.region R l.toArray true).wp P Q a w:=by
 simp only[Region.lexTailB,BN,decide_eq_true_eq] at A;obtain⟨⟨⟨⟨F,y⟩,G⟩,I⟩,J⟩:=A;have K:m<l.length:=by simpa using y
 have f:(l.take m).length=m:=by rw[AR];omega
 have hd:(l.drop m).length=l.toArray.size-m:=by simp
 have O:HeadInv .any l.toArray m (Array.replicate l.toArray.size false):=
  ⟨by simp,λj x _ E=>(by rw[getD_replicate_false] at E;cases E),λt _ f=>getD_in (by simpa using f) (getD_replicate_false _ _)⟩
 have H:=q30.lex (P:=P) (C:=λd=>∃u:Grown w,d=u.to) (g:=l.toArray.size-m) F G I y (l.take m) 0 (λj D=>by rw[f] at D;simp[D]) (by omega) O (by rw[f];exact J) h;refine wp_region_any hm ?_;have:=q30.run (n:=m) (Q:=Q) (g:=l.toArray.size-m) (λs p d M B=>by
  have:=wpAny_of_seq (md:=.any) (Q':=Q) (l.drop m) m s p d (λj=>by simp[List.getElem?_drop]) (by rw[hd];exact B.1) (B.2 d M);rwa [hd] at this) _ (w:={ w with drawn:=w.drawn+1 }) ⟨⟨_,(AI _ w).drew⟩,rfl⟩ H
 have e:(l.take m).length+(l.toArray.size-m)=l.toArray.size:=by rw[f];simp;omega
 rw[e] at this;exact this
