/- Nodes are laid down instead of others: who owns what then -/
import Derived.Test.YthkfkhejjmhomaaGreatDoorDb30
namespace Go.Proofs.YthkfkhejjmhomaaGreatDoor
open Go Go.RowKit Go.Proofs
def Wl (b:Nd)(a:Int):Qj:=⟨b.least,a⟩
def Uz (R:Int->Nd × Int)(e:List Nd)(d:List Int):Prop:=∀p∈e.zip d,R p.2=(p.1,0)/\1<=p.2/\p.2<2048
theorem Uz.ext {R R':Int->Nd × Int}{dn:List Nd}{az:List Int}(h:Uz R dn az)(e:Ext R R'):Uz R' dn az:=λp f=>by
 obtain⟨d,m⟩:=h p f;exact⟨by rw[e _ (by rw[d])];exact d,m⟩
section
variable {D:DM}{S0:Sp}{C0:Ct}{O H:List Int}{P:Pl}
theorem Zj.other {l:Int}{s o:Qs}(h:Zj P D O l o)(hne:o.held=true\/o.addr≠s.addr){O':List Int}{P':Pl}(hf:∀x,x≠s.addr->P'.C.get x=P.C.get x/\P'.store D x=P.store D x)(hO:∀x,x≠s.addr->(x∈O'↔x∈O)):Zj P' D O' l o:=by
 refine⟨λh1 h2=>?_,λh1=>?_⟩
 ·obtain⟨f,m,p⟩:=h.shared h1 h2;have hn:o.addr≠s.addr:=hne.elim (λe=>by rw[h2] at e;cases e) id;obtain⟨u,d⟩:=hf _ hn;exact⟨by rw[u];exact f,λh=>m ((hO _ hn).1 h),by rw[show P'.Qd D o.addr=P.Qd D o.addr from congrArg Prod.fst d];exact p⟩
 ·obtain⟨f,m,p,y⟩:=h.mine h1;have hn:o.addr≠s.addr:=hne.elim (λe=>by rw[f] at e;cases e) id;obtain⟨u,d⟩:=hf _ hn;exact⟨f,(hO _ hn).2 m,by rw[show P'.Qd D o.addr=P.Qd D o.addr from congrArg Prod.fst d];exact p,(congrArg Prod.snd d).trans y⟩
theorem quj {s:Qs}{x:Int}(d:x≠s.addr):x∈Dy O s↔x∈O:=by
 unfold Dy;split
 ·exact Iff.rfl
 ·rw[q0n];exact⟨λh=>h.1,λh=>⟨h,d⟩⟩
theorem qk1 {s:Qs}{x:Int}(h:x∈Dy O s):x∈O/\(s.shared=false->x≠s.addr):=by
 unfold Dy at h;split at h
 ·rename_i d;exact⟨h,λe=>by rw[e] at d;cases d⟩
 ·obtain⟨h1,h2⟩:=q0n.1 h;exact⟨h1,λ_=>h2⟩
theorem q4g {l:Int}:∀(olds:List Qs) {O H:List Int} {P:Pl} (d:List Nd) (F:List Qj) (X:List Int),Keep D S0 C0 O H P->(∀s∈olds,Zj P D O l s)->(olds.Pairwise λs o=>o.held=true\/o.addr≠s.addr)->
  (∀b∈d,Fits (P.hide D O) b)->(∀a:Nat,0<a->a<P.C.n->H.count (a:Int)=(olds.flatMap own++(d.flatMap Nd.named++X)).count (a:Int))->
  ∃u G B f A,d=B++f/\A.length=B.length/\Gs olds P d F=some (u,f,F++List.zipWith Wl B A)/\Keep D S0 C0 G (A++(f.flatMap Nd.named++X)) u/\Move l D O G P u 0/\
   (∀x,x∈G->x∈O/\∀s∈olds,s.shared=false->x≠s.addr)/\Uz (u.hide D G) B A
 |[],O,H,P,d,F,X,K,_,_,_,hH=>⟨P,O,[],d,[],rfl,rfl,by unfold Gs;simp,K.perm λa h1 h2=>(hH a h1 h2).symm,Move.refl l D O P,λx E=>⟨E,λs Z=>(by cases Z)⟩,λp M=>(by cases M)⟩
 |s::olds,O,H,P,d,F,X,K,Z,hd,hf,hH=>by
  obtain⟨T,U⟩:=List.pairwise_cons.1 hd;have a1:=Z s (List.mem_cons_self ..);have hcut:∀a:Nat,0<a->a<P.C.n->H.count (a:Int)=(own s++(olds.flatMap own++(d.flatMap Nd.named++X))).count (a:Int):=λa h1 h2=>by
   rw[hH a h1 h2,List.flatMap_cons,List.append_assoc]
  have m:(∀u,P.leave s=some u->Gs (s::olds) P d F=Gs olds u d F)->∃u G B f A,d=B++f/\A.length=B.length/\Gs (s::olds) P d F=some (u,f,F++List.zipWith Wl B A)/\Keep D S0 C0 G (A++(f.flatMap Nd.named++X)) u/\Move l D O G P u 0/\
   (∀x,x∈G->x∈O/\∀Q∈s::olds,Q.shared=false->x≠Q.addr)/\Uz (u.hide D G) B A:=λJ=>by
   obtain⟨P1,e1,K1,m1,f1⟩:=qc2 K a1 hcut;obtain⟨P2,O2,B,f,A,g1,g2,g3,g4,g5,g6,g7⟩:=q4g olds d F X K1 (λo W=>(Z o (List.mem_cons_of_mem _ W)).other (T o W) f1 λx E=>quj E) U (λb hb=>(hf b hb).ext m1.ext) (λa _ _=>rfl);refine⟨P2,O2,B,f,A,g1,g2,by rw[J P1 e1];exact g3,g4,m1.trans K.nonneg g5,λx E=>?_,g7⟩;obtain⟨j1,j2⟩:=g6 x E;obtain⟨j3,j4⟩:=qk1 j1;refine⟨j3,λQ y=>?_⟩;rcases List.mem_cons.1 y with rfl|y
   ·exact j4
   ·exact j2 Q y
  match d,hf,hH,hcut,m with
  |[],hf,hH,hcut,m=>
   refine m λu e=>?_
   show (match P.leave s with|some u=>Gs olds u [] F|none=>none)=_;rw[e]
  |b::d,hf,hH,hcut,m=>
   by_cases I:s.shared=true\/P.C.fresh s.addr=false
   ·refine m λu e=>?_
    show (if s.shared=true\/P.C.fresh s.addr=false then (match P.leave s with|some u=>Gs olds u (b::d) F|none=>none) else _)=_;rw[if_pos I,e]
   ·have a8:s.shared=false:=by
     cases e:s.shared with
     |true=>exact absurd (.inl e) I
     |false=>rfl
    have a7:P.C.fresh s.addr=true:=by
     cases e:P.C.fresh s.addr with
     |true=>rfl
     |false=>exact absurd (.inr e) I
    obtain⟨m1,m2,m3,m4⟩:=a1.mine a8;have hg:=(K.opened _ m2).2;obtain⟨c,R,b0⟩:=Gq (C:=P.C) (a:=s.addr) (by omega);obtain⟨c0,_⟩:=K.first (c:=c) (by rw[<-R];omega)
    have Y:own s=[s.addr]:=if_neg (by rw[m1];decide);rw[Y] at hcut;obtain⟨e0,K1,hN,mv,hC,a2⟩:=K.set (c:=c) (N:=b) (H0:=s.addr::(olds.flatMap own++(d.flatMap Nd.named++X))) (by rw[<-R];exact m2) (by rw[<-R];exact m4) (by rw[<-R];exact a7) (hf b (List.mem_cons_self ..)) (λa h1 h2=>by
     rw[hcut a h1 h2,List.flatMap_cons];simp only[List.count_append,List.count_cons,List.count_nil];omega)
    rw[<-R] at e0 K1 hN mv hC a2;have a6:=mv l (by omega);obtain⟨P2,O2,B,f,A,g1,g2,g3,g4,g5,g6,g7⟩:=q4g olds d (F++[⟨b.least,s.addr⟩]) (s.addr::X) K1 (λo W=>(Z o (List.mem_cons_of_mem _ W)).other (T o W) (λx E=>⟨by rw[hC],a2 x E⟩) λx E=>by
      rw[q0n];exact⟨λh=>h.1,λh=>⟨h,E⟩⟩) U (λx E=>(hf x (List.mem_cons_of_mem _ E)).ext a6.ext) (λa h1 h2=>by
      simp only[List.count_append,List.count_cons];omega)
    refine⟨P2,O2,b::B,f,s.addr::A,by rw[g1];rfl,by rw[List.length_cons,List.length_cons,g2],?_,?_,a6.trans K.nonneg g5,λx E=>?_,λp M=>?_⟩
    ·show (if s.shared=true\/P.C.fresh s.addr=false then _ else if P.Gu s.addr b=0 then Gs olds (P.Vp s.addr b) d (F++[⟨b.least,s.addr⟩]) else none)=_;rw[if_neg I,if_pos e0,g3,List.zipWith_cons_cons,List.append_assoc];rfl
    ·refine g4.perm λa _ _=>?_
     simp only[List.count_append,List.count_cons,List.cons_append];omega
    ·obtain⟨j1,j2⟩:=g6 x E;obtain⟨j3,j4⟩:=q0n.1 j1;refine⟨j3,λQ y=>?_⟩;rcases List.mem_cons.1 y with rfl|y
     ·exact λ_=>j4
     ·exact j2 Q y
    ·rw[List.zip_cons_cons] at M;rcases List.mem_cons.1 M with rfl|M
     ·have hn:=K.c.1.2;exact⟨by show (P2.hide D O2) s.addr=(b,0);rw[g5.ext _ (by rw[hN])];exact hN,by show 1<=s.addr;omega,by show s.addr<2048;omega⟩
     ·exact g7 p M
theorem qao:∀(d:List Nd) {H:List Int} {P:Pl} (u:List Qj) (X:List Int),Keep D S0 C0 O H P->(∀b∈d,Fits (P.hide D O) b)->(∀a:Nat,0<a->a<P.C.n->H.count (a:Int)=(d.flatMap Nd.named++X).count (a:Int))->
  (∃e y,y.length=d.length/\J7 d P u=some (e,some (u++List.zipWith Wl d y))/\Keep D S0 C0 O (y++X) e/\(∀l,Move l D O O P e d.length)/\Uz (e.hide D O) d y)\/(∃e,J7 d P u=some (e,none)/\P.C.free<d.length)
 |[],H,P,u,X,K,_,hH=>.inl ⟨P,[],rfl,by unfold J7;simp,K.perm λa h1 h2=>(hH a h1 h2).symm,λl=>Move.refl l D O P,λp m=>(by cases m)⟩
 |b::d,H,P,u,X,K,hf,hH=>by
  have E:=hf b (List.mem_cons_self ..)
  cases m:P.C.pick with
  |none=>
   right
   have F:P.Jk b=6:=by unfold Pl.Jk;rw[if_pos E.may];exact (Ct.Vh m).1
   refine⟨P.Jj b,?_,by rw[Ct.Wn m];exact Nat.succ_pos _⟩;show (if P.Jk b=0 then _ else if P.Jk b=6 then some (P.Jj b,none) else none)=_;rw[if_neg (by rw[F];decide),if_pos F]
  |some c=>
   obtain⟨I,J,G,B,A,c1,c2⟩:=K.put (H0:=d.flatMap Nd.named++X) m E (λa h1 h2=>by
    rw[hH a h1 h2,List.flatMap_cons];simp only[List.count_append];omega)
   have f:J7 (b::d) P u=J7 d (P.Jj b) (u++[⟨b.least,P.Yz b⟩]):=by
    show (if P.Jk b=0 then _ else _)=_;rw[if_pos I]
   rcases qao d (u++[⟨b.least,P.Yz b⟩]) ((c:Int)::X) G (λx Q=>(hf x (List.mem_cons_of_mem _ Q)).ext (A 0).ext) (λa _ _=>by
    simp only[List.count_append,List.count_cons];omega) with⟨e,y,g1,g2,g3,g4,g5⟩|⟨e,g1,g2⟩
   ·left
    refine⟨e,(c:Int)::y,by rw[List.length_cons,List.length_cons,g1],?_,g3.perm λa _ _=>?_,λl=>?_,λp m=>?_⟩
    ·rw[f,g2,List.zipWith_cons_cons,List.append_assoc,J];rfl
    ·simp only[List.count_append,List.count_cons,List.cons_append];omega
    ·have:=(A l).trans K.nonneg (g4 l);exact this.more (by rw[List.length_cons];omega)
    ·rw[List.zip_cons_cons] at m;rcases List.mem_cons.1 m with rfl|m
     ·exact⟨by show (e.hide D O) (c:Int)=(b,0);rw[(g4 0).ext _ (by rw[B])];exact B,by show (1:Int)<=(c:Int);omega,by show (c:Int)<2048;omega⟩
     ·exact g5 p m
   ·right
    have M:=(A 0).free;exact⟨e,by rw[f];exact g1,by rw[List.length_cons];omega⟩
theorem qk2 {l:Int}(K:Keep D S0 C0 O H P)(x:O9)(X:List Int)(W:∀s∈x.olds,Zj P D O l s)(hd:x.olds.Pairwise λs o=>o.held=true\/o.addr≠s.addr)
  (B:∀b∈pieces x.N,Fits (P.hide D O) b) (T:∀a:Nat,0<a->a<P.C.n->H.count (a:Int)=(x.olds.flatMap own++((pieces x.N).flatMap Nd.named++X)).count (a:Int)) :
  (∃e u d,d.length=(pieces x.N).length/\P.Y3 x=some (e,some (List.zipWith Wl (pieces x.N) d))/\Keep D S0 C0 u (d++X) e/\Move l D O u P e (pieces x.N).length/\
   (∀y,y∈u->y∈O/\∀s∈x.olds,s.shared=false->y≠s.addr)/\Uz (e.hide D u) (pieces x.N) d)\/(∃e,P.Y3 x=some (e,none)/\P.C.free<(pieces x.N).length):=by
 obtain⟨Y,F,G,m,d,f,I,J,M,A,Q,R⟩:=q4g x.olds (pieces x.N) [] X K W hd B T;unfold Pl.Y3;rw[J];dsimp only;rcases qao m (List.zipWith Wl G d) (d++X) M (λb U=>(B b (by rw[f];exact List.mem_append_right _ U)).ext A.ext) (λa _ _=>by
   simp only[List.count_append];omega) with⟨P2,az2,j1,j2,j3,j4,j5⟩|⟨P2,j1,j2⟩
 ·left
  refine⟨P2,F,d++az2,by rw[f,List.length_append,List.length_append,I,j1],?_,j3.perm λa _ _=>?_,?_,Q,λp E=>?_⟩
  ·rw[List.nil_append,j2,f,List.zipWith_append (by omega)]
  ·simp only[List.count_append];omega
  ·exact (A.trans K.nonneg (j4 l)).more (by rw[f,List.length_append];omega)
  ·rw[f,List.zip_append (by omega)] at E;rcases List.mem_append.1 E with h|h
   ·exact R.ext (j4 0).ext p h
   ·exact j5 p h
 ·right
  have:=A.free;exact⟨P2,by rw[List.nil_append];exact j1,by rw[f,List.length_append];omega⟩
end
def Zi:List Qs->List Int->List Int
 |[],H0=>H0
 |t::way,H0=>own t++((if t.shared=true then [] else (Zl t t.next (t.next+1)).named)++Zi way H0)
def Ya (P:Pl)(D:DM)(O:List Int):Nat->Qs->List Qs->List Qb->List Qb->Prop
 |_,_,[],L,Rr=>L=[]/\Rr=[]
 |l,s,t::way,L,Rr=>∃(d e:List Zz) (x:Zz) (f m:List Qb),t.N=⟨((l+1:Nat):Int),[],(d++x::e).map Qn⟩/\t.next=d.length/\x.1=s.addr/\s.held=t.shared/\t.N.may=true/\(way≠[]->6<=d.length+e.length+1)/\
  (∀y∈d++e,good1 (P.hide D O) l y)/\(s.shared=true->Qm (P.hide D O) l x.1 x.2)/\Zj P D O ((l+1:Nat):Int) t/\Ya P D O (l+1) t way f m/\L=f++rowOf d/\Rr=rowOf e++m/\∀y∈d++e,y.1≠s.addr
section
variable {D:DM}{S0:Sp}{C0:Ct}{O H:List Int}{P:Pl}
theorem Ya.ext {O':List Int}{P':Pl}(K:Keep D S0 C0 O H P){lv:Nat}(e:Ext (P.hide D O) (P'.hide D O'))(ha:Bh (lv:Int) D O O' P P'):∀{way:List Qs} {l:Nat} {s:Qs} {L Rr:List Qb},lv<=l->Ya P D O l s way L Rr->Ya P' D O' l s way L Rr
 |[],l,s,L,Rr,_,h=>h
 |t::way,l,s,L,Rr,hl,h=>by
  obtain⟨p,u,x,A,B,h1,h2,E,F,G,I,J,M,Q,d,f,m⟩:=h;exact⟨p,u,x,A,B,h1,h2,E,F,G,I,λy T=>q24 (J y T) e,λR=>Sz e (M R),Q.above K ha (by omega),Ya.ext K e ha (by omega) d,f,m⟩
def qqe (way:List Qs):Prop:=∀t∈way,t.shared=false
theorem q91:∀{way:List Qs} {l:Nat} {s:Qs} {L Rr:List Qb},Ya P D O l s way L Rr->s.held=false->qqe way
 |[],_,_,_,_,_,_=>λt e=>(by cases e)
 |t::way,l,s,L,Rr,h,hs=>by
  obtain⟨B,E,x,F,G,h1,h2,I,u,J,K,M,Q,y,f,m,p⟩:=h;have e:t.shared=false:=u.symm.trans hs;intro A d;rcases List.mem_cons.1 d with rfl|d
  ·exact e
  ·exact q91 f (y.mine e).1 A d
theorem q10 (l:Nat)(G:List Zz):(⟨((l+1:Nat):Int),[],G.map Qn⟩:Nd).named=G.map (·.1):=by
 unfold Nd.named;rw[List.filterMap_nil,List.append_nil,List.map_map];rfl
theorem q26 (l:Nat)(G:List Zz)(i j:Nat):(⟨((l+1:Nat):Int),[],G.map Qn⟩:Nd).cut i j=⟨((l+1:Nat):Int),[],((G.drop i).take (j-i)).map Qn⟩:=by
 unfold Nd.cut;rw[if_neg (by show ¬((l+1:Nat):Int)=0;omega),List.map_take,List.map_drop]
theorem q7l {t:Qs}{l:Nat}{G:List Zz}(h:t.N=⟨((l+1:Nat):Int),[],G.map Qn⟩)(i j:Nat):Zl t i j=⟨((l+1:Nat):Int),[],(G.take i++G.drop j).map Qn⟩:=by
 unfold Zl;rw[h,q26,q26];unfold Zw Nd.size;simp only[List.flatMap_cons,List.flatMap_nil,List.append_nil,List.length_nil,Nat.zero_add,List.length_map,List.drop_zero,Nat.sub_zero,List.map_append];have e:List.take (G.length-j) (List.drop j G)=List.drop j G:=List.take_of_length_le (by rw[List.length_drop];omega);rw[e]
theorem q27 {t:Qs}{l:Nat}{GL GR:List Zz}{x:Zz}(h:t.N=⟨((l+1:Nat):Int),[],(GL++x::GR).map Qn⟩)(hn:t.next=GL.length):(Zl t t.next (t.next+1)).named=GL.map (·.1)++GR.map (·.1):=by
 rw[q7l h,q10,hn,List.take_left,List.drop_append,List.drop_of_length_le (by omega)];have e:GL.length+1-GL.length=1:=by omega
 rw[e];simp
theorem Ya.open_ (K:Keep D S0 C0 O H P){c:Nat}(h1:P.C.get (c:Int)=1)(hc:(c:Int)∈H){H0:List Int}:∀{way:List Qs} {l:Nat} {s:Qs} {L Rr:List Qb},Ya P D O l s way L Rr->qqe way->s.shared=false->(c:Int)∉Zi way H0->Ya P D ((c:Int)::O) l s way L Rr
 |[],l,s,L,Rr,h,_,_,_=>h
 |t::way,l,s,L,Rr,h,hb,hs,hn=>by
  obtain⟨F,G,x,I,J,A,B,M,Q,R,T,U,g8,W,m,p,u⟩:=h;have f:=hb t (List.mem_cons_self ..);have hn:(c:Int)∉own t++((if t.shared=true then [] else (Zl t t.next (t.next+1)).named)++Zi way H0):=hn;rw[f,if_neg (by decide),q27 A B] at hn;simp only[List.mem_append,not_or] at hn;obtain⟨n1,⟨n2,n3⟩,n4⟩:=hn;obtain⟨m1,m2,m3,m4⟩:=W.mine f;refine⟨F,G,x,I,J,A,B,M,Q,R,T,λy E=>?_,λh=>?_,⟨λh=>?_,λ_=>⟨m1,List.mem_cons_of_mem _ m2,m3,m4⟩⟩,Ya.open_ K h1 hc m (λt' X=>hb t' (List.mem_cons_of_mem _ X)) f n4,p,u⟩
  ·obtain⟨Y,Z,k3⟩:=U y E;have d:y.1≠(c:Int):=λe=>by
    rcases List.mem_append.1 E with h|h
    ·exact n2 (e▸List.mem_map_of_mem h)
    ·exact n3 (e▸List.mem_map_of_mem h)
   exact⟨q3b K h1 hc l _ _ d Y,by rw[q1h d];exact Z,k3⟩
  ·rw[hs] at h;cases h
  ·rw[f] at h;cases h
theorem Keep.long (K:Keep D S0 C0 O H P):∀(l:Nat) (y:Zz),good1 (P.hide D O) l y->3*6 ^ l<=y.2.length
 |0,y,h=>by
  obtain⟨h1,h2,_⟩:=h;rw[h1.1] at h2;unfold Nd.enough at h2;rw[if_pos rfl] at h2;simpa using h2
 |l+1,y,h=>by
  obtain⟨h1,h2,W⟩:=h;have L:=K.tree h1;obtain⟨kids,parts,e,Z,k2,T,U⟩:=h1;rw[e] at h2;unfold Nd.enough at h2;rw[if_neg (show ¬(((l+1:Nat):Int))=0 by omega)] at h2;have h2:6<=kids.length:=by simpa using h2
  have f:∀p∈parts,3*6 ^ l<=p.length:=λp u=>by
   obtain⟨j,J,F⟩:=List.getElem_of_mem u;have m:j<kids.length:=by omega
   have R:(Qe kids j)∈((P.hide D O) y.1).1.kids:=by rw[e];exact List.mem_of_getElem? (q12 m)
   obtain⟨j1,j2,j3,j4⟩:=L.kids _ R;have E:=(U j m).1;have G:parts.getD j []=p:=by rw[List.getD_eq_getElem?_getD,List.getElem?_eq_getElem J,F];rfl
   rw[G] at E;obtain⟨_,c,Y,I,A⟩:=q30 j1;obtain⟨c0,_⟩:=K.first A
   have M:=K.c.1.2;exact K.long l ((Qe kids j).a,p) ⟨E,j4,by show 1<=(Qe kids j).a;omega,by show (Qe kids j).a<2048;omega⟩
  have B:∀(d:List (List Qb)),(∀p∈d,3*6 ^ l<=p.length)->d.length*(3*6 ^ l)<=d.flatten.length:=by
   intro d;induction d with
   |nil=>intro _;simp
   |cons p d ih=>
    intro u;have h1:=u p (List.mem_cons_self ..);have h2:=ih λq Q=>u q (List.mem_cons_of_mem _ Q)
    rw[List.flatten_cons,List.length_append,List.length_cons,Nat.add_mul,Nat.one_mul];omega
  have:=B parts f;rw[T];have X:6*(3*6 ^ l)<=parts.length*(3*6 ^ l):=Nat.mul_le_mul_right _ (by omega);rw[Nat.pow_succ];omega
theorem Keep.Fa (K:Keep D S0 C0 O H P){l:Nat}{a:Int}{its:List Qb}(h:Qm (P.hide D O) l a its):∃M,Yv (P.hide D O) l (P.hide D O a).1 M/\M.flatten=its/\Ef (P.hide D O) a/\M≠[]:=by
 have L:=K.tree h
 cases l with
 |zero=>
  rw[h.1];exact⟨its.map λx=>[x],⟨its,rfl,rfl⟩,q13 its,L,λe=>h.2 (List.map_eq_nil_iff.1 e)⟩
 |succ l=>
  obtain⟨kids,parts,e,Y,Z,k3,F⟩:=h;have E:(kids.zip parts).length=kids.length:=by rw[List.length_zip];omega
  have f:∀j (m:j<kids.length),kids[j]=Qe kids j/\parts[j]'(by omega)=parts.getD j []:=λj m=>by
   have:=q12 m;rw[List.getElem?_eq_getElem m] at this;exact⟨Option.some.inj this,by rw[List.getD_eq_getElem?_getD,List.getElem?_eq_getElem (by omega)];rfl⟩
  have R:(List.zip (kids.map (·.a)) parts).map Qn=kids:=by
   apply List.ext_getElem
   ·rw[List.length_map,List.length_zip,List.length_map];omega
   ·intro j h1 h2;obtain⟨p,u⟩:=f j h2;obtain⟨_,x,r,G,I⟩:=F j h2;rw[List.getElem_map,List.getElem_zip,List.getElem_map,u,G,p];unfold Qn;show (⟨x.k,(Qe kids j).a⟩:Qj)=_;rw[<-I]
  have U:(List.zip (kids.map (·.a)) parts).map (·.2)=parts:=List.map_snd_zip (by rw[List.length_map];omega);refine⟨parts,⟨List.zip (kids.map (·.a)) parts,?_,U.symm,λy X=>?_⟩,k3.symm,L,λJ=>Y (List.eq_nil_of_length_eq_zero (by rw[<-Z,J];rfl))⟩
  ·rw[e,R]
  ·obtain⟨j,m,B⟩:=List.getElem_of_mem X;rw[List.length_zip,List.length_map] at m;have d:j<kids.length:=by omega
   obtain⟨p,u⟩:=f j d;rw[List.getElem_zip,List.getElem_map,p,u] at B;rw[<-B];have W:(Qe kids j)∈((P.hide D O) a).1.kids:=by rw[e];exact List.mem_of_getElem? (q12 d)
   obtain⟨j1,j2,j3,j4⟩:=L.kids _ W;obtain⟨_,c,hc,Q,A⟩:=q30 j1;obtain⟨c0,_⟩:=K.first A
   have T:=K.c.1.2;exact⟨(F j d).1,j4,by show 1<=(Qe kids j).a;omega,by show (Qe kids j).a<2048;omega⟩
theorem qk3 {R:Int->Nd × Int}{l:Nat}{N:Nd}{M:List (List Qb)}(h:Yv R l N M)(hm:N.may=true):M.length<=Qo (l:Int)/\l<8:=by
 cases l with
 |zero=>
  obtain⟨its,rfl,rfl⟩:=h;have:=(q19 hm rfl).2.2.2;rw[List.length_map];exact⟨this,by omega⟩
 |succ l=>
  obtain⟨G,rfl,rfl,_⟩:=h;obtain⟨_,_,f,_,d,_⟩:=Pe hm (by show ¬((l+1:Nat):Int)=0;omega);have f:((l+1:Nat):Int)<8:=f;have e:Qo ((l+1:Nat):Int)=12:=if_neg (by omega);rw[e,List.length_map];have d:(G.map Qn).length<=12:=d;rw[List.length_map] at d;exact⟨d,by omega⟩
end
theorem qqf {R:Int->Nd × Int}{l:Nat}{N:Nd}{M:List (List Qb)}(h:Yv R l N M):N.cut 0 M.length=N/\∀m,m<=M.length->(N.cut 0 m).named++(N.cut m M.length).named=N.named:=by
 cases l with
 |zero=>
  obtain⟨its,rfl,rfl⟩:=h;rw[List.length_map];have e:∀i j,(⟨0,its,[]⟩:Nd).cut i j=⟨0,(its.drop i).take (j-i),[]⟩:=λi j=>if_pos rfl
  refine⟨by rw[e,List.drop_zero,Nat.sub_zero,List.take_length],λm hm=>?_⟩;rw[e,e];unfold Nd.named;simp only[List.map_nil,List.nil_append,List.drop_zero,Nat.sub_zero];rw[<-List.filterMap_append,List.take_of_length_le (l:=its.drop m) (by rw[List.length_drop];omega),List.take_append_drop]
 |succ l=>
  obtain⟨G,rfl,rfl,d⟩:=h;rw[List.length_map];refine⟨by rw[q26,List.drop_zero,Nat.sub_zero,List.take_length],λm hm=>?_⟩;rw[q26,q26,q10,q10,q10,List.drop_zero,Nat.sub_zero,List.take_of_length_le (l:=G.drop m) (by rw[List.length_drop];omega),<-List.map_append,List.take_append_drop]
theorem q8g {R:Int->Nd × Int}{l:Nat}{N:Nd}{M:List (List Qb)}(h:Yv R l N M)(h2:M.length<=2*Qo (l:Int)):(pieces N).flatMap Nd.named=N.named:=by
 obtain⟨d,e⟩:=qqf h;by_cases h0:M.length=0
 ·rw[qae h h0,List.flatMap_nil]
  cases l with
  |zero=>
   obtain⟨its,rfl,rfl⟩:=h;rw[List.length_map] at h0;obtain rfl:=List.eq_nil_of_length_eq_zero h0;rfl
  |succ l=>
   obtain⟨G,rfl,rfl,f⟩:=h;rw[List.length_map] at h0;obtain rfl:=List.eq_nil_of_length_eq_zero h0;rfl
 ·by_cases h1:M.length<=Qo (l:Int)
  ·rw[qc0 h (by omega) h1,List.flatMap_cons,List.flatMap_nil,List.append_nil,d]
  ·rw[qc1 h (by omega) h2,List.flatMap_cons,List.flatMap_cons,List.flatMap_nil,List.append_nil,e _ (by omega)]
structure Piece (R:Int->Nd × Int)(l:Nat)(p:Nd)(Mp:List (List Qb)):Prop where
 Fa:Yv R l p Mp
 one:1<=Mp.length
 most:Mp.length<=Qo (l:Int)
theorem q7m {R:Int->Nd × Int}{l:Nat}{N:Nd}{M:List (List Qb)}(h:Yv R l N M)(h2:M.length<=2*Qo (l:Int)) :
  (M=[]/\pieces N=[])\/(1<=M.length/\M.length<=Qo (l:Int)/\pieces N=[N.cut 0 M.length]/\Piece R l (N.cut 0 M.length) M)\/
   (Qo (l:Int)<M.length/\∃d e,M=d++e/\pieces N=[N.cut 0 (M.length / 2),N.cut (M.length / 2) M.length]/\Piece R l (N.cut 0 (M.length / 2)) d/\Piece R l (N.cut (M.length / 2) M.length) e/\Qp (l:Int)<=d.length/\Qp (l:Int)<=e.length):=by
 have f:Qp (l:Int)*2=Qo (l:Int)/\3<=Qp (l:Int):=by unfold Qp Qo;split<;>omega
 by_cases h0:M.length=0
 ·exact .inl ⟨List.eq_nil_of_length_eq_zero h0,qae h h0⟩
 ·by_cases h1:M.length<=Qo (l:Int)
  ·refine .inr (.inl ⟨by omega,h1,qc0 h (by omega) h1,?_,by omega,h1⟩);have:=qac h 0 M.length;rw[List.drop_zero,Nat.sub_zero,List.take_length] at this;exact this
  ·refine .inr (.inr ⟨by omega,M.take (M.length / 2),M.drop (M.length / 2),(List.take_append_drop _ _).symm,qc1 h (by omega) h2,⟨?_,?_,?_⟩,⟨?_,?_,?_⟩,?_,?_⟩)
   ·have:=qac h 0 (M.length / 2);rw[List.drop_zero,Nat.sub_zero] at this;exact this
   ·rw[List.length_take];omega
   ·rw[List.length_take];omega
   ·have:=qac h (M.length / 2) M.length;rw[List.take_of_length_le (by rw[List.length_drop];omega)] at this;exact this
   ·rw[List.length_drop];omega
   ·rw[List.length_drop];omega
   ·rw[List.length_take];omega
   ·rw[List.length_drop];omega
section
variable {D:DM}{S0:Sp}{C0:Ct}{O H:List Int}{P:Pl}
theorem Piece.fits {R:Int->Nd × Int}{l:Nat}{p:Nd}{Mp:List (List Qb)}(h:Piece R l p Mp)(hl:l<8)(h2:0<l->2<=Mp.length)(hr:Ql Mp.flatten)(hf:∀x∈Mp.flatten,Zr x)(hd:∀x∈Mp.flatten,Dat R x):Fits R p:=
 qjp h.Fa hd (qpt h.Fa hl h.one h2 h.most hr hf)
theorem qdz {R:Int->Nd × Int}{l:Nat}{p:Nd}{d:List (List Qb)}(h:Piece R l p d):d≠[]:=λe=>by
 have:=h.one;rw[e] at this;exact absurd this (by decide)
theorem q3e {R R':Int->Nd × Int}{l:Nat}{p:Nd}{d:List (List Qb)}(h:Piece R l p d)(m:Qp (l:Int)<=d.length)(e:Ext R R'){a:Int}(f:R' a=(p,0))(h1:1<=a/\a<2048):good1 R' l (a,d.flatten)/\Wl p a=Qn (a,d.flatten):=by
 refine⟨⟨qad h.Fa (qdz h) e f,by rw[f];exact (q3c h.Fa).2 m,h1⟩,?_⟩;unfold Wl Qn;rw[qps h.Fa (qdz h)]
structure Qac (D:DM)(S0:Sp)(C0:Ct)(O H0:List Int)(P P':Pl)(root:Int)(its:List Qb)(k:Nat):Prop where
 keep:Keep D S0 C0 [] ((if root=0 then [] else [root])++H0) P'
 tree:(its=[]/\root=0)\/∃l,l<=6/\Qm (P'.hide D []) l root its/\1<=root/\root<2048
 old:∀l a t,a∈H0->Qm (P.hide D O) l a t->Qm (P'.hide D []) l a t
 free:P.C.free<=P'.C.free+k
 n:P'.C.n=P.C.n
theorem qk4 {R:Int->Nd × Int}(d:∀l y,good1 R l y->3*6 ^ l<=y.2.length){l:Nat}:∀(G:List Zz),(∀y∈G,good1 R l y)->G.length*(3*6 ^ l)<=(G.map (·.2)).flatten.length
 |[],_=>by simp
 |y::G,h=>by
  have h1:=d l y (h y (List.mem_cons_self ..));have h2:=qk4 d G λz e=>h z (List.mem_cons_of_mem _ e)
  rw[List.map_cons,List.flatten_cons,List.length_append,List.length_cons,Nat.add_mul,Nat.one_mul];omega
theorem Keep.Rk (K:Keep D S0 C0 O H P){l:Nat}{N:Nd}{M:List (List Qb)}(h:Yv (P.hide D O) (l+1) N M)(h2:2<=M.length)(hlen:M.flatten.length<=1000):l<=2:=by
 obtain⟨G,rfl,rfl,d⟩:=h;have f:=qk4 (λl y e=>K.long l y e) G d;rw[List.length_map] at h2;have m:2*(3*6 ^ l)<=G.length*(3*6 ^ l):=Nat.mul_le_mul_right _ h2;refine Classical.byContradiction λu=>?_
 have p:6 ^ 3<=6 ^ l:=Nat.pow_le_pow_right (by omega) (by omega);omega
theorem Md {a b:List Qb}(h:Ql (a++b)):Ql a/\Ql b:=⟨(List.pairwise_append.1 h).1,(List.pairwise_append.1 h).2.1⟩
theorem quk (K:Keep D S0 C0 O H P){l:Nat}{s:Qs}{b:Nd}{M:List (List Qb)}(X:Yv (P.hide D O) l b M)(hs:Zj P D O (l:Int) s){H0:List Int}(hH:∀a:Nat,0<a->a<P.C.n->H.count (a:Int)=(own s++(b.named++H0)).count (a:Int))
  (hr:Ql M.flatten) (hf:∀x∈M.flatten,Zr x) (d:∀x∈M.flatten,Dat (P.hide D O) x) (hl:l<8) (a8:M.flatten.length<=1000) (b9:M.length<=Qo (l:Int)+1) (b3:0<l->1<=M.length) (hO:∀y∈O,s.shared=false/\y=s.addr) :
  (∃P' r,P.top s b=some (P',some r)/\Qac D S0 C0 O H0 P P' r M.flatten 3)\/(∃P',P.top s b=some (P',none)/\P.C.free<3):=by
 have b8:Qp (l:Int)*2=Qo (l:Int)/\3<=Qp (l:Int):=by unfold Qp Qo;split<;>omega
 unfold Pl.top;by_cases h1:b.kids.length=1
 ·left
  rw[if_pos h1]
  cases l with
  |zero=>
   obtain⟨its,rfl,_⟩:=X;exact absurd h1 (by simp)
  |succ l=>
   obtain⟨G,rfl,rfl,hg⟩:=X;match G,h1,hg,hH with
   |[x],_,hg,hH=>
    obtain⟨k1,k2,I⟩:=hg x (List.mem_singleton.2 rfl);have e:(⟨((l+1:Nat):Int),[],[x].map Qn⟩:Nd).named=[x.1]:=q10 l [x];rw[e] at hH;obtain⟨B,e1,T,A,_⟩:=qc2 K hs hH;have W:Dy O s=[]:=List.eq_nil_iff_forall_not_mem.2 λy hy=>by
     obtain⟨j1,j2⟩:=qk1 hy;obtain⟨j3,j4⟩:=hO y j1;exact j2 j3 j4
    rw[W] at T A;rw[e1];refine⟨B,x.1,rfl,?_,.inr ⟨l,by omega,?_,I⟩,λl a t _ ht=>Sz A.ext ht,by have:=A.free;omega,A.n⟩
    ·rw[if_neg (by omega)];exact T
    ·have:([x].map (·.2)).flatten=x.2:=by simp
     rw[this];exact Sz A.ext k1
   |[],h1,_,_=>simp at h1
   |_::_::_,h1,_,_=>simp at h1
 ·rw[if_neg h1];have a7:M.length<=2*Qo (l:Int):=by omega
  have b0:0<l->2<=M.length:=λb1=>by
   have:=b3 b1;refine Classical.byContradiction λhc=>h1 ?_
   cases l with
   |zero=>omega
   |succ l=>
    obtain⟨G,rfl,rfl,hg⟩:=X;rw[List.length_map] at this hc ⊢;omega
  have b7:l<=3:=by
   cases l with
   |zero=>omega
   |succ l=>have:=K.Rk X (b0 (by omega)) a8;omega
  have b4:=q8g X a7;have a6:=q7m X a7;have Y:∀p∈pieces b,Fits (P.hide D O) p:=λp E=>by
   rcases a6 with⟨_,e⟩|⟨k1,k2,e,I⟩|⟨k1,m,u,rfl,e,I,k4,k5,k6⟩
   ·rw[e] at E;cases E
   ·rw[e,List.mem_singleton] at E;rw[E];exact I.fits hl b0 hr hf d
   ·rw[List.flatten_append] at hr hf d;rw[e] at E;rcases List.mem_cons.1 E with rfl|E
    ·exact I.fits hl (λ_=>by omega) (Md hr).1 (λx F=>hf x (List.mem_append_left _ F)) λx F=>d x (List.mem_append_left _ F)
    ·rw[List.mem_singleton] at E;rw[E];exact k4.fits hl (λ_=>by omega) (Md hr).2 (λx F=>hf x (List.mem_append_right _ F)) λx F=>d x (List.mem_append_right _ F)
  have b5:(pieces b).length<=2:=by
   rcases a6 with⟨_,e⟩|⟨k1,k2,e,I⟩|⟨k1,m,u,_,e,I,k4,k5,k6⟩<;>rw[e]<;>simp
  rcases qk2 (l:=(l:Int)) K ⟨b,[s],0,0⟩ H0 (λs' b6=>by rw[List.mem_singleton.1 b6];exact hs) (List.pairwise_singleton _ _) Y (λa h1 h2=>by
    rw[hH a h1 h2,b4,List.flatMap_cons,List.flatMap_nil,List.append_nil]) with⟨B,O1,az,f,g2,T,A,gO,U⟩|⟨B,f,g2⟩
  ·have W:O1=[]:=List.eq_nil_iff_forall_not_mem.2 λy hy=>by
    obtain⟨j1,j2⟩:=gO y hy;obtain⟨j3,j4⟩:=hO y j1;exact j2 s (List.mem_singleton.2 rfl) j3 j4
   subst W;rw[g2];dsimp only;have Q:∀l a t,a∈H0->Qm (P.hide D O) l a t->Qm (B.hide D []) l a t:=λl a t _ ht=>Sz A.ext ht
   have Z:=A.free;have f:az.length=(pieces b).length:=f;have U:Uz (B.hide D []) (pieces b) az:=U;have c6:P.C.free<=B.C.free+(pieces b).length:=Z;rcases a6 with⟨hM,e⟩|⟨k1,k2,e,I⟩|⟨k1,m,u,rfl,e,I,k4,k5,k6⟩
   ·left
    rw[e] at f ⊢;obtain rfl:az=[]:=List.eq_nil_of_length_eq_zero (by rw[f];rfl);refine⟨B,0,rfl,?_,.inl ⟨by rw[hM];rfl,rfl⟩,Q,by omega,A.n⟩;rw[if_pos rfl];exact T
   ·left
    rw[e] at f U ⊢;match az,f with
    |[a],_=>
     obtain⟨j1,j2⟩:=U (b.cut 0 M.length,a) (List.mem_singleton.2 rfl);refine⟨B,a,rfl,?_,.inr ⟨l,by omega,qad I.Fa (qdz I) A.ext j1,j2⟩,Q,by omega,A.n⟩;rw[if_neg (by have:1<=a:=j2.1;omega)];exact T
    |[],f=>cases f
    |_::_::_,f=>cases f
   ·rw[e] at f U ⊢;match az,f,T with
    |[a1,a2],_,T=>
     obtain⟨p1,q1⟩:=U (_,a1) (List.mem_cons_self ..);obtain⟨p2,q2⟩:=U (_,a2) (List.mem_cons_of_mem _ (List.mem_singleton.2 rfl));obtain⟨t1,u1⟩:=q3e I k5 A.ext p1 q1;obtain⟨t2,u2⟩:=q3e k4 k6 A.ext p2 q2;have ek:List.zipWith Wl [b.cut 0 ((m++u).length / 2),b.cut ((m++u).length / 2) (m++u).length] [a1,a2]=[(a1,m.flatten),(a2,u.flatten)].map Qn:=by
      show [Wl _ a1,Wl _ a2]=_;rw[u1,u2];rfl
     rw[ek];have b2:=q4d X;have eN:(⟨b.lvl+1,[],[(a1,m.flatten),(a2,u.flatten)].map Qn⟩:Nd)=⟨((l+1:Nat):Int),[],[(a1,m.flatten),(a2,u.flatten)].map Qn⟩:=by rw[b2];rfl
     rw[eN];have hB:Yv (B.hide D []) (l+1) ⟨((l+1:Nat):Int),[],[(a1,m.flatten),(a2,u.flatten)].map Qn⟩ [m.flatten,u.flatten]:=⟨_,rfl,rfl,λx F=>by
      rcases List.mem_cons.1 F with rfl|F
      ·exact t1
      ·rw[List.mem_singleton.1 F];exact t2⟩
     have R:[m.flatten,u.flatten].flatten=(m++u).flatten:=by simp
     have hF:Fits (B.hide D []) ⟨((l+1:Nat):Int),[],[(a1,m.flatten),(a2,u.flatten)].map Qn⟩:=
      qjp hB (by rw[R];exact λx F=>(d x F).ext A.ext) (qpt hB (by omega) (by simp) (λ_=>by simp) (by have:Qo ((l+1:Nat):Int)=12:=if_neg (by omega);rw[this];simp) (by rw[R];exact hr) (by rw[R];exact hf))
     have J:([(a1,m.flatten),(a2,u.flatten)].map Qn).length=2:=rfl;rw[if_neg (by rw[J];decide),if_neg (by rw[J];decide)]
     cases E:B.C.pick with
     |none=>
      right
      have he:B.Jk ⟨((l+1:Nat):Int),[],[(a1,m.flatten),(a2,u.flatten)].map Qn⟩=6:=by unfold Pl.Jk;rw[if_pos hF.may];exact (Ct.Vh E).1
      rw[if_neg (by rw[he];decide),if_pos he];refine⟨_,rfl,?_⟩;have:=Ct.Wn E;omega
     |some c=>
      left
      obtain⟨e0,eV,K2,hN,mv,c1,c2⟩:=T.put (H0:=H0) E hF (λa _ _=>by
       rw[q10,List.count_append];rfl)
      rw[if_pos e0,eV];have h3:=qad hB (by simp) (mv 0).ext hN;rw[R] at h3;have c7:=(mv 0).free;refine⟨_,_,rfl,?_,.inr ⟨l+1,by omega,h3,by omega,by omega⟩,λl a t ha ht=>Sz (mv 0).ext (Q l a t ha ht),by omega,(mv 0).n.trans A.n⟩;rw[if_neg (by omega)];exact K2
    |[],f,_=>cases f
    |[_],f,_=>cases f
    |_::_::_::_,f,_=>cases f
  ·right
   rw[f];exact⟨B,rfl,by have g2:P.C.free<(pieces b).length:=g2;omega⟩
end
section
variable {D:DM}{S0:Sp}{C0:Ct}{O H:List Int}{P:Pl}
theorem qmf (K:Keep D S0 C0 O H P){c:Nat}(h1:P.C.get (c:Int)=1)(e:(c:Int)∈H){l:Nat}{y:Zz}(d:y.1≠(c:Int))(h:good1 (P.hide D O) l y):good1 (P.hide D ((c:Int)::O)) l y:=
 ⟨q3b K h1 e l _ _ d h.1,by rw[q1h d];exact h.2.1,h.2.2⟩
theorem qul (K:Keep D S0 C0 O H P){c:Nat}(h1:P.C.get (c:Int)=1)(f:(c:Int)∈H){l:Nat}{N:Nd}{M:List (List Qb)}(hn:(c:Int)∉N.kids.map (·.a))(h:Yv (P.hide D O) l N M):Yv (P.hide D ((c:Int)::O)) l N M:=by
 cases l with
 |zero=>exact h
 |succ l=>
  obtain⟨G,rfl,h2,m⟩:=h;refine⟨G,rfl,h2,λx d=>qmf K h1 f (λe=>hn ?_) (m x d)⟩;rw[<-e];exact List.mem_map.2 ⟨Qn x,List.mem_map_of_mem d,rfl⟩
theorem qum {R:Int->Nd × Int}{l:Nat}{s:Qs}{M:List (List Qb)}(h:Yv R l s.N M):Zl s 0 0=s.N:=by
 cases l with
 |zero=>
  obtain⟨its,e,_⟩:=h;unfold Zl;rw[e];unfold Zw Nd.cut Nd.size;simp
 |succ l=>
  obtain⟨G,e,_⟩:=h;rw[q7l e,e];simp
structure Eh (D:DM)(O O':List Int)(P P':Pl)(c:Int):Prop where
 tree:∀l a its,a≠c->Qm (P.hide D O) l a its->Qm (P'.hide D O') l a its
 other:∀a,a≠c->(P.hide D O a).2=0->P'.hide D O' a=P.hide D O a
theorem Eh.good {O':List Int}{P':Pl}{c:Int}(h:Eh D O O' P P' c){l:Nat}{y:Zz}(hy:y.1≠c)(hg:good1 (P.hide D O) l y):good1 (P'.hide D O') l y:=
 ⟨h.tree l _ _ hy hg.1,by rw[h.other _ hy (D8 hg.1).2.2];exact hg.2.1,hg.2.2⟩
theorem Eh.Fa {O':List Int}{P':Pl}{c:Int}(h:Eh D O O' P P' c){l:Nat}{N:Nd}{M:List (List Qb)}(hn:c∉N.kids.map (·.a))(hb:Yv (P.hide D O) l N M):Yv (P'.hide D O') l N M:=by
 cases l with
 |zero=>exact hb
 |succ l=>
  obtain⟨G,rfl,h2,f⟩:=hb;refine⟨G,rfl,h2,λx d=>h.good (λe=>hn ?_) (f x d)⟩;rw[<-e];exact List.mem_map.2 ⟨Qn x,List.mem_map_of_mem d,rfl⟩
theorem Eh.dat {O':List Int}{P':Pl}{c:Int}(h:Eh D O O' P P' c)(hc:0<=(P.hide D O c).1.lvl){x:Qb}(hx:Dat (P.hide D O) x):Dat (P'.hide D O') x:=λd hd=>by
 have h1:=hx d hd;have f:d≠c:=λe=>by
  rw[<-e,h1] at hc;exact absurd hc (by decide)
 rw[h.other d f (by rw[h1])];exact h1
theorem qun {R:Int->Nd × Int}{l:Nat}{N:Nd}{M:List (List Qb)}(h:Yv R l N M)(i:Nat):(N.cut i i).named=[]:=by
 cases l with
 |zero=>
  obtain⟨its,rfl,rfl⟩:=h;have e:(⟨0,its,[]⟩:Nd).cut i i=⟨0,(its.drop i).take (i-i),[]⟩:=if_pos rfl;rw[e,Nat.sub_self,List.take_zero];rfl
 |succ l=>
  obtain⟨G,rfl,rfl,d⟩:=h;rw[q26,q10,Nat.sub_self,List.take_zero];rfl
theorem quo {d:List Int}{P':Pl}{c:Int}(e:Ext (P.hide D O) (P'.hide D d)):Eh D O d P P' c:=⟨λ_ _ _ _ h=>Sz e h,λa _ h=>e a h⟩
theorem qw3 {t:Qs}{l:Nat}{G:List Zz}(h:t.N=⟨((l+1:Nat):Int),[],G.map Qn⟩){q:Nat}{y:Zz}(f:G[q]?=some y):q<t.N.kids.length/\Qe t.N.kids q=Qn y:=by
 obtain⟨d,e⟩:=List.getElem?_eq_some_iff.1 f;rw[h];refine⟨by show q<(G.map Qn).length;rw[List.length_map];exact d,?_⟩;show Qe (G.map Qn) q=_;rw[qee d,e]
structure Qa0 (D:DM)(S0:Sp)(C0:Ct)(O H H0:List Int)(P:Pl)(l:Nat)(t s:Qs)(way:List Qs)(L' R':List Qb)(y:Zz)(nb:Qs)(P':Pl)(O':List Int):Prop where
 keep:Keep D S0 C0 O' (nb.N.named++H) P'
 near:Eh D O O' P P' y.1
 once:(O'=y.1::O/\nb.shared=false/\H.count y.1=1/\t.shared=false)\/(O'=O/\Ext (P.hide D O) (P'.hide D O'))
 nbk:Zj P' D O' (l:Int) nb
 sk:Zj P' D O' (l:Int) s
 tk:Zj P' D O' ((l+1:Nat):Int) t
 up:Ya P' D O' (l+1) t way L' R'
 free:P.C.free<=P'.C.free
 n:P'.C.n=P.C.n
 addr:nb.addr=y.1
 held:nb.held=t.shared
theorem qqg (K:Keep D S0 C0 O H P){l:Nat}{s t:Qs}{way:List Qs}{L' R':List Qb}{H0:List Int}{G:List Zz}{q:Nat}{y:Zz}(hG:t.N=⟨((l+1:Nat):Int),[],G.map Qn⟩)(hq:G[q]?=some y)(hy:good1 (P.hide D O) l y)
  (ht:Zj P D O ((l+1:Nat):Int) t) (hs:Zj P D O (l:Int) s) (p:y.1≠s.addr) (Z:Ya P D O (l+1) t way L' R') (hH:H.length<=20000)
  (b2:t.shared=false->P.C.get y.1=1->y.1∈H/\y.1∉Zi way H0/\y.1≠t.addr) :
  ∃P' O' B,P.near D t q=some P'/\Qa0 D S0 C0 O H H0 P l t s way L' R' y (P.Je D t q) P' O'/\Yv (P'.hide D O') l (P.Je D t q).N B/\B.flatten=y.2/\Qp (l:Int)<=B.length/\B.length<=Qo (l:Int)/\(P.Je D t q).N.lvl=(l:Int):=by
 obtain⟨k1,k2⟩:=qw3 hG hq;obtain⟨ho,n,hn,b4,h0⟩:=q30 (D8 hy.1).2.2;obtain⟨F,hE⟩:=q3a hy.1;have u:(P.Qd D y.1).lvl=(l:Int):=by
  have:=(D8 hy.1).2.1;rw[F] at this;exact this
 have a7:(Qe t.N.kids q).a=y.1:=by rw[k2];rfl
 have b5:P.Wi D t q=true:=by
  unfold Pl.Wi;rw[a7];refine decide_eq_true ⟨k1,hE,?_⟩;rw[u,hG];show (l:Int)=((l+1:Nat):Int)-1;omega
 have a1:P.Je D t q=P.spot D y.1 t.shared:=by unfold Pl.Je;rw[a7]
 obtain⟨B,I,Q,hL,b7⟩:=K.Fa hy.1;have hN:(P.hide D O y.1).1=P.Qd D y.1:=by rw[F];rfl
 rw[hN] at I;have a2:=hy.2.1;rw[hN] at a2;have A:=(qk3 I (by have:=hL.may;rwa [hN] at this)).1;have m:=(q3c I).1 a2;have W:P.near D t q=P.Q8 (P.spot D y.1 t.shared) 0 0:=by unfold Pl.near;rw[if_pos b5,a1]
 rw[W,a1];have R:(P.spot D y.1 t.shared).N=P.Qd D y.1:=rfl;have T:∀x∈B.flatten,Dat (P.hide D O) x:=by rw[Q];exact K.dat l _ _ hy.1
 have U:((P.Qd D y.1).cut 0 0).named=[]:=qun I 0;have b0:Outside (P.hide D O) l (P.spot D y.1 t.shared).N 0 0 [] B:=by
  have:=qaf I (i:=0) (j:=0) (Nat.le_refl _) (Nat.zero_le _);rw[List.take_zero,List.drop_zero] at this;exact this
 have b8:Qo (l:Int)<=12:=by unfold Qo;split<;>omega
 by_cases d:(P.spot D y.1 t.shared).shared=true
 ·obtain⟨P',e1,M,J⟩:=q8c K (s:=P.spot D y.1 t.shared) b0 (by simpa using T) (λh=>by rw[d] at h;cases h) (by simp;omega) hH;rw[if_pos d,qum (s:=P.spot D y.1 t.shared) I,R] at M;have ha:=(J ((l:Int)-1)).above;refine⟨P',O,B,e1,⟨M,quo (J 0).ext,.inr ⟨rfl,(J 0).ext⟩,?_,hs.above K ha (by omega),ht.above K ha (by omega),Z.ext K (J (l:Int)).ext (J (l:Int)).above (by omega),by have:=(J 0).free;omega,(J 0).n,rfl,rfl⟩,qpr I (J 0).ext,Q,m,A,u⟩;have b3:Zj P D O (l:Int) (P.spot D y.1 t.shared):=⟨λ_ h2=>⟨by
   have h2:t.shared=false:=h2;have h3:(t.shared||decide (1<P.C.get y.1))=true:=d;rw[h2,Bool.false_or] at h3;have:=of_decide_eq_true h3;show 2<=P.C.get y.1;omega,ho,u⟩,λh=>by rw[d] at h;cases h⟩
  exact b3.above K ha (by omega)
 ·have h3:(t.shared||decide (1<P.C.get y.1))=false:=by
   cases e:(t.shared||decide (1<P.C.get y.1)) with
   |false=>rfl
   |true=>exact absurd e d
  obtain⟨h4,h5⟩:=Bool.or_eq_false_iff.1 h3;have h5:=of_decide_eq_false h5;have a6:P.C.get y.1=1:=by
   have:=K.nonneg y.1;rw[hn] at h5 this ⊢;omega
  obtain⟨i1,i2,i3⟩:=b2 h4 a6;have e1:P.Q8 (P.spot D y.1 t.shared) 0 0=some P:=by
   unfold Pl.Q8;rw[if_neg d];split
   ·rfl
   ·rw[R,U];rfl
  have E:P.C.get (n:Int)=1:=by rw[<-hn];exact a6
  have f:(n:Int)∈H:=by rw[<-hn];exact i1
  have b6:(n:Int)∉O:=by rw[<-hn];exact ho
  have M:=K.open_ E f b6;obtain⟨o1,o2⟩:=K.once E f;rw[<-hn,F] at M;have M:Keep D S0 C0 (y.1::O) ((P.Qd D y.1).named++H) P:=M;have Y:(n:Int)∉(P.Qd D y.1).kids.map (·.a):=λh=>o2 n b4 (by
   rw[<-hn,F];rw[<-hn] at h;exact List.mem_append_left _ h)
  have a8:Eh D O (y.1::O) P P y.1:=by
   refine⟨λl a its p h=>?_,λa p h=>q1h p⟩;rw[hn] at p ⊢;exact q3b K E f l a its p h
  have b1:=q91 Z (ht.mine h4).1;have X:Ya P D (y.1::O) (l+1) t way L' R':=by
   rw[hn];exact Z.open_ K E f b1 h4 (by rw[<-hn];exact i2)
  refine⟨P,y.1::O,B,e1,⟨M,a8,.inl ⟨rfl,h3,by rw[hn];exact o1,h4⟩,⟨λh=>absurd h d,λ_=>⟨h4,List.mem_cons_self ..,u,hE⟩⟩,?_,?_,X,Nat.le_refl _,rfl,rfl,rfl⟩,?_,Q,m,A,u⟩
  ·refine⟨λh1 h2=>?_,λh1=>?_⟩
   ·obtain⟨j1,j2,j3⟩:=hs.shared h1 h2;exact⟨j1,λh=>by
     rcases List.mem_cons.1 h with h|h
     ·exact p h.symm
     ·exact j2 h,j3⟩
   ·obtain⟨j1,j2,j3,j4⟩:=hs.mine h1;exact⟨j1,List.mem_cons_of_mem _ j2,j3,j4⟩
  ·refine⟨λh1 h2=>?_,λh1=>?_⟩
   ·rw[h4] at h1;cases h1
   ·obtain⟨j1,j2,j3,j4⟩:=ht.mine h1;exact⟨j1,List.mem_cons_of_mem _ j2,j3,j4⟩
  ·exact a8.Fa (by rw[R,hn] at *;exact Y) I
end
