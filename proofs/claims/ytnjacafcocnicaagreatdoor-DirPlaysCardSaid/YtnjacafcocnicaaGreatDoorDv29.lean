/- Nodes are laid down instead of others: who owns what then -/
import Derived.Test.YtnjacafcocnicaaGreatDoorDv28
namespace Go.Proofs.YtnjacafcocnicaaGreatDoor
open Go Go.RowKit Go.Proofs
def Ku (b:Nd)(a:Int):Qn:=⟨b.least,a⟩
def Gj (R:Int->Nd × Int)(f:List Nd)(e:LI):Prop:=∀p∈f.zip e,R p.2=(p.1,0)/\1<=p.2/\p.2<2048
theorem Gj.ext {R R':Int->Nd × Int}{dn:List Nd}{az:LI}(h:Gj R dn az)(e:Ext R R'):Gj R' dn az:=λp m=>by
 obtain⟨f,q⟩:=h p m;exact⟨by rw[e _ (by rw[f])];exact f,q⟩
section
variable {D:DM}{S0:Sp}{C0:Ct}{O H:LI}{P:Pl}
theorem Zl.other {l:Int}{s o:Qy}(h:Zl P D O l o)(hne:o.held=true\/o.addr≠s.addr){O':LI}{P':Pl}(hf:∀x,x≠s.addr->P'.C.get x=P.C.get x/\P'.store D x=P.store D x)(hO:∀x,x≠s.addr->(x∈O'↔x∈O)):Zl P' D O' l o:=by
 refine⟨λh1 h2=>?_,λh1=>?_⟩
 ·obtain⟨m,p,q⟩:=h.shared h1 h2;have hn:o.addr≠s.addr:=hne.elim (λe=>by rw[h2] at e;cases e) id;obtain⟨u,f⟩:=hf _ hn;exact⟨by rw[u];exact m,λh=>p ((hO _ hn).1 h),by rw[show P'.Qd D o.addr=P.Qd D o.addr from congrArg Prod.fst f];exact q⟩
 ·obtain⟨m,p,q,y⟩:=h.mine h1;have hn:o.addr≠s.addr:=hne.elim (λe=>by rw[m] at e;cases e) id;obtain⟨u,f⟩:=hf _ hn;exact⟨m,(hO _ hn).2 p,by rw[show P'.Qd D o.addr=P.Qd D o.addr from congrArg Prod.fst f];exact q,(congrArg Prod.snd f).trans y⟩
theorem qwe {s:Qy}{x:Int}(e:x≠s.addr):x∈Ey O s↔x∈O:=by
 unfold Ey;split
 ·exact Iff.rfl
 ·rw[I8];exact⟨λh=>h.1,λh=>⟨h,e⟩⟩
theorem qly {s:Qy}{x:Int}(h:x∈Ey O s):x∈O/\(s.shared=false->x≠s.addr):=by
 unfold Ey at h;split at h
 ·rename_i f;exact⟨h,λe=>by rw[e] at f;cases f⟩
 ·obtain⟨h1,h2⟩:=I8.1 h;exact⟨h1,λ_=>h2⟩
theorem q4v {l:Int}:∀(olds:List Qy) {O H:LI} {P:Pl} (f:List Nd) (F:List Qn) (X:LI),Keep D S0 C0 O H P->(∀s∈olds,Zl P D O l s)->(olds.Pairwise λs o=>o.held=true\/o.addr≠s.addr)->
  (∀b∈f,Fits (P.hide D O) b)->(∀a:Nat,0<a->a<P.C.n->H.count (a:Int)=(olds.flatMap own++(f.flatMap Nd.named++X)).count (a:Int))->
  ∃u G B m A,f=B++m/\A.length=B.length/\Ae olds P f F=some (u,m,F++List.zipWith Ku B A)/\Keep D S0 C0 G (A++(m.flatMap Nd.named++X)) u/\Move l D O G P u 0/\
   (∀x,x∈G->x∈O/\∀s∈olds,s.shared=false->x≠s.addr)/\Gj (u.hide D G) B A
 |[],O,H,P,f,F,X,K,_,_,_,hH=>⟨P,O,[],f,[],rfl,rfl,by unfold Ae;simp,K.perm λa h1 h2=>(hH a h1 h2).symm,Move.refl l D O P,λx E=>⟨E,λs Y=>(by cases Y)⟩,λp M=>(by cases M)⟩
 |s::olds,O,H,P,f,F,X,K,Y,hd,hf,hH=>by
  obtain⟨T,U⟩:=List.pairwise_cons.1 hd;have Z:=Y s (AP ..);have hcut:∀a:Nat,0<a->a<P.C.n->H.count (a:Int)=(own s++(olds.flatMap own++(f.flatMap Nd.named++X))).count (a:Int):=λa h1 h2=>by
   rw[hH a h1 h2,BC,AM]
  have q:(∀u,P.leave s=some u->Ae (s::olds) P f F=Ae olds u f F)->∃u G B m A,f=B++m/\A.length=B.length/\Ae (s::olds) P f F=some (u,m,F++List.zipWith Ku B A)/\Keep D S0 C0 G (A++(m.flatMap Nd.named++X)) u/\Move l D O G P u 0/\
   (∀x,x∈G->x∈O/\∀Q∈s::olds,Q.shared=false->x≠Q.addr)/\Gj (u.hide D G) B A:=λJ=>by
   obtain⟨P1,e1,K1,m1,f1⟩:=qde K Z hcut;obtain⟨P2,O2,B,m,A,g1,g2,g3,g4,g5,g6,g7⟩:=q4v olds f F X K1 (λo V=>(Y o (AO _ V)).other (T o V) f1 λx E=>qwe E) U (λb hb=>(hf b hb).ext m1.ext) (λa _ _=>rfl);refine⟨P2,O2,B,m,A,g1,g2,by rw[J P1 e1];exact g3,g4,m1.trans K.nonneg g5,λx E=>?_,g7⟩;obtain⟨j1,j2⟩:=g6 x E;obtain⟨j3,j4⟩:=qly j1;refine⟨j3,λQ y=>?_⟩;rcases List.mem_cons.1 y with rfl|y
   ·exact j4
   ·exact j2 Q y
  match f,hf,hH,hcut,q with
  |[],hf,hH,hcut,q=>
   refine q λu e=>?_
   show (match P.leave s with|some u=>Ae olds u [] F|none=>none)=_;rw[e]
  |b::f,hf,hH,hcut,q=>
   by_cases I:s.shared=true\/P.C.fresh s.addr=false
   ·refine q λu e=>?_
    show (if s.shared=true\/P.C.fresh s.addr=false then (match P.leave s with|some u=>Ae olds u (b::f) F|none=>none) else _)=_;rw[AA I,e]
   ·have a7:s.shared=false:=by
     cases e:s.shared with
     |true=>exact absurd (.inl e) I
     |false=>rfl
    have a6:P.C.fresh s.addr=true:=by
     cases e:P.C.fresh s.addr with
     |true=>rfl
     |false=>exact absurd (.inr e) I
    obtain⟨m1,m2,m3,m4⟩:=Z.mine a7;have hg:=(K.opened _ m2).2;obtain⟨c,R,a8⟩:=G5 (C:=P.C) (a:=s.addr) (by omega);obtain⟨c0,_⟩:=K.first (c:=c) (by rw[<-R];omega)
    have W:own s=[s.addr]:=AB (by rw[m1];decide);rw[W] at hcut;obtain⟨e0,K1,hN,mv,hC,a1⟩:=K.set (c:=c) (N:=b) (H0:=s.addr::(olds.flatMap own++(f.flatMap Nd.named++X))) (by rw[<-R];exact m2) (by rw[<-R];exact m4) (by rw[<-R];exact a6) (hf b (AP ..)) (λa h1 h2=>by
     rw[hcut a h1 h2,BC];simp only[A_,List.count_cons,List.count_nil];omega)
    rw[<-R] at e0 K1 hN mv hC a1;have a2:=mv l (by omega);obtain⟨P2,O2,B,m,A,g1,g2,g3,g4,g5,g6,g7⟩:=q4v olds f (F++[⟨b.least,s.addr⟩]) (s.addr::X) K1 (λo V=>(Y o (AO _ V)).other (T o V) (λx E=>⟨by rw[hC],a1 x E⟩) λx E=>by
      rw[I8];exact⟨λh=>h.1,λh=>⟨h,E⟩⟩) U (λx E=>(hf x (AO _ E)).ext a2.ext) (λa h1 h2=>by
      simp only[A_,List.count_cons];omega)
    refine⟨P2,O2,b::B,m,s.addr::A,by rw[g1];rfl,by rw[AX,AX,g2],?_,?_,a2.trans K.nonneg g5,λx E=>?_,λp M=>?_⟩
    ·show (if s.shared=true\/P.C.fresh s.addr=false then _ else if P.Ah s.addr b=0 then Ae olds (P.Uc s.addr b) f (F++[⟨b.least,s.addr⟩]) else none)=_;rw[AB I,AA e0,g3,List.zipWith_cons_cons,AM];rfl
    ·refine g4.perm λa _ _=>?_
     simp only[A_,List.count_cons,List.cons_append];omega
    ·obtain⟨j1,j2⟩:=g6 x E;obtain⟨j3,j4⟩:=I8.1 j1;refine⟨j3,λQ y=>?_⟩;rcases List.mem_cons.1 y with rfl|y
     ·exact λ_=>j4
     ·exact j2 Q y
    ·rw[List.zip_cons_cons] at M;rcases List.mem_cons.1 M with rfl|M
     ·have hn:=K.c.1.2;exact⟨by show (P2.hide D O2) s.addr=(b,0);rw[g5.ext _ (by rw[hN])];exact hN,by show 1<=s.addr;omega,by show s.addr<2048;omega⟩
     ·exact g7 p M
theorem qb4:∀(e:List Nd) {H:LI} {P:Pl} (u:List Qn) (X:LI),Keep D S0 C0 O H P->(∀b∈e,Fits (P.hide D O) b)->(∀a:Nat,0<a->a<P.C.n->H.count (a:Int)=(e.flatMap Nd.named++X).count (a:Int))->
  (∃f y,y.length=e.length/\Xk e P u=some (f,some (u++List.zipWith Ku e y))/\Keep D S0 C0 O (y++X) f/\(∀l,Move l D O O P f e.length)/\Gj (f.hide D O) e y)\/(∃f,Xk e P u=some (f,none)/\P.C.free<e.length)
 |[],H,P,u,X,K,_,hH=>.inl ⟨P,[],rfl,by unfold Xk;simp,K.perm λa h1 h2=>(hH a h1 h2).symm,λl=>Move.refl l D O P,λp q=>(by cases q)⟩
 |b::e,H,P,u,X,K,hf,hH=>by
  have E:=hf b (AP ..)
  cases q:P.C.pick with
  |none=>
   right
   have F:P.Jt b=6:=by unfold Pl.Jt;rw[AA E.may];exact (Ct.Vt q).1
   refine⟨P.Js b,?_,by rw[Ct.Kv q];exact Nat.succ_pos _⟩;show (if P.Jt b=0 then _ else if P.Jt b=6 then some (P.Js b,none) else none)=_;rw[AB (by rw[F];decide),AA F]
  |some c=>
   obtain⟨I,J,G,B,A,c1,c2⟩:=K.put (H0:=e.flatMap Nd.named++X) q E (λa h1 h2=>by
    rw[hH a h1 h2,BC];simp only[A_];omega)
   have m:Xk (b::e) P u=Xk e (P.Js b) (u++[⟨b.least,P.Wi b⟩]):=by
    show (if P.Jt b=0 then _ else _)=_;rw[AA I]
   rcases qb4 e (u++[⟨b.least,P.Wi b⟩]) ((c:Int)::X) G (λx Q=>(hf x (AO _ Q)).ext (A 0).ext) (λa _ _=>by
    simp only[A_,List.count_cons];omega) with⟨f,y,g1,g2,g3,g4,g5⟩|⟨f,g1,g2⟩
   ·left
    refine⟨f,(c:Int)::y,by rw[AX,AX,g1],?_,g3.perm λa _ _=>?_,λl=>?_,λp q=>?_⟩
    ·rw[m,g2,List.zipWith_cons_cons,AM,J];rfl
    ·simp only[A_,List.count_cons,List.cons_append];omega
    ·have:=(A l).trans K.nonneg (g4 l);exact this.more (by rw[AX];omega)
    ·rw[List.zip_cons_cons] at q;rcases List.mem_cons.1 q with rfl|q
     ·exact⟨by show (f.hide D O) (c:Int)=(b,0);rw[(g4 0).ext _ (by rw[B])];exact B,by show (1:Int)<=(c:Int);omega,by show (c:Int)<2048;omega⟩
     ·exact g5 p q
   ·right
    have M:=(A 0).free;exact⟨f,by rw[m];exact g1,by rw[AX];omega⟩
theorem qlz {l:Int}(K:Keep D S0 C0 O H P)(x:Tv)(X:LI)(V:∀s∈x.olds,Zl P D O l s)(hd:x.olds.Pairwise λs o=>o.held=true\/o.addr≠s.addr)
  (B:∀b∈pieces x.N,Fits (P.hide D O) b) (T:∀a:Nat,0<a->a<P.C.n->H.count (a:Int)=(x.olds.flatMap own++((pieces x.N).flatMap Nd.named++X)).count (a:Int)) :
  (∃f u e,e.length=(pieces x.N).length/\P.Wl x=some (f,some (List.zipWith Ku (pieces x.N) e))/\Keep D S0 C0 u (e++X) f/\Move l D O u P f (pieces x.N).length/\
   (∀y,y∈u->y∈O/\∀s∈x.olds,s.shared=false->y≠s.addr)/\Gj (f.hide D u) (pieces x.N) e)\/(∃f,P.Wl x=some (f,none)/\P.C.free<(pieces x.N).length):=by
 obtain⟨W,F,G,q,e,m,I,J,M,A,Q,R⟩:=q4v x.olds (pieces x.N) [] X K V hd B T;unfold Pl.Wl;rw[J];dsimp only;rcases qb4 q (List.zipWith Ku G e) (e++X) M (λb U=>(B b (by rw[m];exact AU _ U)).ext A.ext) (λa _ _=>by
   simp only[A_];omega) with⟨P2,az2,j1,j2,j3,j4,j5⟩|⟨P2,j1,j2⟩
 ·left
  refine⟨P2,F,e++az2,by rw[m,AD,AD,I,j1],?_,j3.perm λa _ _=>?_,?_,Q,λp E=>?_⟩
  ·rw[BG,j2,m,List.zipWith_append (by omega)]
  ·simp only[A_];omega
  ·exact (A.trans K.nonneg (j4 l)).more (by rw[m,AD];omega)
  ·rw[m,List.zip_append (by omega)] at E;rcases List.mem_append.1 E with h|h
   ·exact R.ext (j4 0).ext p h
   ·exact j5 p h
 ·right
  have:=A.free;exact⟨P2,by rw[BG];exact j1,by rw[m,AD];omega⟩
end
def Zj:List Qy->LI->LI
 |[],H0=>H0
 |t::way,H0=>own t++((if t.shared=true then [] else (Zp t t.next (t.next+1)).named)++Zj way H0)
def Yr (P:Pl)(D:DM)(O:LI):Nat->Qy->List Qy->List Qc->List Qc->Prop
 |_,_,[],L,Rr=>L=[]/\Rr=[]
 |l,s,t::way,L,Rr=>∃(e f:List Jc) (x:Jc) (m p:List Qc),t.N=⟨((l+1:Nat):Int),[],(e++x::f).map Qr⟩/\t.next=e.length/\x.1=s.addr/\s.held=t.shared/\t.N.may=true/\(way≠[]->6<=e.length+f.length+1)/\
  (∀y∈e++f,good1 (P.hide D O) l y)/\(s.shared=true->Qs (P.hide D O) l x.1 x.2)/\Zl P D O ((l+1:Nat):Int) t/\Yr P D O (l+1) t way m p/\L=m++rowOf e/\Rr=rowOf f++p/\∀y∈e++f,y.1≠s.addr
section
variable {D:DM}{S0:Sp}{C0:Ct}{O H:LI}{P:Pl}
theorem Yr.ext {O':LI}{P':Pl}(K:Keep D S0 C0 O H P){lv:Nat}(e:Ext (P.hide D O) (P'.hide D O'))(ha:Dc (lv:Int) D O O' P P'):∀{way:List Qy} {l:Nat} {s:Qy} {L Rr:List Qc},lv<=l->Yr P D O l s way L Rr->Yr P' D O' l s way L Rr
 |[],l,s,L,Rr,_,h=>h
 |t::way,l,s,L,Rr,hl,h=>by
  obtain⟨q,u,x,A,B,h1,h2,E,F,G,I,J,M,Q,f,m,p⟩:=h;exact⟨q,u,x,A,B,h1,h2,E,F,G,I,λy T=>q2i (J y T) e,λR=>q10 e (M R),Q.above K ha (by omega),Yr.ext K e ha (by omega) f,m,p⟩
def qs3 (way:List Qy):Prop:=∀t∈way,t.shared=false
theorem q9w:∀{way:List Qy} {l:Nat} {s:Qy} {L Rr:List Qc},Yr P D O l s way L Rr->s.held=false->qs3 way
 |[],_,_,_,_,_,_=>λt f=>(by cases f)
 |t::way,l,s,L,Rr,h,hs=>by
  obtain⟨B,E,x,F,G,h1,h2,I,u,J,K,M,Q,y,m,p,q⟩:=h;have f:t.shared=false:=u.symm.trans hs;intro A e;rcases List.mem_cons.1 e with rfl|e
  ·exact f
  ·exact q9w m (y.mine f).1 A e
theorem q13 (l:Nat)(G:List Jc):(⟨((l+1:Nat):Int),[],G.map Qr⟩:Nd).named=G.map (·.1):=by
 unfold Nd.named;rw[List.filterMap_nil,BM,List.map_map];rfl
theorem q2j (l:Nat)(G:List Jc)(i j:Nat):(⟨((l+1:Nat):Int),[],G.map Qr⟩:Nd).cut i j=⟨((l+1:Nat):Int),[],((G.drop i).take (j-i)).map Qr⟩:=by
 unfold Nd.cut;rw[AB (by show ¬((l+1:Nat):Int)=0;omega),List.map_take,List.map_drop]
theorem q89 {t:Qy}{l:Nat}{G:List Jc}(h:t.N=⟨((l+1:Nat):Int),[],G.map Qr⟩)(i j:Nat):Zp t i j=⟨((l+1:Nat):Int),[],(G.take i++G.drop j).map Qr⟩:=by
 unfold Zp;rw[h,q2j,q2j];unfold Jb Nd.size;simp only[BC,List.flatMap_nil,BM,List.length_nil,AT,AF,List.drop_zero,Nat.sub_zero,List.map_append];have e:List.take (G.length-j) (List.drop j G)=List.drop j G:=AN (by rw[AS];omega);rw[e]
theorem q2k {t:Qy}{l:Nat}{GL GR:List Jc}{x:Jc}(h:t.N=⟨((l+1:Nat):Int),[],(GL++x::GR).map Qr⟩)(hn:t.next=GL.length):(Zp t t.next (t.next+1)).named=GL.map (·.1)++GR.map (·.1):=by
 rw[q89 h,q13,hn,List.take_left,List.drop_append,List.drop_of_length_le (by omega)];have e:GL.length+1-GL.length=1:=by omega
 rw[e];simp
theorem Yr.open_ (K:Keep D S0 C0 O H P){c:Nat}(h1:P.C.get (c:Int)=1)(hc:(c:Int)∈H){H0:LI}:∀{way:List Qy} {l:Nat} {s:Qy} {L Rr:List Qc},Yr P D O l s way L Rr->qs3 way->s.shared=false->(c:Int)∉Zj way H0->Yr P D ((c:Int)::O) l s way L Rr
 |[],l,s,L,Rr,h,_,_,_=>h
 |t::way,l,s,L,Rr,h,hb,hs,hn=>by
  obtain⟨F,G,x,I,J,A,B,M,Q,R,T,U,g8,V,p,q,u⟩:=h;have m:=hb t (AP ..);have hn:(c:Int)∉own t++((if t.shared=true then [] else (Zp t t.next (t.next+1)).named)++Zj way H0):=hn;rw[m,AB (by decide),q2k A B] at hn;simp only[List.mem_append,not_or] at hn;obtain⟨n1,⟨n2,n3⟩,n4⟩:=hn;obtain⟨m1,m2,m3,m4⟩:=V.mine m;refine⟨F,G,x,I,J,A,B,M,Q,R,T,λy E=>?_,λh=>?_,⟨λh=>?_,λ_=>⟨m1,AO _ m2,m3,m4⟩⟩,Yr.open_ K h1 hc p (λt' W=>hb t' (AO _ W)) m n4,q,u⟩
  ·obtain⟨X,Y,Z⟩:=U y E;have f:y.1≠(c:Int):=λe=>by
    rcases List.mem_append.1 E with h|h
    ·exact n2 (e▸List.mem_map_of_mem h)
    ·exact n3 (e▸List.mem_map_of_mem h)
   exact⟨q41 K h1 hc l _ _ f X,by rw[q1d f];exact Y,Z⟩
  ·rw[hs] at h;cases h
  ·rw[m] at h;cases h
theorem Keep.long (K:Keep D S0 C0 O H P):∀(l:Nat) (y:Jc),good1 (P.hide D O) l y->3*6 ^ l<=y.2.length
 |0,y,h=>by
  obtain⟨h1,h2,_⟩:=h;rw[h1.1] at h2;unfold Nd.enough at h2;rw[AA rfl] at h2;simpa using h2
 |l+1,y,h=>by
  obtain⟨h1,h2,W⟩:=h;have L:=K.tree h1;obtain⟨kids,parts,e,Z,k2,U,V⟩:=h1;rw[e] at h2;unfold Nd.enough at h2;rw[AB (show ¬(((l+1:Nat):Int))=0 by omega)] at h2;have h2:6<=kids.length:=by simpa using h2
  have m:∀p∈parts,3*6 ^ l<=p.length:=λp A=>by
   obtain⟨j,M,G⟩:=List.getElem_of_mem A;have u:j<kids.length:=by omega
   have T:(Qk kids j)∈((P.hide D O) y.1).1.kids:=by rw[e];exact List.mem_of_getElem? (q16 u)
   obtain⟨j1,j2,j3,j4⟩:=L.kids _ T;have F:=(V j u).1;have I:parts.getD j []=p:=by rw[AG,AC M,G];rfl
   rw[I] at F;obtain⟨_,c,Y,J,B⟩:=q3g j1;obtain⟨c0,_⟩:=K.first B
   have Q:=K.c.1.2;exact K.long l ((Qk kids j).a,p) ⟨F,j4,by show 1<=(Qk kids j).a;omega,by show (Qk kids j).a<2048;omega⟩
  have E:∀(f:List (List Qc)),(∀p∈f,3*6 ^ l<=p.length)->f.length*(3*6 ^ l)<=f.flatten.length:=by
   intro f;induction f with
   |nil=>intro _;simp
   |cons p f ih=>
    intro A;have h1:=A p (AP ..);have h2:=ih λq R=>A q (AO _ R)
    rw[List.flatten_cons,AD,AX,Nat.add_mul,Nat.one_mul];omega
  have:=E parts m;rw[U];have X:6*(3*6 ^ l)<=parts.length*(3*6 ^ l):=Nat.mul_le_mul_right _ (by omega);rw[Nat.pow_succ];omega
theorem Keep.Iw (K:Keep D S0 C0 O H P){l:Nat}{a:Int}{its:List Qc}(h:Qs (P.hide D O) l a its):∃M,Y7 (P.hide D O) l (P.hide D O a).1 M/\M.flatten=its/\He (P.hide D O) a/\M≠[]:=by
 have L:=K.tree h
 cases l with
 |zero=>
  rw[h.1];exact⟨its.map λx=>[x],⟨its,rfl,rfl⟩,Sz its,L,λe=>h.2 (List.map_eq_nil_iff.1 e)⟩
 |succ l=>
  obtain⟨kids,parts,e,X,Y,Z,F⟩:=h;have E:(kids.zip parts).length=kids.length:=by rw[List.length_zip];omega
  have m:∀j (p:j<kids.length),kids[j]=Qk kids j/\parts[j]'(by omega)=parts.getD j []:=λj p=>by
   have:=q16 p;rw[AC p] at this;exact⟨OI this,by rw[AG,AC (by omega)];rfl⟩
  have R:(List.zip (kids.map (·.a)) parts).map Qr=kids:=by
   apply List.ext_getElem
   ·rw[AF,List.length_zip,AF];omega
   ·intro j h1 h2;obtain⟨q,u⟩:=m j h2;obtain⟨_,x,r,G,I⟩:=F j h2;rw[List.getElem_map,List.getElem_zip,List.getElem_map,u,G,q];unfold Qr;show (⟨x.k,(Qk kids j).a⟩:Qn)=_;rw[<-I]
  have U:(List.zip (kids.map (·.a)) parts).map (·.2)=parts:=List.map_snd_zip (by rw[AF];omega);refine⟨parts,⟨List.zip (kids.map (·.a)) parts,?_,U.symm,λy W=>?_⟩,Z.symm,L,λJ=>X (BF (by rw[<-Y,J];rfl))⟩
  ·rw[e,R]
  ·obtain⟨j,p,B⟩:=List.getElem_of_mem W;rw[List.length_zip,AF] at p;have f:j<kids.length:=by omega
   obtain⟨q,u⟩:=m j f;rw[List.getElem_zip,List.getElem_map,q,u] at B;rw[<-B];have V:(Qk kids j)∈((P.hide D O) a).1.kids:=by rw[e];exact List.mem_of_getElem? (q16 f)
   obtain⟨j1,j2,j3,j4⟩:=L.kids _ V;obtain⟨_,c,hc,Q,A⟩:=q3g j1;obtain⟨c0,_⟩:=K.first A
   have T:=K.c.1.2;exact⟨(F j f).1,j4,by show 1<=(Qk kids j).a;omega,by show (Qk kids j).a<2048;omega⟩
theorem qm0 {R:Int->Nd × Int}{l:Nat}{N:Nd}{M:List (List Qc)}(h:Y7 R l N M)(hm:N.may=true):M.length<=Qu (l:Int)/\l<8:=by
 cases l with
 |zero=>
  obtain⟨its,rfl,rfl⟩:=h;have:=(q1e hm rfl).2.2.2;rw[AF];exact⟨this,by omega⟩
 |succ l=>
  obtain⟨G,rfl,rfl,_⟩:=h;obtain⟨_,_,m,_,f,_⟩:=q0n hm (by show ¬((l+1:Nat):Int)=0;omega);have m:((l+1:Nat):Int)<8:=m;have e:Qu ((l+1:Nat):Int)=12:=AB (by omega);rw[e,AF];have f:(G.map Qr).length<=12:=f;rw[AF] at f;exact⟨f,by omega⟩
end
theorem qs4 {R:Int->Nd × Int}{l:Nat}{N:Nd}{M:List (List Qc)}(h:Y7 R l N M):N.cut 0 M.length=N/\∀m,m<=M.length->(N.cut 0 m).named++(N.cut m M.length).named=N.named:=by
 cases l with
 |zero=>
  obtain⟨its,rfl,rfl⟩:=h;rw[AF];have e:∀i j,(⟨0,its,[]⟩:Nd).cut i j=⟨0,(its.drop i).take (j-i),[]⟩:=λi j=>AA rfl
  refine⟨by rw[e,List.drop_zero,Nat.sub_zero,List.take_length],λm hm=>?_⟩;rw[e,e];unfold Nd.named;simp only[List.map_nil,BG,List.drop_zero,Nat.sub_zero];rw[<-List.filterMap_append,AN (l:=its.drop m) (by rw[AS];omega),AV]
 |succ l=>
  obtain⟨G,rfl,rfl,f⟩:=h;rw[AF];refine⟨by rw[q2j,List.drop_zero,Nat.sub_zero,List.take_length],λm hm=>?_⟩;rw[q2j,q2j,q13,q13,q13,List.drop_zero,Nat.sub_zero,AN (l:=G.drop m) (by rw[AS];omega),<-List.map_append,AV]
theorem q99 {R:Int->Nd × Int}{l:Nat}{N:Nd}{M:List (List Qc)}(h:Y7 R l N M)(h2:M.length<=2*Qu (l:Int)):(pieces N).flatMap Nd.named=N.named:=by
 obtain⟨e,f⟩:=qs4 h;by_cases h0:M.length=0
 ·rw[qb2 h h0,List.flatMap_nil]
  cases l with
  |zero=>
   obtain⟨its,rfl,rfl⟩:=h;rw[AF] at h0;obtain rfl:=BF h0;rfl
  |succ l=>
   obtain⟨G,rfl,rfl,m⟩:=h;rw[AF] at h0;obtain rfl:=BF h0;rfl
 ·by_cases h1:M.length<=Qu (l:Int)
  ·rw[qdc h (by omega) h1,BC,List.flatMap_nil,BM,e]
  ·rw[qdd h (by omega) h2,BC,BC,List.flatMap_nil,BM,f _ (by omega)]
structure Piece (R:Int->Nd × Int)(l:Nat)(p:Nd)(Mp:List (List Qc)):Prop where
 Iw:Y7 R l p Mp
 one:1<=Mp.length
 most:Mp.length<=Qu (l:Int)
theorem q8a {R:Int->Nd × Int}{l:Nat}{N:Nd}{M:List (List Qc)}(h:Y7 R l N M)(h2:M.length<=2*Qu (l:Int)) :
  (M=[]/\pieces N=[])\/(1<=M.length/\M.length<=Qu (l:Int)/\pieces N=[N.cut 0 M.length]/\Piece R l (N.cut 0 M.length) M)\/
   (Qu (l:Int)<M.length/\∃e f,M=e++f/\pieces N=[N.cut 0 (M.length / 2),N.cut (M.length / 2) M.length]/\Piece R l (N.cut 0 (M.length / 2)) e/\Piece R l (N.cut (M.length / 2) M.length) f/\Qv (l:Int)<=e.length/\Qv (l:Int)<=f.length):=by
 have m:Qv (l:Int)*2=Qu (l:Int)/\3<=Qv (l:Int):=by unfold Qv Qu;split<;>omega
 by_cases h0:M.length=0
 ·exact .inl ⟨BF h0,qb2 h h0⟩
 ·by_cases h1:M.length<=Qu (l:Int)
  ·refine .inr (.inl ⟨by omega,h1,qdc h (by omega) h1,?_,by omega,h1⟩);have:=qb0 h 0 M.length;rw[List.drop_zero,Nat.sub_zero,List.take_length] at this;exact this
  ·refine .inr (.inr ⟨by omega,M.take (M.length / 2),M.drop (M.length / 2),(AV _ _).symm,qdd h (by omega) h2,⟨?_,?_,?_⟩,⟨?_,?_,?_⟩,?_,?_⟩)
   ·have:=qb0 h 0 (M.length / 2);rw[List.drop_zero,Nat.sub_zero] at this;exact this
   ·rw[AR];omega
   ·rw[AR];omega
   ·have:=qb0 h (M.length / 2) M.length;rw[AN (by rw[AS];omega)] at this;exact this
   ·rw[AS];omega
   ·rw[AS];omega
   ·rw[AR];omega
   ·rw[AS];omega
section
variable {D:DM}{S0:Sp}{C0:Ct}{O H:LI}{P:Pl}
theorem Piece.fits {R:Int->Nd × Int}{l:Nat}{p:Nd}{Mp:List (List Qc)}(h:Piece R l p Mp)(hl:l<8)(h2:0<l->2<=Mp.length)(hr:Qo Mp.flatten)(hf:∀x∈Mp.flatten,Zx x)(hd:∀x∈Mp.flatten,Dat R x):Fits R p:=
 qlw h.Iw hd (qry h.Iw hl h.one h2 h.most hr hf)
theorem qez {R:Int->Nd × Int}{l:Nat}{p:Nd}{f:List (List Qc)}(h:Piece R l p f):f≠[]:=λe=>by
 have:=h.one;rw[e] at this;exact absurd this (by decide)
theorem q3v {R R':Int->Nd × Int}{l:Nat}{p:Nd}{f:List (List Qc)}(h:Piece R l p f)(q:Qv (l:Int)<=f.length)(e:Ext R R'){a:Int}(m:R' a=(p,0))(h1:1<=a/\a<2048):good1 R' l (a,f.flatten)/\Ku p a=Qr (a,f.flatten):=by
 refine⟨⟨qb1 h.Iw (qez h) e m,by rw[m];exact (q3u h.Iw).2 q,h1⟩,?_⟩;unfold Ku Qr;rw[qrx h.Iw (qez h)]
structure Qa1 (D:DM)(S0:Sp)(C0:Ct)(O H0:LI)(P P':Pl)(root:Int)(its:List Qc)(k:Nat):Prop where
 keep:Keep D S0 C0 [] ((if root=0 then [] else [root])++H0) P'
 tree:(its=[]/\root=0)\/∃l,l<=6/\Qs (P'.hide D []) l root its/\1<=root/\root<2048
 old:∀l a t,a∈H0->Qs (P.hide D O) l a t->Qs (P'.hide D []) l a t
 Pe:∀a,a∈H0->P.hide D O a=(Yk,0)->P'.hide D [] a=(Yk,0)
 free:P.C.free<=P'.C.free+k
 n:P'.C.n=P.C.n
theorem qm1 {R:Int->Nd × Int}(e:∀l y,good1 R l y->3*6 ^ l<=y.2.length){l:Nat}:∀(G:List Jc),(∀y∈G,good1 R l y)->G.length*(3*6 ^ l)<=(G.map (·.2)).flatten.length
 |[],_=>by simp
 |y::G,h=>by
  have h1:=e l y (h y (AP ..));have h2:=qm1 e G λz f=>h z (AO _ f)
  rw[BJ,List.flatten_cons,AD,AX,Nat.add_mul,Nat.one_mul];omega
theorem Keep.Qal (K:Keep D S0 C0 O H P){l:Nat}{N:Nd}{M:List (List Qc)}(h:Y7 (P.hide D O) (l+1) N M)(h2:2<=M.length)(hlen:M.flatten.length<=1000):l<=2:=by
 obtain⟨G,rfl,rfl,e⟩:=h;have m:=qm1 (λl y f=>K.long l y f) G e;rw[AF] at h2;have p:2*(3*6 ^ l)<=G.length*(3*6 ^ l):=Nat.mul_le_mul_right _ h2;refine Classical.byContradiction λu=>?_
 have q:6 ^ 3<=6 ^ l:=Nat.pow_le_pow_right (by omega) (by omega);omega
theorem Pm {a b:List Qc}(h:Qo (a++b)):Qo a/\Qo b:=⟨(List.pairwise_append.1 h).1,(List.pairwise_append.1 h).2.1⟩
theorem qwf (K:Keep D S0 C0 O H P){l:Nat}{s:Qy}{b:Nd}{M:List (List Qc)}(X:Y7 (P.hide D O) l b M)(hs:Zl P D O (l:Int) s){H0:LI}(hH:∀a:Nat,0<a->a<P.C.n->H.count (a:Int)=(own s++(b.named++H0)).count (a:Int))
  (hr:Qo M.flatten) (hf:∀x∈M.flatten,Zx x) (f:∀x∈M.flatten,Dat (P.hide D O) x) (hl:l<8) (a8:M.flatten.length<=1000) (b9:M.length<=Qu (l:Int)+1) (b3:0<l->1<=M.length) (hO:∀y∈O,s.shared=false/\y=s.addr) :
  (∃P' r,P.top s b=some (P',some r)/\Qa1 D S0 C0 O H0 P P' r M.flatten 3)\/(∃P',P.top s b=some (P',none)/\P.C.free<3):=by
 have b8:Qv (l:Int)*2=Qu (l:Int)/\3<=Qv (l:Int):=by unfold Qv Qu;split<;>omega
 unfold Pl.top;by_cases h1:b.kids.length=1
 ·left
  rw[AA h1]
  cases l with
  |zero=>
   obtain⟨its,rfl,_⟩:=X;exact absurd h1 (by simp)
  |succ l=>
   obtain⟨G,rfl,rfl,hg⟩:=X;match G,h1,hg,hH with
   |[x],_,hg,hH=>
    obtain⟨k1,k2,J⟩:=hg x (List.mem_singleton.2 rfl);have e:(⟨((l+1:Nat):Int),[],[x].map Qr⟩:Nd).named=[x.1]:=q13 l [x];rw[e] at hH;obtain⟨E,e1,U,q,_⟩:=qde K hs hH;have W:Ey O s=[]:=List.eq_nil_iff_forall_not_mem.2 λy hy=>by
     obtain⟨j1,j2⟩:=qly hy;obtain⟨j3,j4⟩:=hO y j1;exact j2 j3 j4
    rw[W] at U q;rw[e1];refine⟨E,x.1,rfl,?_,.inr ⟨l,by omega,?_,J⟩,λl a t _ ht=>q10 q.ext ht,λa _ hd=>q7p q.ext hd,by have:=q.free;omega,q.n⟩
    ·rw[AB (by omega)];exact U
    ·have:([x].map (·.2)).flatten=x.2:=by simp
     rw[this];exact q10 q.ext k1
   |[],h1,_,_=>simp at h1
   |_::_::_,h1,_,_=>simp at h1
 ·rw[AB h1];have a7:M.length<=2*Qu (l:Int):=by omega
  have b0:0<l->2<=M.length:=λb1=>by
   have:=b3 b1;refine Classical.byContradiction λhc=>h1 ?_
   cases l with
   |zero=>omega
   |succ l=>
    obtain⟨G,rfl,rfl,hg⟩:=X;rw[AF] at this hc ⊢;omega
  have b7:l<=3:=by
   cases l with
   |zero=>omega
   |succ l=>have:=K.Qal X (b0 (by omega)) a8;omega
  have b4:=q99 X a7;have a6:=q8a X a7;have Y:∀p∈pieces b,Fits (P.hide D O) p:=λp F=>by
   rcases a6 with⟨_,e⟩|⟨k1,k2,e,J⟩|⟨k1,u,A,rfl,e,J,k4,k5,k6⟩
   ·rw[e] at F;cases F
   ·rw[e,AQ] at F;rw[F];exact J.fits hl b0 hr hf f
   ·rw[List.flatten_append] at hr hf f;rw[e] at F;rcases List.mem_cons.1 F with rfl|F
    ·exact J.fits hl (λ_=>by omega) (Pm hr).1 (λx I=>hf x (List.mem_append_left _ I)) λx I=>f x (List.mem_append_left _ I)
    ·rw[AQ] at F;rw[F];exact k4.fits hl (λ_=>by omega) (Pm hr).2 (λx I=>hf x (AU _ I)) λx I=>f x (AU _ I)
  have b5:(pieces b).length<=2:=by
   rcases a6 with⟨_,e⟩|⟨k1,k2,e,J⟩|⟨k1,u,A,_,e,J,k4,k5,k6⟩<;>rw[e]<;>simp
  rcases qlz (l:=(l:Int)) K ⟨b,[s],0,0⟩ H0 (λs' b6=>by rw[List.mem_singleton.1 b6];exact hs) (List.pairwise_singleton _ _) Y (λa h1 h2=>by
    rw[hH a h1 h2,b4,BC,List.flatMap_nil,BM]) with⟨E,O1,az,m,g2,U,q,gO,V⟩|⟨E,m,g2⟩
  ·have W:O1=[]:=List.eq_nil_iff_forall_not_mem.2 λy hy=>by
    obtain⟨j1,j2⟩:=gO y hy;obtain⟨j3,j4⟩:=hO y j1;exact j2 s (List.mem_singleton.2 rfl) j3 j4
   subst W;rw[g2];dsimp only;have R:∀l a t,a∈H0->Qs (P.hide D O) l a t->Qs (E.hide D []) l a t:=λl a t _ ht=>q10 q.ext ht
   have B:∀a,a∈H0->P.hide D O a=(Yk,0)->E.hide D [] a=(Yk,0):=λa _ hd=>q7p q.ext hd
   have Z:=q.free;have m:az.length=(pieces b).length:=m;have V:Gj (E.hide D []) (pieces b) az:=V;have c6:P.C.free<=E.C.free+(pieces b).length:=Z;rcases a6 with⟨hM,e⟩|⟨k1,k2,e,J⟩|⟨k1,u,A,rfl,e,J,k4,k5,k6⟩
   ·left
    rw[e] at m ⊢;obtain rfl:az=[]:=BF (by rw[m];rfl);refine⟨E,0,rfl,?_,.inl ⟨by rw[hM];rfl,rfl⟩,R,B,by omega,q.n⟩;rw[AA rfl];exact U
   ·left
    rw[e] at m V ⊢;match az,m with
    |[a],_=>
     obtain⟨j1,j2⟩:=V (b.cut 0 M.length,a) (List.mem_singleton.2 rfl);refine⟨E,a,rfl,?_,.inr ⟨l,by omega,qb1 J.Iw (qez J) q.ext j1,j2⟩,R,B,by omega,q.n⟩;rw[AB (by have:1<=a:=j2.1;omega)];exact U
    |[],m=>cases m
    |_::_::_,m=>cases m
   ·rw[e] at m V ⊢;match az,m,U with
    |[a1,a2],_,U=>
     obtain⟨p1,q1⟩:=V (_,a1) (AP ..);obtain⟨p2,q2⟩:=V (_,a2) (AO _ (List.mem_singleton.2 rfl));obtain⟨t1,u1⟩:=q3v J k5 q.ext p1 q1;obtain⟨t2,u2⟩:=q3v k4 k6 q.ext p2 q2;have ek:List.zipWith Ku [b.cut 0 ((u++A).length / 2),b.cut ((u++A).length / 2) (u++A).length] [a1,a2]=[(a1,u.flatten),(a2,A.flatten)].map Qr:=by
      show [Ku _ a1,Ku _ a2]=_;rw[u1,u2];rfl
     rw[ek];have b2:=q4t X;have eN:(⟨b.lvl+1,[],[(a1,u.flatten),(a2,A.flatten)].map Qr⟩:Nd)=⟨((l+1:Nat):Int),[],[(a1,u.flatten),(a2,A.flatten)].map Qr⟩:=by rw[b2];rfl
     rw[eN];have hB:Y7 (E.hide D []) (l+1) ⟨((l+1:Nat):Int),[],[(a1,u.flatten),(a2,A.flatten)].map Qr⟩ [u.flatten,A.flatten]:=⟨_,rfl,rfl,λx I=>by
      rcases List.mem_cons.1 I with rfl|I
      ·exact t1
      ·rw[List.mem_singleton.1 I];exact t2⟩
     have T:[u.flatten,A.flatten].flatten=(u++A).flatten:=by simp
     have hF:Fits (E.hide D []) ⟨((l+1:Nat):Int),[],[(a1,u.flatten),(a2,A.flatten)].map Qr⟩:=
      qlw hB (by rw[T];exact λx I=>(f x I).ext q.ext) (qry hB (by omega) (by simp) (λ_=>by simp) (by have:Qu ((l+1:Nat):Int)=12:=AB (by omega);rw[this];simp) (by rw[T];exact hr) (by rw[T];exact hf))
     have Q:([(a1,u.flatten),(a2,A.flatten)].map Qr).length=2:=rfl;rw[AB (by rw[Q];decide),AB (by rw[Q];decide)]
     cases F:E.C.pick with
     |none=>
      right
      have he:E.Jt ⟨((l+1:Nat):Int),[],[(a1,u.flatten),(a2,A.flatten)].map Qr⟩=6:=by unfold Pl.Jt;rw[AA hF.may];exact (Ct.Vt F).1
      rw[AB (by rw[he];decide),AA he];refine⟨_,rfl,?_⟩;have:=Ct.Kv F;omega
     |some c=>
      left
      obtain⟨e0,eV,K2,hN,mv,c1,c2⟩:=U.put (H0:=H0) F hF (λa _ _=>by
       rw[q13,A_];rfl)
      rw[AA e0,eV];have h3:=qb1 hB (by simp) (mv 0).ext hN;rw[T] at h3;have c7:=(mv 0).free;refine⟨_,_,rfl,?_,.inr ⟨l+1,by omega,h3,by omega,by omega⟩,λl a t ha ht=>q10 (mv 0).ext (R l a t ha ht),λa ha hd=>q7p (mv 0).ext (B a ha hd),by omega,(mv 0).n.trans q.n⟩;rw[AB (by omega)];exact K2
    |[],m,_=>cases m
    |[_],m,_=>cases m
    |_::_::_::_,m,_=>cases m
  ·right
   rw[m];exact⟨E,rfl,by have g2:P.C.free<(pieces b).length:=g2;omega⟩
end
section
variable {D:DM}{S0:Sp}{C0:Ct}{O H:LI}{P:Pl}
theorem qon (K:Keep D S0 C0 O H P){c:Nat}(h1:P.C.get (c:Int)=1)(f:(c:Int)∈H){l:Nat}{y:Jc}(e:y.1≠(c:Int))(h:good1 (P.hide D O) l y):good1 (P.hide D ((c:Int)::O)) l y:=
 ⟨q41 K h1 f l _ _ e h.1,by rw[q1d e];exact h.2.1,h.2.2⟩
theorem qwg (K:Keep D S0 C0 O H P){c:Nat}(h1:P.C.get (c:Int)=1)(m:(c:Int)∈H){l:Nat}{N:Nd}{M:List (List Qc)}(hn:(c:Int)∉N.kids.map (·.a))(h:Y7 (P.hide D O) l N M):Y7 (P.hide D ((c:Int)::O)) l N M:=by
 cases l with
 |zero=>exact h
 |succ l=>
  obtain⟨G,rfl,h2,p⟩:=h;refine⟨G,rfl,h2,λx f=>qon K h1 m (λe=>hn ?_) (p x f)⟩;rw[<-e];exact List.mem_map.2 ⟨Qr x,List.mem_map_of_mem f,rfl⟩
theorem qwh {R:Int->Nd × Int}{l:Nat}{s:Qy}{M:List (List Qc)}(h:Y7 R l s.N M):Zp s 0 0=s.N:=by
 cases l with
 |zero=>
  obtain⟨its,e,_⟩:=h;unfold Zp;rw[e];unfold Jb Nd.cut Nd.size;simp
 |succ l=>
  obtain⟨G,e,_⟩:=h;rw[q89 e,e];simp
structure Hu (D:DM)(O O':LI)(P P':Pl)(c:Int):Prop where
 tree:∀l a its,a≠c->Qs (P.hide D O) l a its->Qs (P'.hide D O') l a its
 other:∀a,a≠c->(P.hide D O a).2=0->P'.hide D O' a=P.hide D O a
theorem Hu.good {O':LI}{P':Pl}{c:Int}(h:Hu D O O' P P' c){l:Nat}{y:Jc}(hy:y.1≠c)(hg:good1 (P.hide D O) l y):good1 (P'.hide D O') l y:=
 ⟨h.tree l _ _ hy hg.1,by rw[h.other _ hy (Fz hg.1).2.2];exact hg.2.1,hg.2.2⟩
theorem Hu.Iw {O':LI}{P':Pl}{c:Int}(h:Hu D O O' P P' c){l:Nat}{N:Nd}{M:List (List Qc)}(hn:c∉N.kids.map (·.a))(hb:Y7 (P.hide D O) l N M):Y7 (P'.hide D O') l N M:=by
 cases l with
 |zero=>exact hb
 |succ l=>
  obtain⟨G,rfl,h2,m⟩:=hb;refine⟨G,rfl,h2,λx f=>h.good (λe=>hn ?_) (m x f)⟩;rw[<-e];exact List.mem_map.2 ⟨Qr x,List.mem_map_of_mem f,rfl⟩
theorem Hu.dat {O':LI}{P':Pl}{c:Int}(h:Hu D O O' P P' c)(hc:0<=(P.hide D O c).1.lvl){x:Qc}(hx:Dat (P.hide D O) x):Dat (P'.hide D O') x:=λd hd=>by
 have h1:=hx d hd;have f:d≠c:=λe=>by
  rw[<-e,h1] at hc;exact absurd hc (by decide)
 rw[h.other d f (by rw[h1])];exact h1
theorem qwi {R:Int->Nd × Int}{l:Nat}{N:Nd}{M:List (List Qc)}(h:Y7 R l N M)(i:Nat):(N.cut i i).named=[]:=by
 cases l with
 |zero=>
  obtain⟨its,rfl,rfl⟩:=h;have e:(⟨0,its,[]⟩:Nd).cut i i=⟨0,(its.drop i).take (i-i),[]⟩:=AA rfl;rw[e,Nat.sub_self,List.take_zero];rfl
 |succ l=>
  obtain⟨G,rfl,rfl,f⟩:=h;rw[q2j,q13,Nat.sub_self,List.take_zero];rfl
theorem qwj {f:LI}{P':Pl}{c:Int}(e:Ext (P.hide D O) (P'.hide D f)):Hu D O f P P' c:=⟨λ_ _ _ _ h=>q10 e h,λa _ h=>e a h⟩
theorem qyy {t:Qy}{l:Nat}{G:List Jc}(h:t.N=⟨((l+1:Nat):Int),[],G.map Qr⟩){q:Nat}{y:Jc}(m:G[q]?=some y):q<t.N.kids.length/\Qk t.N.kids q=Qr y:=by
 obtain⟨f,e⟩:=List.getElem?_eq_some_iff.1 m;rw[h];refine⟨by show q<(G.map Qr).length;rw[AF];exact f,?_⟩;show Qk (G.map Qr) q=_;rw[qed f,e]
structure Qbq (D:DM)(S0:Sp)(C0:Ct)(O H H0:LI)(P:Pl)(l:Nat)(t s:Qy)(way:List Qy)(L' R':List Qc)(y:Jc)(nb:Qy)(P':Pl)(O':LI):Prop where
 keep:Keep D S0 C0 O' (nb.N.named++H) P'
 near:Hu D O O' P P' y.1
 once:(O'=y.1::O/\nb.shared=false/\H.count y.1=1/\t.shared=false)\/(O'=O/\Ext (P.hide D O) (P'.hide D O'))
 nbk:Zl P' D O' (l:Int) nb
 sk:Zl P' D O' (l:Int) s
 tk:Zl P' D O' ((l+1:Nat):Int) t
 up:Yr P' D O' (l+1) t way L' R'
 free:P.C.free<=P'.C.free
 n:P'.C.n=P.C.n
 addr:nb.addr=y.1
 held:nb.held=t.shared
theorem qs5 (K:Keep D S0 C0 O H P){l:Nat}{s t:Qy}{way:List Qy}{L' R':List Qc}{H0:LI}{G:List Jc}{q:Nat}{y:Jc}(hG:t.N=⟨((l+1:Nat):Int),[],G.map Qr⟩)(hq:G[q]?=some y)(hy:good1 (P.hide D O) l y)
  (ht:Zl P D O ((l+1:Nat):Int) t) (hs:Zl P D O (l:Int) s) (u:y.1≠s.addr) (Z:Yr P D O (l+1) t way L' R') (hH:H.length<=20000)
  (b2:t.shared=false->P.C.get y.1=1->y.1∈H/\y.1∉Zj way H0/\y.1≠t.addr) :
  ∃P' O' E,P.near D t q=some P'/\Qbq D S0 C0 O H H0 P l t s way L' R' y (P.Jk D t q) P' O'/\Y7 (P'.hide D O') l (P.Jk D t q).N E/\E.flatten=y.2/\Qv (l:Int)<=E.length/\E.length<=Qu (l:Int)/\(P.Jk D t q).N.lvl=(l:Int):=by
 obtain⟨k1,k2⟩:=qyy hG hq;obtain⟨ho,n,hn,b4,h0⟩:=q3g (Fz hy.1).2.2;obtain⟨I,hE⟩:=q3z hy.1;have A:(P.Qd D y.1).lvl=(l:Int):=by
  have:=(Fz hy.1).2.1;rw[I] at this;exact this
 have a7:(Qk t.N.kids q).a=y.1:=by rw[k2];rfl
 have b5:P.Kq D t q=true:=by
  unfold Pl.Kq;rw[a7];refine AL ⟨k1,hE,?_⟩;rw[A,hG];show (l:Int)=((l+1:Nat):Int)-1;omega
 have a1:P.Jk D t q=P.spot D y.1 t.shared:=by unfold Pl.Jk;rw[a7]
 obtain⟨E,J,R,hL,b7⟩:=K.Iw hy.1;have hN:(P.hide D O y.1).1=P.Qd D y.1:=by rw[I];rfl
 rw[hN] at J;have a2:=hy.2.1;rw[hN] at a2;have B:=(qm0 J (by have:=hL.may;rwa [hN] at this)).1;have p:=(q3u J).1 a2;have W:P.near D t q=P.Q9 (P.spot D y.1 t.shared) 0 0:=by unfold Pl.near;rw[AA b5,a1]
 rw[W,a1];have T:(P.spot D y.1 t.shared).N=P.Qd D y.1:=rfl;have U:∀x∈E.flatten,Dat (P.hide D O) x:=by rw[R];exact K.dat l _ _ hy.1
 have V:((P.Qd D y.1).cut 0 0).named=[]:=qwi J 0;have b0:Outside (P.hide D O) l (P.spot D y.1 t.shared).N 0 0 [] E:=by
  have:=qb3 J (i:=0) (j:=0) (AE _) (AW _);rw[List.take_zero,List.drop_zero] at this;exact this
 have b8:Qu (l:Int)<=12:=by unfold Qu;split<;>omega
 by_cases f:(P.spot D y.1 t.shared).shared=true
 ·obtain⟨P',e1,Q,M⟩:=q98 K (s:=P.spot D y.1 t.shared) b0 (by simpa using U) (λh=>by rw[f] at h;cases h) (by simp;omega) hH;rw[AA f,qwh (s:=P.spot D y.1 t.shared) J,T] at Q;have ha:=(M ((l:Int)-1)).above;refine⟨P',O,E,e1,⟨Q,qwj (M 0).ext,.inr ⟨rfl,(M 0).ext⟩,?_,hs.above K ha (by omega),ht.above K ha (by omega),Z.ext K (M (l:Int)).ext (M (l:Int)).above (by omega),by have:=(M 0).free;omega,(M 0).n,rfl,rfl⟩,qrw J (M 0).ext,R,p,B,A⟩;have b3:Zl P D O (l:Int) (P.spot D y.1 t.shared):=⟨λ_ h2=>⟨by
   have h2:t.shared=false:=h2;have h3:(t.shared||decide (1<P.C.get y.1))=true:=f;rw[h2,Bool.false_or] at h3;have:=AK h3;show 2<=P.C.get y.1;omega,ho,A⟩,λh=>by rw[f] at h;cases h⟩
  exact b3.above K ha (by omega)
 ·have h3:(t.shared||decide (1<P.C.get y.1))=false:=by
   cases e:(t.shared||decide (1<P.C.get y.1)) with
   |false=>rfl
   |true=>exact absurd e f
  obtain⟨h4,h5⟩:=Bool.or_eq_false_iff.1 h3;have h5:=of_decide_eq_false h5;have a6:P.C.get y.1=1:=by
   have:=K.nonneg y.1;rw[hn] at h5 this ⊢;omega
  obtain⟨i1,i2,i3⟩:=b2 h4 a6;have e1:P.Q9 (P.spot D y.1 t.shared) 0 0=some P:=by
   unfold Pl.Q9;rw[AB f];split
   ·rfl
   ·rw[T,V];rfl
  have F:P.C.get (n:Int)=1:=by rw[<-hn];exact a6
  have m:(n:Int)∈H:=by rw[<-hn];exact i1
  have b6:(n:Int)∉O:=by rw[<-hn];exact ho
  have Q:=K.open_ F m b6;obtain⟨o1,o2⟩:=K.once F m;rw[<-hn,I] at Q;have Q:Keep D S0 C0 (y.1::O) ((P.Qd D y.1).named++H) P:=Q;have Y:(n:Int)∉(P.Qd D y.1).kids.map (·.a):=λh=>o2 n b4 (by
   rw[<-hn,I];rw[<-hn] at h;exact List.mem_append_left _ h)
  have a8:Hu D O (y.1::O) P P y.1:=by
   refine⟨λl a its u h=>?_,λa u h=>q1d u⟩;rw[hn] at u ⊢;exact q41 K F m l a its u h
  have b1:=q9w Z (ht.mine h4).1;have X:Yr P D (y.1::O) (l+1) t way L' R':=by
   rw[hn];exact Z.open_ K F m b1 h4 (by rw[<-hn];exact i2)
  refine⟨P,y.1::O,E,e1,⟨Q,a8,.inl ⟨rfl,h3,by rw[hn];exact o1,h4⟩,⟨λh=>absurd h f,λ_=>⟨h4,AP ..,A,hE⟩⟩,?_,?_,X,AE _,rfl,rfl,rfl⟩,?_,R,p,B,A⟩
  ·refine⟨λh1 h2=>?_,λh1=>?_⟩
   ·obtain⟨j1,j2,j3⟩:=hs.shared h1 h2;exact⟨j1,λh=>by
     rcases List.mem_cons.1 h with h|h
     ·exact u h.symm
     ·exact j2 h,j3⟩
   ·obtain⟨j1,j2,j3,j4⟩:=hs.mine h1;exact⟨j1,AO _ j2,j3,j4⟩
  ·refine⟨λh1 h2=>?_,λh1=>?_⟩
   ·rw[h4] at h1;cases h1
   ·obtain⟨j1,j2,j3,j4⟩:=ht.mine h1;exact⟨j1,AO _ j2,j3,j4⟩
  ·exact a8.Iw (by rw[T,hn] at *;exact Y) J
end
