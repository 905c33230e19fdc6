/- A pool some of whose nodes are open: their kids are held by who changes them -/
import Derived.Test.YtloolbmdiimanaaGreatDoorGv27
namespace Go.Proofs.YtloolbmdiimanaaGreatDoor
open Go Go.RowKit Go.Proofs
def Jc:Nd:=⟨-1,[],[]⟩
def Pl.tell (P:Pl)(D:DM)(a:Int):Nd × Int:=if P.C.get a≠0/\P.Qe D a≠0 then (Jc,0) else P.store D a
def Pl.hide (P:Pl)(D:DM)(O:LI):Int->Nd × Int:=λa=>if a∈O then (Zz,1) else P.tell D a
def Nd.enough (N:Nd):Prop:=(if N.lvl=0 then 3 else 6)<=N.items.length+N.kids.length
def Dat (R:Int->Nd × Int)(x:Qb):Prop:=∀c,Ky x=some c->R c=(Jc,0)
structure Ee (R:Int->Nd × Int)(a:Int):Prop where
 err:(R a).2=0
 may:(R a).1.may=true
 data:∀x∈(R a).1.items,Dat R x
 kids:∀x∈(R a).1.kids,(R x.a).2=0/\(R x.a).1.lvl+1=(R a).1.lvl/\(R x.a).1.least=x.k/\(R x.a).1.enough
def Loc (R:Int->Nd × Int)(a:Int):Prop:=R a=(Jc,0)\/Ee R a
structure Keep (D:DM)(S0:Sp)(C0:Ct)(O H:LI)(P:Pl):Prop where
 Zl:Wx D P S0 C0
 laid:∀a:Nat,P.C.fresh (a:Int)=true->∃b,P.L a=some b
 Gi:J3 P.C.n P.cnt (λb=>(P.hide D O (b:Int)).1.named) H
 opened:∀x∈O,x∈H/\P.C.get x=1
 loc:∀a:Nat,a<P.C.n->P.C.get (a:Int)≠0->(a:Int)∉O->Loc (P.hide D O) (a:Int)
def Ext (R R':Int->Nd × Int):Prop:=∀a,(R a).2=0->R' a=R a
theorem Ext.refl (R:Int->Nd × Int):Ext R R:=λ_ _=>rfl
theorem Ext.trans {R R' R'':Int->Nd × Int}(h:Ext R R')(h2:Ext R' R''):Ext R R'':=λa d=>by
 have h1:=h a d;rw[h2 a (by rw[h1];exact d),h1]
theorem Dat.ext {R R':Int->Nd × Int}{x:Qb}(h:Dat R x)(e:Ext R R'):Dat R' x:=λc d=>by
 have h1:=h c d;rw[e c (by rw[h1])];exact h1
theorem q52 {R R':Int->Nd × Int}{a:Int}(e:Ext R R')(h:R a=(Jc,0)):R' a=(Jc,0):=(e a (by rw[h])).trans h
theorem qsd {c:Nat}(g:c<65536):∃x:Qb,Ky x=some (c:Int):=by
 refine⟨⟨⟨0,3,0⟩,[1,UInt8.ofNat (c / 256),UInt8.ofNat (c % 256)]⟩,?_⟩;unfold Ky;have d:Xr [1,UInt8.ofNat (c / 256),UInt8.ofNat (c % 256)] 0=1:=rfl;have e:Xr [1,UInt8.ofNat (c / 256),UInt8.ofNat (c % 256)] 1=c / 256:=by
  show (UInt8.ofNat (c / 256)).toNat=_;rw[UInt8.toNat_ofNat'];omega
 have f:Xr [1,UInt8.ofNat (c / 256),UInt8.ofNat (c % 256)] 2=c % 256:=by
  show (UInt8.ofNat (c % 256)).toNat=_;rw[UInt8.toNat_ofNat'];omega
 rw[AA ⟨rfl,rfl,d⟩,e,f];congr 1
 omega
theorem qse {R R':Int->Nd × Int}{c:Nat}(g:c<65536)(h:∀x,Dat R x->Dat R' x)(hd:R (c:Int)=(Jc,0)):R' (c:Int)=(Jc,0):=by
 obtain⟨x,f⟩:=qsd g;exact h x (λd e=>by rw[f] at e;rw[<-OI e];exact hd) _ f
theorem Ee.ext {R R':Int->Nd × Int}{a:Int}(h:Ee R a)(e:Ext R R'):Ee R' a:=by
 have f:=e a h.err;refine⟨by rw[f];exact h.err,by rw[f];exact h.may,λx d=>?_,λx d=>?_⟩
 ·rw[f] at d;exact (h.data x d).ext e
 ·rw[f] at d ⊢;obtain⟨g,p,u,y⟩:=h.kids x d;have m:=e x.a g;rw[m];exact⟨g,p,u,y⟩
theorem Loc.ext {R R':Int->Nd × Int}{a:Int}(h:Loc R a)(e:Ext R R'):Loc R' a:=by
 rcases h with h|h
 ·exact .inl (by rw[e a (by rw[h])];exact h)
 ·exact .inr (h.ext e)
theorem Loc.node {R:Int->Nd × Int}{a:Int}(h:Loc R a)(hl:0<=(R a).1.lvl):Ee R a:=by
 rcases h with h|h
 ·rw[h] at hl;exact absurd hl (by decide)
 ·exact h
def Ar (l:Int)(D:DM)(O d:LI)(P P':Pl):Prop:=∀x,P.C.get x≠0->l<(P.Qd D x).lvl->P.C.get x<=P'.C.get x/\P'.store D x=P.store D x/\(x∈O↔x∈d)
structure Move (l:Int)(D:DM)(O O':LI)(P P':Pl)(k:Nat):Prop where
 ext:Ext (P.hide D O) (P'.hide D O')
 above:Ar l D O O' P P'
 free:P.C.free<=P'.C.free+k
 n:P'.C.n=P.C.n
theorem Ar.trans {l:Int}{D:DM}{O O' O'':LI}{P P' P'':Pl}(hb:∀x,0<=P.C.get x)(h:Ar l D O O' P P')(h2:Ar l D O' O'' P' P''):Ar l D O O'' P P'':=λx g e=>by
 obtain⟨p,f,m⟩:=h x g e;have:=hb x;have d:P'.Qd D x=P.Qd D x:=congrArg Prod.fst f;obtain⟨j1,j2,j3⟩:=h2 x (by omega) (by rw[d];exact e);exact⟨by omega,j2.trans f,m.trans j3⟩
theorem Move.refl (l:Int)(D:DM)(O:LI)(P:Pl):Move l D O O P P 0:=⟨Ext.refl _,λ_ _ _=>⟨Int.le_refl _,rfl,Iff.rfl⟩,AE _,rfl⟩
theorem Move.trans {l:Int}{D:DM}{O O' O'':LI}{P P' P'':Pl}{k k':Nat}(hb:∀x,0<=P.C.get x)(h:Move l D O O' P P' k)(h2:Move l D O' O'' P' P'' k'):Move l D O O'' P P'' (k+k'):=
 ⟨h.ext.trans h2.ext,h.above.trans hb h2.above,by have:=h.free;have:=h2.free;omega,h2.n.trans h.n⟩
theorem Move.more {l:Int}{D:DM}{O O':LI}{P P':Pl}{k k':Nat}(h:Move l D O O' P P' k)(hk:k<=k'):Move l D O O' P P' k':=⟨h.ext,h.above,by have:=h.free;omega,h.n⟩
section
variable {D:DM}{S0:Sp}{C0:Ct}{O H:LI}{P:Pl}
theorem qdr {C:Ct}{c:Nat}{x:Int}(h0:C.get (c:Int)≠0):C.free<=(C.put c x).free:=by
 have hn:nm C.now c≠0:=λe=>h0 (by unfold Ct.get;split;exact e;rfl)
 unfold Ct.free Ct.Vs;rw[C.Zg];refine List.countP_mono_left λj _ d=>?_
 have m:j≠c:=λe=>by
  subst e;unfold Ct.may Ct.Gv at d;simp at d;exact hn d.2.1
 unfold Ct.may Ct.Gv at d ⊢;have f:nm (C.put c x).now j=nm C.now j:=q4n C.now c j x (λe=>m e.symm);have g:(C.put c x).first=C.first:=by unfold Ct.first;rw[C.Zg]
 rw[f,g];exact d
theorem O6 {x:Int}(h:P.C.get x=0):P.store D x=(Zz,1):=by
 unfold Pl.store Pl.Qd Pl.Qe;rw[AA h,AA h]
theorem q2q {x:Int}(h:P.C.get x=0):P.tell D x=(Zz,1):=by
 unfold Pl.tell;rw[AB (λe=>e.1 h)];exact O6 h
theorem I4 {x:Int}(h:P.Qe D x=0):P.tell D x=P.store D x:=AB λe=>e.2 h
theorem q9o {x:Int}(h0:P.C.get x≠0)(h:P.Qe D x≠0):P.tell D x=(Jc,0):=AA ⟨h0,h⟩
theorem q9p {x:Int}(h:(P.tell D x).2=0):P.C.get x≠0:=λe=>by
 rw[q2q e] at h;cases h
theorem qds {x:Int}(h:(P.tell D x).2=0)(e:0<=(P.tell D x).1.lvl):P.Qe D x=0:=by
 by_cases d:P.Qe D x=0
 ·exact d
 ·rw[q9o (q9p h) d] at e;exact absurd e (by decide)
theorem q8z (h:Wx D P S0 C0){a:Int}(d:P.Qe D a=0):(P.Qd D a).may=true:=by
 have h0:P.C.get a≠0:=λe=>by
  unfold Pl.Qe at d;rw[AA e] at d
  cases d
 obtain⟨n,rfl,hn⟩:=Uh h0
 cases f:P.live n with
 |some b=>
  have p:=q5c D h0 f;have u:=h.good n b (q6y f).2
  cases b with
  |node N=>
   have e:P.Qd D (n:Int)=N:=by
    unfold Pl.Qd;rw[AB h0,AJ,f]
   rw[e];exact q43 u
  |bytes k l=>
   have:bkE (Bk.bytes k l)=1:=rfl;rw[this] at p;omega
 |none=>
  unfold Pl.Qe at d;rw[AB h0,AJ,f] at d;unfold Pl.Qd;rw[AB h0,AJ,f];dsimp only at d ⊢;by_cases g:D.Jw (n:Int)=0
  ·rw[AA g] at d ⊢;unfold Xm at d;unfold Xn
   cases m:Zd (D.Xh (n:Int)) (n:Int) with
   |none=>rw[m] at d;exact absurd d (by decide)
   |some N=>exact qg7 m
  ·rw[AB g] at d;exact absurd d g
theorem q53 (e:Wx D P S0 C0){x:Int}(h:P.tell D x=(Jc,0)):P.C.get x≠0/\P.Qe D x≠0:=by
 have h0:P.C.get x≠0:=q9p (D:=D) (by rw[h]);refine⟨h0,λd=>?_⟩;have hm:=q8z e d;rw[I4 d] at h;have:P.Qd D x=Jc:=congrArg Prod.fst h;rw[this] at hm;exact absurd hm (by decide)
theorem q3e {P':Pl}{x:Int}(h:P'.store D x=P.store D x)(f:P'.C.get x=0↔P.C.get x=0):P'.tell D x=P.tell D x:=by
 have g:P'.Qe D x=P.Qe D x:=congrArg Prod.snd h;unfold Pl.tell;rw[h,g];by_cases e:P.C.get x=0
 ·rw[AB (λq=>q.1 (f.2 e)),AB (λq=>q.1 e)]
 ·by_cases d:P.Qe D x=0
  ·rw[AB (λq=>q.2 d),AB (λq=>q.2 d)]
  ·rw[AA ⟨λq=>e (f.1 q),d⟩,AA ⟨e,d⟩]
theorem q1z {x:Int}(h:x∈O):P.hide D O x=(Zz,1):=AA h
theorem O8 {x:Int}(h:x∉O):P.hide D O x=P.tell D x:=AB h
theorem q2r {x:Int}(h:(P.hide D O x).2=0):x∉O/\∃n:Nat,x=(n:Int)/\n<P.C.n/\P.C.get (n:Int)≠0:=by
 by_cases e:x∈O
 ·rw[q1z e] at h;cases h
 ·rw[O8 e] at h;have h0:=q9p h;obtain⟨n,rfl,hn⟩:=Uh h0;exact⟨e,n,rfl,hn,h0⟩
theorem qnv {x:Int}(h:(P.hide D O x).2=0)(e:0<=(P.hide D O x).1.lvl):P.hide D O x=P.store D x/\P.Qe D x=0:=by
 obtain⟨f,_⟩:=q2r h;rw[O8 f] at h e ⊢;have d:=qds h e;exact⟨I4 d,d⟩
theorem q3f {l:Nat}{a:Int}{its:List Qb}(h:Qm (P.hide D O) l a its):P.hide D O a=P.store D a/\P.Qe D a=0:=
 qnv (D7 h).2.2 (by rw[(D7 h).2.1];exact Int.natCast_nonneg l)
theorem qnw {R:Int->Nd × Int}{a:Int}(h:Ee R a){c:Int}(d:c∈(R a).1.named):(R c).2=0:=by
 unfold Nd.named at d;rcases List.mem_append.1 d with d|d
 ·obtain⟨x,f,rfl⟩:=List.mem_map.1 d;exact (h.kids x f).1
 ·obtain⟨x,f,e⟩:=List.mem_filterMap.1 d;rw[h.data x f c e]
theorem q7g {R:Int->Nd × Int}{a:Int}(h:R a=(Jc,0)):(R a).1.named=[]:=by rw[h];rfl
theorem qsf {R:Int->Nd × Int}{a:Int}(h:Loc R a){c:Int}(d:c∈(R a).1.named):(R c).2=0:=by
 rcases h with h|h
 ·rw[q7g h] at d;cases d
 ·exact qnw h d
theorem Keep.named (K:Keep D S0 C0 O H P){b:Nat}(hb:b<P.C.n){a:Nat}(hm:(a:Int)∈(P.hide D O (b:Int)).1.named):P.C.get (b:Int)≠0/\(b:Int)∉O/\(P.hide D O (a:Int)).2=0:=by
 have h0:P.C.get (b:Int)≠0/\(b:Int)∉O:=by
  refine⟨λe=>?_,λe=>?_⟩
  ·by_cases d:(b:Int)∈O
   ·rw[q1z d] at hm;cases hm
   ·rw[O8 d,q2q e] at hm;cases hm
  ·rw[q1z e] at hm;cases hm
 exact⟨h0.1,h0.2,qsf (K.loc b hb h0.1 h0.2) hm⟩
theorem Keep.c (K:Keep D S0 C0 O H P):P.C.ok:=K.Zl.ok.c
theorem Keep.first (K:Keep D S0 C0 O H P){c:Nat}(h0:P.C.get (c:Int)≠0):0<c/\c<P.C.n:=by
 obtain⟨h1,h2,d⟩:=Ct.Vt K.Zl.ok.res h0;have e:P.C.first=2+2*Qj P.C.n:=rfl
 rw[AJ] at d;omega
theorem Keep.once (K:Keep D S0 C0 O H P){c:Nat}(h1:P.C.get (c:Int)=1)(hc:(c:Int)∈H):H.count (c:Int)=1/\∀b:Nat,b<P.C.n->(c:Int)∉(P.hide D O (b:Int)).1.named:=by
 obtain⟨c0,m⟩:=K.first (c:=c) (by omega)
 have h:=K.Gi.eq c c0 m;have g:P.cnt c=1:=by unfold Pl.cnt;rw[h1];rfl
 have A:=List.count_pos_iff.2 hc;refine⟨by omega,λb d hm=>?_⟩;obtain⟨u,_,_⟩:=K.named d hm;have p:=qf3 (f:=λb=>if 1<=P.cnt b then ((P.hide D O (b:Int)).1.named).count (c:Int) else 0) d;have y:=List.count_pos_iff.2 hm;rw[AA ((qib K.c).2 u)] at p;have e:refs (λb=>(P.hide D O (b:Int)).1.named) P.C.n P.cnt c=sumTo P.C.n λb=>if 1<=P.cnt b then ((P.hide D O (b:Int)).1.named).count (c:Int) else 0:=rfl
 omega
theorem Keep.told (K:Keep D S0 C0 O H P){x:Int}(hx:P.C.get x≠0)(ho:x∉O):Loc (P.hide D O) x:=by
 obtain⟨n,rfl,hn⟩:=Uh hx;exact K.loc n hn hx ho
theorem Py {c x:Int}(h:x≠c):P.hide D (c::O) x=P.hide D O x:=by
 unfold Pl.hide;have:x∈c::O↔x∈O:=by simp[h]
 by_cases e:x∈O
 ·rw[AA e,AA (this.2 e)]
 ·rw[AB e,AB λh=>e (this.1 h)]
theorem Keep.Qa2 (K:Keep D S0 C0 O H P){x:Int}(he:(P.hide D O x).2=0)(hl:0<=(P.hide D O x).1.lvl):Ee (P.hide D O) x:=by
 obtain⟨d,n,rfl,hn,h0⟩:=q2r he;exact (K.told h0 d).node hl
theorem Keep.tree (K:Keep D S0 C0 O H P){l:Nat}{a:Int}{its:List Qb}(h:Qm (P.hide D O) l a its):Ee (P.hide D O) a:=
 K.Qa2 (D7 h).2.2 (by rw[(D7 h).2.1];exact Int.natCast_nonneg l)
theorem Keep.dat (K:Keep D S0 C0 O H P):∀(l:Nat) (a:Int) (its:List Qb),Qm (P.hide D O) l a its->∀x∈its,Dat (P.hide D O) x
 |0,a,its,h,x,d=>by
  have L:=K.tree (l:=0) h;refine L.data x ?_;rw[h.1];exact d
 |l+1,a,its,h,x,d=>by
  obtain⟨kids,parts,e,y,A,rfl,u⟩:=h;obtain⟨p,m,d⟩:=List.mem_flatten.1 d;obtain⟨j,g,rfl⟩:=List.getElem_of_mem m;have f:=(u j (by omega)).1;rw[AG,AC g] at f;exact K.dat l _ _ f x d
theorem qjc {c:Nat}{x:Qb}(g:Dat (P.hide D O) x)(f:Ky x≠some (c:Int)):Dat (P.hide D ((c:Int)::O)) x:=λd hd=>by
 rw[Py (λe=>f (by rw[<-e];exact hd))];exact g d hd
theorem Keep.open_ (K:Keep D S0 C0 O H P){c:Nat}(h1:P.C.get (c:Int)=1)(hc:(c:Int)∈H)(_ho:(c:Int)∉O):Keep D S0 C0 ((c:Int)::O) ((P.hide D O (c:Int)).1.named++H) P:=by
 obtain⟨c0,F⟩:=K.first (c:=c) (by omega)
 obtain⟨_,h2⟩:=K.once h1 hc;refine⟨K.Zl,K.laid,?_,λx f=>?_,λa A h0 p=>?_⟩
 ·exact K.Gi.set (c:=c) (ks:=[]) (H0:=H) (K':=λb=>(P.hide D ((c:Int)::O) (b:Int)).1.named) F (by unfold Pl.cnt;rw[h1];decide) (λa _ _=>by simp) (by show (P.hide D ((c:Int)::O) (c:Int)).1.named=[];rw[q1z (AP ..)];rfl) (λb J y=>by
   show (P.hide D ((c:Int)::O) (b:Int)).1.named=_;rw[Py (by omega)])
 ·rcases List.mem_cons.1 f with rfl|f
  ·exact⟨AU _ hc,h1⟩
  ·obtain⟨G,I⟩:=K.opened x f;exact⟨AU _ G,I⟩
 ·have y:(a:Int)≠(c:Int):=λe=>p (e▸AP ..)
  have u:(a:Int)∉O:=λh=>p (AO _ h)
  have m:=Py (P:=P) (D:=D) (O:=O) y;rcases K.loc a A h0 u with g|g
  ·exact .inl (m.trans g)
  ·refine .inr ⟨by rw[m];exact g.err,by rw[m];exact g.may,λx f d hd=>?_,λx f=>?_⟩
   ·rw[m] at f;have B:d≠(c:Int):=λe=>h2 a A (by unfold Nd.named;rw[<-e];exact AU _ (List.mem_filterMap.2 ⟨x,f,hd⟩))
    rw[Py B];exact g.data x f d hd
   ·rw[m] at f ⊢;have E:x.a≠(c:Int):=λe=>h2 a A (by unfold Nd.named;rw[<-e];exact List.mem_append_left _ (List.mem_map_of_mem f))
    rw[Py E];exact g.kids x f
theorem q3g (K:Keep D S0 C0 O H P){c:Nat}(h1:P.C.get (c:Int)=1)(f:(c:Int)∈H):∀(l:Nat) (a:Int) (its:List Qb),a≠(c:Int)->Qm (P.hide D O) l a its->Qm (P.hide D ((c:Int)::O)) l a its
 |0,a,its,hne,h=>⟨by rw[Py hne];exact h.1,h.2⟩
 |l+1,a,its,hne,h=>by
  obtain⟨kids,parts,e,p,u,y,g⟩:=h;refine⟨kids,parts,by rw[Py hne];exact e,p,u,y,λj d=>⟨q3g K h1 f l _ _ (λm=>?_) (g j d).1,(g j d).2⟩⟩;obtain⟨A,n,rfl,hn,h0⟩:=q2r (P:=P) (D:=D) (O:=O) (x:=a) (by rw[e]);refine (K.once h1 f).2 n hn ?_;rw[e,<-m];exact List.mem_append_left _ (List.mem_map_of_mem (List.mem_of_getElem? (q16 d)))
theorem qf6 {c:Nat}{x:Int}(g:c<P.C.n)(h0:P.C.get (c:Int)≠0)(d:x≠0)(b:Int):Pl.store ⟨P.S,P.C.put c x,P.L⟩ D b=P.store D b:=by
 by_cases f:0<=b/\b<(P.C.n:Int)
 ·obtain⟨n,rfl⟩:∃n:Nat,b=(n:Int):=⟨b.toNat,by omega⟩;have hn:n<P.C.n:=by omega
  have m:(P.C.put c x).get (n:Int)=if n=c then x else P.C.get (n:Int):=P8 P.C n hn
  unfold Pl.store Pl.Qd Pl.Qe Pl.live;show ((if (P.C.put c x).get (n:Int)=0 then Zz else match (if (P.C.put c x).get (((n:Int).toNat:Nat):Int)=0 then none else P.L (n:Int).toNat) with|some (.node N)=>N|some (.bytes _ _)=>Zz|none=>_),(if (P.C.put c x).get (n:Int)=0 then 1 else match (if (P.C.put c x).get (((n:Int).toNat:Nat):Int)=0 then none else P.L (n:Int).toNat) with|some (.node _)=>(0:Int)|some (.bytes _ _)=>1|none=>_))=_;rw[AJ,m];by_cases e:n=c
  ·subst e;rw[AA rfl,AB d,AB d,AB d,AB h0,AB h0,AB h0];rfl
  ·rw[AB e];rfl
 ·have h1:P.C.get b=0:=by unfold Ct.get;rw[AB f]
  have h2:(P.C.put c x).get b=0:=by unfold Ct.get;rw[P.C.Zg,AB f]
  rw[O6 h1];exact O6 (P:=⟨P.S,P.C.put c x,P.L⟩) h2
theorem q9q {c:Nat}{x:Int}(f:c<P.C.n)(h0:P.C.get (c:Int)≠0){a:Nat}(h:(P.C.put c x).fresh (a:Int)=true):P.C.fresh (a:Int)=true:=by
 have d:a<P.C.n:=by
  have:=q2s h;obtain⟨n,e,hn⟩:=Uh this;rw[P.C.Zg] at hn;omega
 unfold Ct.fresh at h ⊢;rw[P8 P.C a d] at h;by_cases e:a=c
 ·subst e;rw[AA rfl] at h;rw[AB h0];split at h
  ·cases h
  ·exact h
 ·rw[AB e] at h;exact h
theorem qnx {S0:Sp}{C0:Ct}(h:Sound D P S0 C0)(c:Nat)(x:Int):Sound D ⟨P.S,P.C.put c x,P.L⟩ S0 C0:=by
 have d:(P.C.put c x).n=P.C.n:=P.C.Zg c x;have H:=h.holds;exact⟨h.free,h.n.trans d.symm,h.G7,⟨H.may,H.gen,H.sec.trans (by rw[d]),H.c,H.res,H.n.trans d.symm,H.slot,H.other,λi hi=>by
  have:=H.area i (by rw[d] at hi;exact hi);show D.Xl (Qx (P.C.put c x).n P.S.gen+i)=Zk (U5 (P.C.put c x).n P.S.gen i) (C0.body (i:Int));rw[d];exact this⟩⟩
theorem q9r {S0:Sp}{C0:Ct}(h:Wx D P S0 C0){c:Nat}{x:Int}(e:P.C.first<=c)(d:0<=x/\x<=65535):Wx D ⟨P.S,P.C.put c x,P.L⟩ S0 C0:=
 ⟨⟨Ct.Bq h.ok.c c x d.1 d.2,Ct.Ak h.ok.res x e,h.ok.may,by show P.S.Qa=((P.C.put c x).n:Int);rw[P.C.Zg];exact h.ok.sec,h.ok.gen,h.ok.fine⟩,qnx h.sound c x,h.kinds⟩
theorem qy4 {c:Nat}(h0:P.C.get (c:Int)≠0)(h1:P.C.get (c:Int)≠65535):P.C.Y0 (c:Int)=0/\P.C.ref (c:Int)=P.C.put c (P.C.get (c:Int)+1):=by
 have e:P.C.Y0 (c:Int)=0:=by unfold Ct.Y0;rw[AB h0,AB h1]
 refine⟨e,?_⟩;unfold Ct.ref;rw[AA e,AJ]
theorem q90 {c:Nat}(h0:P.C.get (c:Int)≠0):P.C.Jp (c:Int)=0/\P.C.Qp (c:Int)=P.C.put c (P.C.get (c:Int)-1):=by
 refine⟨by unfold Ct.Jp;rw[AB h0],?_⟩;unfold Ct.Qp;rw[AB h0,AJ]
theorem qf7 {P':Pl}{O:LI}(h:∀b,P'.store D b=P.store D b)(d:∀b,P'.C.get b=0↔P.C.get b=0)(b:Int):P'.hide D O b=P.hide D O b:=by
 unfold Pl.hide;rw[q3e (h b) (d b)]
theorem q9s {C:Ct}{c:Nat}{x:Int}(f:c<C.n)(h0:C.get (c:Int)≠0)(g:x≠0)(b:Int):(C.put c x).get b=0↔C.get b=0:=by
 by_cases d:0<=b/\b<(C.n:Int)
 ·obtain⟨n,rfl⟩:∃n:Nat,b=(n:Int):=⟨b.toNat,by omega⟩;rw[P8 C n (by omega)];by_cases e:n=c
  ·subst e;rw[AA rfl];exact⟨λh=>absurd h g,λh=>absurd h h0⟩
  ·rw[AB e]
 ·unfold Ct.get;rw[C.Zg,AB d,AB d]
theorem qdt {R R':Int->Nd × Int}(h:∀b,R' b=R b){a:Int}(L:Loc R a):Loc R' a:=by
 have:R'=R:=funext h;rw[this];exact L
theorem Keep.ref (K:Keep D S0 C0 O H P){c:Nat}(h0:P.C.get (c:Int)≠0)(h1:P.C.get (c:Int)≠65535)(ho:(c:Int)∉O) :
  P.C.Y0 (c:Int)=0/\Keep D S0 C0 O ((c:Int)::H) ⟨P.S,P.C.ref (c:Int),P.L⟩/\∀l,Move l D O O P ⟨P.S,P.C.ref (c:Int),P.L⟩ 0:=by
 obtain⟨I,e⟩:=qy4 h0 h1;obtain⟨c0,p⟩:=K.first h0
 have u:=Ct.Zv K.c (c:Int);have F:=(Ct.Vt K.Zl.ok.res h0).2.2;rw[AJ] at F;rw[e];have G:∀b,Pl.store ⟨P.S,P.C.put c (P.C.get (c:Int)+1),P.L⟩ D b=P.store D b:=qf6 p h0 (by omega);have B:∀b,Pl.hide ⟨P.S,P.C.put c (P.C.get (c:Int)+1),P.L⟩ D O b=P.hide D O b:=qf7 G (q9s p h0 (by omega));have g:∀b:Nat,b<P.C.n->(P.C.put c (P.C.get (c:Int)+1)).get (b:Int)=if b=c then P.C.get (c:Int)+1 else P.C.get (b:Int):=λb u=>P8 P.C b u
 refine⟨I,⟨q9r K.Zl F (by omega),λa f=>K.laid a (q9q p h0 f),?_,λx m=>?_,λa f y A=>?_⟩,λl=>?_⟩
 ·show J3 (P.C.put c (P.C.get (c:Int)+1)).n _ _ _;rw[P.C.Zg];refine (K.Gi.ref (c:=c) (cnt':=Pl.cnt ⟨P.S,P.C.put c (P.C.get (c:Int)+1),P.L⟩) ?_ ?_ ?_).same (λ_ _=>rfl) (λb _ _=>by rw[B])
  ·unfold Pl.cnt;omega
  ·unfold Pl.cnt;show ((P.C.put c (P.C.get (c:Int)+1)).get (c:Int)).toNat=_;rw[g c p,AA rfl];omega
  ·intro b u d;unfold Pl.cnt;show ((P.C.put c (P.C.get (c:Int)+1)).get (b:Int)).toNat=_;rw[g b u,AB d]
 ·obtain⟨M,Q⟩:=K.opened x m;obtain⟨n,rfl,hn⟩:=Uh (C:=P.C) (a:=x) (by omega);have d:n≠c:=λe=>ho (e▸m)
  refine⟨AO _ M,?_⟩;show (P.C.put c (P.C.get (c:Int)+1)).get (n:Int)=1;rw[g n hn,AB d];exact Q
 ·have f:a<P.C.n:=by
   have:a<(P.C.put c (P.C.get (c:Int)+1)).n:=f;rw[P.C.Zg] at this;exact this
  refine qdt B (K.loc a f ?_ A);intro E;refine y ?_;show (P.C.put c (P.C.get (c:Int)+1)).get (a:Int)=0;rw[g a f,AB (λ(J:a=c)=>h0 (by rw[<-J];exact E))];exact E
 ·refine⟨λx m=>B x,λx m _=>⟨?_,G x,Iff.rfl⟩,qdr h0,P.C.Zg _ _⟩;obtain⟨n,rfl,hn⟩:=Uh m;show _<=(P.C.put c (P.C.get (c:Int)+1)).get (n:Int);rw[g n hn];split
  ·rename_i e;subst e;omega
  ·exact Int.le_refl _
theorem Keep.Qp (K:Keep D S0 C0 O H P){c:Nat}{H0:LI}(h1:2<=P.C.get (c:Int))(hH:∀a:Nat,0<a->a<P.C.n->H.count (a:Int)=((c:Int)::H0).count (a:Int)) :
  P.C.Jp (c:Int)=0/\Keep D S0 C0 O H0 ⟨P.S,P.C.Qp (c:Int),P.L⟩/\∀l,(P.Qd D (c:Int)).lvl<=l->Move l D O O P ⟨P.S,P.C.Qp (c:Int),P.L⟩ 0:=by
 have h0:P.C.get (c:Int)≠0:=by omega
 obtain⟨J,e⟩:=q90 h0;obtain⟨c0,m⟩:=K.first h0
 have p:=Ct.Zv K.c (c:Int);have F:=(Ct.Vt K.Zl.ok.res h0).2.2;rw[AJ] at F;rw[e];have G:∀b,Pl.store ⟨P.S,P.C.put c (P.C.get (c:Int)-1),P.L⟩ D b=P.store D b:=qf6 m h0 (by omega);have B:∀b,Pl.hide ⟨P.S,P.C.put c (P.C.get (c:Int)-1),P.L⟩ D O b=P.hide D O b:=qf7 G (q9s m h0 (by omega));have g:∀b:Nat,b<P.C.n->(P.C.put c (P.C.get (c:Int)-1)).get (b:Int)=if b=c then P.C.get (c:Int)-1 else P.C.get (b:Int):=λb p=>P8 P.C b p
 refine⟨J,⟨q9r K.Zl F (by omega),λa f=>K.laid a (q9q m h0 f),?_,λx u=>?_,λa f y A=>?_⟩,λl Y=>?_⟩
 ·show J3 (P.C.put c (P.C.get (c:Int)-1)).n _ _ _;rw[P.C.Zg];refine (K.Gi.Qp (c:=c) (H0:=H0) (cnt':=Pl.cnt ⟨P.S,P.C.put c (P.C.get (c:Int)-1),P.L⟩) hH ?_ ?_ ?_).same (λ_ _=>rfl) (λb _ _=>by rw[B])
  ·unfold Pl.cnt;omega
  ·unfold Pl.cnt;show ((P.C.put c (P.C.get (c:Int)-1)).get (c:Int)).toNat+1=_;rw[g c m,AA rfl];omega
  ·intro b p d;unfold Pl.cnt;show ((P.C.put c (P.C.get (c:Int)-1)).get (b:Int)).toNat=_;rw[g b p,AB d]
 ·obtain⟨T,U⟩:=K.opened x u;obtain⟨n,rfl,hn⟩:=Uh (C:=P.C) (a:=x) (by omega);have d:n≠c:=λe=>by subst e;omega
  obtain⟨W,_⟩:=K.first (c:=n) (by omega)
  refine⟨?_,?_⟩
  ·have Q:=hH n W hn;have X:=List.count_pos_iff.2 T;rw[List.count_cons,AB (by intro I;have:=eq_of_beq I;omega)] at Q;exact List.count_pos_iff.1 (by omega)
  ·show (P.C.put c (P.C.get (c:Int)-1)).get (n:Int)=1;rw[g n hn,AB d];exact U
 ·have f:a<P.C.n:=by
   have:a<(P.C.put c (P.C.get (c:Int)-1)).n:=f;rw[P.C.Zg] at this;exact this
  refine qdt B (K.loc a f ?_ A);intro E;refine y ?_;show (P.C.put c (P.C.get (c:Int)-1)).get (a:Int)=0;rw[g a f,AB (λ(M:a=c)=>h0 (by rw[<-M];exact E))];exact E
 ·refine⟨λx u=>B x,λx u R=>⟨?_,G x,Iff.rfl⟩,qdr h0,P.C.Zg _ _⟩;obtain⟨n,rfl,hn⟩:=Uh u;have d:n≠c:=λe=>by subst e;omega
  show _<=(P.C.put c (P.C.get (c:Int)-1)).get (n:Int);rw[g n hn,AB d];exact Int.le_refl _
theorem q9t {c:Nat}{x y:Int}(f:y≠(c:Int)):(P.C.put c x).get y=P.C.get y/\Pl.store ⟨P.S,P.C.put c x,P.L⟩ D y=P.store D y:=by
 have d:(P.C.put c x).get y=P.C.get y:=by
  by_cases e:0<=y/\y<(P.C.n:Int)
  ·obtain⟨n,rfl⟩:∃n:Nat,y=(n:Int):=⟨y.toNat,by omega⟩;rw[P8 P.C n (by omega),AB (by omega)]
  ·unfold Ct.get;rw[P.C.Zg,AB e,AB e]
 refine⟨d,?_⟩;by_cases h0:P.C.get y=0
 ·rw[O6 h0];exact O6 (P:=⟨P.S,P.C.put c x,P.L⟩) (by rw[<-h0];exact d)
 ·obtain⟨n,rfl,hn⟩:=Uh h0;unfold Pl.store Pl.Qd Pl.Qe Pl.live;show ((if (P.C.put c x).get (n:Int)=0 then Zz else match (if (P.C.put c x).get (((n:Int).toNat:Nat):Int)=0 then none else P.L (n:Int).toNat) with|some (.node N)=>N|some (.bytes _ _)=>Zz|none=>_),(if (P.C.put c x).get (n:Int)=0 then 1 else match (if (P.C.put c x).get (((n:Int).toNat:Nat):Int)=0 then none else P.L (n:Int).toNat) with|some (.node _)=>(0:Int)|some (.bytes _ _)=>1|none=>_))=_;rw[AJ,d];rfl
def less1 (O:LI)(c:Int):LI:=O.filter λx=>!(x==c)
theorem Fb {c x:Int}:x∈less1 O c↔x∈O/\x≠c:=by
 unfold less1;rw[List.mem_filter];simp
theorem Keep.drop (K:Keep D S0 C0 O H P){c:Nat}{H0:LI}(ho:(c:Int)∈O)(hH:∀a:Nat,0<a->a<P.C.n->H.count (a:Int)=((c:Int)::H0).count (a:Int)) :
  P.C.Jp (c:Int)=0/\Keep D S0 C0 (less1 O (c:Int)) H0 ⟨P.S,P.C.Qp (c:Int),P.L⟩/\∀l,(P.Qd D (c:Int)).lvl<=l->Move l D O (less1 O (c:Int)) P ⟨P.S,P.C.Qp (c:Int),P.L⟩ 0:=by
 obtain⟨_,h1⟩:=K.opened _ ho;have h0:P.C.get (c:Int)≠0:=by omega
 obtain⟨R,e⟩:=q90 h0;obtain⟨c0,E⟩:=K.first h0
 have J:=(Ct.Vt K.Zl.ok.res h0).2.2;rw[AJ] at J;rw[e,h1];have g:∀b:Nat,b<P.C.n->(P.C.put c (1-1)).get (b:Int)=if b=c then 0 else P.C.get (b:Int):=λb p=>P8 P.C b p
 have M:∀b,b≠(c:Int)->Pl.store ⟨P.S,P.C.put c (1-1),P.L⟩ D b=P.store D b:=λb d=>by
  by_cases p:0<=b/\b<(P.C.n:Int)
  ·obtain⟨n,rfl⟩:∃n:Nat,b=(n:Int):=⟨b.toNat,by omega⟩;have g:=g n (by omega);rw[AB (by omega)] at g;unfold Pl.store Pl.Qd Pl.Qe Pl.live;show ((if (P.C.put c (1-1)).get (n:Int)=0 then Zz else match (if (P.C.put c (1-1)).get (((n:Int).toNat:Nat):Int)=0 then none else P.L (n:Int).toNat) with|some (.node N)=>N|some (.bytes _ _)=>Zz|none=>_),(if (P.C.put c (1-1)).get (n:Int)=0 then 1 else match (if (P.C.put c (1-1)).get (((n:Int).toNat:Nat):Int)=0 then none else P.L (n:Int).toNat) with|some (.node _)=>(0:Int)|some (.bytes _ _)=>1|none=>_))=_;rw[AJ,g];rfl
  ·have h1:P.C.get b=0:=by unfold Ct.get;rw[AB p]
   have h2:(P.C.put c (1-1)).get b=0:=by unfold Ct.get;rw[P.C.Zg,AB p]
   rw[O6 h1];exact O6 (P:=⟨P.S,P.C.put c (1-1),P.L⟩) h2
 have y:(P.C.put c (1-1)).get (c:Int)=0:=by rw[g c E,AA rfl]
 have G:∀b,b≠(c:Int)->(P.C.put c (1-1)).get b=P.C.get b:=λb d=>(q9t (D:=D) d).1
 have I:∀b,Pl.hide ⟨P.S,P.C.put c (1-1),P.L⟩ D (less1 O (c:Int)) b=P.hide D O b:=λb=>by
  by_cases e:b=(c:Int)
  ·subst e;rw[q1z ho,O8 (λh=>(Fb.1 h).2 rfl)];exact q2q (P:=⟨P.S,P.C.put c (1-1),P.L⟩) y
  ·unfold Pl.hide;rw[q3e (P:=P) (P':=⟨P.S,P.C.put c (1-1),P.L⟩) (M b e) (by rw[<-G b e])];by_cases A:b∈O
   ·rw[AA A,AA (Fb.2 ⟨A,e⟩)]
   ·rw[AB A,AB (λh=>A (Fb.1 h).1)]
 refine⟨R,⟨q9r K.Zl J (by omega),λa m=>K.laid a (q9q E h0 m),?_,λx u=>?_,λa m f F=>?_⟩,λl hl=>?_⟩
 ·show J3 (P.C.put c (1-1)).n _ _ _;rw[P.C.Zg];have B:=K.Gi.last (c:=c) (H0:=H0) (cnt':=Pl.cnt ⟨P.S,P.C.put c (1-1),P.L⟩) c0 E hH (by unfold Pl.cnt;rw[h1];rfl) (by
   unfold Pl.cnt;show ((P.C.put c (1-1)).get (c:Int)).toNat=_;rw[y];rfl) (λb p d=>by
   unfold Pl.cnt;show ((P.C.put c (1-1)).get (b:Int)).toNat=_;rw[g b p,AB d])
  have B:J3 P.C.n (Pl.cnt ⟨P.S,P.C.put c (1-1),P.L⟩) (λb=>(P.hide D O (b:Int)).1.named) ((P.hide D O (c:Int)).1.named++H0):=B;rw[q1z ho] at B;exact B.same (λ_ _=>rfl) (λb _ _=>by rw[I])
 ·obtain⟨u,d⟩:=Fb.1 u;obtain⟨W,X⟩:=K.opened x u;obtain⟨n,rfl,hn⟩:=Uh (C:=P.C) (a:=x) (by omega);obtain⟨Y,_⟩:=K.first (c:=n) (by omega)
  refine⟨?_,?_⟩
  ·have T:=hH n Y hn;have Z:=List.count_pos_iff.2 W;rw[List.count_cons,AB (by intro Q;have:=eq_of_beq Q;omega)] at T;exact List.count_pos_iff.1 (by omega)
  ·show (P.C.put c (1-1)).get (n:Int)=1;rw[g n hn,AB (by omega)];exact X
 ·have m:a<P.C.n:=by
   have:a<(P.C.put c (1-1)).n:=m;rw[P.C.Zg] at this;exact this
  have f:(P.C.put c (1-1)).get (a:Int)≠0:=f;rw[g a m] at f;have d:a≠c:=λe=>by rw[AA e] at f;exact f rfl
  rw[AB d] at f;exact qdt I (K.loc a m f λh=>F (Fb.2 ⟨h,by omega⟩))
 ·refine⟨λx u=>I x,λx u U=>?_,qdr h0,P.C.Zg _ _⟩;obtain⟨n,rfl,hn⟩:=Uh u;have d:n≠c:=λe=>by subst e;omega
  refine⟨?_,M _ (by omega),⟨λh=>Fb.2 ⟨h,by omega⟩,λh=>(Fb.1 h).1⟩⟩;show _<=(P.C.put c (1-1)).get (n:Int);rw[g n hn,AB d];exact Int.le_refl _
theorem Keep.perm (K:Keep D S0 C0 O H P){H':LI}(h:∀a:Nat,0<a->a<P.C.n->H'.count (a:Int)=H.count (a:Int)):Keep D S0 C0 O H' P:=
 ⟨K.Zl,K.laid,K.Gi.perm h,λx d=>by
  obtain⟨e,f⟩:=K.opened x d;obtain⟨n,rfl,hn⟩:=Uh (C:=P.C) (a:=x) (by omega);obtain⟨g,_⟩:=K.first (c:=n) (by omega)
  have m:=h n g hn;have p:=List.count_pos_iff.2 e;exact⟨List.count_pos_iff.1 (by omega),f⟩,K.loc⟩
end
