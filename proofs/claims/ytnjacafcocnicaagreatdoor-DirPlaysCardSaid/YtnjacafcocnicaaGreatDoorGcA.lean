/- A pool some of whose nodes are open: their kids are held by who changes them -/
import Derived.Test.YtnjacafcocnicaaGreatDoorDv27
namespace Go.Proofs.YtnjacafcocnicaaGreatDoor
open Go Go.RowKit Go.Proofs
def Yk:Nd:=⟨-1,[],[]⟩
def Pl.tell (P:Pl)(D:DM)(a:Int):Nd × Int:=if P.C.get a≠0/\P.Qh D a≠0 then (Yk,0) else P.store D a
def Pl.hide (P:Pl)(D:DM)(O:LI):Int->Nd × Int:=λa=>if a∈O then (Je,1) else P.tell D a
def Nd.enough (N:Nd):Prop:=(if N.lvl=0 then 3 else 6)<=N.items.length+N.kids.length
def Dat (R:Int->Nd × Int)(x:Qc):Prop:=∀c,Vz x=some c->R c=(Yk,0)
structure He (R:Int->Nd × Int)(a:Int):Prop where
 err:(R a).2=0
 may:(R a).1.may=true
 data:∀x∈(R a).1.items,Dat R x
 kids:∀x∈(R a).1.kids,(R x.a).2=0/\(R x.a).1.lvl+1=(R a).1.lvl/\(R x.a).1.least=x.k/\(R x.a).1.enough
def Loc (R:Int->Nd × Int)(a:Int):Prop:=R a=(Yk,0)\/He R a
structure Keep (D:DM)(S0:Sp)(C0:Ct)(O H:LI)(P:Pl):Prop where
 Zo:Uh D P S0 C0
 laid:∀a:Nat,P.C.fresh (a:Int)=true->∃b,P.L a=some b
 Af:Xb P.C.n P.cnt (λb=>(P.hide D O (b:Int)).1.named) H
 opened:∀x∈O,x∈H/\P.C.get x=1
 loc:∀a:Nat,a<P.C.n->P.C.get (a:Int)≠0->(a:Int)∉O->Loc (P.hide D O) (a:Int)
def Ext (R R':Int->Nd × Int):Prop:=∀a,(R a).2=0->R' a=R a
theorem Ext.refl (R:Int->Nd × Int):Ext R R:=λ_ _=>rfl
theorem Ext.trans {R R' R'':Int->Nd × Int}(h:Ext R R')(h2:Ext R' R''):Ext R R'':=λa e=>by
 have h1:=h a e;rw[h2 a (by rw[h1];exact e),h1]
theorem Dat.ext {R R':Int->Nd × Int}{x:Qc}(h:Dat R x)(e:Ext R R'):Dat R' x:=λc f=>by
 have h1:=h c f;rw[e c (by rw[h1])];exact h1
theorem q7p {R R':Int->Nd × Int}{a:Int}(e:Ext R R')(h:R a=(Yk,0)):R' a=(Yk,0):=(e a (by rw[h])).trans h
theorem qy6 {c:Nat}(p:c<65536):∃x:Qc,Vz x=some (c:Int):=by
 refine⟨⟨⟨0,3,0⟩,[1,UInt8.ofNat (c / 256),UInt8.ofNat (c % 256)]⟩,?_⟩;unfold Vz;have e:Vd [1,UInt8.ofNat (c / 256),UInt8.ofNat (c % 256)] 0=1:=rfl;have f:Vd [1,UInt8.ofNat (c / 256),UInt8.ofNat (c % 256)] 1=c / 256:=by
  show (UInt8.ofNat (c / 256)).toNat=_;rw[UInt8.toNat_ofNat'];omega
 have m:Vd [1,UInt8.ofNat (c / 256),UInt8.ofNat (c % 256)] 2=c % 256:=by
  show (UInt8.ofNat (c % 256)).toNat=_;rw[UInt8.toNat_ofNat'];omega
 rw[AA ⟨rfl,rfl,e⟩,f,m];congr 1
 omega
theorem qy7 {R R':Int->Nd × Int}{c:Nat}(m:c<65536)(h:∀x,Dat R x->Dat R' x)(hd:R (c:Int)=(Yk,0)):R' (c:Int)=(Yk,0):=by
 obtain⟨x,f⟩:=qy6 m;exact h x (λd e=>by rw[f] at e;rw[<-OI e];exact hd) _ f
theorem He.ext {R R':Int->Nd × Int}{a:Int}(h:He R a)(e:Ext R R'):He R' a:=by
 have m:=e a h.err;refine⟨by rw[m];exact h.err,by rw[m];exact h.may,λx f=>?_,λx f=>?_⟩
 ·rw[m] at f;exact (h.data x f).ext e
 ·rw[m] at f ⊢;obtain⟨p,u,y,A⟩:=h.kids x f;have q:=e x.a p;rw[q];exact⟨p,u,y,A⟩
theorem Loc.ext {R R':Int->Nd × Int}{a:Int}(h:Loc R a)(e:Ext R R'):Loc R' a:=by
 rcases h with h|h
 ·exact .inl (by rw[e a (by rw[h])];exact h)
 ·exact .inr (h.ext e)
theorem Loc.node {R:Int->Nd × Int}{a:Int}(h:Loc R a)(hl:0<=(R a).1.lvl):He R a:=by
 rcases h with h|h
 ·rw[h] at hl;exact absurd hl (by decide)
 ·exact h
def Dc (l:Int)(D:DM)(O e:LI)(P P':Pl):Prop:=∀x,P.C.get x≠0->l<(P.Qd D x).lvl->P.C.get x<=P'.C.get x/\P'.store D x=P.store D x/\(x∈O↔x∈e)
structure Move (l:Int)(D:DM)(O O':LI)(P P':Pl)(k:Nat):Prop where
 ext:Ext (P.hide D O) (P'.hide D O')
 above:Dc l D O O' P P'
 free:P.C.free<=P'.C.free+k
 n:P'.C.n=P.C.n
theorem Dc.trans {l:Int}{D:DM}{O O' O'':LI}{P P' P'':Pl}(hb:∀x,0<=P.C.get x)(h:Dc l D O O' P P')(h2:Dc l D O' O'' P' P''):Dc l D O O'' P P'':=λx p f=>by
 obtain⟨u,m,q⟩:=h x p f;have:=hb x;have e:P'.Qd D x=P.Qd D x:=congrArg Prod.fst m;obtain⟨j1,j2,j3⟩:=h2 x (by omega) (by rw[e];exact f);exact⟨by omega,j2.trans m,q.trans j3⟩
theorem Move.refl (l:Int)(D:DM)(O:LI)(P:Pl):Move l D O O P P 0:=⟨Ext.refl _,λ_ _ _=>⟨Int.le_refl _,rfl,Iff.rfl⟩,AE _,rfl⟩
theorem Move.trans {l:Int}{D:DM}{O O' O'':LI}{P P' P'':Pl}{k k':Nat}(hb:∀x,0<=P.C.get x)(h:Move l D O O' P P' k)(h2:Move l D O' O'' P' P'' k'):Move l D O O'' P P'' (k+k'):=
 ⟨h.ext.trans h2.ext,h.above.trans hb h2.above,by have:=h.free;have:=h2.free;omega,h2.n.trans h.n⟩
theorem Move.more {l:Int}{D:DM}{O O':LI}{P P':Pl}{k k':Nat}(h:Move l D O O' P P' k)(hk:k<=k'):Move l D O O' P P' k':=⟨h.ext,h.above,by have:=h.free;omega,h.n⟩
section
variable {D:DM}{S0:Sp}{C0:Ct}{O H:LI}{P:Pl}
theorem qfu {C:Ct}{c:Nat}{x:Int}(h0:C.get (c:Int)≠0):C.free<=(C.put c x).free:=by
 have hn:nm C.now c≠0:=λe=>h0 (by unfold Ct.get;split;exact e;rfl)
 unfold Ct.free Ct.Vw;rw[C.Zk];refine List.countP_mono_left λj _ f=>?_
 have q:j≠c:=λe=>by
  subst e;unfold Ct.may Ct.Aw at f;simp at f;exact hn f.2.1
 unfold Ct.may Ct.Aw at f ⊢;have m:nm (C.put c x).now j=nm C.now j:=q4p C.now c j x (λe=>q e.symm);have p:(C.put c x).first=C.first:=by unfold Ct.first;rw[C.Zk]
 rw[m,p];exact f
theorem q17 {x:Int}(h:P.C.get x=0):P.store D x=(Je,1):=by
 unfold Pl.store Pl.Qd Pl.Qh;rw[AA h,AA h]
theorem q2q {x:Int}(h:P.C.get x=0):P.tell D x=(Je,1):=by
 unfold Pl.tell;rw[AB (λe=>e.1 h)];exact q17 h
theorem Iy {x:Int}(h:P.Qh D x=0):P.tell D x=P.store D x:=AB λe=>e.2 h
theorem q7q {x:Int}(h0:P.C.get x≠0)(h:P.Qh D x≠0):P.tell D x=(Yk,0):=AA ⟨h0,h⟩
theorem qc9 {x:Int}(h:(P.tell D x).2=0):P.C.get x≠0:=λe=>by
 rw[q2q e] at h;cases h
theorem qfv {x:Int}(h:(P.tell D x).2=0)(f:0<=(P.tell D x).1.lvl):P.Qh D x=0:=by
 by_cases e:P.Qh D x=0
 ·exact e
 ·rw[q7q (qc9 h) e] at f;exact absurd f (by decide)
theorem qa4 (h:Uh D P S0 C0){a:Int}(f:P.Qh D a=0):(P.Qd D a).may=true:=by
 have h0:P.C.get a≠0:=λe=>by
  unfold Pl.Qh at f;rw[AA e] at f
  cases f
 obtain⟨n,rfl,hn⟩:=G5 h0
 cases m:P.live n with
 |some b=>
  have u:=q9u D h0 m;have y:=h.good n b (q5j m).2
  cases b with
  |node N=>
   have e:P.Qd D (n:Int)=N:=by
    unfold Pl.Qd;rw[AB h0,AJ,m]
   rw[e];exact q38 y
  |bytes k l=>
   have:bkE (Bk.bytes k l)=1:=rfl;rw[this] at u;omega
 |none=>
  unfold Pl.Qh at f;rw[AB h0,AJ,m] at f;unfold Pl.Qd;rw[AB h0,AJ,m];dsimp only at f ⊢;by_cases p:D.Xp (n:Int)=0
  ·rw[AA p] at f ⊢;unfold J4 at f;unfold Xn
   cases q:Zb (D.Xv (n:Int)) (n:Int) with
   |none=>rw[q] at f;exact absurd f (by decide)
   |some N=>exact qh7 q
  ·rw[AB p] at f;exact absurd f p
theorem qfw (f:Uh D P S0 C0){x:Int}(h:P.tell D x=(Yk,0)):P.C.get x≠0/\P.Qh D x≠0:=by
 have h0:P.C.get x≠0:=qc9 (D:=D) (by rw[h]);refine⟨h0,λe=>?_⟩;have hm:=qa4 f e;rw[Iy e] at h;have:P.Qd D x=Yk:=congrArg Prod.fst h;rw[this] at hm;exact absurd hm (by decide)
theorem q61 {P':Pl}{x:Int}(h:P'.store D x=P.store D x)(m:P'.C.get x=0↔P.C.get x=0):P'.tell D x=P.tell D x:=by
 have p:P'.Qh D x=P.Qh D x:=congrArg Prod.snd h;unfold Pl.tell;rw[h,p];by_cases e:P.C.get x=0
 ·rw[AB (λq=>q.1 (m.2 e)),AB (λq=>q.1 e)]
 ·by_cases f:P.Qh D x=0
  ·rw[AB (λq=>q.2 f),AB (λq=>q.2 f)]
  ·rw[AA ⟨λq=>e (m.1 q),f⟩,AA ⟨e,f⟩]
theorem Td {x:Int}(h:x∈O):P.hide D O x=(Je,1):=AA h
theorem q24 {x:Int}(h:x∉O):P.hide D O x=P.tell D x:=AB h
theorem q3g {x:Int}(h:(P.hide D O x).2=0):x∉O/\∃n:Nat,x=(n:Int)/\n<P.C.n/\P.C.get (n:Int)≠0:=by
 by_cases e:x∈O
 ·rw[Td e] at h;cases h
 ·rw[q24 e] at h;have h0:=qc9 h;obtain⟨n,rfl,hn⟩:=G5 h0;exact⟨e,n,rfl,hn,h0⟩
theorem que {x:Int}(h:(P.hide D O x).2=0)(f:0<=(P.hide D O x).1.lvl):P.hide D O x=P.store D x/\P.Qh D x=0:=by
 obtain⟨m,_⟩:=q3g h;rw[q24 m] at h f ⊢;have e:=qfv h f;exact⟨Iy e,e⟩
theorem q3z {l:Nat}{a:Int}{its:List Qc}(h:Qs (P.hide D O) l a its):P.hide D O a=P.store D a/\P.Qh D a=0:=
 que (Fz h).2.2 (by rw[(Fz h).2.1];exact Int.natCast_nonneg l)
theorem quf {R:Int->Nd × Int}{a:Int}(h:He R a){c:Int}(f:c∈(R a).1.named):(R c).2=0:=by
 unfold Nd.named at f;rcases List.mem_append.1 f with f|f
 ·obtain⟨x,m,rfl⟩:=List.mem_map.1 f;exact (h.kids x m).1
 ·obtain⟨x,m,e⟩:=List.mem_filterMap.1 f;rw[h.data x m c e]
theorem q8z {R:Int->Nd × Int}{a:Int}(h:R a=(Yk,0)):(R a).1.named=[]:=by rw[h];rfl
theorem qy8 {R:Int->Nd × Int}{a:Int}(h:Loc R a){c:Int}(e:c∈(R a).1.named):(R c).2=0:=by
 rcases h with h|h
 ·rw[q8z h] at e;cases e
 ·exact quf h e
theorem Keep.named (K:Keep D S0 C0 O H P){b:Nat}(hb:b<P.C.n){a:Nat}(hm:(a:Int)∈(P.hide D O (b:Int)).1.named):P.C.get (b:Int)≠0/\(b:Int)∉O/\(P.hide D O (a:Int)).2=0:=by
 have h0:P.C.get (b:Int)≠0/\(b:Int)∉O:=by
  refine⟨λe=>?_,λe=>?_⟩
  ·by_cases f:(b:Int)∈O
   ·rw[Td f] at hm;cases hm
   ·rw[q24 f,q2q e] at hm;cases hm
  ·rw[Td e] at hm;cases hm
 exact⟨h0.1,h0.2,qy8 (K.loc b hb h0.1 h0.2) hm⟩
theorem Keep.c (K:Keep D S0 C0 O H P):P.C.ok:=K.Zo.ok.c
theorem Keep.first (K:Keep D S0 C0 O H P){c:Nat}(h0:P.C.get (c:Int)≠0):0<c/\c<P.C.n:=by
 obtain⟨h1,h2,e⟩:=Ct.Vg K.Zo.ok.res h0;have f:P.C.first=2+2*Qg P.C.n:=rfl
 rw[AJ] at e;omega
theorem Keep.once (K:Keep D S0 C0 O H P){c:Nat}(h1:P.C.get (c:Int)=1)(hc:(c:Int)∈H):H.count (c:Int)=1/\∀b:Nat,b<P.C.n->(c:Int)∉(P.hide D O (b:Int)).1.named:=by
 obtain⟨c0,q⟩:=K.first (c:=c) (by omega)
 have h:=K.Af.eq c c0 q;have p:P.cnt c=1:=by unfold Pl.cnt;rw[h1];rfl
 have B:=List.count_pos_iff.2 hc;refine⟨by omega,λb m hm=>?_⟩;obtain⟨y,_,_⟩:=K.named m hm;have u:=qft (f:=λb=>if 1<=P.cnt b then ((P.hide D O (b:Int)).1.named).count (c:Int) else 0) m;have A:=List.count_pos_iff.2 hm;rw[AA ((qjr K.c).2 y)] at u;have e:refs (λb=>(P.hide D O (b:Int)).1.named) P.C.n P.cnt c=sumTo P.C.n λb=>if 1<=P.cnt b then ((P.hide D O (b:Int)).1.named).count (c:Int) else 0:=rfl
 omega
theorem Keep.told (K:Keep D S0 C0 O H P){x:Int}(hx:P.C.get x≠0)(ho:x∉O):Loc (P.hide D O) x:=by
 obtain⟨n,rfl,hn⟩:=G5 hx;exact K.loc n hn hx ho
theorem q1d {c x:Int}(h:x≠c):P.hide D (c::O) x=P.hide D O x:=by
 unfold Pl.hide;have:x∈c::O↔x∈O:=by simp[h]
 by_cases e:x∈O
 ·rw[AA e,AA (this.2 e)]
 ·rw[AB e,AB λh=>e (this.1 h)]
theorem Keep.Qbm (K:Keep D S0 C0 O H P){x:Int}(he:(P.hide D O x).2=0)(hl:0<=(P.hide D O x).1.lvl):He (P.hide D O) x:=by
 obtain⟨e,n,rfl,hn,h0⟩:=q3g he;exact (K.told h0 e).node hl
theorem Keep.tree (K:Keep D S0 C0 O H P){l:Nat}{a:Int}{its:List Qc}(h:Qs (P.hide D O) l a its):He (P.hide D O) a:=
 K.Qbm (Fz h).2.2 (by rw[(Fz h).2.1];exact Int.natCast_nonneg l)
theorem Keep.dat (K:Keep D S0 C0 O H P):∀(l:Nat) (a:Int) (its:List Qc),Qs (P.hide D O) l a its->∀x∈its,Dat (P.hide D O) x
 |0,a,its,h,x,f=>by
  have L:=K.tree (l:=0) h;refine L.data x ?_;rw[h.1];exact f
 |l+1,a,its,h,x,f=>by
  obtain⟨kids,parts,e,A,B,rfl,y⟩:=h;obtain⟨p,u,f⟩:=List.mem_flatten.1 f;obtain⟨j,q,rfl⟩:=List.getElem_of_mem u;have m:=(y j (by omega)).1;rw[AG,AC q] at m;exact K.dat l _ _ m x f
theorem qne {c:Nat}{x:Qc}(m:Dat (P.hide D O) x)(f:Vz x≠some (c:Int)):Dat (P.hide D ((c:Int)::O)) x:=λd hd=>by
 rw[q1d (λe=>f (by rw[<-e];exact hd))];exact m d hd
theorem Keep.open_ (K:Keep D S0 C0 O H P){c:Nat}(h1:P.C.get (c:Int)=1)(hc:(c:Int)∈H)(_ho:(c:Int)∉O):Keep D S0 C0 ((c:Int)::O) ((P.hide D O (c:Int)).1.named++H) P:=by
 obtain⟨c0,F⟩:=K.first (c:=c) (by omega)
 obtain⟨_,h2⟩:=K.once h1 hc;refine⟨K.Zo,K.laid,?_,λx f=>?_,λa A h0 q=>?_⟩
 ·exact K.Af.set (c:=c) (ks:=[]) (H0:=H) (K':=λb=>(P.hide D ((c:Int)::O) (b:Int)).1.named) F (by unfold Pl.cnt;rw[h1];decide) (λa _ _=>by simp) (by show (P.hide D ((c:Int)::O) (c:Int)).1.named=[];rw[Td (AP ..)];rfl) (λb J y=>by
   show (P.hide D ((c:Int)::O) (b:Int)).1.named=_;rw[q1d (by omega)])
 ·rcases List.mem_cons.1 f with rfl|f
  ·exact⟨AU _ hc,h1⟩
  ·obtain⟨G,I⟩:=K.opened x f;exact⟨AU _ G,I⟩
 ·have y:(a:Int)≠(c:Int):=λe=>q (e▸AP ..)
  have u:(a:Int)∉O:=λh=>q (AO _ h)
  have p:=q1d (P:=P) (D:=D) (O:=O) y;rcases K.loc a A h0 u with m|m
  ·exact .inl (p.trans m)
  ·refine .inr ⟨by rw[p];exact m.err,by rw[p];exact m.may,λx f d hd=>?_,λx f=>?_⟩
   ·rw[p] at f;have B:d≠(c:Int):=λe=>h2 a A (by unfold Nd.named;rw[<-e];exact AU _ (List.mem_filterMap.2 ⟨x,f,hd⟩))
    rw[q1d B];exact m.data x f d hd
   ·rw[p] at f ⊢;have E:x.a≠(c:Int):=λe=>h2 a A (by unfold Nd.named;rw[<-e];exact List.mem_append_left _ (List.mem_map_of_mem f))
    rw[q1d E];exact m.kids x f
theorem q41 (K:Keep D S0 C0 O H P){c:Nat}(h1:P.C.get (c:Int)=1)(m:(c:Int)∈H):∀(l:Nat) (a:Int) (its:List Qc),a≠(c:Int)->Qs (P.hide D O) l a its->Qs (P.hide D ((c:Int)::O)) l a its
 |0,a,its,hne,h=>⟨by rw[q1d hne];exact h.1,h.2⟩
 |l+1,a,its,hne,h=>by
  obtain⟨kids,parts,e,u,y,A,p⟩:=h;refine⟨kids,parts,by rw[q1d hne];exact e,u,y,A,λj f=>⟨q41 K h1 m l _ _ (λq=>?_) (p j f).1,(p j f).2⟩⟩;obtain⟨B,n,rfl,hn,h0⟩:=q3g (P:=P) (D:=D) (O:=O) (x:=a) (by rw[e]);refine (K.once h1 m).2 n hn ?_;rw[e,<-q];exact List.mem_append_left _ (List.mem_map_of_mem (List.mem_of_getElem? (q16 f)))
theorem qio {c:Nat}{x:Int}(p:c<P.C.n)(h0:P.C.get (c:Int)≠0)(f:x≠0)(b:Int):Pl.store ⟨P.S,P.C.put c x,P.L⟩ D b=P.store D b:=by
 by_cases m:0<=b/\b<(P.C.n:Int)
 ·obtain⟨n,rfl⟩:∃n:Nat,b=(n:Int):=⟨b.toNat,by omega⟩;have hn:n<P.C.n:=by omega
  have q:(P.C.put c x).get (n:Int)=if n=c then x else P.C.get (n:Int):=q2c P.C n hn
  unfold Pl.store Pl.Qd Pl.Qh Pl.live;show ((if (P.C.put c x).get (n:Int)=0 then Je else match (if (P.C.put c x).get (((n:Int).toNat:Nat):Int)=0 then none else P.L (n:Int).toNat) with|some (.node N)=>N|some (.bytes _ _)=>Je|none=>_),(if (P.C.put c x).get (n:Int)=0 then 1 else match (if (P.C.put c x).get (((n:Int).toNat:Nat):Int)=0 then none else P.L (n:Int).toNat) with|some (.node _)=>(0:Int)|some (.bytes _ _)=>1|none=>_))=_;rw[AJ,q];by_cases e:n=c
  ·subst e;rw[AA rfl,AB f,AB f,AB f,AB h0,AB h0,AB h0];rfl
  ·rw[AB e];rfl
 ·have h1:P.C.get b=0:=by unfold Ct.get;rw[AB m]
  have h2:(P.C.put c x).get b=0:=by unfold Ct.get;rw[P.C.Zk,AB m]
  rw[q17 h1];exact q17 (P:=⟨P.S,P.C.put c x,P.L⟩) h2
theorem qca {c:Nat}{x:Int}(m:c<P.C.n)(h0:P.C.get (c:Int)≠0){a:Nat}(h:(P.C.put c x).fresh (a:Int)=true):P.C.fresh (a:Int)=true:=by
 have f:a<P.C.n:=by
  have:=q39 h;obtain⟨n,e,hn⟩:=G5 this;rw[P.C.Zk] at hn;omega
 unfold Ct.fresh at h ⊢;rw[q2c P.C a f] at h;by_cases e:a=c
 ·subst e;rw[AA rfl] at h;rw[AB h0];split at h
  ·cases h
  ·exact h
 ·rw[AB e] at h;exact h
theorem qug {S0:Sp}{C0:Ct}(h:Sound D P S0 C0)(c:Nat)(x:Int):Sound D ⟨P.S,P.C.put c x,P.L⟩ S0 C0:=by
 have e:(P.C.put c x).n=P.C.n:=P.C.Zk c x;have H:=h.holds;exact⟨h.free,h.n.trans e.symm,h.Vo,⟨H.may,H.gen,H.sec.trans (by rw[e]),H.c,H.res,H.n.trans e.symm,H.slot,H.other,λi hi=>by
  have:=H.area i (by rw[e] at hi;exact hi);show D.Jq (Qp (P.C.put c x).n P.S.gen+i)=Zn (U1 (P.C.put c x).n P.S.gen i) (C0.body (i:Int));rw[e];exact this⟩⟩
theorem qcb {S0:Sp}{C0:Ct}(h:Uh D P S0 C0){c:Nat}{x:Int}(f:P.C.first<=c)(e:0<=x/\x<=65535):Uh D ⟨P.S,P.C.put c x,P.L⟩ S0 C0:=
 ⟨⟨Ct.Dw h.ok.c c x e.1 e.2,Ct.Ce h.ok.res x f,h.ok.may,by show P.S.Qb=((P.C.put c x).n:Int);rw[P.C.Zk];exact h.ok.sec,h.ok.gen,h.ok.fine⟩,qug h.sound c x,h.kinds⟩
theorem qCn {c:Nat}(h0:P.C.get (c:Int)≠0)(h1:P.C.get (c:Int)≠65535):P.C.Wn (c:Int)=0/\P.C.ref (c:Int)=P.C.put c (P.C.get (c:Int)+1):=by
 have e:P.C.Wn (c:Int)=0:=by unfold Ct.Wn;rw[AB h0,AB h1]
 refine⟨e,?_⟩;unfold Ct.ref;rw[AA e,AJ]
theorem qa5 {c:Nat}(h0:P.C.get (c:Int)≠0):P.C.Jw (c:Int)=0/\P.C.Qw (c:Int)=P.C.put c (P.C.get (c:Int)-1):=by
 refine⟨by unfold Ct.Jw;rw[AB h0],?_⟩;unfold Ct.Qw;rw[AB h0,AJ]
theorem qip {P':Pl}{O:LI}(h:∀b,P'.store D b=P.store D b)(e:∀b,P'.C.get b=0↔P.C.get b=0)(b:Int):P'.hide D O b=P.hide D O b:=by
 unfold Pl.hide;rw[q61 (h b) (e b)]
theorem qcc {C:Ct}{c:Nat}{x:Int}(m:c<C.n)(h0:C.get (c:Int)≠0)(p:x≠0)(b:Int):(C.put c x).get b=0↔C.get b=0:=by
 by_cases f:0<=b/\b<(C.n:Int)
 ·obtain⟨n,rfl⟩:∃n:Nat,b=(n:Int):=⟨b.toNat,by omega⟩;rw[q2c C n (by omega)];by_cases e:n=c
  ·subst e;rw[AA rfl];exact⟨λh=>absurd h p,λh=>absurd h h0⟩
  ·rw[AB e]
 ·unfold Ct.get;rw[C.Zk,AB f,AB f]
theorem qfx {R R':Int->Nd × Int}(h:∀b,R' b=R b){a:Int}(L:Loc R a):Loc R' a:=by
 have:R'=R:=funext h;rw[this];exact L
theorem Keep.ref (K:Keep D S0 C0 O H P){c:Nat}(h0:P.C.get (c:Int)≠0)(h1:P.C.get (c:Int)≠65535)(ho:(c:Int)∉O) :
  P.C.Wn (c:Int)=0/\Keep D S0 C0 O ((c:Int)::H) ⟨P.S,P.C.ref (c:Int),P.L⟩/\∀l,Move l D O O P ⟨P.S,P.C.ref (c:Int),P.L⟩ 0:=by
 obtain⟨J,e⟩:=qCn h0 h1;obtain⟨c0,u⟩:=K.first h0
 have y:=Ct.Ja K.c (c:Int);have G:=(Ct.Vg K.Zo.ok.res h0).2.2;rw[AJ] at G;rw[e];have I:∀b,Pl.store ⟨P.S,P.C.put c (P.C.get (c:Int)+1),P.L⟩ D b=P.store D b:=qio u h0 (by omega);have E:∀b,Pl.hide ⟨P.S,P.C.put c (P.C.get (c:Int)+1),P.L⟩ D O b=P.hide D O b:=qip I (qcc u h0 (by omega));have p:∀b:Nat,b<P.C.n->(P.C.put c (P.C.get (c:Int)+1)).get (b:Int)=if b=c then P.C.get (c:Int)+1 else P.C.get (b:Int):=λb y=>q2c P.C b y
 refine⟨J,⟨qcb K.Zo G (by omega),λa m=>K.laid a (qca u h0 m),?_,λx q=>?_,λa m A B=>?_⟩,λl=>?_⟩
 ·show Xb (P.C.put c (P.C.get (c:Int)+1)).n _ _ _;rw[P.C.Zk];refine (K.Af.ref (c:=c) (cnt':=Pl.cnt ⟨P.S,P.C.put c (P.C.get (c:Int)+1),P.L⟩) ?_ ?_ ?_).same (λ_ _=>rfl) (λb _ _=>by rw[E])
  ·unfold Pl.cnt;omega
  ·unfold Pl.cnt;show ((P.C.put c (P.C.get (c:Int)+1)).get (c:Int)).toNat=_;rw[p c u,AA rfl];omega
  ·intro b y f;unfold Pl.cnt;show ((P.C.put c (P.C.get (c:Int)+1)).get (b:Int)).toNat=_;rw[p b y,AB f]
 ·obtain⟨Q,R⟩:=K.opened x q;obtain⟨n,rfl,hn⟩:=G5 (C:=P.C) (a:=x) (by omega);have f:n≠c:=λe=>ho (e▸q)
  refine⟨AO _ Q,?_⟩;show (P.C.put c (P.C.get (c:Int)+1)).get (n:Int)=1;rw[p n hn,AB f];exact R
 ·have m:a<P.C.n:=by
   have:a<(P.C.put c (P.C.get (c:Int)+1)).n:=m;rw[P.C.Zk] at this;exact this
  refine qfx E (K.loc a m ?_ B);intro F;refine A ?_;show (P.C.put c (P.C.get (c:Int)+1)).get (a:Int)=0;rw[p a m,AB (λ(M:a=c)=>h0 (by rw[<-M];exact F))];exact F
 ·refine⟨λx q=>E x,λx q _=>⟨?_,I x,Iff.rfl⟩,qfu h0,P.C.Zk _ _⟩;obtain⟨n,rfl,hn⟩:=G5 q;show _<=(P.C.put c (P.C.get (c:Int)+1)).get (n:Int);rw[p n hn];split
  ·rename_i e;subst e;omega
  ·exact Int.le_refl _
theorem Keep.Qw (K:Keep D S0 C0 O H P){c:Nat}{H0:LI}(h1:2<=P.C.get (c:Int))(hH:∀a:Nat,0<a->a<P.C.n->H.count (a:Int)=((c:Int)::H0).count (a:Int)) :
  P.C.Jw (c:Int)=0/\Keep D S0 C0 O H0 ⟨P.S,P.C.Qw (c:Int),P.L⟩/\∀l,(P.Qd D (c:Int)).lvl<=l->Move l D O O P ⟨P.S,P.C.Qw (c:Int),P.L⟩ 0:=by
 have h0:P.C.get (c:Int)≠0:=by omega
 obtain⟨M,e⟩:=qa5 h0;obtain⟨c0,q⟩:=K.first h0
 have u:=Ct.Ja K.c (c:Int);have G:=(Ct.Vg K.Zo.ok.res h0).2.2;rw[AJ] at G;rw[e];have I:∀b,Pl.store ⟨P.S,P.C.put c (P.C.get (c:Int)-1),P.L⟩ D b=P.store D b:=qio q h0 (by omega);have E:∀b,Pl.hide ⟨P.S,P.C.put c (P.C.get (c:Int)-1),P.L⟩ D O b=P.hide D O b:=qip I (qcc q h0 (by omega));have p:∀b:Nat,b<P.C.n->(P.C.put c (P.C.get (c:Int)-1)).get (b:Int)=if b=c then P.C.get (c:Int)-1 else P.C.get (b:Int):=λb u=>q2c P.C b u
 refine⟨M,⟨qcb K.Zo G (by omega),λa m=>K.laid a (qca q h0 m),?_,λx y=>?_,λa m A B=>?_⟩,λl Y=>?_⟩
 ·show Xb (P.C.put c (P.C.get (c:Int)-1)).n _ _ _;rw[P.C.Zk];refine (K.Af.Qw (c:=c) (H0:=H0) (cnt':=Pl.cnt ⟨P.S,P.C.put c (P.C.get (c:Int)-1),P.L⟩) hH ?_ ?_ ?_).same (λ_ _=>rfl) (λb _ _=>by rw[E])
  ·unfold Pl.cnt;omega
  ·unfold Pl.cnt;show ((P.C.put c (P.C.get (c:Int)-1)).get (c:Int)).toNat+1=_;rw[p c q,AA rfl];omega
  ·intro b u f;unfold Pl.cnt;show ((P.C.put c (P.C.get (c:Int)-1)).get (b:Int)).toNat=_;rw[p b u,AB f]
 ·obtain⟨U,V⟩:=K.opened x y;obtain⟨n,rfl,hn⟩:=G5 (C:=P.C) (a:=x) (by omega);have f:n≠c:=λe=>by subst e;omega
  obtain⟨W,_⟩:=K.first (c:=n) (by omega)
  refine⟨?_,?_⟩
  ·have R:=hH n W hn;have X:=List.count_pos_iff.2 U;rw[List.count_cons,AB (by intro J;have:=eq_of_beq J;omega)] at R;exact List.count_pos_iff.1 (by omega)
  ·show (P.C.put c (P.C.get (c:Int)-1)).get (n:Int)=1;rw[p n hn,AB f];exact V
 ·have m:a<P.C.n:=by
   have:a<(P.C.put c (P.C.get (c:Int)-1)).n:=m;rw[P.C.Zk] at this;exact this
  refine qfx E (K.loc a m ?_ B);intro F;refine A ?_;show (P.C.put c (P.C.get (c:Int)-1)).get (a:Int)=0;rw[p a m,AB (λ(Q:a=c)=>h0 (by rw[<-Q];exact F))];exact F
 ·refine⟨λx y=>E x,λx y T=>⟨?_,I x,Iff.rfl⟩,qfu h0,P.C.Zk _ _⟩;obtain⟨n,rfl,hn⟩:=G5 y;have f:n≠c:=λe=>by subst e;omega
  show _<=(P.C.put c (P.C.get (c:Int)-1)).get (n:Int);rw[p n hn,AB f];exact Int.le_refl _
theorem qcd {c:Nat}{x y:Int}(m:y≠(c:Int)):(P.C.put c x).get y=P.C.get y/\Pl.store ⟨P.S,P.C.put c x,P.L⟩ D y=P.store D y:=by
 have e:(P.C.put c x).get y=P.C.get y:=by
  by_cases f:0<=y/\y<(P.C.n:Int)
  ·obtain⟨n,rfl⟩:∃n:Nat,y=(n:Int):=⟨y.toNat,by omega⟩;rw[q2c P.C n (by omega),AB (by omega)]
  ·unfold Ct.get;rw[P.C.Zk,AB f,AB f]
 refine⟨e,?_⟩;by_cases h0:P.C.get y=0
 ·rw[q17 h0];exact q17 (P:=⟨P.S,P.C.put c x,P.L⟩) (by rw[<-h0];exact e)
 ·obtain⟨n,rfl,hn⟩:=G5 h0;unfold Pl.store Pl.Qd Pl.Qh Pl.live;show ((if (P.C.put c x).get (n:Int)=0 then Je else match (if (P.C.put c x).get (((n:Int).toNat:Nat):Int)=0 then none else P.L (n:Int).toNat) with|some (.node N)=>N|some (.bytes _ _)=>Je|none=>_),(if (P.C.put c x).get (n:Int)=0 then 1 else match (if (P.C.put c x).get (((n:Int).toNat:Nat):Int)=0 then none else P.L (n:Int).toNat) with|some (.node _)=>(0:Int)|some (.bytes _ _)=>1|none=>_))=_;rw[AJ,e];rfl
def less1 (O:LI)(c:Int):LI:=O.filter λx=>!(x==c)
theorem I8 {c x:Int}:x∈less1 O c↔x∈O/\x≠c:=by
 unfold less1;rw[List.mem_filter];simp
theorem Keep.drop (K:Keep D S0 C0 O H P){c:Nat}{H0:LI}(ho:(c:Int)∈O)(hH:∀a:Nat,0<a->a<P.C.n->H.count (a:Int)=((c:Int)::H0).count (a:Int)) :
  P.C.Jw (c:Int)=0/\Keep D S0 C0 (less1 O (c:Int)) H0 ⟨P.S,P.C.Qw (c:Int),P.L⟩/\∀l,(P.Qd D (c:Int)).lvl<=l->Move l D O (less1 O (c:Int)) P ⟨P.S,P.C.Qw (c:Int),P.L⟩ 0:=by
 obtain⟨_,h1⟩:=K.opened _ ho;have h0:P.C.get (c:Int)≠0:=by omega
 obtain⟨T,e⟩:=qa5 h0;obtain⟨c0,F⟩:=K.first h0
 have M:=(Ct.Vg K.Zo.ok.res h0).2.2;rw[AJ] at M;rw[e,h1];have p:∀b:Nat,b<P.C.n->(P.C.put c (1-1)).get (b:Int)=if b=c then 0 else P.C.get (b:Int):=λb u=>q2c P.C b u
 have Q:∀b,b≠(c:Int)->Pl.store ⟨P.S,P.C.put c (1-1),P.L⟩ D b=P.store D b:=λb f=>by
  by_cases u:0<=b/\b<(P.C.n:Int)
  ·obtain⟨n,rfl⟩:∃n:Nat,b=(n:Int):=⟨b.toNat,by omega⟩;have p:=p n (by omega);rw[AB (by omega)] at p;unfold Pl.store Pl.Qd Pl.Qh Pl.live;show ((if (P.C.put c (1-1)).get (n:Int)=0 then Je else match (if (P.C.put c (1-1)).get (((n:Int).toNat:Nat):Int)=0 then none else P.L (n:Int).toNat) with|some (.node N)=>N|some (.bytes _ _)=>Je|none=>_),(if (P.C.put c (1-1)).get (n:Int)=0 then 1 else match (if (P.C.put c (1-1)).get (((n:Int).toNat:Nat):Int)=0 then none else P.L (n:Int).toNat) with|some (.node _)=>(0:Int)|some (.bytes _ _)=>1|none=>_))=_;rw[AJ,p];rfl
  ·have h1:P.C.get b=0:=by unfold Ct.get;rw[AB u]
   have h2:(P.C.put c (1-1)).get b=0:=by unfold Ct.get;rw[P.C.Zk,AB u]
   rw[q17 h1];exact q17 (P:=⟨P.S,P.C.put c (1-1),P.L⟩) h2
 have A:(P.C.put c (1-1)).get (c:Int)=0:=by rw[p c F,AA rfl]
 have I:∀b,b≠(c:Int)->(P.C.put c (1-1)).get b=P.C.get b:=λb f=>(qcd (D:=D) f).1
 have J:∀b,Pl.hide ⟨P.S,P.C.put c (1-1),P.L⟩ D (less1 O (c:Int)) b=P.hide D O b:=λb=>by
  by_cases e:b=(c:Int)
  ·subst e;rw[Td ho,q24 (λh=>(I8.1 h).2 rfl)];exact q2q (P:=⟨P.S,P.C.put c (1-1),P.L⟩) A
  ·unfold Pl.hide;rw[q61 (P:=P) (P':=⟨P.S,P.C.put c (1-1),P.L⟩) (Q b e) (by rw[<-I b e])];by_cases B:b∈O
   ·rw[AA B,AA (I8.2 ⟨B,e⟩)]
   ·rw[AB B,AB (λh=>B (I8.1 h).1)]
 refine⟨T,⟨qcb K.Zo M (by omega),λa q=>K.laid a (qca F h0 q),?_,λx y=>?_,λa q m G=>?_⟩,λl hl=>?_⟩
 ·show Xb (P.C.put c (1-1)).n _ _ _;rw[P.C.Zk];have E:=K.Af.last (c:=c) (H0:=H0) (cnt':=Pl.cnt ⟨P.S,P.C.put c (1-1),P.L⟩) c0 F hH (by unfold Pl.cnt;rw[h1];rfl) (by
   unfold Pl.cnt;show ((P.C.put c (1-1)).get (c:Int)).toNat=_;rw[A];rfl) (λb u f=>by
   unfold Pl.cnt;show ((P.C.put c (1-1)).get (b:Int)).toNat=_;rw[p b u,AB f])
  have E:Xb P.C.n (Pl.cnt ⟨P.S,P.C.put c (1-1),P.L⟩) (λb=>(P.hide D O (b:Int)).1.named) ((P.hide D O (c:Int)).1.named++H0):=E;rw[Td ho] at E;exact E.same (λ_ _=>rfl) (λb _ _=>by rw[J])
 ·obtain⟨y,f⟩:=I8.1 y;obtain⟨W,X⟩:=K.opened x y;obtain⟨n,rfl,hn⟩:=G5 (C:=P.C) (a:=x) (by omega);obtain⟨Y,_⟩:=K.first (c:=n) (by omega)
  refine⟨?_,?_⟩
  ·have U:=hH n Y hn;have Z:=List.count_pos_iff.2 W;rw[List.count_cons,AB (by intro R;have:=eq_of_beq R;omega)] at U;exact List.count_pos_iff.1 (by omega)
  ·show (P.C.put c (1-1)).get (n:Int)=1;rw[p n hn,AB (by omega)];exact X
 ·have q:a<P.C.n:=by
   have:a<(P.C.put c (1-1)).n:=q;rw[P.C.Zk] at this;exact this
  have m:(P.C.put c (1-1)).get (a:Int)≠0:=m;rw[p a q] at m;have f:a≠c:=λe=>by rw[AA e] at m;exact m rfl
  rw[AB f] at m;exact qfx J (K.loc a q m λh=>G (I8.2 ⟨h,by omega⟩))
 ·refine⟨λx y=>J x,λx y V=>?_,qfu h0,P.C.Zk _ _⟩;obtain⟨n,rfl,hn⟩:=G5 y;have f:n≠c:=λe=>by subst e;omega
  refine⟨?_,Q _ (by omega),⟨λh=>I8.2 ⟨h,by omega⟩,λh=>(I8.1 h).1⟩⟩;show _<=(P.C.put c (1-1)).get (n:Int);rw[p n hn,AB f];exact Int.le_refl _
theorem Keep.perm (K:Keep D S0 C0 O H P){H':LI}(h:∀a:Nat,0<a->a<P.C.n->H'.count (a:Int)=H.count (a:Int)):Keep D S0 C0 O H' P:=
 ⟨K.Zo,K.laid,K.Af.perm h,λx e=>by
  obtain⟨f,m⟩:=K.opened x e;obtain⟨n,rfl,hn⟩:=G5 (C:=P.C) (a:=x) (by omega);obtain⟨p,_⟩:=K.first (c:=n) (by omega)
  have q:=h n p hn;have u:=List.count_pos_iff.2 f;exact⟨List.count_pos_iff.1 (by omega),m⟩,K.loc⟩
end
