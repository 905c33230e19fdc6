/- A pool some of whose nodes are open: their kids are held by who changes them -/
import Derived.Test.YthkfkhejjmhomaaGreatDoorDz27
namespace Go.Proofs.YthkfkhejjmhomaaGreatDoor
open Go Go.RowKit Go.Proofs
def Jy:Nd:=⟨-1,[],[]⟩
def Pl.tell (P:Pl)(D:DM)(a:Int):Nd × Int:=if P.C.get a≠0/\P.Qj D a≠0 then (Jy,0) else P.store D a
def Pl.hide (P:Pl)(D:DM)(O:List Int):Int->Nd × Int:=λa=>if a∈O then (Qu,1) else P.tell D a
def Nd.enough (N:Nd):Prop:=(if N.lvl=0 then 3 else 6)<=N.items.length+N.kids.length
def Dat (R:Int->Nd × Int)(x:Qq):Prop:=∀c,Vy x=some c->R c=(Jy,0)
structure Jm (R:Int->Nd × Int)(a:Int):Prop where
 err:(R a).2=0
 may:(R a).1.may=true
 data:∀x∈(R a).1.items,Dat R x
 kids:∀x∈(R a).1.kids,(R x.a).2=0/\(R x.a).1.lvl+1=(R a).1.lvl/\(R x.a).1.least=x.k/\(R x.a).1.enough
def Loc (R:Int->Nd × Int)(a:Int):Prop:=R a=(Jy,0)\/Jm R a
structure Keep (D:DM)(S0:Sp)(C0:Ct)(O H:List Int)(P:Pl):Prop where
 Zu:Za D P S0 C0
 laid:∀a:Nat,P.C.fresh (a:Int)=true->∃b,P.L a=some b
 Xd:Qs P.C.n P.cnt (λb=>(P.hide D O (b:Int)).1.named) H
 opened:∀x∈O,x∈H/\P.C.get x=1
 loc:∀a:Nat,a<P.C.n->P.C.get (a:Int)≠0->(a:Int)∉O->Loc (P.hide D O) (a:Int)
def Ext (R R':Int->Nd × Int):Prop:=∀a,(R a).2=0->R' a=R a
theorem Ext.refl (R:Int->Nd × Int):Ext R R:=λ_ _=>rfl
theorem Ext.trans {R R' R'':Int->Nd × Int}(h:Ext R R')(h2:Ext R' R''):Ext R R'':=λa d=>by
 have h1:=h a d;rw[h2 a (by rw[h1];exact d),h1]
theorem Dat.ext {R R':Int->Nd × Int}{x:Qq}(h:Dat R x)(e:Ext R R'):Dat R' x:=λc d=>by
 have h1:=h c d;rw[e c (by rw[h1])];exact h1
theorem Jm.ext {R R':Int->Nd × Int}{a:Int}(h:Jm R a)(e:Ext R R'):Jm R' a:=by
 have f:=e a h.err;refine⟨by rw[f];exact h.err,by rw[f];exact h.may,λx d=>?_,λx d=>?_⟩
 ·rw[f] at d;exact (h.data x d).ext e
 ·rw[f] at d ⊢;obtain⟨g,p,q,u⟩:=h.kids x d;have m:=e x.a g;rw[m];exact⟨g,p,q,u⟩
theorem Loc.ext {R R':Int->Nd × Int}{a:Int}(h:Loc R a)(e:Ext R R'):Loc R' a:=by
 rcases h with h|h
 ·exact .inl (by rw[e a (by rw[h])];exact h)
 ·exact .inr (h.ext e)
theorem Loc.node {R:Int->Nd × Int}{a:Int}(h:Loc R a)(hl:0<=(R a).1.lvl):Jm R a:=by
 rcases h with h|h
 ·rw[h] at hl;exact absurd hl (by decide)
 ·exact h
def Jk (l:Int)(D:DM)(O d:List Int)(P P':Pl):Prop:=∀x,P.C.get x≠0->l<(P.Qb D x).lvl->P.C.get x<=P'.C.get x/\P'.store D x=P.store D x/\(x∈O↔x∈d)
structure Move (l:Int)(D:DM)(O O':List Int)(P P':Pl)(k:Nat):Prop where
 ext:Ext (P.hide D O) (P'.hide D O')
 above:Jk l D O O' P P'
 free:P.C.free<=P'.C.free+k
 n:P'.C.n=P.C.n
theorem Jk.trans {l:Int}{D:DM}{O O' O'':List Int}{P P' P'':Pl}(hb:∀x,0<=P.C.get x)(h:Jk l D O O' P P')(h2:Jk l D O' O'' P' P''):Jk l D O O'' P P'':=λx g e=>by
 obtain⟨p,f,m⟩:=h x g e;have:=hb x;have d:P'.Qb D x=P.Qb D x:=congrArg Prod.fst f;obtain⟨j1,j2,j3⟩:=h2 x (by omega) (by rw[d];exact e);exact⟨by omega,j2.trans f,m.trans j3⟩
theorem Move.refl (l:Int)(D:DM)(O:List Int)(P:Pl):Move l D O O P P 0:=⟨Ext.refl _,λ_ _ _=>⟨Int.le_refl _,rfl,Iff.rfl⟩,Nat.le_refl _,rfl⟩
theorem Move.trans {l:Int}{D:DM}{O O' O'':List Int}{P P' P'':Pl}{k k':Nat}(hb:∀x,0<=P.C.get x)(h:Move l D O O' P P' k)(h2:Move l D O' O'' P' P'' k'):Move l D O O'' P P'' (k+k'):=
 ⟨h.ext.trans h2.ext,h.above.trans hb h2.above,by have:=h.free;have:=h2.free;omega,h2.n.trans h.n⟩
theorem Move.more {l:Int}{D:DM}{O O':List Int}{P P':Pl}{k k':Nat}(h:Move l D O O' P P' k)(hk:k<=k'):Move l D O O' P P' k':=⟨h.ext,h.above,by have:=h.free;omega,h.n⟩
section
variable {D:DM}{S0:Sp}{C0:Ct}{O H:List Int}{P:Pl}
theorem Uw {C:Ct}{c:Nat}{x:Int}(h0:C.get (c:Int)≠0):C.free<=(C.put c x).free:=by
 have hn:nm C.now c≠0:=λe=>h0 (by unfold Ct.get;split;exact e;rfl)
 unfold Ct.free Ct.Q8;rw[C.Qc];refine List.countP_mono_left λj _ d=>?_
 have m:j≠c:=λe=>by
  subst e;unfold Ct.may Ct.Z7 at d;simp at d;exact hn d.2.1
 unfold Ct.may Ct.Z7 at d ⊢;have f:nm (C.put c x).now j=nm C.now j:=Ui C.now c j x (λe=>m e.symm);have g:(C.put c x).first=C.first:=by unfold Ct.first;rw[C.Qc]
 rw[f,g];exact d
theorem Yx {x:Int}(h:P.C.get x=0):P.store D x=(Qu,1):=by
 unfold Pl.store Pl.Qb Pl.Qj;rw[if_pos h,if_pos h]
theorem Vp {x:Int}(h:P.C.get x=0):P.tell D x=(Qu,1):=by
 unfold Pl.tell;rw[if_neg (λe=>e.1 h)];exact Yx h
theorem Lj {x:Int}(h:P.Qj D x=0):P.tell D x=P.store D x:=if_neg λe=>e.2 h
theorem Qmb {x:Int}(h0:P.C.get x≠0)(h:P.Qj D x≠0):P.tell D x=(Jy,0):=if_pos ⟨h0,h⟩
theorem Fp {x:Int}(h:(P.tell D x).2=0):P.C.get x≠0:=λe=>by
 rw[Vp e] at h;cases h
theorem Qh3 {x:Int}(h:(P.tell D x).2=0)(e:0<=(P.tell D x).1.lvl):P.Qj D x=0:=by
 by_cases d:P.Qj D x=0
 ·exact d
 ·rw[Qmb (Fp h) d] at e;exact absurd e (by decide)
theorem Qfq (h:Za D P S0 C0){a:Int}(d:P.Qj D a=0):(P.Qb D a).may=true:=by
 have h0:P.C.get a≠0:=λe=>by
  unfold Pl.Qj at d;rw[if_pos e] at d
  cases d
 obtain⟨n,rfl,hn⟩:=Xr h0
 cases f:P.live n with
 |some b=>
  have p:=Qi4 D h0 f;have q:=h.good n b (Qfk f).2
  cases b with
  |node N=>
   have e:P.Qb D (n:Int)=N:=by
    unfold Pl.Qb;rw[if_neg h0,Int.toNat_natCast,f]
   rw[e];exact Qa7 q
  |bytes k l=>
   have:bkE (Bk.bytes k l)=1:=rfl;rw[this] at p;omega
 |none=>
  unfold Pl.Qj at d;rw[if_neg h0,Int.toNat_natCast,f] at d;unfold Pl.Qb;rw[if_neg h0,Int.toNat_natCast,f];dsimp only at d ⊢;by_cases g:D.Xt (n:Int)=0
  ·rw[if_pos g] at d ⊢;unfold Yt at d;unfold Yu
   cases m:Xh (D.Yf (n:Int)) (n:Int) with
   |none=>rw[m] at d;exact absurd d (by decide)
   |some N=>exact Qk0 m
  ·rw[if_neg g] at d;exact absurd d g
theorem Qj7 (e:Za D P S0 C0){x:Int}(h:P.tell D x=(Jy,0)):P.C.get x≠0/\P.Qj D x≠0:=by
 have h0:P.C.get x≠0:=Fp (D:=D) (by rw[h]);refine⟨h0,λd=>?_⟩;have hm:=Qfq e d;rw[Lj d] at h;have:P.Qb D x=Jy:=congrArg Prod.fst h;rw[this] at hm;exact absurd hm (by decide)
theorem Gq {P':Pl}{x:Int}(h:P'.store D x=P.store D x)(f:P'.C.get x=0↔P.C.get x=0):P'.tell D x=P.tell D x:=by
 have g:P'.Qj D x=P.Qj D x:=congrArg Prod.snd h;unfold Pl.tell;rw[h,g];by_cases e:P.C.get x=0
 ·rw[if_neg (λq=>q.1 (f.2 e)),if_neg (λq=>q.1 e)]
 ·by_cases d:P.Qj D x=0
  ·rw[if_neg (λq=>q.2 d),if_neg (λq=>q.2 d)]
  ·rw[if_pos ⟨λq=>e (f.1 q),d⟩,if_pos ⟨e,d⟩]
theorem Y1 {x:Int}(h:x∈O):P.hide D O x=(Qu,1):=if_pos h
theorem Vt {x:Int}(h:x∉O):P.hide D O x=P.tell D x:=if_neg h
theorem Fq {x:Int}(h:(P.hide D O x).2=0):x∉O/\∃n:Nat,x=(n:Int)/\n<P.C.n/\P.C.get (n:Int)≠0:=by
 by_cases e:x∈O
 ·rw[Y1 e] at h;cases h
 ·rw[Vt e] at h;have h0:=Fp h;obtain⟨n,rfl,hn⟩:=Xr h0;exact⟨e,n,rfl,hn,h0⟩
theorem Qvt {x:Int}(h:(P.hide D O x).2=0)(e:0<=(P.hide D O x).1.lvl):P.hide D O x=P.store D x/\P.Qj D x=0:=by
 obtain⟨f,_⟩:=Fq h;rw[Vt f] at h e ⊢;have d:=Qh3 h e;exact⟨Lj d,d⟩
theorem Qau {l:Nat}{a:Int}{its:List Qq}(h:Qe (P.hide D O) l a its):P.hide D O a=P.store D a/\P.Qj D a=0:=
 Qvt (Gv h).2.2 (by rw[(Gv h).2.1];exact Int.natCast_nonneg l)
theorem D9 {R:Int->Nd × Int}{a:Int}(h:Jm R a){c:Int}(d:c∈(R a).1.named):(R c).2=0:=by
 unfold Nd.named at d;rcases List.mem_append.1 d with d|d
 ·obtain⟨x,f,rfl⟩:=List.mem_map.1 d;exact (h.kids x f).1
 ·obtain⟨x,f,e⟩:=List.mem_filterMap.1 d;rw[h.data x f c e]
theorem q16 {R:Int->Nd × Int}{a:Int}(h:R a=(Jy,0)):(R a).1.named=[]:=by rw[h];rfl
theorem Ez {R:Int->Nd × Int}{a:Int}(h:Loc R a){c:Int}(d:c∈(R a).1.named):(R c).2=0:=by
 rcases h with h|h
 ·rw[q16 h] at d;cases d
 ·exact D9 h d
theorem Keep.named (K:Keep D S0 C0 O H P){b:Nat}(hb:b<P.C.n){a:Nat}(hm:(a:Int)∈(P.hide D O (b:Int)).1.named):P.C.get (b:Int)≠0/\(b:Int)∉O/\(P.hide D O (a:Int)).2=0:=by
 have h0:P.C.get (b:Int)≠0/\(b:Int)∉O:=by
  refine⟨λe=>?_,λe=>?_⟩
  ·by_cases d:(b:Int)∈O
   ·rw[Y1 d] at hm;cases hm
   ·rw[Vt d,Vp e] at hm;cases hm
  ·rw[Y1 e] at hm;cases hm
 exact⟨h0.1,h0.2,Ez (K.loc b hb h0.1 h0.2) hm⟩
theorem Keep.c (K:Keep D S0 C0 O H P):P.C.ok:=K.Zu.ok.c
theorem Keep.first (K:Keep D S0 C0 O H P){c:Nat}(h0:P.C.get (c:Int)≠0):0<c/\c<P.C.n:=by
 obtain⟨h1,h2,d⟩:=Ct.Zy K.Zu.ok.res h0;have e:P.C.first=2+2*Qi P.C.n:=rfl
 rw[Int.toNat_natCast] at d;omega
theorem Keep.once (K:Keep D S0 C0 O H P){c:Nat}(h1:P.C.get (c:Int)=1)(hc:(c:Int)∈H):H.count (c:Int)=1/\∀b:Nat,b<P.C.n->(c:Int)∉(P.hide D O (b:Int)).1.named:=by
 obtain⟨c0,m⟩:=K.first (c:=c) (by omega)
 have h:=K.Xd.eq c c0 m;have g:P.cnt c=1:=by unfold Pl.cnt;rw[h1];rfl
 have y:=List.count_pos_iff.2 hc;refine⟨by omega,λb d hm=>?_⟩;obtain⟨q,_,_⟩:=K.named d hm;have p:=Us (f:=λb=>if 1<=P.cnt b then ((P.hide D O (b:Int)).1.named).count (c:Int) else 0) d;have u:=List.count_pos_iff.2 hm;rw[if_pos ((Fg K.c).2 q)] at p;have e:refs (λb=>(P.hide D O (b:Int)).1.named) P.C.n P.cnt c=sumTo P.C.n λb=>if 1<=P.cnt b then ((P.hide D O (b:Int)).1.named).count (c:Int) else 0:=rfl
 omega
theorem Keep.told (K:Keep D S0 C0 O H P){x:Int}(hx:P.C.get x≠0)(ho:x∉O):Loc (P.hide D O) x:=by
 obtain⟨n,rfl,hn⟩:=Xr hx;exact K.loc n hn hx ho
theorem Oe {c x:Int}(h:x≠c):P.hide D (c::O) x=P.hide D O x:=by
 unfold Pl.hide;have:x∈c::O↔x∈O:=by simp[h]
 by_cases e:x∈O
 ·rw[if_pos e,if_pos (this.2 e)]
 ·rw[if_neg e,if_neg λh=>e (this.1 h)]
theorem Keep.Vb (K:Keep D S0 C0 O H P){x:Int}(he:(P.hide D O x).2=0)(hl:0<=(P.hide D O x).1.lvl):Jm (P.hide D O) x:=by
 obtain⟨d,n,rfl,hn,h0⟩:=Fq he;exact (K.told h0 d).node hl
theorem Keep.tree (K:Keep D S0 C0 O H P){l:Nat}{a:Int}{its:List Qq}(h:Qe (P.hide D O) l a its):Jm (P.hide D O) a:=
 K.Vb (Gv h).2.2 (by rw[(Gv h).2.1];exact Int.natCast_nonneg l)
theorem Keep.dat (K:Keep D S0 C0 O H P):∀(l:Nat) (a:Int) (its:List Qq),Qe (P.hide D O) l a its->∀x∈its,Dat (P.hide D O) x
 |0,a,its,h,x,d=>by
  have L:=K.tree (l:=0) h;refine L.data x ?_;rw[h.1];exact d
 |l+1,a,its,h,x,d=>by
  obtain⟨kids,parts,e,u,y,rfl,q⟩:=h;obtain⟨p,m,d⟩:=List.mem_flatten.1 d;obtain⟨j,g,rfl⟩:=List.getElem_of_mem m;have f:=(q j (by omega)).1;rw[List.getD_eq_getElem?_getD,List.getElem?_eq_getElem g] at f;exact K.dat l _ _ f x d
theorem Qoa {c:Nat}{x:Qq}(g:Dat (P.hide D O) x)(f:Vy x≠some (c:Int)):Dat (P.hide D ((c:Int)::O)) x:=λd hd=>by
 rw[Oe (λe=>f (by rw[<-e];exact hd))];exact g d hd
theorem Keep.open_ (K:Keep D S0 C0 O H P){c:Nat}(h1:P.C.get (c:Int)=1)(hc:(c:Int)∈H)(_ho:(c:Int)∉O):Keep D S0 C0 ((c:Int)::O) ((P.hide D O (c:Int)).1.named++H) P:=by
 obtain⟨c0,B⟩:=K.first (c:=c) (by omega)
 obtain⟨_,h2⟩:=K.once h1 hc;refine⟨K.Zu,K.laid,?_,λx f=>?_,λa y h0 p=>?_⟩
 ·exact K.Xd.set (c:=c) (ks:=[]) (H0:=H) (K':=λb=>(P.hide D ((c:Int)::O) (b:Int)).1.named) B (by unfold Pl.cnt;rw[h1];decide) (λa _ _=>by simp) (by show (P.hide D ((c:Int)::O) (c:Int)).1.named=[];rw[Y1 (List.mem_cons_self ..)];rfl) (λb G u=>by
   show (P.hide D ((c:Int)::O) (b:Int)).1.named=_;rw[Oe (by omega)])
 ·rcases List.mem_cons.1 f with rfl|f
  ·exact⟨List.mem_append_right _ hc,h1⟩
  ·obtain⟨E,F⟩:=K.opened x f;exact⟨List.mem_append_right _ E,F⟩
 ·have u:(a:Int)≠(c:Int):=λe=>p (e▸List.mem_cons_self ..)
  have q:(a:Int)∉O:=λh=>p (List.mem_cons_of_mem _ h)
  have m:=Oe (P:=P) (D:=D) (O:=O) u;rcases K.loc a y h0 q with g|g
  ·exact .inl (m.trans g)
  ·refine .inr ⟨by rw[m];exact g.err,by rw[m];exact g.may,λx f d hd=>?_,λx f=>?_⟩
   ·rw[m] at f;have z:d≠(c:Int):=λe=>h2 a y (by unfold Nd.named;rw[<-e];exact List.mem_append_right _ (List.mem_filterMap.2 ⟨x,f,hd⟩))
    rw[Oe z];exact g.data x f d hd
   ·rw[m] at f ⊢;have A:x.a≠(c:Int):=λe=>h2 a y (by unfold Nd.named;rw[<-e];exact List.mem_append_left _ (List.mem_map_of_mem f))
    rw[Oe A];exact g.kids x f
theorem open_tree (K:Keep D S0 C0 O H P){c:Nat}(h1:P.C.get (c:Int)=1)(f:(c:Int)∈H):∀(l:Nat) (a:Int) (its:List Qq),a≠(c:Int)->Qe (P.hide D O) l a its->Qe (P.hide D ((c:Int)::O)) l a its
 |0,a,its,hne,h=>⟨by rw[Oe hne];exact h.1,h.2⟩
 |l+1,a,its,hne,h=>by
  obtain⟨kids,parts,e,p,q,u,g⟩:=h;refine⟨kids,parts,by rw[Oe hne];exact e,p,q,u,λj d=>⟨open_tree K h1 f l _ _ (λm=>?_) (g j d).1,(g j d).2⟩⟩;obtain⟨y,n,rfl,hn,h0⟩:=Fq (P:=P) (D:=D) (O:=O) (x:=a) (by rw[e]);refine (K.once h1 f).2 n hn ?_;rw[e,<-m];exact List.mem_append_left _ (List.mem_map_of_mem (List.mem_of_getElem? (q32 d)))
theorem Gz {c:Nat}{x:Int}(g:c<P.C.n)(h0:P.C.get (c:Int)≠0)(d:x≠0)(b:Int):Pl.store ⟨P.S,P.C.put c x,P.L⟩ D b=P.store D b:=by
 by_cases f:0<=b/\b<(P.C.n:Int)
 ·obtain⟨n,rfl⟩:∃n:Nat,b=(n:Int):=⟨b.toNat,by omega⟩;have hn:n<P.C.n:=by omega
  have m:(P.C.put c x).get (n:Int)=if n=c then x else P.C.get (n:Int):=Y0 P.C n hn
  unfold Pl.store Pl.Qb Pl.Qj Pl.live;show ((if (P.C.put c x).get (n:Int)=0 then Qu else match (if (P.C.put c x).get (((n:Int).toNat:Nat):Int)=0 then none else P.L (n:Int).toNat) with|some (.node N)=>N|some (.bytes _ _)=>Qu|none=>_),(if (P.C.put c x).get (n:Int)=0 then 1 else match (if (P.C.put c x).get (((n:Int).toNat:Nat):Int)=0 then none else P.L (n:Int).toNat) with|some (.node _)=>(0:Int)|some (.bytes _ _)=>1|none=>_))=_;rw[Int.toNat_natCast,m];by_cases e:n=c
  ·subst e;rw[if_pos rfl,if_neg d,if_neg d,if_neg d,if_neg h0,if_neg h0,if_neg h0];rfl
  ·rw[if_neg e];rfl
 ·have h1:P.C.get b=0:=by unfold Ct.get;rw[if_neg f]
  have h2:(P.C.put c x).get b=0:=by unfold Ct.get;rw[P.C.Qc,if_neg f]
  rw[Yx h1];exact Yx (P:=⟨P.S,P.C.put c x,P.L⟩) h2
theorem q0z {c:Nat}{x:Int}(f:c<P.C.n)(h0:P.C.get (c:Int)≠0){a:Nat}(h:(P.C.put c x).fresh (a:Int)=true):P.C.fresh (a:Int)=true:=by
 have d:a<P.C.n:=by
  have:=Dz h;obtain⟨n,e,hn⟩:=Xr this;rw[P.C.Qc] at hn;omega
 unfold Ct.fresh at h ⊢;rw[Y0 P.C a d] at h;by_cases e:a=c
 ·subst e;rw[if_pos rfl] at h;rw[if_neg h0];split at h
  ·cases h
  ·exact h
 ·rw[if_neg e] at h;exact h
theorem q2z {S0:Sp}{C0:Ct}(h:Sound D P S0 C0)(c:Nat)(x:Int):Sound D ⟨P.S,P.C.put c x,P.L⟩ S0 C0:=by
 have d:(P.C.put c x).n=P.C.n:=P.C.Qc c x;have H:=h.holds;exact⟨h.free,h.n.trans d.symm,h.Xe,⟨H.may,H.gen,H.sec.trans (by rw[d]),H.c,H.res,H.n.trans d.symm,H.slot,H.other,λi hi=>by
  have:=H.area i (by rw[d] at hi;exact hi);show D.Ze (Qh (P.C.put c x).n P.S.gen+i)=Zl (Xa (P.C.put c x).n P.S.gen i) (C0.body (i:Int));rw[d];exact this⟩⟩
theorem q10 {S0:Sp}{C0:Ct}(h:Za D P S0 C0){c:Nat}{x:Int}(e:P.C.first<=c)(d:0<=x/\x<=65535):Za D ⟨P.S,P.C.put c x,P.L⟩ S0 C0:=
 ⟨⟨Ct.Xp h.ok.c c x d.1 d.2,Ct.J3 h.ok.res x e,h.ok.may,by show P.S.Qa=((P.C.put c x).n:Int);rw[P.C.Qc];exact h.ok.sec,h.ok.gen,h.ok.fine⟩,q2z h.sound c x,h.kinds⟩
theorem F9 {c:Nat}(h0:P.C.get (c:Int)≠0)(h1:P.C.get (c:Int)≠65535):P.C.Xc (c:Int)=0/\P.C.ref (c:Int)=P.C.put c (P.C.get (c:Int)+1):=by
 have e:P.C.Xc (c:Int)=0:=by unfold Ct.Xc;rw[if_neg h0,if_neg h1]
 refine⟨e,?_⟩;unfold Ct.ref;rw[if_pos e,Int.toNat_natCast]
theorem G9 {c:Nat}(h0:P.C.get (c:Int)≠0):P.C.Jc (c:Int)=0/\P.C.Zf (c:Int)=P.C.put c (P.C.get (c:Int)-1):=by
 refine⟨by unfold Ct.Jc;rw[if_neg h0],?_⟩;unfold Ct.Zf;rw[if_neg h0,Int.toNat_natCast]
theorem G5 {P':Pl}{O:List Int}(h:∀b,P'.store D b=P.store D b)(d:∀b,P'.C.get b=0↔P.C.get b=0)(b:Int):P'.hide D O b=P.hide D O b:=by
 unfold Pl.hide;rw[Gq (h b) (d b)]
theorem q11 {C:Ct}{c:Nat}{x:Int}(f:c<C.n)(h0:C.get (c:Int)≠0)(g:x≠0)(b:Int):(C.put c x).get b=0↔C.get b=0:=by
 by_cases d:0<=b/\b<(C.n:Int)
 ·obtain⟨n,rfl⟩:∃n:Nat,b=(n:Int):=⟨b.toNat,by omega⟩;rw[Y0 C n (by omega)];by_cases e:n=c
  ·subst e;rw[if_pos rfl];exact⟨λh=>absurd h g,λh=>absurd h h0⟩
  ·rw[if_neg e]
 ·unfold Ct.get;rw[C.Qc,if_neg d,if_neg d]
theorem Ux {R R':Int->Nd × Int}(h:∀b,R' b=R b){a:Int}(L:Loc R a):Loc R' a:=by
 have:R'=R:=funext h;rw[this];exact L
theorem Keep.ref (K:Keep D S0 C0 O H P){c:Nat}(h0:P.C.get (c:Int)≠0)(h1:P.C.get (c:Int)≠65535)(ho:(c:Int)∉O) :
  P.C.Xc (c:Int)=0/\Keep D S0 C0 O ((c:Int)::H) ⟨P.S,P.C.ref (c:Int),P.L⟩/\∀l,Move l D O O P ⟨P.S,P.C.ref (c:Int),P.L⟩ 0:=by
 obtain⟨F,e⟩:=F9 h0 h1;obtain⟨c0,p⟩:=K.first h0
 have q:=Ct.Q5 K.c (c:Int);have B:=(Ct.Zy K.Zu.ok.res h0).2.2;rw[Int.toNat_natCast] at B;rw[e];have E:∀b,Pl.store ⟨P.S,P.C.put c (P.C.get (c:Int)+1),P.L⟩ D b=P.store D b:=Gz p h0 (by omega);have z:∀b,Pl.hide ⟨P.S,P.C.put c (P.C.get (c:Int)+1),P.L⟩ D O b=P.hide D O b:=G5 E (q11 p h0 (by omega));have g:∀b:Nat,b<P.C.n->(P.C.put c (P.C.get (c:Int)+1)).get (b:Int)=if b=c then P.C.get (c:Int)+1 else P.C.get (b:Int):=λb q=>Y0 P.C b q
 refine⟨F,⟨q10 K.Zu B (by omega),λa f=>K.laid a (q0z p h0 f),?_,λx m=>?_,λa f u y=>?_⟩,λl=>?_⟩
 ·show Qs (P.C.put c (P.C.get (c:Int)+1)).n _ _ _;rw[P.C.Qc];refine (K.Xd.ref (c:=c) (cnt':=Pl.cnt ⟨P.S,P.C.put c (P.C.get (c:Int)+1),P.L⟩) ?_ ?_ ?_).same (λ_ _=>rfl) (λb _ _=>by rw[z])
  ·unfold Pl.cnt;omega
  ·unfold Pl.cnt;show ((P.C.put c (P.C.get (c:Int)+1)).get (c:Int)).toNat=_;rw[g c p,if_pos rfl];omega
  ·intro b q d;unfold Pl.cnt;show ((P.C.put c (P.C.get (c:Int)+1)).get (b:Int)).toNat=_;rw[g b q,if_neg d]
 ·obtain⟨I,J⟩:=K.opened x m;obtain⟨n,rfl,hn⟩:=Xr (C:=P.C) (a:=x) (by omega);have d:n≠c:=λe=>ho (e▸m)
  refine⟨List.mem_cons_of_mem _ I,?_⟩;show (P.C.put c (P.C.get (c:Int)+1)).get (n:Int)=1;rw[g n hn,if_neg d];exact J
 ·have f:a<P.C.n:=by
   have:a<(P.C.put c (P.C.get (c:Int)+1)).n:=f;rw[P.C.Qc] at this;exact this
  refine Ux z (K.loc a f ?_ y);intro A;refine u ?_;show (P.C.put c (P.C.get (c:Int)+1)).get (a:Int)=0;rw[g a f,if_neg (λ(G:a=c)=>h0 (by rw[<-G];exact A))];exact A
 ·refine⟨λx m=>z x,λx m _=>⟨?_,E x,Iff.rfl⟩,Uw h0,P.C.Qc _ _⟩;obtain⟨n,rfl,hn⟩:=Xr m;show _<=(P.C.put c (P.C.get (c:Int)+1)).get (n:Int);rw[g n hn];split
  ·rename_i e;subst e;omega
  ·exact Int.le_refl _
theorem Keep.Zf (K:Keep D S0 C0 O H P){c:Nat}{H0:List Int}(h1:2<=P.C.get (c:Int))(hH:∀a:Nat,0<a->a<P.C.n->H.count (a:Int)=((c:Int)::H0).count (a:Int)) :
  P.C.Jc (c:Int)=0/\Keep D S0 C0 O H0 ⟨P.S,P.C.Zf (c:Int),P.L⟩/\∀l,(P.Qb D (c:Int)).lvl<=l->Move l D O O P ⟨P.S,P.C.Zf (c:Int),P.L⟩ 0:=by
 have h0:P.C.get (c:Int)≠0:=by omega
 obtain⟨G,e⟩:=G9 h0;obtain⟨c0,m⟩:=K.first h0
 have p:=Ct.Q5 K.c (c:Int);have B:=(Ct.Zy K.Zu.ok.res h0).2.2;rw[Int.toNat_natCast] at B;rw[e];have E:∀b,Pl.store ⟨P.S,P.C.put c (P.C.get (c:Int)-1),P.L⟩ D b=P.store D b:=Gz m h0 (by omega);have z:∀b,Pl.hide ⟨P.S,P.C.put c (P.C.get (c:Int)-1),P.L⟩ D O b=P.hide D O b:=G5 E (q11 m h0 (by omega));have g:∀b:Nat,b<P.C.n->(P.C.put c (P.C.get (c:Int)-1)).get (b:Int)=if b=c then P.C.get (c:Int)-1 else P.C.get (b:Int):=λb p=>Y0 P.C b p
 refine⟨G,⟨q10 K.Zu B (by omega),λa f=>K.laid a (q0z m h0 f),?_,λx q=>?_,λa f u y=>?_⟩,λl V=>?_⟩
 ·show Qs (P.C.put c (P.C.get (c:Int)-1)).n _ _ _;rw[P.C.Qc];refine (K.Xd.Zf (c:=c) (H0:=H0) (cnt':=Pl.cnt ⟨P.S,P.C.put c (P.C.get (c:Int)-1),P.L⟩) hH ?_ ?_ ?_).same (λ_ _=>rfl) (λb _ _=>by rw[z])
  ·unfold Pl.cnt;omega
  ·unfold Pl.cnt;show ((P.C.put c (P.C.get (c:Int)-1)).get (c:Int)).toNat+1=_;rw[g c m,if_pos rfl];omega
  ·intro b p d;unfold Pl.cnt;show ((P.C.put c (P.C.get (c:Int)-1)).get (b:Int)).toNat=_;rw[g b p,if_neg d]
 ·obtain⟨Q,R⟩:=K.opened x q;obtain⟨n,rfl,hn⟩:=Xr (C:=P.C) (a:=x) (by omega);have d:n≠c:=λe=>by subst e;omega
  obtain⟨T,_⟩:=K.first (c:=n) (by omega)
  refine⟨?_,?_⟩
  ·have J:=hH n T hn;have U:=List.count_pos_iff.2 Q;rw[List.count_cons,if_neg (by intro F;have:=eq_of_beq F;omega)] at J;exact List.count_pos_iff.1 (by omega)
  ·show (P.C.put c (P.C.get (c:Int)-1)).get (n:Int)=1;rw[g n hn,if_neg d];exact R
 ·have f:a<P.C.n:=by
   have:a<(P.C.put c (P.C.get (c:Int)-1)).n:=f;rw[P.C.Qc] at this;exact this
  refine Ux z (K.loc a f ?_ y);intro A;refine u ?_;show (P.C.put c (P.C.get (c:Int)-1)).get (a:Int)=0;rw[g a f,if_neg (λ(I:a=c)=>h0 (by rw[<-I];exact A))];exact A
 ·refine⟨λx q=>z x,λx q M=>⟨?_,E x,Iff.rfl⟩,Uw h0,P.C.Qc _ _⟩;obtain⟨n,rfl,hn⟩:=Xr q;have d:n≠c:=λe=>by subst e;omega
  show _<=(P.C.put c (P.C.get (c:Int)-1)).get (n:Int);rw[g n hn,if_neg d];exact Int.le_refl _
theorem q30 {c:Nat}{x y:Int}(f:y≠(c:Int)):(P.C.put c x).get y=P.C.get y/\Pl.store ⟨P.S,P.C.put c x,P.L⟩ D y=P.store D y:=by
 have d:(P.C.put c x).get y=P.C.get y:=by
  by_cases e:0<=y/\y<(P.C.n:Int)
  ·obtain⟨n,rfl⟩:∃n:Nat,y=(n:Int):=⟨y.toNat,by omega⟩;rw[Y0 P.C n (by omega),if_neg (by omega)]
  ·unfold Ct.get;rw[P.C.Qc,if_neg e,if_neg e]
 refine⟨d,?_⟩;by_cases h0:P.C.get y=0
 ·rw[Yx h0];exact Yx (P:=⟨P.S,P.C.put c x,P.L⟩) (by rw[<-h0];exact d)
 ·obtain⟨n,rfl,hn⟩:=Xr h0;unfold Pl.store Pl.Qb Pl.Qj Pl.live;show ((if (P.C.put c x).get (n:Int)=0 then Qu else match (if (P.C.put c x).get (((n:Int).toNat:Nat):Int)=0 then none else P.L (n:Int).toNat) with|some (.node N)=>N|some (.bytes _ _)=>Qu|none=>_),(if (P.C.put c x).get (n:Int)=0 then 1 else match (if (P.C.put c x).get (((n:Int).toNat:Nat):Int)=0 then none else P.L (n:Int).toNat) with|some (.node _)=>(0:Int)|some (.bytes _ _)=>1|none=>_))=_;rw[Int.toNat_natCast,d];rfl
def less1 (O:List Int)(c:Int):List Int:=O.filter λx=>!(x==c)
theorem Yy {c x:Int}:x∈less1 O c↔x∈O/\x≠c:=by
 unfold less1;rw[List.mem_filter];simp
theorem Keep.drop (K:Keep D S0 C0 O H P){c:Nat}{H0:List Int}(ho:(c:Int)∈O)(hH:∀a:Nat,0<a->a<P.C.n->H.count (a:Int)=((c:Int)::H0).count (a:Int)) :
  P.C.Jc (c:Int)=0/\Keep D S0 C0 (less1 O (c:Int)) H0 ⟨P.S,P.C.Zf (c:Int),P.L⟩/\∀l,(P.Qb D (c:Int)).lvl<=l->Move l D O (less1 O (c:Int)) P ⟨P.S,P.C.Zf (c:Int),P.L⟩ 0:=by
 obtain⟨_,h1⟩:=K.opened _ ho;have h0:P.C.get (c:Int)≠0:=by omega
 obtain⟨M,e⟩:=G9 h0;obtain⟨c0,A⟩:=K.first h0
 have G:=(Ct.Zy K.Zu.ok.res h0).2.2;rw[Int.toNat_natCast] at G;rw[e,h1];have g:∀b:Nat,b<P.C.n->(P.C.put c (1-1)).get (b:Int)=if b=c then 0 else P.C.get (b:Int):=λb p=>Y0 P.C b p
 have I:∀b,b≠(c:Int)->Pl.store ⟨P.S,P.C.put c (1-1),P.L⟩ D b=P.store D b:=λb d=>by
  by_cases p:0<=b/\b<(P.C.n:Int)
  ·obtain⟨n,rfl⟩:∃n:Nat,b=(n:Int):=⟨b.toNat,by omega⟩;have g:=g n (by omega);rw[if_neg (by omega)] at g;unfold Pl.store Pl.Qb Pl.Qj Pl.live;show ((if (P.C.put c (1-1)).get (n:Int)=0 then Qu else match (if (P.C.put c (1-1)).get (((n:Int).toNat:Nat):Int)=0 then none else P.L (n:Int).toNat) with|some (.node N)=>N|some (.bytes _ _)=>Qu|none=>_),(if (P.C.put c (1-1)).get (n:Int)=0 then 1 else match (if (P.C.put c (1-1)).get (((n:Int).toNat:Nat):Int)=0 then none else P.L (n:Int).toNat) with|some (.node _)=>(0:Int)|some (.bytes _ _)=>1|none=>_))=_;rw[Int.toNat_natCast,g];rfl
  ·have h1:P.C.get b=0:=by unfold Ct.get;rw[if_neg p]
   have h2:(P.C.put c (1-1)).get b=0:=by unfold Ct.get;rw[P.C.Qc,if_neg p]
   rw[Yx h1];exact Yx (P:=⟨P.S,P.C.put c (1-1),P.L⟩) h2
 have u:(P.C.put c (1-1)).get (c:Int)=0:=by rw[g c A,if_pos rfl]
 have E:∀b,b≠(c:Int)->(P.C.put c (1-1)).get b=P.C.get b:=λb d=>(q30 (D:=D) d).1
 have F:∀b,Pl.hide ⟨P.S,P.C.put c (1-1),P.L⟩ D (less1 O (c:Int)) b=P.hide D O b:=λb=>by
  by_cases e:b=(c:Int)
  ·subst e;rw[Y1 ho,Vt (λh=>(Yy.1 h).2 rfl)];exact Vp (P:=⟨P.S,P.C.put c (1-1),P.L⟩) u
  ·unfold Pl.hide;rw[Gq (P:=P) (P':=⟨P.S,P.C.put c (1-1),P.L⟩) (I b e) (by rw[<-E b e])];by_cases y:b∈O
   ·rw[if_pos y,if_pos (Yy.2 ⟨y,e⟩)]
   ·rw[if_neg y,if_neg (λh=>y (Yy.1 h).1)]
 refine⟨M,⟨q10 K.Zu G (by omega),λa m=>K.laid a (q0z A h0 m),?_,λx q=>?_,λa m f B=>?_⟩,λl X=>?_⟩
 ·show Qs (P.C.put c (1-1)).n _ _ _;rw[P.C.Qc];have z:=K.Xd.last (c:=c) (H0:=H0) (cnt':=Pl.cnt ⟨P.S,P.C.put c (1-1),P.L⟩) c0 A hH (by unfold Pl.cnt;rw[h1];rfl) (by
   unfold Pl.cnt;show ((P.C.put c (1-1)).get (c:Int)).toNat=_;rw[u];rfl) (λb p d=>by
   unfold Pl.cnt;show ((P.C.put c (1-1)).get (b:Int)).toNat=_;rw[g b p,if_neg d])
  have z:Qs P.C.n (Pl.cnt ⟨P.S,P.C.put c (1-1),P.L⟩) (λb=>(P.hide D O (b:Int)).1.named) ((P.hide D O (c:Int)).1.named++H0):=z;rw[Y1 ho] at z;exact z.same (λ_ _=>rfl) (λb _ _=>by rw[F])
 ·obtain⟨q,d⟩:=Yy.1 q;obtain⟨T,U⟩:=K.opened x q;obtain⟨n,rfl,hn⟩:=Xr (C:=P.C) (a:=x) (by omega);obtain⟨V,_⟩:=K.first (c:=n) (by omega)
  refine⟨?_,?_⟩
  ·have Q:=hH n V hn;have W:=List.count_pos_iff.2 T;rw[List.count_cons,if_neg (by intro J;have:=eq_of_beq J;omega)] at Q;exact List.count_pos_iff.1 (by omega)
  ·show (P.C.put c (1-1)).get (n:Int)=1;rw[g n hn,if_neg (by omega)];exact U
 ·have m:a<P.C.n:=by
   have:a<(P.C.put c (1-1)).n:=m;rw[P.C.Qc] at this;exact this
  have f:(P.C.put c (1-1)).get (a:Int)≠0:=f;rw[g a m] at f;have d:a≠c:=λe=>by rw[if_pos e] at f;exact f rfl
  rw[if_neg d] at f;exact Ux F (K.loc a m f λh=>B (Yy.2 ⟨h,by omega⟩))
 ·refine⟨λx q=>F x,λx q R=>?_,Uw h0,P.C.Qc _ _⟩;obtain⟨n,rfl,hn⟩:=Xr q;have d:n≠c:=λe=>by subst e;omega
  refine⟨?_,I _ (by omega),⟨λh=>Yy.2 ⟨h,by omega⟩,λh=>(Yy.1 h).1⟩⟩;show _<=(P.C.put c (1-1)).get (n:Int);rw[g n hn,if_neg d];exact Int.le_refl _
theorem Keep.perm (K:Keep D S0 C0 O H P){H':List Int}(h:∀a:Nat,0<a->a<P.C.n->H'.count (a:Int)=H.count (a:Int)):Keep D S0 C0 O H' P:=
 ⟨K.Zu,K.laid,K.Xd.perm h,λx d=>by
  obtain⟨e,f⟩:=K.opened x d;obtain⟨n,rfl,hn⟩:=Xr (C:=P.C) (a:=x) (by omega);obtain⟨g,_⟩:=K.first (c:=n) (by omega)
  have m:=h n g hn;have p:=List.count_pos_iff.2 e;exact⟨List.count_pos_iff.1 (by omega),f⟩,K.loc⟩
end
