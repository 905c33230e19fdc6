/- A pool some of whose nodes are open: their kids are held by who changes them -/
import Derived.Test.YthkfkhejjmhomaaGreatDoorEs25
namespace Go.Proofs.YthkfkhejjmhomaaGreatDoor
open Go Go.RowKit Go.Proofs
def Yh:Nd:=⟨-1,[],[]⟩
def Pl.tell (P:Pl)(D:DM)(a:Int):Nd × Int:=if P.C.get a≠0/\P.Qd D a≠0 then (Yh,0) else P.store D a
def Pl.hide (P:Pl)(D:DM)(O:List Int):Int->Nd × Int:=λa=>if a∈O then (Zk,1) else P.tell D a
def Nd.enough (N:Nd):Prop:=(if N.lvl=0 then 3 else 6)<=N.items.length+N.kids.length
def Dat (R:Int->Nd × Int)(x:Qg):Prop:=∀c,Y4 x=some c->R c=(Yh,0)
structure Aq (R:Int->Nd × Int)(a:Int):Prop where
 err:(R a).2=0
 may:(R a).1.may=true
 data:∀x∈(R a).1.items,Dat R x
 kids:∀x∈(R a).1.kids,(R x.a).2=0/\(R x.a).1.lvl+1=(R a).1.lvl/\(R x.a).1.least=x.k/\(R x.a).1.enough
def Loc (R:Int->Nd × Int)(a:Int):Prop:=R a=(Yh,0)\/Aq R a
structure Keep (D:DM)(S0:Sp)(C0:Ct)(O H:List Int)(P:Pl):Prop where
 Ze:Wy D P S0 C0
 laid:∀a:Nat,P.C.fresh (a:Int)=true->∃b,P.L a=some b
 Vz:Jz P.C.n P.cnt (λb=>(P.hide D O (b:Int)).1.named) H
 opened:∀x∈O,x∈H/\P.C.get x=1
 loc:∀a:Nat,a<P.C.n->P.C.get (a:Int)≠0->(a:Int)∉O->Loc (P.hide D O) (a:Int)
def Ext (R R':Int->Nd × Int):Prop:=∀a,(R a).2=0->R' a=R a
theorem Ext.refl (R:Int->Nd × Int):Ext R R:=λ_ _=>rfl
theorem Ext.trans {R R' R'':Int->Nd × Int}(h:Ext R R')(h2:Ext R' R''):Ext R R'':=λa b=>by
 have h1:=h a b;rw[h2 a (by rw[h1];exact b),h1]
theorem Dat.ext {R R':Int->Nd × Int}{x:Qg}(h:Dat R x)(e:Ext R R'):Dat R' x:=λc b=>by
 have h1:=h c b;rw[e c (by rw[h1])];exact h1
theorem Aq.ext {R R':Int->Nd × Int}{a:Int}(h:Aq R a)(e:Ext R R'):Aq R' a:=by
 have d:=e a h.err;refine⟨by rw[d];exact h.err,by rw[d];exact h.may,λx b=>?_,λx b=>?_⟩
 ·rw[d] at b;exact (h.data x b).ext e
 ·rw[d] at b ⊢;obtain⟨f,p,u,y⟩:=h.kids x b;have m:=e x.a f;rw[m];exact⟨f,p,u,y⟩
theorem Loc.ext {R R':Int->Nd × Int}{a:Int}(h:Loc R a)(e:Ext R R'):Loc R' a:=by
 rcases h with h|h
 ·exact .inl (by rw[e a (by rw[h])];exact h)
 ·exact .inr (h.ext e)
theorem Loc.node {R:Int->Nd × Int}{a:Int}(h:Loc R a)(hl:0<=(R a).1.lvl):Aq R a:=by
 rcases h with h|h
 ·rw[h] at hl;exact absurd hl (by decide)
 ·exact h
def Ap (l:Int)(D:DM)(O b:List Int)(P P':Pl):Prop:=∀x,P.C.get x≠0->l<(P.Qa D x).lvl->P.C.get x<=P'.C.get x/\P'.store D x=P.store D x/\(x∈O↔x∈b)
structure Move (l:Int)(D:DM)(O O':List Int)(P P':Pl)(k:Nat):Prop where
 ext:Ext (P.hide D O) (P'.hide D O')
 above:Ap l D O O' P P'
 free:P.C.free<=P'.C.free+k
 n:P'.C.n=P.C.n
theorem Ap.trans {l:Int}{D:DM}{O O' O'':List Int}{P P' P'':Pl}(hb:∀x,0<=P.C.get x)(h:Ap l D O O' P P')(h2:Ap l D O' O'' P' P''):Ap l D O O'' P P'':=λx f d=>by
 obtain⟨p,e,m⟩:=h x f d;have:=hb x;have b:P'.Qa D x=P.Qa D x:=congrArg Prod.fst e;obtain⟨j1,j2,j3⟩:=h2 x (by omega) (by rw[b];exact d);exact⟨by omega,j2.trans e,m.trans j3⟩
theorem Move.refl (l:Int)(D:DM)(O:List Int)(P:Pl):Move l D O O P P 0:=⟨Ext.refl _,λ_ _ _=>⟨Int.le_refl _,rfl,Iff.rfl⟩,Nat.le_refl _,rfl⟩
theorem Move.trans {l:Int}{D:DM}{O O' O'':List Int}{P P' P'':Pl}{k k':Nat}(hb:∀x,0<=P.C.get x)(h:Move l D O O' P P' k)(h2:Move l D O' O'' P' P'' k'):Move l D O O'' P P'' (k+k'):=
 ⟨h.ext.trans h2.ext,h.above.trans hb h2.above,by have:=h.free;have:=h2.free;omega,h2.n.trans h.n⟩
theorem Move.more {l:Int}{D:DM}{O O':List Int}{P P':Pl}{k k':Nat}(h:Move l D O O' P P' k)(hk:k<=k'):Move l D O O' P P' k':=⟨h.ext,h.above,by have:=h.free;omega,h.n⟩
section
variable {D:DM}{S0:Sp}{C0:Ct}{O H:List Int}{P:Pl}
theorem q9y {C:Ct}{c:Nat}{x:Int}(h0:C.get (c:Int)≠0):C.free<=(C.put c x).free:=by
 have hn:nm C.now c≠0:=λe=>h0 (by unfold Ct.get;split;exact e;rfl)
 unfold Ct.free Ct.J3;rw[C.Zf];refine List.countP_mono_left λj _ b=>?_
 have m:j≠c:=λe=>by
  subst e;unfold Ct.may Ct.Vg at b;simp at b;exact hn b.2.1
 unfold Ct.may Ct.Vg at b ⊢;have d:nm (C.put c x).now j=nm C.now j:=q34 C.now c j x (λe=>m e.symm);have f:(C.put c x).first=C.first:=by unfold Ct.first;rw[C.Zf]
 rw[d,f];exact b
theorem q10 {x:Int}(h:P.C.get x=0):P.store D x=(Zk,1):=by
 unfold Pl.store Pl.Qa Pl.Qd;rw[if_pos h,if_pos h]
theorem q32 {x:Int}(h:P.C.get x=0):P.tell D x=(Zk,1):=by
 unfold Pl.tell;rw[if_neg (λe=>e.1 h)];exact q10 h
theorem D5 {x:Int}(h:P.Qd D x=0):P.tell D x=P.store D x:=if_neg λe=>e.2 h
theorem qbm {x:Int}(h0:P.C.get x≠0)(h:P.Qd D x≠0):P.tell D x=(Yh,0):=if_pos ⟨h0,h⟩
theorem qbn {x:Int}(h:(P.tell D x).2=0):P.C.get x≠0:=λe=>by
 rw[q32 e] at h;cases h
theorem qez {x:Int}(h:(P.tell D x).2=0)(d:0<=(P.tell D x).1.lvl):P.Qd D x=0:=by
 by_cases b:P.Qd D x=0
 ·exact b
 ·rw[qbm (qbn h) b] at d;exact absurd d (by decide)
theorem q1y (h:Wy D P S0 C0){a:Int}(d:P.Qd D a=0):(P.Qa D a).may=true:=by
 have h0:P.C.get a≠0:=λe=>by
  unfold Pl.Qd at d;rw[if_pos e] at d
  cases d
 obtain⟨n,rfl,hn⟩:=Uc h0
 cases f:P.live n with
 |some b=>
  have u:=q9j D h0 f;have y:=h.good n b (q9i f).2
  cases b with
  |node N=>
   have e:P.Qa D (n:Int)=N:=by
    unfold Pl.Qa;rw[if_neg h0,Int.toNat_natCast,f]
   rw[e];exact q48 y
  |bytes k l=>
   have:bkE (Bk.bytes k l)=1:=rfl;rw[this] at u;omega
 |none=>
  unfold Pl.Qd at d;rw[if_neg h0,Int.toNat_natCast,f] at d;unfold Pl.Qa;rw[if_neg h0,Int.toNat_natCast,f];dsimp only at d ⊢;by_cases m:D.Yb (n:Int)=0
  ·rw[if_pos m] at d ⊢;unfold Xl at d;unfold Xm
   cases p:Zj (D.Yl (n:Int)) (n:Int) with
   |none=>rw[p] at d;exact absurd d (by decide)
   |some N=>exact qg1 p
  ·rw[if_neg m] at d;exact absurd d m
theorem q7q (d:Wy D P S0 C0){x:Int}(h:P.tell D x=(Yh,0)):P.C.get x≠0/\P.Qd D x≠0:=by
 have h0:P.C.get x≠0:=qbn (D:=D) (by rw[h]);refine⟨h0,λb=>?_⟩;have hm:=q1y d b;rw[D5 b] at h;have:P.Qa D x=Yh:=congrArg Prod.fst h;rw[this] at hm;exact absurd hm (by decide)
theorem q2t {P':Pl}{x:Int}(h:P'.store D x=P.store D x)(d:P'.C.get x=0↔P.C.get x=0):P'.tell D x=P.tell D x:=by
 have f:P'.Qd D x=P.Qd D x:=congrArg Prod.snd h;unfold Pl.tell;rw[h,f];by_cases e:P.C.get x=0
 ·rw[if_neg (λq=>q.1 (d.2 e)),if_neg (λq=>q.1 e)]
 ·by_cases b:P.Qd D x=0
  ·rw[if_neg (λq=>q.2 b),if_neg (λq=>q.2 b)]
  ·rw[if_pos ⟨λq=>e (d.1 q),b⟩,if_pos ⟨e,b⟩]
theorem q22 {x:Int}(h:x∈O):P.hide D O x=(Zk,1):=if_pos h
theorem Et {x:Int}(h:x∉O):P.hide D O x=P.tell D x:=if_neg h
theorem Iy {x:Int}(h:(P.hide D O x).2=0):x∉O/\∃n:Nat,x=(n:Int)/\n<P.C.n/\P.C.get (n:Int)≠0:=by
 by_cases e:x∈O
 ·rw[q22 e] at h;cases h
 ·rw[Et e] at h;have h0:=qbn h;obtain⟨n,rfl,hn⟩:=Uc h0;exact⟨e,n,rfl,hn,h0⟩
theorem qbo {x:Int}(h:(P.hide D O x).2=0)(d:0<=(P.hide D O x).1.lvl):P.hide D O x=P.store D x/\P.Qd D x=0:=by
 obtain⟨e,_⟩:=Iy h;rw[Et e] at h d ⊢;have b:=qez h d;exact⟨D5 b,b⟩
theorem q3v {l:Nat}{a:Int}{its:List Qg}(h:Qi (P.hide D O) l a its):P.hide D O a=P.store D a/\P.Qd D a=0:=
 qbo (Ce h).2.2 (by rw[(Ce h).2.1];exact Int.natCast_nonneg l)
theorem qsj {R:Int->Nd × Int}{a:Int}(h:Aq R a){c:Int}(b:c∈(R a).1.named):(R c).2=0:=by
 unfold Nd.named at b;rcases List.mem_append.1 b with b|b
 ·obtain⟨x,d,rfl⟩:=List.mem_map.1 b;exact (h.kids x d).1
 ·obtain⟨x,d,e⟩:=List.mem_filterMap.1 b;rw[h.data x d c e]
theorem q3w {R:Int->Nd × Int}{a:Int}(h:R a=(Yh,0)):(R a).1.named=[]:=by rw[h];rfl
theorem qvl {R:Int->Nd × Int}{a:Int}(h:Loc R a){c:Int}(b:c∈(R a).1.named):(R c).2=0:=by
 rcases h with h|h
 ·rw[q3w h] at b;cases b
 ·exact qsj h b
theorem Keep.named (K:Keep D S0 C0 O H P){b:Nat}(hb:b<P.C.n){a:Nat}(hm:(a:Int)∈(P.hide D O (b:Int)).1.named):P.C.get (b:Int)≠0/\(b:Int)∉O/\(P.hide D O (a:Int)).2=0:=by
 have h0:P.C.get (b:Int)≠0/\(b:Int)∉O:=by
  refine⟨λe=>?_,λe=>?_⟩
  ·by_cases d:(b:Int)∈O
   ·rw[q22 d] at hm;cases hm
   ·rw[Et d,q32 e] at hm;cases hm
  ·rw[q22 e] at hm;cases hm
 exact⟨h0.1,h0.2,qvl (K.loc b hb h0.1 h0.2) hm⟩
theorem Keep.c (K:Keep D S0 C0 O H P):P.C.ok:=K.Ze.ok.c
theorem Keep.first (K:Keep D S0 C0 O H P){c:Nat}(h0:P.C.get (c:Int)≠0):0<c/\c<P.C.n:=by
 obtain⟨h1,h2,b⟩:=Ct.Vf K.Ze.ok.res h0;have d:P.C.first=2+2*Ql P.C.n:=rfl
 rw[Int.toNat_natCast] at b;omega
theorem Keep.once (K:Keep D S0 C0 O H P){c:Nat}(h1:P.C.get (c:Int)=1)(hc:(c:Int)∈H):H.count (c:Int)=1/\∀b:Nat,b<P.C.n->(c:Int)∉(P.hide D O (b:Int)).1.named:=by
 obtain⟨c0,p⟩:=K.first (c:=c) (by omega)
 have h:=K.Vz.eq c c0 p;have m:P.cnt c=1:=by unfold Pl.cnt;rw[h1];rfl
 have B:=List.count_pos_iff.2 hc;refine⟨by omega,λb d hm=>?_⟩;obtain⟨y,_,_⟩:=K.named d hm;have u:=qey (f:=λb=>if 1<=P.cnt b then ((P.hide D O (b:Int)).1.named).count (c:Int) else 0) d;have A:=List.count_pos_iff.2 hm;rw[if_pos ((q84 K.c).2 y)] at u;have e:refs (λb=>(P.hide D O (b:Int)).1.named) P.C.n P.cnt c=sumTo P.C.n λb=>if 1<=P.cnt b then ((P.hide D O (b:Int)).1.named).count (c:Int) else 0:=rfl
 omega
theorem Keep.told (K:Keep D S0 C0 O H P){x:Int}(hx:P.C.get x≠0)(ho:x∉O):Loc (P.hide D O) x:=by
 obtain⟨n,rfl,hn⟩:=Uc hx;exact K.loc n hn hx ho
theorem q1k {c x:Int}(h:x≠c):P.hide D (c::O) x=P.hide D O x:=by
 unfold Pl.hide;have:x∈c::O↔x∈O:=by simp[h]
 by_cases e:x∈O
 ·rw[if_pos e,if_pos (this.2 e)]
 ·rw[if_neg e,if_neg λh=>e (this.1 h)]
theorem Keep.Qbe (K:Keep D S0 C0 O H P){x:Int}(he:(P.hide D O x).2=0)(hl:0<=(P.hide D O x).1.lvl):Aq (P.hide D O) x:=by
 obtain⟨b,n,rfl,hn,h0⟩:=Iy he;exact (K.told h0 b).node hl
theorem Keep.tree (K:Keep D S0 C0 O H P){l:Nat}{a:Int}{its:List Qg}(h:Qi (P.hide D O) l a its):Aq (P.hide D O) a:=
 K.Qbe (Ce h).2.2 (by rw[(Ce h).2.1];exact Int.natCast_nonneg l)
theorem Keep.dat (K:Keep D S0 C0 O H P):∀(l:Nat) (a:Int) (its:List Qg),Qi (P.hide D O) l a its->∀x∈its,Dat (P.hide D O) x
 |0,a,its,h,x,b=>by
  have L:=K.tree (l:=0) h;refine L.data x ?_;rw[h.1];exact b
 |l+1,a,its,h,x,b=>by
  obtain⟨kids,parts,e,y,A,rfl,u⟩:=h;obtain⟨p,m,b⟩:=List.mem_flatten.1 b;obtain⟨j,f,rfl⟩:=List.getElem_of_mem m;have d:=(u j (by omega)).1;rw[List.getD_eq_getElem?_getD,List.getElem?_eq_getElem f] at d;exact K.dat l _ _ d x b
theorem qlk {c:Nat}{x:Qg}(f:Dat (P.hide D O) x)(b:Y4 x≠some (c:Int)):Dat (P.hide D ((c:Int)::O)) x:=λd hd=>by
 rw[q1k (λe=>b (by rw[<-e];exact hd))];exact f d hd
theorem Keep.open_ (K:Keep D S0 C0 O H P){c:Nat}(h1:P.C.get (c:Int)=1)(hc:(c:Int)∈H)(_ho:(c:Int)∉O):Keep D S0 C0 ((c:Int)::O) ((P.hide D O (c:Int)).1.named++H) P:=by
 obtain⟨c0,G⟩:=K.first (c:=c) (by omega)
 obtain⟨_,h2⟩:=K.once h1 hc;refine⟨K.Ze,K.laid,?_,λx f=>?_,λa B h0 u=>?_⟩
 ·exact K.Vz.set (c:=c) (ks:=[]) (H0:=H) (K':=λb=>(P.hide D ((c:Int)::O) (b:Int)).1.named) G (by unfold Pl.cnt;rw[h1];decide) (λa _ _=>by simp) (by show (P.hide D ((c:Int)::O) (c:Int)).1.named=[];rw[q22 (List.mem_cons_self ..)];rfl) (λb M A=>by
   show (P.hide D ((c:Int)::O) (b:Int)).1.named=_;rw[q1k (by omega)])
 ·rcases List.mem_cons.1 f with rfl|f
  ·exact⟨List.mem_append_right _ hc,h1⟩
  ·obtain⟨I,J⟩:=K.opened x f;exact⟨List.mem_append_right _ I,J⟩
 ·have A:(a:Int)≠(c:Int):=λe=>u (e▸List.mem_cons_self ..)
  have y:(a:Int)∉O:=λh=>u (List.mem_cons_of_mem _ h)
  have p:=q1k (P:=P) (D:=D) (O:=O) A;rcases K.loc a B h0 y with m|m
  ·exact .inl (p.trans m)
  ·refine .inr ⟨by rw[p];exact m.err,by rw[p];exact m.may,λx f d hd=>?_,λx f=>?_⟩
   ·rw[p] at f;have E:d≠(c:Int):=λe=>h2 a B (by unfold Nd.named;rw[<-e];exact List.mem_append_right _ (List.mem_filterMap.2 ⟨x,f,hd⟩))
    rw[q1k E];exact m.data x f d hd
   ·rw[p] at f ⊢;have F:x.a≠(c:Int):=λe=>h2 a B (by unfold Nd.named;rw[<-e];exact List.mem_append_left _ (List.mem_map_of_mem f))
    rw[q1k F];exact m.kids x f
theorem q3x (K:Keep D S0 C0 O H P){c:Nat}(h1:P.C.get (c:Int)=1)(d:(c:Int)∈H):∀(l:Nat) (a:Int) (its:List Qg),a≠(c:Int)->Qi (P.hide D O) l a its->Qi (P.hide D ((c:Int)::O)) l a its
 |0,a,its,hne,h=>⟨by rw[q1k hne];exact h.1,h.2⟩
 |l+1,a,its,hne,h=>by
  obtain⟨kids,parts,e,p,u,y,f⟩:=h;refine⟨kids,parts,by rw[q1k hne];exact e,p,u,y,λj b=>⟨q3x K h1 d l _ _ (λm=>?_) (f j b).1,(f j b).2⟩⟩;obtain⟨A,n,rfl,hn,h0⟩:=Iy (P:=P) (D:=D) (O:=O) (x:=a) (by rw[e]);refine (K.once h1 d).2 n hn ?_;rw[e,<-m];exact List.mem_append_left _ (List.mem_map_of_mem (List.mem_of_getElem? (q11 b)))
theorem q7r {c:Nat}{x:Int}(m:c<P.C.n)(h0:P.C.get (c:Int)≠0)(d:x≠0)(b:Int):Pl.store ⟨P.S,P.C.put c x,P.L⟩ D b=P.store D b:=by
 by_cases f:0<=b/\b<(P.C.n:Int)
 ·obtain⟨n,rfl⟩:∃n:Nat,b=(n:Int):=⟨b.toNat,by omega⟩;have hn:n<P.C.n:=by omega
  have p:(P.C.put c x).get (n:Int)=if n=c then x else P.C.get (n:Int):=Oh P.C n hn
  unfold Pl.store Pl.Qa Pl.Qd Pl.live;show ((if (P.C.put c x).get (n:Int)=0 then Zk else match (if (P.C.put c x).get (((n:Int).toNat:Nat):Int)=0 then none else P.L (n:Int).toNat) with|some (.node N)=>N|some (.bytes _ _)=>Zk|none=>_),(if (P.C.put c x).get (n:Int)=0 then 1 else match (if (P.C.put c x).get (((n:Int).toNat:Nat):Int)=0 then none else P.L (n:Int).toNat) with|some (.node _)=>(0:Int)|some (.bytes _ _)=>1|none=>_))=_;rw[Int.toNat_natCast,p];by_cases e:n=c
  ·subst e;rw[if_pos rfl,if_neg d,if_neg d,if_neg d,if_neg h0,if_neg h0,if_neg h0];rfl
  ·rw[if_neg e];rfl
 ·have h1:P.C.get b=0:=by unfold Ct.get;rw[if_neg f]
  have h2:(P.C.put c x).get b=0:=by unfold Ct.get;rw[P.C.Zf,if_neg f]
  rw[q10 h1];exact q10 (P:=⟨P.S,P.C.put c x,P.L⟩) h2
theorem qbp {c:Nat}{x:Int}(d:c<P.C.n)(h0:P.C.get (c:Int)≠0){a:Nat}(h:(P.C.put c x).fresh (a:Int)=true):P.C.fresh (a:Int)=true:=by
 have b:a<P.C.n:=by
  have:=q2w h;obtain⟨n,e,hn⟩:=Uc this;rw[P.C.Zf] at hn;omega
 unfold Ct.fresh at h ⊢;rw[Oh P.C a b] at h;by_cases e:a=c
 ·subst e;rw[if_pos rfl] at h;rw[if_neg h0];split at h
  ·cases h
  ·exact h
 ·rw[if_neg e] at h;exact h
theorem qsk {S0:Sp}{C0:Ct}(h:Sound D P S0 C0)(c:Nat)(x:Int):Sound D ⟨P.S,P.C.put c x,P.L⟩ S0 C0:=by
 have b:(P.C.put c x).n=P.C.n:=P.C.Zf c x;have H:=h.holds;exact⟨h.free,h.n.trans b.symm,h.Uj,⟨H.may,H.gen,H.sec.trans (by rw[b]),H.c,H.res,H.n.trans b.symm,H.slot,H.other,λi d=>by
  have:=H.area i (by rw[b] at d;exact d);show D.Xk (Qw (P.C.put c x).n P.S.gen+i)=Zt (U4 (P.C.put c x).n P.S.gen i) (C0.body (i:Int));rw[b];exact this⟩⟩
theorem qbq {S0:Sp}{C0:Ct}(h:Wy D P S0 C0){c:Nat}{x:Int}(d:P.C.first<=c)(b:0<=x/\x<=65535):Wy D ⟨P.S,P.C.put c x,P.L⟩ S0 C0:=
 ⟨⟨Ct.Bv h.ok.c c x b.1 b.2,Ct.Ah h.ok.res x d,h.ok.may,by show P.S.Qb=((P.C.put c x).n:Int);rw[P.C.Zf];exact h.ok.sec,h.ok.gen,h.ok.fine⟩,qsk h.sound c x,h.kinds⟩
theorem qll {c:Nat}(h0:P.C.get (c:Int)≠0)(h1:P.C.get (c:Int)≠65535):P.C.Yg (c:Int)=0/\P.C.ref (c:Int)=P.C.put c (P.C.get (c:Int)+1):=by
 have e:P.C.Yg (c:Int)=0:=by unfold Ct.Yg;rw[if_neg h0,if_neg h1]
 refine⟨e,?_⟩;unfold Ct.ref;rw[if_pos e,Int.toNat_natCast]
theorem q2q {c:Nat}(h0:P.C.get (c:Int)≠0):P.C.Zh (c:Int)=0/\P.C.Qj (c:Int)=P.C.put c (P.C.get (c:Int)-1):=by
 refine⟨by unfold Ct.Zh;rw[if_neg h0],?_⟩;unfold Ct.Qj;rw[if_neg h0,Int.toNat_natCast]
theorem qhh {P':Pl}{O:List Int}(h:∀b,P'.store D b=P.store D b)(d:∀b,P'.C.get b=0↔P.C.get b=0)(b:Int):P'.hide D O b=P.hide D O b:=by
 unfold Pl.hide;rw[q2t (h b) (d b)]
theorem q6l {C:Ct}{c:Nat}{x:Int}(f:c<C.n)(h0:C.get (c:Int)≠0)(m:x≠0)(b:Int):(C.put c x).get b=0↔C.get b=0:=by
 by_cases d:0<=b/\b<(C.n:Int)
 ·obtain⟨n,rfl⟩:∃n:Nat,b=(n:Int):=⟨b.toNat,by omega⟩;rw[Oh C n (by omega)];by_cases e:n=c
  ·subst e;rw[if_pos rfl];exact⟨λh=>absurd h m,λh=>absurd h h0⟩
  ·rw[if_neg e]
 ·unfold Ct.get;rw[C.Zf,if_neg d,if_neg d]
theorem qf0 {R R':Int->Nd × Int}(h:∀b,R' b=R b){a:Int}(L:Loc R a):Loc R' a:=by
 have:R'=R:=funext h;rw[this];exact L
theorem Keep.ref (K:Keep D S0 C0 O H P){c:Nat}(h0:P.C.get (c:Int)≠0)(h1:P.C.get (c:Int)≠65535)(ho:(c:Int)∉O) :
  P.C.Yg (c:Int)=0/\Keep D S0 C0 O ((c:Int)::H) ⟨P.S,P.C.ref (c:Int),P.L⟩/\∀l,Move l D O O P ⟨P.S,P.C.ref (c:Int),P.L⟩ 0:=by
 obtain⟨J,e⟩:=qll h0 h1;obtain⟨c0,u⟩:=K.first h0
 have y:=Ct.Zd K.c (c:Int);have G:=(Ct.Vf K.Ze.ok.res h0).2.2;rw[Int.toNat_natCast] at G;rw[e];have I:∀b,Pl.store ⟨P.S,P.C.put c (P.C.get (c:Int)+1),P.L⟩ D b=P.store D b:=q7r u h0 (by omega);have E:∀b,Pl.hide ⟨P.S,P.C.put c (P.C.get (c:Int)+1),P.L⟩ D O b=P.hide D O b:=qhh I (q6l u h0 (by omega));have m:∀b:Nat,b<P.C.n->(P.C.put c (P.C.get (c:Int)+1)).get (b:Int)=if b=c then P.C.get (c:Int)+1 else P.C.get (b:Int):=λb y=>Oh P.C b y
 refine⟨J,⟨qbq K.Ze G (by omega),λa f=>K.laid a (qbp u h0 f),?_,λx p=>?_,λa f A B=>?_⟩,λl=>?_⟩
 ·show Jz (P.C.put c (P.C.get (c:Int)+1)).n _ _ _;rw[P.C.Zf];refine (K.Vz.ref (c:=c) (cnt':=Pl.cnt ⟨P.S,P.C.put c (P.C.get (c:Int)+1),P.L⟩) ?_ ?_ ?_).same (λ_ _=>rfl) (λb _ _=>by rw[E])
  ·unfold Pl.cnt;omega
  ·unfold Pl.cnt;show ((P.C.put c (P.C.get (c:Int)+1)).get (c:Int)).toNat=_;rw[m c u,if_pos rfl];omega
  ·intro b y d;unfold Pl.cnt;show ((P.C.put c (P.C.get (c:Int)+1)).get (b:Int)).toNat=_;rw[m b y,if_neg d]
 ·obtain⟨Q,R⟩:=K.opened x p;obtain⟨n,rfl,hn⟩:=Uc (C:=P.C) (a:=x) (by omega);have d:n≠c:=λe=>ho (e▸p)
  refine⟨List.mem_cons_of_mem _ Q,?_⟩;show (P.C.put c (P.C.get (c:Int)+1)).get (n:Int)=1;rw[m n hn,if_neg d];exact R
 ·have f:a<P.C.n:=by
   have:a<(P.C.put c (P.C.get (c:Int)+1)).n:=f;rw[P.C.Zf] at this;exact this
  refine qf0 E (K.loc a f ?_ B);intro F;refine A ?_;show (P.C.put c (P.C.get (c:Int)+1)).get (a:Int)=0;rw[m a f,if_neg (λ(M:a=c)=>h0 (by rw[<-M];exact F))];exact F
 ·refine⟨λx p=>E x,λx p _=>⟨?_,I x,Iff.rfl⟩,q9y h0,P.C.Zf _ _⟩;obtain⟨n,rfl,hn⟩:=Uc p;show _<=(P.C.put c (P.C.get (c:Int)+1)).get (n:Int);rw[m n hn];split
  ·rename_i e;subst e;omega
  ·exact Int.le_refl _
theorem Keep.Qj (K:Keep D S0 C0 O H P){c:Nat}{H0:List Int}(h1:2<=P.C.get (c:Int))(hH:∀a:Nat,0<a->a<P.C.n->H.count (a:Int)=((c:Int)::H0).count (a:Int)) :
  P.C.Zh (c:Int)=0/\Keep D S0 C0 O H0 ⟨P.S,P.C.Qj (c:Int),P.L⟩/\∀l,(P.Qa D (c:Int)).lvl<=l->Move l D O O P ⟨P.S,P.C.Qj (c:Int),P.L⟩ 0:=by
 have h0:P.C.get (c:Int)≠0:=by omega
 obtain⟨M,e⟩:=q2q h0;obtain⟨c0,p⟩:=K.first h0
 have u:=Ct.Zd K.c (c:Int);have G:=(Ct.Vf K.Ze.ok.res h0).2.2;rw[Int.toNat_natCast] at G;rw[e];have I:∀b,Pl.store ⟨P.S,P.C.put c (P.C.get (c:Int)-1),P.L⟩ D b=P.store D b:=q7r p h0 (by omega);have E:∀b,Pl.hide ⟨P.S,P.C.put c (P.C.get (c:Int)-1),P.L⟩ D O b=P.hide D O b:=qhh I (q6l p h0 (by omega));have m:∀b:Nat,b<P.C.n->(P.C.put c (P.C.get (c:Int)-1)).get (b:Int)=if b=c then P.C.get (c:Int)-1 else P.C.get (b:Int):=λb u=>Oh P.C b u
 refine⟨M,⟨qbq K.Ze G (by omega),λa f=>K.laid a (qbp p h0 f),?_,λx y=>?_,λa f A B=>?_⟩,λl Z=>?_⟩
 ·show Jz (P.C.put c (P.C.get (c:Int)-1)).n _ _ _;rw[P.C.Zf];refine (K.Vz.Qj (c:=c) (H0:=H0) (cnt':=Pl.cnt ⟨P.S,P.C.put c (P.C.get (c:Int)-1),P.L⟩) hH ?_ ?_ ?_).same (λ_ _=>rfl) (λb _ _=>by rw[E])
  ·unfold Pl.cnt;omega
  ·unfold Pl.cnt;show ((P.C.put c (P.C.get (c:Int)-1)).get (c:Int)).toNat+1=_;rw[m c p,if_pos rfl];omega
  ·intro b u d;unfold Pl.cnt;show ((P.C.put c (P.C.get (c:Int)-1)).get (b:Int)).toNat=_;rw[m b u,if_neg d]
 ·obtain⟨U,W⟩:=K.opened x y;obtain⟨n,rfl,hn⟩:=Uc (C:=P.C) (a:=x) (by omega);have d:n≠c:=λe=>by subst e;omega
  obtain⟨X,_⟩:=K.first (c:=n) (by omega)
  refine⟨?_,?_⟩
  ·have R:=hH n X hn;have Y:=List.count_pos_iff.2 U;rw[List.count_cons,if_neg (by intro J;have:=eq_of_beq J;omega)] at R;exact List.count_pos_iff.1 (by omega)
  ·show (P.C.put c (P.C.get (c:Int)-1)).get (n:Int)=1;rw[m n hn,if_neg d];exact W
 ·have f:a<P.C.n:=by
   have:a<(P.C.put c (P.C.get (c:Int)-1)).n:=f;rw[P.C.Zf] at this;exact this
  refine qf0 E (K.loc a f ?_ B);intro F;refine A ?_;show (P.C.put c (P.C.get (c:Int)-1)).get (a:Int)=0;rw[m a f,if_neg (λ(Q:a=c)=>h0 (by rw[<-Q];exact F))];exact F
 ·refine⟨λx y=>E x,λx y T=>⟨?_,I x,Iff.rfl⟩,q9y h0,P.C.Zf _ _⟩;obtain⟨n,rfl,hn⟩:=Uc y;have d:n≠c:=λe=>by subst e;omega
  show _<=(P.C.put c (P.C.get (c:Int)-1)).get (n:Int);rw[m n hn,if_neg d];exact Int.le_refl _
theorem q5e {c:Nat}{x y:Int}(e:y≠(c:Int)):(P.C.put c x).get y=P.C.get y/\Pl.store ⟨P.S,P.C.put c x,P.L⟩ D y=P.store D y:=by
 have b:(P.C.put c x).get y=P.C.get y:=by
  by_cases d:0<=y/\y<(P.C.n:Int)
  ·obtain⟨n,rfl⟩:∃n:Nat,y=(n:Int):=⟨y.toNat,by omega⟩;rw[Oh P.C n (by omega),if_neg (by omega)]
  ·unfold Ct.get;rw[P.C.Zf,if_neg d,if_neg d]
 refine⟨b,?_⟩;by_cases h0:P.C.get y=0
 ·rw[q10 h0];exact q10 (P:=⟨P.S,P.C.put c x,P.L⟩) (by rw[<-h0];exact b)
 ·obtain⟨n,rfl,hn⟩:=Uc h0;unfold Pl.store Pl.Qa Pl.Qd Pl.live;show ((if (P.C.put c x).get (n:Int)=0 then Zk else match (if (P.C.put c x).get (((n:Int).toNat:Nat):Int)=0 then none else P.L (n:Int).toNat) with|some (.node N)=>N|some (.bytes _ _)=>Zk|none=>_),(if (P.C.put c x).get (n:Int)=0 then 1 else match (if (P.C.put c x).get (((n:Int).toNat:Nat):Int)=0 then none else P.L (n:Int).toNat) with|some (.node _)=>(0:Int)|some (.bytes _ _)=>1|none=>_))=_;rw[Int.toNat_natCast,b];rfl
def less1 (O:List Int)(c:Int):List Int:=O.filter λx=>!(x==c)
theorem Fg {c x:Int}:x∈less1 O c↔x∈O/\x≠c:=by
 unfold less1;rw[List.mem_filter];simp
theorem Keep.drop (K:Keep D S0 C0 O H P){c:Nat}{H0:List Int}(ho:(c:Int)∈O)(hH:∀a:Nat,0<a->a<P.C.n->H.count (a:Int)=((c:Int)::H0).count (a:Int)) :
  P.C.Zh (c:Int)=0/\Keep D S0 C0 (less1 O (c:Int)) H0 ⟨P.S,P.C.Qj (c:Int),P.L⟩/\∀l,(P.Qa D (c:Int)).lvl<=l->Move l D O (less1 O (c:Int)) P ⟨P.S,P.C.Qj (c:Int),P.L⟩ 0:=by
 obtain⟨_,h1⟩:=K.opened _ ho;have h0:P.C.get (c:Int)≠0:=by omega
 obtain⟨T,e⟩:=q2q h0;obtain⟨c0,F⟩:=K.first h0
 have M:=(Ct.Vf K.Ze.ok.res h0).2.2;rw[Int.toNat_natCast] at M;rw[e,h1];have m:∀b:Nat,b<P.C.n->(P.C.put c (1-1)).get (b:Int)=if b=c then 0 else P.C.get (b:Int):=λb u=>Oh P.C b u
 have Q:∀b,b≠(c:Int)->Pl.store ⟨P.S,P.C.put c (1-1),P.L⟩ D b=P.store D b:=λb d=>by
  by_cases u:0<=b/\b<(P.C.n:Int)
  ·obtain⟨n,rfl⟩:∃n:Nat,b=(n:Int):=⟨b.toNat,by omega⟩;have m:=m n (by omega);rw[if_neg (by omega)] at m;unfold Pl.store Pl.Qa Pl.Qd Pl.live;show ((if (P.C.put c (1-1)).get (n:Int)=0 then Zk else match (if (P.C.put c (1-1)).get (((n:Int).toNat:Nat):Int)=0 then none else P.L (n:Int).toNat) with|some (.node N)=>N|some (.bytes _ _)=>Zk|none=>_),(if (P.C.put c (1-1)).get (n:Int)=0 then 1 else match (if (P.C.put c (1-1)).get (((n:Int).toNat:Nat):Int)=0 then none else P.L (n:Int).toNat) with|some (.node _)=>(0:Int)|some (.bytes _ _)=>1|none=>_))=_;rw[Int.toNat_natCast,m];rfl
  ·have h1:P.C.get b=0:=by unfold Ct.get;rw[if_neg u]
   have h2:(P.C.put c (1-1)).get b=0:=by unfold Ct.get;rw[P.C.Zf,if_neg u]
   rw[q10 h1];exact q10 (P:=⟨P.S,P.C.put c (1-1),P.L⟩) h2
 have A:(P.C.put c (1-1)).get (c:Int)=0:=by rw[m c F,if_pos rfl]
 have I:∀b,b≠(c:Int)->(P.C.put c (1-1)).get b=P.C.get b:=λb d=>(q5e (D:=D) d).1
 have J:∀b,Pl.hide ⟨P.S,P.C.put c (1-1),P.L⟩ D (less1 O (c:Int)) b=P.hide D O b:=λb=>by
  by_cases e:b=(c:Int)
  ·subst e;rw[q22 ho,Et (λh=>(Fg.1 h).2 rfl)];exact q32 (P:=⟨P.S,P.C.put c (1-1),P.L⟩) A
  ·unfold Pl.hide;rw[q2t (P:=P) (P':=⟨P.S,P.C.put c (1-1),P.L⟩) (Q b e) (by rw[<-I b e])];by_cases B:b∈O
   ·rw[if_pos B,if_pos (Fg.2 ⟨B,e⟩)]
   ·rw[if_neg B,if_neg (λh=>B (Fg.1 h).1)]
 refine⟨T,⟨qbq K.Ze M (by omega),λa p=>K.laid a (qbp F h0 p),?_,λx y=>?_,λa p f G=>?_⟩,λl hl=>?_⟩
 ·show Jz (P.C.put c (1-1)).n _ _ _;rw[P.C.Zf];have E:=K.Vz.last (c:=c) (H0:=H0) (cnt':=Pl.cnt ⟨P.S,P.C.put c (1-1),P.L⟩) c0 F hH (by unfold Pl.cnt;rw[h1];rfl) (by
   unfold Pl.cnt;show ((P.C.put c (1-1)).get (c:Int)).toNat=_;rw[A];rfl) (λb u d=>by
   unfold Pl.cnt;show ((P.C.put c (1-1)).get (b:Int)).toNat=_;rw[m b u,if_neg d])
  have E:Jz P.C.n (Pl.cnt ⟨P.S,P.C.put c (1-1),P.L⟩) (λb=>(P.hide D O (b:Int)).1.named) ((P.hide D O (c:Int)).1.named++H0):=E;rw[q22 ho] at E;exact E.same (λ_ _=>rfl) (λb _ _=>by rw[J])
 ·obtain⟨y,d⟩:=Fg.1 y;obtain⟨X,Y⟩:=K.opened x y;obtain⟨n,rfl,hn⟩:=Uc (C:=P.C) (a:=x) (by omega);obtain⟨Z,_⟩:=K.first (c:=n) (by omega)
  refine⟨?_,?_⟩
  ·have U:=hH n Z hn;have h4:=List.count_pos_iff.2 X;rw[List.count_cons,if_neg (by intro R;have:=eq_of_beq R;omega)] at U;exact List.count_pos_iff.1 (by omega)
  ·show (P.C.put c (1-1)).get (n:Int)=1;rw[m n hn,if_neg (by omega)];exact Y
 ·have p:a<P.C.n:=by
   have:a<(P.C.put c (1-1)).n:=p;rw[P.C.Zf] at this;exact this
  have f:(P.C.put c (1-1)).get (a:Int)≠0:=f;rw[m a p] at f;have d:a≠c:=λe=>by rw[if_pos e] at f;exact f rfl
  rw[if_neg d] at f;exact qf0 J (K.loc a p f λh=>G (Fg.2 ⟨h,by omega⟩))
 ·refine⟨λx y=>J x,λx y W=>?_,q9y h0,P.C.Zf _ _⟩;obtain⟨n,rfl,hn⟩:=Uc y;have d:n≠c:=λe=>by subst e;omega
  refine⟨?_,Q _ (by omega),⟨λh=>Fg.2 ⟨h,by omega⟩,λh=>(Fg.1 h).1⟩⟩;show _<=(P.C.put c (1-1)).get (n:Int);rw[m n hn,if_neg d];exact Int.le_refl _
theorem Keep.perm (K:Keep D S0 C0 O H P){H':List Int}(h:∀a:Nat,0<a->a<P.C.n->H'.count (a:Int)=H.count (a:Int)):Keep D S0 C0 O H' P:=
 ⟨K.Ze,K.laid,K.Vz.perm h,λx b=>by
  obtain⟨d,e⟩:=K.opened x b;obtain⟨n,rfl,hn⟩:=Uc (C:=P.C) (a:=x) (by omega);obtain⟨f,_⟩:=K.first (c:=n) (by omega)
  have m:=h n f hn;have p:=List.count_pos_iff.2 d;exact⟨List.count_pos_iff.1 (by omega),e⟩,K.loc⟩
end
