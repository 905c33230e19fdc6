/- A pool some of whose nodes are open: their kids are held by who changes them -/
import Derived.Test.YtnnbaihfboacoaaGreatDoorEu25
namespace Go.Proofs.YtnnbaihfboacoaaGreatDoor
open Go Go.RowKit Go.Proofs
def Pl.hide (P:Pl)(D:DM)(O:List Int):Int->Nd × Int:=λa=>if a∈O then (Jh,1) else P.store D a
def Nd.enough (N:Nd):Prop:=(if N.lvl=0 then 3 else 6)<=N.items.length+N.kids.length
structure Loc (R:Int->Nd × Int)(a:Int):Prop where
 err:(R a).2=0
 may:(R a).1.may=true
 bare:∀x∈(R a).1.items,Ko x=none
 kids:∀x∈(R a).1.kids,(R x.a).2=0/\(R x.a).1.lvl+1=(R a).1.lvl/\(R x.a).1.least=x.k/\(R x.a).1.enough
structure Keep (D:DM)(S0:Sp)(C0:Ct)(O H:List Int)(P:Pl):Prop where
 Zt:Kq D P S0 C0
 laid:∀a:Nat,P.C.fresh (a:Int)=true->∃b,P.L a=some b
 Uc:Jo P.C.n P.cnt (λb=>(P.hide D O (b:Int)).1.named) H
 opened:∀x∈O,x∈H/\P.C.get x=1/\P.Zh D x=0
 loc:∀a:Nat,a<P.C.n->P.C.get (a:Int)≠0->(a:Int)∉O->Loc (P.hide D O) (a:Int)
def Ext (R R':Int->Nd × Int):Prop:=∀a,(R a).2=0->R' a=R a
theorem Ext.refl (R:Int->Nd × Int):Ext R R:=λ_ _=>rfl
theorem Ext.trans {R R' R'':Int->Nd × Int}(h:Ext R R')(h2:Ext R' R''):Ext R R'':=λa b=>by
 have h1:=h a b;rw[h2 a (by rw[h1];exact b),h1]
theorem Loc.ext {R R':Int->Nd × Int}{a:Int}(h:Loc R a)(e:Ext R R'):Loc R' a:=by
 have b:=e a h.err;refine⟨by rw[b];exact h.err,by rw[b];exact h.may,by rw[b];exact h.bare,λx d=>?_⟩;rw[b] at d ⊢;obtain⟨f,p,u,y⟩:=h.kids x d;have m:=e x.a f;rw[m];exact⟨f,p,u,y⟩
def Bc (l:Int)(D:DM)(O b:List Int)(P P':Pl):Prop:=∀x,P.C.get x≠0->l<(P.Qh D x).lvl->P.C.get x<=P'.C.get x/\P'.Qh D x=P.Qh D x/\(x∈O↔x∈b)
structure Move (l:Int)(D:DM)(O O':List Int)(P P':Pl)(k:Nat):Prop where
 ext:Ext (P.hide D O) (P'.hide D O')
 above:Bc l D O O' P P'
 free:P.C.free<=P'.C.free+k
 n:P'.C.n=P.C.n
theorem Bc.trans {l:Int}{D:DM}{O O' O'':List Int}{P P' P'':Pl}(hb:∀x,0<=P.C.get x)(h:Bc l D O O' P P')(h2:Bc l D O' O'' P' P''):Bc l D O O'' P P'':=λx e b=>by
 obtain⟨m,d,f⟩:=h x e b;have:=hb x;obtain⟨j1,j2,j3⟩:=h2 x (by omega) (by rw[d];exact b);exact⟨by omega,j2.trans d,f.trans j3⟩
theorem Move.refl (l:Int)(D:DM)(O:List Int)(P:Pl):Move l D O O P P 0:=⟨Ext.refl _,λ_ _ _=>⟨Int.le_refl _,rfl,Iff.rfl⟩,Nat.le_refl _,rfl⟩
theorem Move.trans {l:Int}{D:DM}{O O' O'':List Int}{P P' P'':Pl}{k k':Nat}(hb:∀x,0<=P.C.get x)(h:Move l D O O' P P' k)(h2:Move l D O' O'' P' P'' k'):Move l D O O'' P P'' (k+k'):=
 ⟨h.ext.trans h2.ext,h.above.trans hb h2.above,by have:=h.free;have:=h2.free;omega,h2.n.trans h.n⟩
theorem Move.more {l:Int}{D:DM}{O O':List Int}{P P':Pl}{k k':Nat}(h:Move l D O O' P P' k)(hk:k<=k'):Move l D O O' P P' k':=⟨h.ext,h.above,by have:=h.free;omega,h.n⟩
section
variable {D:DM}{S0:Sp}{C0:Ct}{O H:List Int}{P:Pl}
theorem qe4 {C:Ct}{c:Nat}{x:Int}(h0:C.get (c:Int)≠0):C.free<=(C.put c x).free:=by
 have hn:nm C.now c≠0:=λe=>h0 (by unfold Ct.get;split;exact e;rfl)
 unfold Ct.free Ct.Jw;rw[C.Zi];refine List.countP_mono_left λj _ b=>?_
 have m:j≠c:=λe=>by
  subst e;unfold Ct.may Ct.U3 at b;simp at b;exact hn b.2.1
 unfold Ct.may Ct.U3 at b ⊢;have d:nm (C.put c x).now j=nm C.now j:=q56 C.now c j x (λe=>m e.symm);have f:(C.put c x).first=C.first:=by unfold Ct.first;rw[C.Zi]
 rw[d,f];exact b
theorem Pe {x:Int}(h:x∈O):P.hide D O x=(Jh,1):=if_pos h
theorem q1z {x:Int}(h:x∉O):P.hide D O x=P.store D x:=if_neg h
theorem q32 {x:Int}(h:(P.hide D O x).2=0):x∉O/\(P.store D x).2=0/\∃n:Nat,x=(n:Int)/\n<P.C.n/\P.C.get (n:Int)≠0:=by
 by_cases e:x∈O
 ·rw[Pe e] at h;cases h
 ·rw[q1z e] at h;exact⟨e,h,q4q h⟩
theorem q0z {x:Int}(h:P.C.get x=0):P.store D x=(Jh,1):=by
 unfold Pl.store Pl.Qh Pl.Zh;rw[if_pos h,if_pos h]
theorem q3l {R:Int->Nd × Int}{a:Int}(h:Loc R a):(R a).1.named=(R a).1.kids.map (·.a):=by
 unfold Nd.named;rw[List.filterMap_eq_nil_iff.2 h.bare,List.append_nil]
theorem Keep.named (K:Keep D S0 C0 O H P){b:Nat}(hb:b<P.C.n){a:Nat}(hm:(a:Int)∈(P.hide D O (b:Int)).1.named):P.C.get (b:Int)≠0/\(b:Int)∉O/\(P.hide D O (a:Int)).2=0:=by
 have h0:P.C.get (b:Int)≠0/\(b:Int)∉O:=by
  refine⟨λe=>?_,λe=>?_⟩
  ·by_cases d:(b:Int)∈O
   ·rw[Pe d] at hm;cases hm
   ·rw[q1z d,q0z e] at hm;cases hm
  ·rw[Pe e] at hm;cases hm
 have L:=K.loc b hb h0.1 h0.2;rw[q3l L] at hm;obtain⟨x,f,e⟩:=List.mem_map.1 hm;have:=(L.kids x f).1;rw[e] at this;exact⟨h0.1,h0.2,this⟩
theorem Keep.c (K:Keep D S0 C0 O H P):P.C.ok:=K.Zt.ok.c
theorem Keep.first (K:Keep D S0 C0 O H P){c:Nat}(h0:P.C.get (c:Int)≠0):0<c/\c<P.C.n:=by
 obtain⟨h1,h2,b⟩:=Ct.Kw K.Zt.ok.res h0;have d:P.C.first=2+2*Qe P.C.n:=rfl
 rw[Int.toNat_natCast] at b;omega
theorem Keep.once (K:Keep D S0 C0 O H P){c:Nat}(h1:P.C.get (c:Int)=1)(hc:(c:Int)∈H):H.count (c:Int)=1/\∀b:Nat,b<P.C.n->(c:Int)∉(P.hide D O (b:Int)).1.named:=by
 obtain⟨c0,p⟩:=K.first (c:=c) (by omega)
 have h:=K.Uc.eq c c0 p;have m:P.cnt c=1:=by unfold Pl.cnt;rw[h1];rfl
 have B:=List.count_pos_iff.2 hc;refine⟨by omega,λb d hm=>?_⟩;obtain⟨y,_,_⟩:=K.named d hm;have u:=qdn (f:=λb=>if 1<=P.cnt b then ((P.hide D O (b:Int)).1.named).count (c:Int) else 0) d;have A:=List.count_pos_iff.2 hm;rw[if_pos ((qaa K.c).2 y)] at u;have e:refs (λb=>(P.hide D O (b:Int)).1.named) P.C.n P.cnt c=sumTo P.C.n λb=>if 1<=P.cnt b then ((P.hide D O (b:Int)).1.named).count (c:Int) else 0:=rfl
 omega
theorem Keep.told (K:Keep D S0 C0 O H P){x:Int}(hx:P.C.get x≠0)(ho:x∉O):Loc (P.hide D O) x:=by
 obtain⟨n,rfl,hn⟩:=Ae hx;exact K.loc n hn hx ho
theorem q2g {c x:Int}(h:x≠c):P.hide D (c::O) x=P.hide D O x:=by
 unfold Pl.hide;have:x∈c::O↔x∈O:=by simp[h]
 by_cases e:x∈O
 ·rw[if_pos e,if_pos (this.2 e)]
 ·rw[if_neg e,if_neg λh=>e (this.1 h)]
theorem Keep.open_ (K:Keep D S0 C0 O H P){c:Nat}(h1:P.C.get (c:Int)=1)(hc:(c:Int)∈H)(ho:(c:Int)∉O):Keep D S0 C0 ((c:Int)::O) ((P.Qh D (c:Int)).kids.map (·.a)++H) P:=by
 obtain⟨c0,I⟩:=K.first (c:=c) (by omega)
 obtain⟨_,h2⟩:=K.once h1 hc;have L:=K.told (x:=(c:Int)) (by omega) ho;have E:P.hide D O (c:Int)=P.store D (c:Int):=q1z ho;have A:=q3l L;rw[E] at A;have A:(P.Qh D (c:Int)).named=(P.Qh D (c:Int)).kids.map (·.a):=A;refine⟨K.Zt,K.laid,?_,λx d=>?_,λa G h0 m=>?_⟩
 ·have B:=K.Uc.set (c:=c) (ks:=[]) (H0:=H) (K':=λb=>(P.hide D ((c:Int)::O) (b:Int)).1.named) I (by unfold Pl.cnt;rw[h1];decide) (λa _ _=>by simp) (by show (P.hide D ((c:Int)::O) (c:Int)).1.named=[];rw[Pe (List.mem_cons_self ..)];rfl) (λb U u=>by
   show (P.hide D ((c:Int)::O) (b:Int)).1.named=_;rw[q2g (by omega)])
  have B:Jo P.C.n P.cnt (λb=>(P.hide D ((c:Int)::O) (b:Int)).1.named) ((P.hide D O (c:Int)).1.named++H):=B;rw[E] at B;rw[<-A];exact B
 ·rcases List.mem_cons.1 d with rfl|d
  ·refine⟨List.mem_append_right _ hc,h1,?_⟩;have:=L.err;rw[E] at this;exact this
  ·obtain⟨J,Q,T⟩:=K.opened x d;exact⟨List.mem_append_right _ J,Q,T⟩
 ·have u:(a:Int)≠(c:Int):=λe=>m (e▸List.mem_cons_self ..)
  have p:(a:Int)∉O:=λh=>m (List.mem_cons_of_mem _ h)
  have f:=K.loc a G h0 p;have y:=q2g (P:=P) (D:=D) (O:=O) u;refine⟨by rw[y];exact f.err,by rw[y];exact f.may,by rw[y];exact f.bare,λx d=>?_⟩;rw[y] at d ⊢;have F:x.a≠(c:Int):=λe=>h2 a G (by rw[q3l f,<-e];exact List.mem_map_of_mem d)
  rw[q2g F];exact f.kids x d
theorem q4r (K:Keep D S0 C0 O H P){c:Nat}(h1:P.C.get (c:Int)=1)(d:(c:Int)∈H):∀(l:Nat) (a:Int) (its:List Qc),a≠(c:Int)->Qp (P.hide D O) l a its->Qp (P.hide D ((c:Int)::O)) l a its
 |0,a,its,hne,h=>⟨by rw[q2g hne];exact h.1,h.2⟩
 |l+1,a,its,hne,h=>by
  obtain⟨kids,parts,e,u,y,A,f⟩:=h;refine⟨kids,parts,by rw[q2g hne];exact e,u,y,A,λj b=>⟨q4r K h1 d l _ _ (λm=>?_) (f j b).1,(f j b).2⟩⟩;obtain⟨p,_,n,rfl,hn,h0⟩:=q32 (P:=P) (D:=D) (O:=O) (x:=a) (by rw[e]);have L:=K.loc n hn h0 p;refine (K.once h1 d).2 n hn ?_;rw[q3l L,e,<-m];exact List.mem_map_of_mem (List.mem_of_getElem? (Rf b))
theorem qg1 {c:Nat}{x:Int}(m:c<P.C.n)(h0:P.C.get (c:Int)≠0)(d:x≠0)(b:Int):Pl.store ⟨P.S,P.C.put c x,P.L⟩ D b=P.store D b:=by
 by_cases f:0<=b/\b<(P.C.n:Int)
 ·obtain⟨n,rfl⟩:∃n:Nat,b=(n:Int):=⟨b.toNat,by omega⟩;have hn:n<P.C.n:=by omega
  have p:(P.C.put c x).get (n:Int)=if n=c then x else P.C.get (n:Int):=q2q P.C n hn
  unfold Pl.store Pl.Qh Pl.Zh Pl.live;show ((if (P.C.put c x).get (n:Int)=0 then Jh else match (if (P.C.put c x).get (((n:Int).toNat:Nat):Int)=0 then none else P.L (n:Int).toNat) with|some (.node N)=>N|some (.bytes _ _)=>Jh|none=>_),(if (P.C.put c x).get (n:Int)=0 then 1 else match (if (P.C.put c x).get (((n:Int).toNat:Nat):Int)=0 then none else P.L (n:Int).toNat) with|some (.node _)=>(0:Int)|some (.bytes _ _)=>1|none=>_))=_;rw[Int.toNat_natCast,p];by_cases e:n=c
  ·subst e;rw[if_pos rfl,if_neg d,if_neg d,if_neg d,if_neg h0,if_neg h0,if_neg h0];rfl
  ·rw[if_neg e];rfl
 ·have h1:P.C.get b=0:=by unfold Ct.get;rw[if_neg f]
  have h2:(P.C.put c x).get b=0:=by unfold Ct.get;rw[P.C.Zi,if_neg f]
  rw[q0z h1];exact q0z (P:=⟨P.S,P.C.put c x,P.L⟩) h2
theorem qac {c:Nat}{x:Int}(d:c<P.C.n)(h0:P.C.get (c:Int)≠0){a:Nat}(h:(P.C.put c x).fresh (a:Int)=true):P.C.fresh (a:Int)=true:=by
 have b:a<P.C.n:=by
  have:=q31 h;obtain⟨n,e,hn⟩:=Ae this;rw[P.C.Zi] at hn;omega
 unfold Ct.fresh at h ⊢;rw[q2q P.C a b] at h;by_cases e:a=c
 ·subst e;rw[if_pos rfl] at h;rw[if_neg h0];split at h
  ·cases h
  ·exact h
 ·rw[if_neg e] at h;exact h
theorem qp8 {S0:Sp}{C0:Ct}(h:Sound D P S0 C0)(c:Nat)(x:Int):Sound D ⟨P.S,P.C.put c x,P.L⟩ S0 C0:=by
 have b:(P.C.put c x).n=P.C.n:=P.C.Zi c x;have H:=h.holds;exact⟨h.free,h.n.trans b.symm,h.Vr,⟨H.may,H.gen,H.sec.trans (by rw[b]),H.c,H.res,H.n.trans b.symm,H.slot,H.other,λi d=>by
  have:=H.area i (by rw[b] at d;exact d);show D.Jp (Qo (P.C.put c x).n P.S.gen+i)=Zr (Uh (P.C.put c x).n P.S.gen i) (C0.body (i:Int));rw[b];exact this⟩⟩
theorem qad {S0:Sp}{C0:Ct}(h:Kq D P S0 C0){c:Nat}{x:Int}(d:P.C.first<=c)(b:0<=x/\x<=65535):Kq D ⟨P.S,P.C.put c x,P.L⟩ S0 C0:=
 ⟨⟨Ct.G9 h.ok.c c x b.1 b.2,Ct.Au h.ok.res x d,h.ok.may,by show P.S.Qb=((P.C.put c x).n:Int);rw[P.C.Zi];exact h.ok.sec,h.ok.gen,h.ok.fine⟩,qp8 h.sound c x,h.nodes⟩
theorem qy0 {c:Nat}(h0:P.C.get (c:Int)≠0)(h1:P.C.get (c:Int)≠65535):P.C.Y8 (c:Int)=0/\P.C.ref (c:Int)=P.C.put c (P.C.get (c:Int)+1):=by
 have e:P.C.Y8 (c:Int)=0:=by unfold Ct.Y8;rw[if_neg h0,if_neg h1]
 refine⟨e,?_⟩;unfold Ct.ref;rw[if_pos e,Int.toNat_natCast]
theorem qe5 {c:Nat}(h0:P.C.get (c:Int)≠0):P.C.Jz (c:Int)=0/\P.C.Qy (c:Int)=P.C.put c (P.C.get (c:Int)-1):=by
 refine⟨by unfold Ct.Jz;rw[if_neg h0],?_⟩;unfold Ct.Qy;rw[if_neg h0,Int.toNat_natCast]
theorem qg2 {P':Pl}{O:List Int}(h:∀b,P'.store D b=P.store D b)(b:Int):P'.hide D O b=P.hide D O b:=by
 unfold Pl.hide;rw[h b]
theorem qe6 {R R':Int->Nd × Int}(h:∀b,R' b=R b){a:Int}(L:Loc R a):Loc R' a:=by
 have:R'=R:=funext h;rw[this];exact L
theorem Keep.ref (K:Keep D S0 C0 O H P){c:Nat}(h0:P.C.get (c:Int)≠0)(h1:P.C.get (c:Int)≠65535)(ho:(c:Int)∉O) :
  P.C.Y8 (c:Int)=0/\Keep D S0 C0 O ((c:Int)::H) ⟨P.S,P.C.ref (c:Int),P.L⟩/\∀l,Move l D O O P ⟨P.S,P.C.ref (c:Int),P.L⟩ 0:=by
 obtain⟨J,e⟩:=qy0 h0 h1;obtain⟨c0,y⟩:=K.first h0
 have u:=Ct.Jc K.c (c:Int);have I:=(Ct.Kw K.Zt.ok.res h0).2.2;rw[Int.toNat_natCast] at I;rw[e];have F:∀b,Pl.store ⟨P.S,P.C.put c (P.C.get (c:Int)+1),P.L⟩ D b=P.store D b:=qg1 y h0 (by omega);have E:∀b,Pl.hide ⟨P.S,P.C.put c (P.C.get (c:Int)+1),P.L⟩ D O b=P.hide D O b:=qg2 F;have m:∀b:Nat,b<P.C.n->(P.C.put c (P.C.get (c:Int)+1)).get (b:Int)=if b=c then P.C.get (c:Int)+1 else P.C.get (b:Int):=λb u=>q2q P.C b u
 refine⟨J,⟨qad K.Zt I (by omega),λa f=>K.laid a (qac y h0 f),?_,λx p=>?_,λa f A B=>?_⟩,λl=>?_⟩
 ·show Jo (P.C.put c (P.C.get (c:Int)+1)).n _ _ _;rw[P.C.Zi];refine (K.Uc.ref (c:=c) (cnt':=Pl.cnt ⟨P.S,P.C.put c (P.C.get (c:Int)+1),P.L⟩) ?_ ?_ ?_).same (λ_ _=>rfl) (λb _ _=>by rw[E])
  ·unfold Pl.cnt;omega
  ·unfold Pl.cnt;show ((P.C.put c (P.C.get (c:Int)+1)).get (c:Int)).toNat=_;rw[m c y,if_pos rfl];omega
  ·intro b u d;unfold Pl.cnt;show ((P.C.put c (P.C.get (c:Int)+1)).get (b:Int)).toNat=_;rw[m b u,if_neg d]
 ·obtain⟨T,U,W⟩:=K.opened x p;obtain⟨n,rfl,hn⟩:=Ae (C:=P.C) (a:=x) (by omega);have d:n≠c:=λe=>ho (e▸p)
  refine⟨List.mem_cons_of_mem _ T,?_,?_⟩
  ·show (P.C.put c (P.C.get (c:Int)+1)).get (n:Int)=1;rw[m n hn,if_neg d];exact U
  ·have:=congrArg Prod.snd (F (n:Int));exact this.trans W
 ·have f:a<P.C.n:=by
   have:a<(P.C.put c (P.C.get (c:Int)+1)).n:=f;rw[P.C.Zi] at this;exact this
  refine qe6 E (K.loc a f ?_ B);intro G;refine A ?_;show (P.C.put c (P.C.get (c:Int)+1)).get (a:Int)=0;rw[m a f,if_neg (λ(Q:a=c)=>h0 (by rw[<-Q];exact G))];exact G
 ·refine⟨λx p=>E x,λx p _=>⟨?_,congrArg Prod.fst (F x),Iff.rfl⟩,qe4 h0,P.C.Zi _ _⟩;obtain⟨n,rfl,hn⟩:=Ae p;show _<=(P.C.put c (P.C.get (c:Int)+1)).get (n:Int);rw[m n hn];split
  ·rename_i e;subst e;omega
  ·exact Int.le_refl _
theorem Keep.Qy (K:Keep D S0 C0 O H P){c:Nat}{H0:List Int}(h1:2<=P.C.get (c:Int))(hH:∀a:Nat,0<a->a<P.C.n->H.count (a:Int)=((c:Int)::H0).count (a:Int)) :
  P.C.Jz (c:Int)=0/\Keep D S0 C0 O H0 ⟨P.S,P.C.Qy (c:Int),P.L⟩/\∀l,(P.Qh D (c:Int)).lvl<=l->Move l D O O P ⟨P.S,P.C.Qy (c:Int),P.L⟩ 0:=by
 have h0:P.C.get (c:Int)≠0:=by omega
 obtain⟨Q,e⟩:=qe5 h0;obtain⟨c0,y⟩:=K.first h0
 have p:=Ct.Jc K.c (c:Int);have I:=(Ct.Kw K.Zt.ok.res h0).2.2;rw[Int.toNat_natCast] at I;rw[e];have F:∀b,Pl.store ⟨P.S,P.C.put c (P.C.get (c:Int)-1),P.L⟩ D b=P.store D b:=qg1 y h0 (by omega);have E:∀b,Pl.hide ⟨P.S,P.C.put c (P.C.get (c:Int)-1),P.L⟩ D O b=P.hide D O b:=qg2 F;have m:∀b:Nat,b<P.C.n->(P.C.put c (P.C.get (c:Int)-1)).get (b:Int)=if b=c then P.C.get (c:Int)-1 else P.C.get (b:Int):=λb p=>q2q P.C b p
 refine⟨Q,⟨qad K.Zt I (by omega),λa f=>K.laid a (qac y h0 f),?_,λx u=>?_,λa f A B=>?_⟩,λl hl=>?_⟩
 ·show Jo (P.C.put c (P.C.get (c:Int)-1)).n _ _ _;rw[P.C.Zi];refine (K.Uc.Qy (c:=c) (H0:=H0) (cnt':=Pl.cnt ⟨P.S,P.C.put c (P.C.get (c:Int)-1),P.L⟩) hH ?_ ?_ ?_).same (λ_ _=>rfl) (λb _ _=>by rw[E])
  ·unfold Pl.cnt;omega
  ·unfold Pl.cnt;show ((P.C.put c (P.C.get (c:Int)-1)).get (c:Int)).toNat+1=_;rw[m c y,if_pos rfl];omega
  ·intro b p d;unfold Pl.cnt;show ((P.C.put c (P.C.get (c:Int)-1)).get (b:Int)).toNat=_;rw[m b p,if_neg d]
 ·obtain⟨X,Y,Z⟩:=K.opened x u;obtain⟨n,rfl,hn⟩:=Ae (C:=P.C) (a:=x) (by omega);have d:n≠c:=λe=>by subst e;omega
  obtain⟨n0,_⟩:=K.first (c:=n) (by omega)
  refine⟨?_,?_,?_⟩
  ·have U:=hH n n0 hn;have h4:=List.count_pos_iff.2 X;rw[List.count_cons,if_neg (by intro J;have:=eq_of_beq J;omega)] at U;exact List.count_pos_iff.1 (by omega)
  ·show (P.C.put c (P.C.get (c:Int)-1)).get (n:Int)=1;rw[m n hn,if_neg d];exact Y
  ·have:=congrArg Prod.snd (F (n:Int));exact this.trans Z
 ·have f:a<P.C.n:=by
   have:a<(P.C.put c (P.C.get (c:Int)-1)).n:=f;rw[P.C.Zi] at this;exact this
  refine qe6 E (K.loc a f ?_ B);intro G;refine A ?_;show (P.C.put c (P.C.get (c:Int)-1)).get (a:Int)=0;rw[m a f,if_neg (λ(T:a=c)=>h0 (by rw[<-T];exact G))];exact G
 ·refine⟨λx u=>E x,λx u W=>⟨?_,congrArg Prod.fst (F x),Iff.rfl⟩,qe4 h0,P.C.Zi _ _⟩;obtain⟨n,rfl,hn⟩:=Ae u;have d:n≠c:=λe=>by subst e;omega
  show _<=(P.C.put c (P.C.get (c:Int)-1)).get (n:Int);rw[m n hn,if_neg d];exact Int.le_refl _
theorem qp9 {c:Nat}{x y:Int}(e:y≠(c:Int)):(P.C.put c x).get y=P.C.get y/\Pl.Qh ⟨P.S,P.C.put c x,P.L⟩ D y=P.Qh D y:=by
 have b:(P.C.put c x).get y=P.C.get y:=by
  by_cases d:0<=y/\y<(P.C.n:Int)
  ·obtain⟨n,rfl⟩:∃n:Nat,y=(n:Int):=⟨y.toNat,by omega⟩;rw[q2q P.C n (by omega),if_neg (by omega)]
  ·unfold Ct.get;rw[P.C.Zi,if_neg d,if_neg d]
 refine⟨b,?_⟩;by_cases h0:P.C.get y=0
 ·unfold Pl.Qh;rw[if_pos h0,if_pos (show (P.C.put c x).get y=0 by rw[b];exact h0)]
 ·obtain⟨n,rfl,hn⟩:=Ae h0;unfold Pl.Qh Pl.live;show (if (P.C.put c x).get (n:Int)=0 then Jh else match (if (P.C.put c x).get (((n:Int).toNat:Nat):Int)=0 then none else P.L (n:Int).toNat) with|some (.node N)=>N|some (.bytes _ _)=>Jh|none=>_)=_;rw[Int.toNat_natCast,b];rfl
def less1 (O:List Int)(c:Int):List Int:=O.filter λx=>!(x==c)
theorem Fv {c x:Int}:x∈less1 O c↔x∈O/\x≠c:=by
 unfold less1;rw[List.mem_filter];simp
theorem Keep.drop (K:Keep D S0 C0 O H P){c:Nat}{H0:List Int}(ho:(c:Int)∈O)(hH:∀a:Nat,0<a->a<P.C.n->H.count (a:Int)=((c:Int)::H0).count (a:Int)) :
  P.C.Jz (c:Int)=0/\Keep D S0 C0 (less1 O (c:Int)) H0 ⟨P.S,P.C.Qy (c:Int),P.L⟩/\∀l,(P.Qh D (c:Int)).lvl<=l->Move l D O (less1 O (c:Int)) P ⟨P.S,P.C.Qy (c:Int),P.L⟩ 0:=by
 obtain⟨_,h1,_⟩:=K.opened _ ho;have h0:P.C.get (c:Int)≠0:=by omega
 obtain⟨U,e⟩:=qe5 h0;obtain⟨c0,F⟩:=K.first h0
 have Q:=(Ct.Kw K.Zt.ok.res h0).2.2;rw[Int.toNat_natCast] at Q;rw[e,h1];have m:∀b:Nat,b<P.C.n->(P.C.put c (1-1)).get (b:Int)=if b=c then 0 else P.C.get (b:Int):=λb u=>q2q P.C b u
 have J:∀b,b≠(c:Int)->Pl.store ⟨P.S,P.C.put c (1-1),P.L⟩ D b=P.store D b:=λb d=>by
  by_cases u:0<=b/\b<(P.C.n:Int)
  ·obtain⟨n,rfl⟩:∃n:Nat,b=(n:Int):=⟨b.toNat,by omega⟩;have m:=m n (by omega);rw[if_neg (by omega)] at m;unfold Pl.store Pl.Qh Pl.Zh Pl.live;show ((if (P.C.put c (1-1)).get (n:Int)=0 then Jh else match (if (P.C.put c (1-1)).get (((n:Int).toNat:Nat):Int)=0 then none else P.L (n:Int).toNat) with|some (.node N)=>N|some (.bytes _ _)=>Jh|none=>_),(if (P.C.put c (1-1)).get (n:Int)=0 then 1 else match (if (P.C.put c (1-1)).get (((n:Int).toNat:Nat):Int)=0 then none else P.L (n:Int).toNat) with|some (.node _)=>(0:Int)|some (.bytes _ _)=>1|none=>_))=_;rw[Int.toNat_natCast,m];rfl
  ·have h1:P.C.get b=0:=by unfold Ct.get;rw[if_neg u]
   have h2:(P.C.put c (1-1)).get b=0:=by unfold Ct.get;rw[P.C.Zi,if_neg u]
   rw[q0z h1];exact q0z (P:=⟨P.S,P.C.put c (1-1),P.L⟩) h2
 have A:(P.C.put c (1-1)).get (c:Int)=0:=by rw[m c F,if_pos rfl]
 have I:∀b,Pl.hide ⟨P.S,P.C.put c (1-1),P.L⟩ D (less1 O (c:Int)) b=P.hide D O b:=λb=>by
  by_cases e:b=(c:Int)
  ·subst e;rw[Pe ho,q1z (λh=>(Fv.1 h).2 rfl)];exact q0z (P:=⟨P.S,P.C.put c (1-1),P.L⟩) A
  ·unfold Pl.hide;rw[J b e];by_cases B:b∈O
   ·rw[if_pos B,if_pos (Fv.2 ⟨B,e⟩)]
   ·rw[if_neg B,if_neg (λh=>B (Fv.1 h).1)]
 refine⟨U,⟨qad K.Zt Q (by omega),λa p=>K.laid a (qac F h0 p),?_,λx y=>?_,λa p f G=>?_⟩,λl hl=>?_⟩
 ·show Jo (P.C.put c (1-1)).n _ _ _;rw[P.C.Zi];have E:=K.Uc.last (c:=c) (H0:=H0) (cnt':=Pl.cnt ⟨P.S,P.C.put c (1-1),P.L⟩) c0 F hH (by unfold Pl.cnt;rw[h1];rfl) (by
   unfold Pl.cnt;show ((P.C.put c (1-1)).get (c:Int)).toNat=_;rw[A];rfl) (λb u d=>by
   unfold Pl.cnt;show ((P.C.put c (1-1)).get (b:Int)).toNat=_;rw[m b u,if_neg d])
  have E:Jo P.C.n (Pl.cnt ⟨P.S,P.C.put c (1-1),P.L⟩) (λb=>(P.hide D O (b:Int)).1.named) ((P.hide D O (c:Int)).1.named++H0):=E;rw[Pe ho] at E;exact E.same (λ_ _=>rfl) (λb _ _=>by rw[I])
 ·obtain⟨y,d⟩:=Fv.1 y;obtain⟨Y,Z,k3⟩:=K.opened x y;obtain⟨n,rfl,hn⟩:=Ae (C:=P.C) (a:=x) (by omega);obtain⟨n0,_⟩:=K.first (c:=n) (by omega)
  refine⟨?_,?_,?_⟩
  ·have W:=hH n n0 hn;have h4:=List.count_pos_iff.2 Y;rw[List.count_cons,if_neg (by intro T;have:=eq_of_beq T;omega)] at W;exact List.count_pos_iff.1 (by omega)
  ·show (P.C.put c (1-1)).get (n:Int)=1;rw[m n hn,if_neg (by omega)];exact Z
  ·have:=congrArg Prod.snd (J (n:Int) d);exact this.trans k3
 ·have p:a<P.C.n:=by
   have:a<(P.C.put c (1-1)).n:=p;rw[P.C.Zi] at this;exact this
  have f:(P.C.put c (1-1)).get (a:Int)≠0:=f;rw[m a p] at f;have d:a≠c:=λe=>by rw[if_pos e] at f;exact f rfl
  rw[if_neg d] at f;exact qe6 I (K.loc a p f λh=>G (Fv.2 ⟨h,by omega⟩))
 ·refine⟨λx y=>I x,λx y X=>?_,qe4 h0,P.C.Zi _ _⟩;obtain⟨n,rfl,hn⟩:=Ae y;have d:n≠c:=λe=>by subst e;omega
  refine⟨?_,congrArg Prod.fst (J _ (by omega)),⟨λh=>Fv.2 ⟨h,by omega⟩,λh=>(Fv.1 h).1⟩⟩;show _<=(P.C.put c (1-1)).get (n:Int);rw[m n hn,if_neg d];exact Int.le_refl _
theorem Keep.perm (K:Keep D S0 C0 O H P){H':List Int}(h:∀a:Nat,0<a->a<P.C.n->H'.count (a:Int)=H.count (a:Int)):Keep D S0 C0 O H' P:=
 ⟨K.Zt,K.laid,K.Uc.perm h,λx b=>by
  obtain⟨d,e,f⟩:=K.opened x b;obtain⟨n,rfl,hn⟩:=Ae (C:=P.C) (a:=x) (by omega);obtain⟨m,_⟩:=K.first (c:=n) (by omega)
  have p:=h n m hn;have u:=List.count_pos_iff.2 d;exact⟨List.count_pos_iff.1 (by omega),e,f⟩,K.loc⟩
end
structure Fits (R:Int->Nd × Int)(N:Nd):Prop where
 may:N.may=true
 bare:∀x∈N.items,Ko x=none
 kids:∀x∈N.kids,(R x.a).2=0/\(R x.a).1.lvl+1=N.lvl/\(R x.a).1.least=x.k/\(R x.a).1.enough
theorem Fits.ext {R R':Int->Nd × Int}{N:Nd}(h:Fits R N)(e:Ext R R'):Fits R' N:=
 ⟨h.may,h.bare,λx d=>by
  obtain⟨b,f,m,p⟩:=h.kids x d;rw[e x.a b];exact⟨b,f,m,p⟩⟩
theorem Fits.named {R:Int->Nd × Int}{N:Nd}(h:Fits R N):N.named=N.kids.map (·.a):=by
 unfold Nd.named;rw[List.filterMap_eq_nil_iff.2 h.bare,List.append_nil]
theorem Fits.loc {R R':Int->Nd × Int}{N:Nd}{a:Int}(h:Fits R N)(e:Ext R R')(ha:R' a=(N,0)):Loc R' a:=by
 have h2:=h.ext e;exact⟨by rw[ha],by rw[ha];exact h.may,by rw[ha];exact h.bare,by rw[ha];exact h2.kids⟩
section
variable {D:DM}{S0:Sp}{C0:Ct}{O H:List Int}{P:Pl}
theorem Keep.Ew (_K:Keep D S0 C0 O H P){N:Nd}(hN:Fits (P.hide D O) N){x:Int}(hx:(P.hide D O x).2≠0):x∉N.named:=λh=>by
 rw[hN.named] at h;obtain⟨y,b,e⟩:=List.mem_map.1 h;have:=(hN.kids y b).1;rw[e] at this;exact hx this
theorem Keep.set (K:Keep D S0 C0 O H P){c:Nat}(ho:(c:Int)∈O)(hfr:P.C.fresh (c:Int)=true){N:Nd}(hN:Fits (P.hide D O) N){H0:List Int}(hH:∀a:Nat,0<a->a<P.C.n->H.count (a:Int)=N.named.count (a:Int)+H0.count (a:Int)) :
  P.Gw (c:Int) N=0/\Keep D S0 C0 (less1 O (c:Int)) H0 (P.Vq (c:Int) N)/\(P.Vq (c:Int) N).hide D (less1 O (c:Int)) (c:Int)=(N,0)/\(∀l,(P.Qh D (c:Int)).lvl<=l->Move l D O (less1 O (c:Int)) P (P.Vq (c:Int) N) 0)/\(P.Vq (c:Int) N).C=P.C/\∀x,x≠(c:Int)->(P.Vq (c:Int) N).Qh D x=P.Qh D x:=by
 obtain⟨a6,h1,a2⟩:=K.opened _ ho;have h0:P.C.get (c:Int)≠0:=by omega
 obtain⟨c0,Z⟩:=K.first h0
 obtain⟨b,I⟩:=K.laid c hfr;have Q:P.live c=some b:=by unfold Pl.live;rw[if_neg h0];exact I
 have hE:=qju D h0 Q;have u:isNode (P.L ((c:Int)).toNat)=true:=by
  rw[Int.toNat_natCast,I]
  cases b with
  |node M=>rfl
  |bytes k l=>
   have:bkE (Bk.bytes k l)=1:=rfl;rw[this] at hE;omega
 have Y:P.Ee (c:Int) N=true:=by
  unfold Pl.Ee;rw[hN.may,hfr,u];rfl
 have e1:P.Gw (c:Int) N=0:=if_pos Y;have e2:P.Vq (c:Int) N=⟨P.S,P.C,upd P.L c (some (.node N))⟩:=by
  unfold Pl.Vq;rw[if_pos Y,Int.toNat_natCast]
 rw[e2];refine⟨e1,?_⟩;have m:∀x,x≠(c:Int)->Pl.store ⟨P.S,P.C,upd P.L c (some (.node N))⟩ D x=P.store D x:=λx d=>by
  by_cases J:P.C.get x=0
  ·rw[q0z J];exact q0z (P:=⟨P.S,P.C,upd P.L c (some (.node N))⟩) J
  ·obtain⟨n,rfl,hn⟩:=Ae J;unfold Pl.store Pl.Qh Pl.Zh Pl.live;show ((if P.C.get (n:Int)=0 then Jh else match (if P.C.get (((n:Int).toNat:Nat):Int)=0 then none else upd P.L c (some (.node N)) (n:Int).toNat) with|some (.node N)=>N|some (.bytes _ _)=>Jh|none=>_),(if P.C.get (n:Int)=0 then 1 else match (if P.C.get (((n:Int).toNat:Nat):Int)=0 then none else upd P.L c (some (.node N)) (n:Int).toNat) with|some (.node _)=>(0:Int)|some (.bytes _ _)=>1|none=>_))=_;rw[Int.toNat_natCast,Ar _ _ (λe=>d (by rw[e]))];rfl
 have U:Pl.store ⟨P.S,P.C,upd P.L c (some (.node N))⟩ D (c:Int)=(N,0):=by
  unfold Pl.store Pl.Qh Pl.Zh Pl.live;show ((if P.C.get (c:Int)=0 then Jh else match (if P.C.get (((c:Int).toNat:Nat):Int)=0 then none else upd P.L c (some (.node N)) (c:Int).toNat) with|some (.node N)=>N|some (.bytes _ _)=>Jh|none=>_),(if P.C.get (c:Int)=0 then 1 else match (if P.C.get (((c:Int).toNat:Nat):Int)=0 then none else upd P.L c (some (.node N)) (c:Int).toNat) with|some (.node _)=>(0:Int)|some (.bytes _ _)=>1|none=>_))=_;rw[Int.toNat_natCast,Aw,if_neg h0,if_neg h0,if_neg h0]
 have T:(c:Int)∉less1 O (c:Int):=λh=>(Fv.1 h).2 rfl
 have p:Pl.hide ⟨P.S,P.C,upd P.L c (some (.node N))⟩ D (less1 O (c:Int)) (c:Int)=(N,0):=by rw[q1z T];exact U
 have X:∀x,x≠(c:Int)->Pl.hide ⟨P.S,P.C,upd P.L c (some (.node N))⟩ D (less1 O (c:Int)) x=P.hide D O x:=λx d=>by
  unfold Pl.hide;rw[m x d];by_cases A:x∈O
  ·rw[if_pos A,if_pos (Fv.2 ⟨A,d⟩)]
  ·rw[if_neg A,if_neg (λh=>A (Fv.1 h).1)]
 have y:Ext (P.hide D O) (Pl.hide ⟨P.S,P.C,upd P.L c (some (.node N))⟩ D (less1 O (c:Int))):=λx d=>X x λe=>by
  rw[e,Pe ho] at d
  cases d
 have W:(c:Int)∉N.named:=K.Ew hN (by rw[Pe ho];decide);refine⟨⟨⟨⟨K.Zt.ok.c,K.Zt.ok.res,K.Zt.ok.may,K.Zt.ok.sec,K.Zt.ok.gen,λa x d=>?_⟩,?_,λa x d=>?_⟩,λa E=>?_,?_,λx d=>?_,λa E F G=>?_⟩,p,λl hl=>⟨y,λx d a1=>?_,Nat.le_refl _,rfl⟩,rfl,λx d=>congrArg Prod.fst (m x d)⟩
 ·have d:upd P.L c (some (.node N)) a=some x:=d;by_cases e:a=c
  ·subst e;rw[Aw] at d;obtain rfl:=Option.some.inj d;exact qa7 hN.may
  ·rw[Ar _ _ e] at d;exact K.Zt.ok.fine a x d
 ·have:=K.Zt.sound;exact⟨this.free,this.n,this.Vr,⟨this.holds.may,this.holds.gen,this.holds.sec,this.holds.c,this.holds.res,this.holds.n,this.holds.slot,this.holds.other,this.holds.area⟩⟩
 ·have d:upd P.L c (some (.node N)) a=some x:=d;by_cases e:a=c
  ·subst e;rw[Aw] at d;obtain rfl:=Option.some.inj d;exact⟨N,rfl,hN.may⟩
  ·rw[Ar _ _ e] at d;exact K.Zt.nodes a x d
 ·show ∃b,upd P.L c (some (.node N)) a=some b;by_cases e:a=c
  ·subst e;exact⟨_,Aw _ _ _⟩
  ·rw[Ar _ _ e];exact K.laid a E
 ·have B:=K.Uc.set (c:=c) (ks:=N.named) (H0:=H0) (K':=λb=>(Pl.hide ⟨P.S,P.C,upd P.L c (some (.node N))⟩ D (less1 O (c:Int)) (b:Int)).1.named) Z (by unfold Pl.cnt;omega) hH (by show (Pl.hide ⟨P.S,P.C,upd P.L c (some (.node N))⟩ D (less1 O (c:Int)) (c:Int)).1.named=_;rw[p]) (λb I f=>by
   show (Pl.hide ⟨P.S,P.C,upd P.L c (some (.node N))⟩ D (less1 O (c:Int)) (b:Int)).1.named=_;rw[X _ (by omega)])
  have B:Jo P.C.n P.cnt (λb=>(Pl.hide ⟨P.S,P.C,upd P.L c (some (.node N))⟩ D (less1 O (c:Int)) (b:Int)).1.named) ((P.hide D O (c:Int)).1.named++H0):=B;rw[Pe ho] at B;exact B
 ·obtain⟨d,f⟩:=Fv.1 d;obtain⟨k1,k2,k3⟩:=K.opened x d;obtain⟨n,rfl,hn⟩:=Ae (C:=P.C) (a:=x) (by omega);obtain⟨n0,_⟩:=K.first (c:=n) (by omega)
  refine⟨?_,k2,?_⟩
  ·have h3:=hH n n0 hn;have h4:=List.count_pos_iff.2 k1;have h5:N.named.count (n:Int)=0:=List.count_eq_zero.2 (K.Ew hN (by rw[Pe d];decide));exact List.count_pos_iff.1 (by omega)
  ·have:=congrArg Prod.snd (m (n:Int) f);exact this.trans k3
 ·by_cases e:a=c
  ·subst e;exact hN.loc y p
  ·exact (K.loc a E F λh=>G (Fv.2 ⟨h,by omega⟩)).ext y
 ·have f:x≠(c:Int):=λe=>by subst e;omega
  exact⟨Int.le_refl _,congrArg Prod.fst (m x f),⟨λh=>Fv.2 ⟨h,f⟩,λh=>(Fv.1 h).1⟩⟩
theorem Keep.put (K:Keep D S0 C0 O H P){c:Nat}(hp:P.C.pick=some c){N:Nd}(hN:Fits (P.hide D O) N){H0:List Int}(hH:∀a:Nat,0<a->a<P.C.n->H.count (a:Int)=N.named.count (a:Int)+H0.count (a:Int)) :
  P.Jq N=0/\P.Xg N=(c:Int)/\Keep D S0 C0 O ((c:Int)::H0) (P.Zn N)/\(P.Zn N).hide D O (c:Int)=(N,0)/\(∀l,Move l D O O P (P.Zn N) 1)/\1<=c/\c<2048:=by
 obtain⟨W,p2,p3,p4,_⟩:=Ct.Xk hp;obtain⟨v1,v2,v3⟩:=q6s hp hN.may;have T:P.C.get (c:Int)=0:=by
  unfold Ct.get;rw[if_pos (by omega),Int.toNat_natCast];exact p3
 have Y:P.C.first=2+2*Qe P.C.n:=rfl
 have B:(c:Int)∉O:=λh=>by
  have:=(K.opened _ h).2.1;omega
 have u:=λb (A:b<P.C.n)=>qdm hp (.node N) b A
 have G:=qfc hp (.node N);have hn:(P.Zn N).C.n=P.C.n:=by rw[v3];exact qo1 _
 obtain⟨s1,_,s3⟩:=K.Zt.put hN.may (by have:=Ct.Uz hp;omega);have p:(P.Zn N).hide D O (c:Int)=(N,0):=by rw[q1z B];exact qa6 D hp hN.may
 have E:∀x,x≠(c:Int)->(P.Zn N).store D x=P.store D x:=λx m=>by
  by_cases A:0<=x/\x<(P.C.n:Int)
  ·obtain⟨n,rfl⟩:∃n:Nat,x=(n:Int):=⟨x.toNat,by omega⟩;have u:=u n (by omega);have G:=G n;rw[if_neg (by omega)] at u G;rw[v3];unfold Pl.store Pl.Qh Pl.Zh Pl.live;rw[Int.toNat_natCast,u,G]
  ·have h1:P.C.get x=0:=by unfold Ct.get;rw[if_neg A]
   have h2:(P.Zn N).C.get x=0:=by unfold Ct.get;rw[hn,if_neg A]
   rw[q0z h1,q0z h2]
 have U:∀x,x≠(c:Int)->(P.Zn N).hide D O x=P.hide D O x:=λx m=>by
  unfold Pl.hide;rw[E x m]
 have F:Ext (P.hide D O) ((P.Zn N).hide D O):=λx m=>U x λe=>by
  rw[e,q1z B,q0z T] at m
  cases m
 have X:=K.c.1.2;refine⟨v2,v1,⟨s1,λa f=>?_,?_,λx m=>?_,λa f I Q=>?_⟩,p,λl=>⟨F,λx m _=>?_,by omega,hn⟩,by omega,by omega⟩
 ·rw[v3,G a];by_cases e:a=c
  ·exact⟨_,if_pos e⟩
  ·rw[if_neg e];refine K.laid a ?_;rw[v3,q37 hp] at f;have f:P.C.alloc.fresh (a:Int)=true:=f;rw[(Ct.Xv hp).2.2] at f;have J:a<P.C.n:=by
    obtain⟨n,e1,h2⟩:=Ae (q31 f);rw[P.C.Zi] at h2;omega
   unfold Ct.fresh at f ⊢;rw[q2q P.C a J,if_neg e] at f;exact f
 ·rw[hn];refine K.Uc.put (c:=c) (ks:=N.named) (H0:=H0) (cnt':=(P.Zn N).cnt) (by omega) W (by unfold Pl.cnt;rw[T];rfl) hH ?_ ?_ ?_ ?_
  ·unfold Pl.cnt;rw[v3,u c W,if_pos rfl];rfl
  ·intro b A d;unfold Pl.cnt;rw[v3,u b A,if_neg d]
  ·show ((P.Zn N).hide D O (c:Int)).1.named=_;rw[p]
  ·intro b A d;show ((P.Zn N).hide D O (b:Int)).1.named=_;rw[U _ (by omega)]
 ·obtain⟨Z,k2,k3⟩:=K.opened x m;obtain⟨n,rfl,y⟩:=Ae (C:=P.C) (a:=x) (by omega);obtain⟨n0,_⟩:=K.first (c:=n) (by omega)
  have d:n≠c:=λe=>B (e▸m)
  refine⟨List.mem_cons_of_mem _ ?_,?_,?_⟩
  ·have h3:=hH n n0 y;have h4:=List.count_pos_iff.2 Z;have h5:N.named.count (n:Int)=0:=List.count_eq_zero.2 (K.Ew hN (by rw[Pe m];decide));exact List.count_pos_iff.1 (by omega)
  ·rw[v3,u n y,if_neg d];exact k2
  ·have:=congrArg Prod.snd (E (n:Int) (by omega));exact this.trans k3
 ·rw[hn] at f;by_cases e:a=c
  ·subst e;exact hN.loc F p
  ·rw[v3,u a f,if_neg e] at I;exact (K.loc a f I Q).ext F
 ·obtain⟨n,rfl,y⟩:=Ae m;have d:n≠c:=λe=>m (by rw[e];exact T)
  refine⟨?_,congrArg Prod.fst (E _ (by omega)),Iff.rfl⟩;rw[v3,u n y,if_neg d];exact Int.le_refl _
end
def Nd.size (N:Nd):Nat:=N.items.length+N.kids.length
def Qr (l:Int):Nat:=if l=0 then 3 else 6
def Qq (l:Int):Nat:=if l=0 then 6 else 12
def Nd.cut (N:Nd)(i j:Nat):Nd:=if N.lvl=0 then ⟨N.lvl,(N.items.drop i).take (j-i),N.kids⟩ else ⟨N.lvl,N.items,(N.kids.drop i).take (j-i)⟩
def Jd (l:Int)(Ns:List Nd):Nd:=⟨l,Ns.flatMap (·.items),Ns.flatMap (·.kids)⟩
def parts (N:Nd):Nat:=(N.size+Qq N.lvl-1) / Qq N.lvl
def pieces (N:Nd):List Nd:=(List.range (parts N)).map λi=>N.cut (N.size*i / parts N) (N.size*(i+1) / parts N)
def good1 (R:Int->Nd × Int)(l:Nat)(x:Zw):Prop:=Qp R l x.1 x.2/\(R x.1).1.enough/\1<=x.1/\x.1<2048
def Yr (R:Int->Nd × Int):Nat->Nd->List (List Qc)->Prop
 |0,N,M=>∃its:List Qc,N=⟨0,its,[]⟩/\M=its.map λx=>[x]
 |l+1,N,M=>∃G:List Zw,N=⟨((l+1:Nat):Int),[],G.map Qn⟩/\M=G.map (·.2)/\∀x∈G,good1 R l x
section
variable {R R':Int->Nd × Int}{l:Nat}{N:Nd}{M:List (List Qc)}
theorem Ig:∀(its:List Qc),(its.map λx=>[x]).flatten=its
 |[]=>rfl
 |x::r=>by rw[List.map_cons,List.flatten_cons,Ig r];rfl
theorem q4s (h:Yr R l N M):N.lvl=(l:Int):=by
 cases l with
 |zero=>obtain⟨its,rfl,_⟩:=h;rfl
 |succ l=>obtain⟨G,rfl,_⟩:=h;rfl
theorem q5l (h:Yr R l N M):N.size=M.length:=by
 cases l with
 |zero=>obtain⟨its,rfl,rfl⟩:=h;simp[Nd.size]
 |succ l=>obtain⟨G,rfl,rfl,_⟩:=h;simp[Nd.size]
theorem q69 (h:Yr R l N M)(i j:Nat):Yr R l (N.cut i j) ((M.drop i).take (j-i)):=by
 cases l with
 |zero=>
  obtain⟨its,rfl,rfl⟩:=h;refine⟨(its.drop i).take (j-i),?_,by rw[List.map_take,List.map_drop]⟩;unfold Nd.cut;rw[if_pos rfl]
 |succ l=>
  obtain⟨G,rfl,rfl,b⟩:=h;refine⟨(G.drop i).take (j-i),?_,by rw[List.map_take,List.map_drop],λx d=>b x (List.mem_of_mem_drop (List.mem_of_mem_take d))⟩;unfold Nd.cut;rw[if_neg (by show ¬((l+1:Nat):Int)=0;omega),List.map_take,List.map_drop]
theorem qwd (R:Int->Nd × Int)(l:Nat):Yr R l ⟨(l:Int),[],[]⟩ []:=by
 cases l with
 |zero=>exact⟨[],rfl,rfl⟩
 |succ l=>exact⟨[],rfl,rfl,λx b=>(by cases b)⟩
theorem qwe {d:Nd}{f:List (List Qc)}(h:Yr R l N M)(h2:Yr R l d f):Yr R l ⟨(l:Int),N.items++d.items,N.kids++d.kids⟩ (M++f):=by
 cases l with
 |zero=>
  obtain⟨its,rfl,rfl⟩:=h;obtain⟨b,rfl,rfl⟩:=h2;exact⟨its++b,rfl,by rw[List.map_append]⟩
 |succ l=>
  obtain⟨G,rfl,rfl,p⟩:=h;obtain⟨m,rfl,rfl,e⟩:=h2;refine⟨G++m,by rw[List.map_append];rfl,by rw[List.map_append],λx u=>?_⟩;rcases List.mem_append.1 u with h|h
  ·exact p x h
  ·exact e x h
theorem qpc (z:Int)(A:Nd)(Ns:List Nd):Jd z (A::Ns)=⟨z,A.items++(Jd z Ns).items,A.kids++(Jd z Ns).kids⟩:=by
 unfold Jd;rw[List.flatMap_cons,List.flatMap_cons]
theorem q6u:∀(b:List (Nd × List (List Qc))),(∀x∈b,Yr R l x.1 x.2)->Yr R l (Jd (l:Int) (b.map (·.1))) (b.map (·.2)).flatten
 |[],_=>qwd R l
 |x::r,h=>by
  rw[List.map_cons,List.map_cons,List.flatten_cons,qpc];exact qwe (h x (List.mem_cons_self ..)) (q6u r λy d=>h y (List.mem_cons_of_mem _ d))
theorem q3m {x:Zw}(h:good1 R l x)(e:Ext R R'):good1 R' l x:=by
 refine⟨P9 e h.1,?_,h.2.2⟩;rw[e x.1 (Fq h.1).2.2];exact h.2.1
theorem qe7 (h:Yr R l N M)(e:Ext R R'):Yr R' l N M:=by
 cases l with
 |zero=>exact h
 |succ l=>
  obtain⟨G,h1,h2,b⟩:=h;exact⟨G,h1,h2,λx d=>q3m (b x d) e⟩
theorem q3n (h:Yr R l N M):N.enough↔Qr (l:Int)<=M.length:=by
 have h1:=q4s h;have h2:=q5l h;unfold Nd.enough Qr;unfold Nd.size at h2;rw[h1,h2]
theorem qjy (h:Yr R l N M)(m:∀x∈M.flatten,Ko x=none)(b:N.may=true):Fits R N:=by
 cases l with
 |zero=>
  obtain⟨its,rfl,rfl⟩:=h;rw[Ig] at m;exact⟨b,m,λx e=>(by cases e)⟩
 |succ l=>
  obtain⟨G,rfl,rfl,A⟩:=h;refine⟨b,λx e=>(by cases e),λx e=>?_⟩;obtain⟨t,E,rfl⟩:=List.mem_map.1 e;obtain⟨h1,h2,_⟩:=A t E;obtain⟨J,F,I⟩:=Fq h1;refine⟨I,by show (R t.1).1.lvl+1=((l+1:Nat):Int);rw[F];omega,?_,h2⟩;show (R t.1).1.least=(Qj t.2 0).k;exact holds_least h1
where
 holds_least {R:Int->Nd × Int}:∀{l:Nat} {a:Int} {its:List Qc},Qp R l a its->(R a).1.least=(Qj its 0).k
  |0,a,its,h=>by
   rw[h.1];exact qa8 h.2
  |l+1,a,its,h=>by
   obtain⟨kids,parts,h1,h2,f,rfl,y⟩:=h;rw[h1,q7r _ h2];have B:0<kids.length:=List.length_pos_iff.2 h2;obtain⟨_,x,r,d,u⟩:=y 0 B;rw[u];match parts,f,d with
   |[],f,_=>rw[List.length_nil] at f;omega
   |p::ps,_,d=>
    have d:p=x::r:=d;rw[d,List.flatten_cons];rfl
theorem qae (h:Yr R l N M)(b:M≠[])(e:Ext R R'){a:Int}(d:R' a=(N,0)):Qp R' l a M.flatten:=by
 cases l with
 |zero=>
  obtain⟨its,rfl,rfl⟩:=h;rw[Ig];exact⟨d,λe=>b (by rw[e];rfl)⟩
 |succ l=>
  obtain⟨G,rfl,rfl,f⟩:=h;exact q9s (λx m=>(q3m (f x m) e).1) (λe=>b (by rw[e];rfl)) d
theorem qpd (h:Yr R l N M)(b:M≠[]):N.least=(Qj M.flatten 0).k:=by
 cases l with
 |zero=>
  obtain⟨its,rfl,rfl⟩:=h;rw[Ig];exact qa8 λe=>b (by rw[e];rfl)
 |succ l=>
  obtain⟨G,rfl,rfl,d⟩:=h;have f:G≠[]:=λe=>b (by rw[e];rfl)
  rw[q7r _ (by simpa using f)];match G,f,d with
  |x::r,_,d=>
   obtain⟨y,s,e⟩:=q39 (d x (List.mem_cons_self ..)).1;show (Qj x.2 0).k=(Qj (x.2++(r.map (·.2)).flatten) 0).k;rw[e];rfl
def Ze (x:Qc):Prop:=x.k.may=true/\x.v.length<=28/\Ko x=none
theorem qpe (h:Yr R l N M)(A:l<8)(h1:1<=M.length)(h2:0<l->2<=M.length)(d:M.length<=Qq (l:Int))(m:Qd M.flatten)(f:∀x∈M.flatten,Ze x):N.may=true:=by
 cases l with
 |zero=>
  obtain⟨its,rfl,rfl⟩:=h;rw[Ig] at m f;rw[List.length_map] at h1 d;exact qsl h1 d m λx b=>⟨(f x b).1,(f x b).2.1⟩
 |succ l=>
  obtain⟨G,rfl,rfl,u⟩:=h;rw[List.length_map] at h2 d;have e:Qq ((l+1:Nat):Int)=12:=if_neg (by omega);rw[e] at d;exact qfk (by omega) (h2 (by omega)) d m (λx b=>(f x b).1) (λx b=>(u x b).2.2) λx b e=>by
   obtain⟨y,r,p⟩:=q39 (u x b).1;rw[e] at p
   cases p
theorem qaf (h:Yr R l N M)(hm:M.length=0):pieces N=[]:=by
 have b:=q5l h;have:parts N=0:=by
  unfold parts;rw[b,hm];have:0<Qq N.lvl:=by unfold Qq;split<;>omega
  exact Nat.div_eq_of_lt (by omega)
 unfold pieces;rw[this];rfl
theorem qch (h:Yr R l N M)(h1:1<=M.length)(h2:M.length<=Qq (l:Int)):pieces N=[N.cut 0 M.length]:=by
 have d:=q5l h;have b:=q4s h;have e:0<Qq (l:Int):=by unfold Qq;split<;>omega
 have:parts N=1:=by
  unfold parts;rw[d,b];refine (Nat.div_eq_iff e).2 ?_;omega
 unfold pieces;rw[this,d];simp
theorem qci (h:Yr R l N M)(h1:Qq (l:Int)<M.length)(h2:M.length<=2*Qq (l:Int)):pieces N=[N.cut 0 (M.length / 2),N.cut (M.length / 2) M.length]:=by
 have d:=q5l h;have b:=q4s h;have e:0<Qq (l:Int):=by unfold Qq;split<;>omega
 have:parts N=2:=by
  unfold parts;rw[d,b];refine (Nat.div_eq_iff e).2 ?_;omega
 unfold pieces;rw[this,d];simp[List.range,List.range.loop]
end
