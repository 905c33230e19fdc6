/- What the law's loop keeps, level by level, while a tree is grown -/
import Derived.Test.YtnnbaihfboacoaaGreatDoorEt21
namespace Go.Proofs.YtnnbaihfboacoaaGreatDoor
open Go Go.RowKit Go.Proofs
def Zb (R:Int->Nd × Int)(root:Int)(its:List Qc):Prop:=(its=[]/\root=0)\/∃l,l<=6/\Qp R l root its/\1<=root/\root<2048
structure Lvl (D:DM)(its:List Qc)(f l:Nat)(P:Pl)(Ns:List Nd):Prop where
 Qa9:∃rows,Qa5 l (P.store D) Ns rows/\rows.flatten=its
 ok:P.ok
 free:2*Ns.length+10<=P.C.free
 one:1<=Ns.length
 fuel:l+f<=6
 need:1<=f/\(2<=Ns.length->2<=f)/\(13<=Ns.length->3<=f)/\Ns.length<=66
theorem Lvl.may {D:DM}{its:List Qc}{f l:Nat}{P:Pl}{Ns:List Nd}(h:Lvl D its f l P Ns):∀N∈Ns,N.may=true:=by
 obtain⟨rows,b,_⟩:=h.Qa9;exact b.may
theorem Lvl.done {D:DM}{its:List Qc}{f l:Nat}{P:Pl}{Ns:List Nd}(h:Lvl D its f l P Ns)(hone:Ns.length=1):Zb ((P.Yx Ns).store D) (Qg (Bv P Ns) 0).a its:=by
 obtain⟨rows,H,B⟩:=h.Qa9;have M:=h.free;have h1:=h.fuel;obtain⟨G,y,I,E⟩:=qce H h.ok (by omega);have u:G.length=Ns.length:=by have:=congrArg List.length y;rw[q6t,List.length_map] at this;omega
 have m:rowOf G=its:=by unfold rowOf;rw[I];exact B
 match G,u,y,E,m with
 |[t],_,y,E,m=>
  obtain⟨F,K⟩:=E t (List.mem_singleton.2 rfl);have e:(Qg (Bv P Ns) 0).a=t.1:=by rw[y];rfl
  have J:t.2=its:=by rw[<-m];unfold rowOf;simp
  rw[e,<-J];exact .inr ⟨l,by omega,F,K⟩
 |[],u,_,_,_=>exact absurd u (by rw[hone];simp)
 |a::b::r,u,_,_,_=>exact absurd u (by rw[hone];simp)
theorem Lvl.next {D:DM}{its:List Qc}{f l:Nat}{P:Pl}{Ns:List Nd}(h:Lvl D its (f+1) l P Ns)(cuts:List Int)(hr:Qd its)(hk:∀x∈its,x.k.may=true)(hone:Ns.length≠1):Lvl D its f (l+1) (P.Yx Ns) (U2 cuts (l+1) (Bv P Ns)):=by
 obtain⟨rows,H,m⟩:=h.Qa9;have X:=h.free;have h1:=h.fuel;have hm:=h.need;have h2:=h.one;obtain⟨R,Y,Z,F,U,W⟩:=qe1 D Ns P h.ok H.may (by omega);obtain⟨G,E,K,J⟩:=qce H h.ok (by omega);have Q:G.length=Ns.length:=by have:=congrArg List.length E;rw[q6t,List.length_map] at this;omega
 have e:rowOf G=its:=by unfold rowOf;rw[K];exact m
 obtain⟨B,I,y,u,M⟩:=qm9 cuts (l:=l) (by omega) (G:=G) J (by omega) (by rw[e];exact hr) (by rw[e];exact hk);rw[<-E] at B I y u;exact⟨⟨_,B,M.trans e⟩,F,by omega,y,by omega,by omega,λh=>by have:=u (by omega);omega,λh=>by omega,by omega⟩
def Ub (R:Int->Nd × Int)(a:Int):Nat:=(R a).1.lvl.toNat
def Bl (R:Int->Nd × Int)(k:Kd)(root:Int):List UInt8 × Int:=if root=0 then ([],10) else Aj R k (Ub R root) root
theorem Fq {R:Int->Nd × Int}:∀{l:Nat} {a:Int} {its:List Qc},Qp R l a its->Ub R a=l/\(R a).1.lvl=(l:Int)/\(R a).2=0
 |0,a,its,h=>by
  unfold Ub;rw[h.1];exact⟨rfl,rfl,rfl⟩
 |l+1,a,its,h=>by
  obtain⟨kids,parts,h1,_⟩:=h;unfold Ub;rw[h1];exact⟨Int.toNat_natCast _,rfl,rfl⟩
theorem qjx {R:Int->Nd × Int}{root:Int}{its:List Qc}(h:Zb R root its)(e:Qd its)(k:Kd):Bl R k root=Gl (valOf its k):=by
 unfold Bl;rcases h with⟨rfl,rfl⟩|⟨l,_,h,h1,_⟩
 ·rw[if_pos rfl];rfl
 ·rw[if_neg (by omega),(Fq h).1,qfg k l root its h e]
theorem qcg {ks:List Kd}(h:rises ks=true):∀(j i:Nat),i<j->j<ks.length->(keyAt ks i).less (keyAt ks j)=true
 |0,i,hi,_=>absurd hi (Nat.not_lt_zero _)
 |j+1,i,hi,hj=>by
  have h1:Wx ks (j+1)=true:=by
   unfold rises at h;rw[List.all_eq_true] at h;exact h _ (List.mem_range.2 hj)
  have h2:(keyAt ks j).less (keyAt ks (j+1))=true:=by
   unfold Wx at h1;simp at h1;exact h1.2
  by_cases e:i=j
  ·rw[e];exact h2
  ·exact Kd.trans _ _ _ (qcg h j i (by omega) (by omega)) h2
theorem q1r {N:Nd}(hm:N.may=true)(h0:N.lvl=0):N=⟨0,N.items,[]⟩/\Qd N.items/\1<=N.items.length/\N.items.length<=6:=by
 have F:=(Nj hm).1 h0;unfold Nd.may at hm;rw[if_pos h0,Bool.and_eq_true,Bool.and_eq_true] at hm;obtain⟨_,h2,m⟩:=hm;have m:=of_decide_eq_true m;refine⟨by cases N;simp_all,?_,m.2⟩;have E:N.keys=N.items.map (·.k):=by unfold Nd.keys;rw[F];simp
 rw[E] at h2;unfold Qd;rw[List.pairwise_iff_getElem];intro i j y u f;have:=qcg h2 j i f (by rw[List.length_map];exact u);rw[q18 _ y,q18 _ u] at this;have e:∀q (B:q<N.items.length),Qj N.items q=N.items[q]:=λq B=>by unfold Qj;rw[List.getD_eq_getElem?_getD,List.getElem?_eq_getElem B];rfl
 rwa [e i y,e j u] at this
theorem Py {N:Nd}(hm:N.may=true)(h0:N.lvl≠0):N=⟨N.lvl,[],N.kids⟩/\1<=N.lvl/\N.lvl<8/\2<=N.kids.length/\N.kids.length<=12/\∀k,N.Za k<N.kids.length:=by
 have u:=(Nj hm).2 h0;unfold Nd.may at hm;rw[if_neg h0,Bool.and_eq_true,Bool.and_eq_true] at hm;obtain⟨_,h2,F⟩:=hm;obtain⟨B,E,_,y,f⟩:=of_decide_eq_true F;refine⟨by cases N;simp_all,B,E,y,f,λk=>?_⟩;have m:N.keys=N.kids.map (·.k):=by unfold Nd.keys;rw[u];simp
 unfold Nd.Za;rw[if_neg h0,m,List.length_map];rcases q75 (N.kids.map (·.k)) k N.kids.length with e|e<;>omega
structure Pl.Ui (P:Pl)(D:DM):Prop where
 err:∀a:Nat,a<P.C.n->P.C.get (a:Int)≠0->P.Zh D (a:Int)=0
 may:∀a:Nat,a<P.C.n->P.C.get (a:Int)≠0->(P.Qh D (a:Int)).may=true
 bare:∀a:Nat,a<P.C.n->P.C.get (a:Int)≠0->∀x∈(P.Qh D (a:Int)).items,Ko x=none
 kids:∀a:Nat,a<P.C.n->P.C.get (a:Int)≠0->∀x∈(P.Qh D (a:Int)).kids,∃c:Nat,x.a=(c:Int)/\0<c/\c<P.C.n/\P.C.get (c:Int)≠0/\(P.Qh D (c:Int)).lvl+1=(P.Qh D (a:Int)).lvl/\(P.Qh D (c:Int)).least=x.k
def Pl.Oa (P:Pl)(D:DM)(a:Nat):Nat:=if P.C.get (a:Int)=0 then 0 else (P.Qh D (a:Int)).lvl.toNat+1
theorem qe3 {N:Nd}(h:N.may=true):0<=N.lvl/\N.lvl<8:=by
 by_cases h0:N.lvl=0
 ·omega
 ·have:=(Py h h0).2;omega
section
variable {P:Pl}{D:DM}
theorem q8k (h:P.Ui D){b:Nat}(e:b<P.C.n)(h0:P.C.get (b:Int)≠0):P.names D b=(P.Qh D (b:Int)).kids.map (·.a):=by
 unfold Pl.names Nd.named;rw[List.filterMap_eq_nil_iff.2 (h.bare b e h0),List.append_nil]
theorem qmb (h:P.Ui D){b a:Nat}(f:b<P.C.n)(h0:P.C.get (b:Int)≠0)(hm:(a:Int)∈P.names D b):0<a/\a<P.C.n/\P.C.get (a:Int)≠0/\(P.Qh D (a:Int)).lvl+1=(P.Qh D (b:Int)).lvl:=by
 rw[q8k h f h0] at hm;obtain⟨x,y,e⟩:=List.mem_map.1 hm;obtain⟨c,h1,h2,B,m,u,_⟩:=h.kids b f h0 x y;have:a=c:=by rw[h1] at e;omega
 subst this;exact⟨h2,B,m,u⟩
theorem qmc (h:P.Ui D)(m:P.C.ok)(b a:Nat)(f:b<P.C.n)(h1:1<=P.cnt b)(hm:(a:Int)∈P.names D b):P.Oa D a<P.Oa D b:=by
 have h0:=(qaa m).1 h1;obtain⟨_,u,e,B⟩:=qmb h f h0 hm;have y:=qe3 (h.may a u e);unfold Pl.Oa;rw[if_neg h0,if_neg e];omega
theorem qwc (h:P.Ui D)(b:Nat):P.Oa D b<=8:=by
 unfold Pl.Oa;by_cases h0:P.C.get (b:Int)=0
 ·rw[if_pos h0];omega
 ·rw[if_neg h0];obtain⟨c,e,f⟩:=Ae h0;have e:b=c:=by omega
  subst e;have m:=qe3 (h.may b f h0);omega
theorem qbp {H:List Int}(J:P.Uc D H)(h:P.Ui D)(I:P.C.ok)(f:P.C.res){S:Nat->Prop}(Q:∀a:Nat,0<a->a<P.C.n->(a:Int)∈H->S a)
  (M:∀b a:Nat,0<b->b<P.C.n->0<a->a<P.C.n->P.C.get (b:Int)≠0->S b->(∃x∈(P.Qh D (b:Int)).kids,x.a=(a:Int))->S a) (a:Nat) (h1:a<P.C.n) (h2:P.C.get (a:Int)≠0):S a:=by
 have E:1<=P.cnt a:=(qaa I).2 h2;have u:0<a:=by
  rcases Nat.eq_zero_or_pos a with e|e
  ·subst e;have:=qjv f;omega
  ·exact e
 exact Jo.reached J (B:=8) (P.Oa D) (λb a y m hm=>qmc h I b a y m hm) (qwc h) (qjv f) Q (λb a G y u K m F hm=>by
  have h0:=(qaa I).1 m;rw[q8k h y h0] at hm;obtain⟨x,R,e⟩:=List.mem_map.1 hm;exact M b a G y u K h0 F ⟨x,R,e⟩) (8-P.Oa D a) a (Nat.le_refl _) u h1 E
end
def Pl.hide (P:Pl)(D:DM)(O:List Int):Int->Nd × Int:=λa=>if a∈O then (Jh,1) else P.store D a
def Nd.enough (N:Nd):Prop:=(if N.lvl=0 then 3 else 6)<=N.items.length+N.kids.length
structure Loc (R:Int->Nd × Int)(a:Int):Prop where
 err:(R a).2=0
 may:(R a).1.may=true
 bare:∀x∈(R a).1.items,Ko x=none
 kids:∀x∈(R a).1.kids,(R x.a).2=0/\(R x.a).1.lvl+1=(R a).1.lvl/\(R x.a).1.least=x.k/\(R x.a).1.enough
structure Keep (D:DM)(S0:Sp)(C0:Ct)(O H:List Int)(P:Pl):Prop where
 Zt:Kq D P S0 C0
 laid:∀a:Nat,P.C.fresh (a:Int)=true->∃b,P.L a=some b
 Uc:Jo P.C.n P.cnt (λb=>(P.hide D O (b:Int)).1.named) H
 opened:∀x∈O,x∈H/\P.C.get x=1/\P.Zh D x=0
 loc:∀a:Nat,a<P.C.n->P.C.get (a:Int)≠0->(a:Int)∉O->Loc (P.hide D O) (a:Int)
def Ext (R R':Int->Nd × Int):Prop:=∀a,(R a).2=0->R' a=R a
theorem Ext.refl (R:Int->Nd × Int):Ext R R:=λ_ _=>rfl
theorem Ext.trans {R R' R'':Int->Nd × Int}(h:Ext R R')(h2:Ext R' R''):Ext R R'':=λa e=>by
 have h1:=h a e;rw[h2 a (by rw[h1];exact e),h1]
theorem Loc.ext {R R':Int->Nd × Int}{a:Int}(h:Loc R a)(e:Ext R R'):Loc R' a:=by
 have f:=e a h.err;refine⟨by rw[f];exact h.err,by rw[f];exact h.may,by rw[f];exact h.bare,λx u=>?_⟩;rw[f] at u ⊢;obtain⟨m,B,y,F⟩:=h.kids x u;have E:=e x.a m;rw[E];exact⟨m,B,y,F⟩
def Bc (l:Int)(D:DM)(O e:List Int)(P P':Pl):Prop:=∀x,P.C.get x≠0->l<(P.Qh D x).lvl->P.C.get x<=P'.C.get x/\P'.Qh D x=P.Qh D x/\(x∈O↔x∈e)
structure Move (l:Int)(D:DM)(O O':List Int)(P P':Pl)(k:Nat):Prop where
 ext:Ext (P.hide D O) (P'.hide D O')
 above:Bc l D O O' P P'
 free:P.C.free<=P'.C.free+k
 n:P'.C.n=P.C.n
theorem Bc.trans {l:Int}{D:DM}{O O' O'':List Int}{P P' P'':Pl}(hb:∀x,0<=P.C.get x)(h:Bc l D O O' P P')(h2:Bc l D O' O'' P' P''):Bc l D O O'' P P'':=λx u f=>by
 obtain⟨y,e,m⟩:=h x u f;have:=hb x;obtain⟨j1,j2,j3⟩:=h2 x (by omega) (by rw[e];exact f);exact⟨by omega,j2.trans e,m.trans j3⟩
theorem Move.refl (l:Int)(D:DM)(O:List Int)(P:Pl):Move l D O O P P 0:=⟨Ext.refl _,λ_ _ _=>⟨Int.le_refl _,rfl,Iff.rfl⟩,Nat.le_refl _,rfl⟩
theorem Move.trans {l:Int}{D:DM}{O O' O'':List Int}{P P' P'':Pl}{k k':Nat}(hb:∀x,0<=P.C.get x)(h:Move l D O O' P P' k)(h2:Move l D O' O'' P' P'' k'):Move l D O O'' P P'' (k+k'):=
 ⟨h.ext.trans h2.ext,h.above.trans hb h2.above,by have:=h.free;have:=h2.free;omega,h2.n.trans h.n⟩
theorem Move.more {l:Int}{D:DM}{O O':List Int}{P P':Pl}{k k':Nat}(h:Move l D O O' P P' k)(hk:k<=k'):Move l D O O' P P' k':=⟨h.ext,h.above,by have:=h.free;omega,h.n⟩
theorem Move.up {l l':Int}{D:DM}{O O':List Int}{P P':Pl}{k:Nat}(h:Move l D O O' P P' k)(hl:l<=l'):Move l' D O O' P P' k:=⟨h.ext,λx f e=>h.above x f (by omega),h.free,h.n⟩
section
variable {D:DM}{S0:Sp}{C0:Ct}{O H:List Int}{P:Pl}
theorem qe4 {C:Ct}{c:Nat}{x:Int}(h0:C.get (c:Int)≠0):C.free<=(C.put c x).free:=by
 have hn:nm C.now c≠0:=λe=>h0 (by unfold Ct.get;split;exact e;rfl)
 unfold Ct.free Ct.Jw;rw[C.Zi];refine List.countP_mono_left λj _ f=>?_
 have m:j≠c:=λe=>by
  subst e;unfold Ct.may Ct.U3 at f;simp at f;exact hn f.2.1
 unfold Ct.may Ct.U3 at f ⊢;have y:nm (C.put c x).now j=nm C.now j:=q56 C.now c j x (λe=>m e.symm);have u:(C.put c x).first=C.first:=by unfold Ct.first;rw[C.Zi]
 rw[y,u];exact f
theorem Pe {x:Int}(h:x∈O):P.hide D O x=(Jh,1):=if_pos h
theorem q1z {x:Int}(h:x∉O):P.hide D O x=P.store D x:=if_neg h
theorem q32 {x:Int}(h:(P.hide D O x).2=0):x∉O/\(P.store D x).2=0/\∃n:Nat,x=(n:Int)/\n<P.C.n/\P.C.get (n:Int)≠0:=by
 by_cases e:x∈O
 ·rw[Pe e] at h;cases h
 ·rw[q1z e] at h;exact⟨e,h,q4q h⟩
theorem q0z {x:Int}(h:P.C.get x=0):P.store D x=(Jh,1):=by
 unfold Pl.store Pl.Qh Pl.Zh;rw[if_pos h,if_pos h]
theorem q3l {R:Int->Nd × Int}{a:Int}(h:Loc R a):(R a).1.named=(R a).1.kids.map (·.a):=by
 unfold Nd.named;rw[List.filterMap_eq_nil_iff.2 h.bare,List.append_nil]
theorem Keep.named (K:Keep D S0 C0 O H P){b:Nat}(hb:b<P.C.n){a:Nat}(hm:(a:Int)∈(P.hide D O (b:Int)).1.named):P.C.get (b:Int)≠0/\(b:Int)∉O/\(P.hide D O (a:Int)).2=0:=by
 have h0:P.C.get (b:Int)≠0/\(b:Int)∉O:=by
  refine⟨λe=>?_,λe=>?_⟩
  ·by_cases f:(b:Int)∈O
   ·rw[Pe f] at hm;cases hm
   ·rw[q1z f,q0z e] at hm;cases hm
  ·rw[Pe e] at hm;cases hm
 have L:=K.loc b hb h0.1 h0.2;rw[q3l L] at hm;obtain⟨x,m,e⟩:=List.mem_map.1 hm;have:=(L.kids x m).1;rw[e] at this;exact⟨h0.1,h0.2,this⟩
theorem Keep.c (K:Keep D S0 C0 O H P):P.C.ok:=K.Zt.ok.c
theorem Keep.first (K:Keep D S0 C0 O H P){c:Nat}(h0:P.C.get (c:Int)≠0):0<c/\c<P.C.n:=by
 obtain⟨h1,h2,e⟩:=Ct.Kw K.Zt.ok.res h0;have f:P.C.first=2+2*Qe P.C.n:=rfl
 rw[Int.toNat_natCast] at e;omega
theorem Keep.once (K:Keep D S0 C0 O H P){c:Nat}(h1:P.C.get (c:Int)=1)(hc:(c:Int)∈H):H.count (c:Int)=1/\∀b:Nat,b<P.C.n->(c:Int)∉(P.hide D O (b:Int)).1.named:=by
 obtain⟨c0,B⟩:=K.first (c:=c) (by omega)
 have h:=K.Uc.eq c c0 B;have m:P.cnt c=1:=by unfold Pl.cnt;rw[h1];rfl
 have F:=List.count_pos_iff.2 hc;refine⟨by omega,λb u hm=>?_⟩;obtain⟨y,_,_⟩:=K.named u hm;have E:=qdn (f:=λb=>if 1<=P.cnt b then ((P.hide D O (b:Int)).1.named).count (c:Int) else 0) u;have G:=List.count_pos_iff.2 hm;rw[if_pos ((qaa K.c).2 y)] at E;have e:refs (λb=>(P.hide D O (b:Int)).1.named) P.C.n P.cnt c=sumTo P.C.n λb=>if 1<=P.cnt b then ((P.hide D O (b:Int)).1.named).count (c:Int) else 0:=rfl
 omega
theorem Keep.told (K:Keep D S0 C0 O H P){x:Int}(hx:P.C.get x≠0)(ho:x∉O):Loc (P.hide D O) x:=by
 obtain⟨n,rfl,hn⟩:=Ae hx;exact K.loc n hn hx ho
theorem q2g {c x:Int}(h:x≠c):P.hide D (c::O) x=P.hide D O x:=by
 unfold Pl.hide;have:x∈c::O↔x∈O:=by simp[h]
 by_cases e:x∈O
 ·rw[if_pos e,if_pos (this.2 e)]
 ·rw[if_neg e,if_neg λh=>e (this.1 h)]
theorem Keep.open_ (K:Keep D S0 C0 O H P){c:Nat}(h1:P.C.get (c:Int)=1)(hc:(c:Int)∈H)(ho:(c:Int)∉O):Keep D S0 C0 ((c:Int)::O) ((P.Qh D (c:Int)).kids.map (·.a)++H) P:=by
 obtain⟨c0,W⟩:=K.first (c:=c) (by omega)
 obtain⟨_,h2⟩:=K.once h1 hc;have L:=K.told (x:=(c:Int)) (by omega) ho;have I:P.hide D O (c:Int)=P.store D (c:Int):=q1z ho;have G:=q3l L;rw[I] at G;have G:(P.Qh D (c:Int)).named=(P.Qh D (c:Int)).kids.map (·.a):=G;refine⟨K.Zt,K.laid,?_,λx f=>?_,λa M h0 B=>?_⟩
 ·have E:=K.Uc.set (c:=c) (ks:=[]) (H0:=H) (K':=λb=>(P.hide D ((c:Int)::O) (b:Int)).1.named) W (by unfold Pl.cnt;rw[h1];decide) (λa _ _=>by simp) (by show (P.hide D ((c:Int)::O) (c:Int)).1.named=[];rw[Pe (List.mem_cons_self ..)];rfl) (λb X u=>by
   show (P.hide D ((c:Int)::O) (b:Int)).1.named=_;rw[q2g (by omega)])
  have E:Jo P.C.n P.cnt (λb=>(P.hide D ((c:Int)::O) (b:Int)).1.named) ((P.hide D O (c:Int)).1.named++H):=E;rw[I] at E;rw[<-G];exact E
 ·rcases List.mem_cons.1 f with rfl|f
  ·refine⟨List.mem_append_right _ hc,h1,?_⟩;have:=L.err;rw[I] at this;exact this
  ·obtain⟨Q,U,R⟩:=K.opened x f;exact⟨List.mem_append_right _ Q,U,R⟩
 ·have u:(a:Int)≠(c:Int):=λe=>B (e▸List.mem_cons_self ..)
  have y:(a:Int)∉O:=λh=>B (List.mem_cons_of_mem _ h)
  have m:=K.loc a M h0 y;have F:=q2g (P:=P) (D:=D) (O:=O) u;refine⟨by rw[F];exact m.err,by rw[F];exact m.may,by rw[F];exact m.bare,λx f=>?_⟩;rw[F] at f ⊢;have J:x.a≠(c:Int):=λe=>h2 a M (by rw[q3l m,<-e];exact List.mem_map_of_mem f)
  rw[q2g J];exact m.kids x f
theorem q4r (K:Keep D S0 C0 O H P){c:Nat}(h1:P.C.get (c:Int)=1)(m:(c:Int)∈H):∀(l:Nat) (a:Int) (its:List Qc),a≠(c:Int)->Qp (P.hide D O) l a its->Qp (P.hide D ((c:Int)::O)) l a its
 |0,a,its,hne,h=>⟨by rw[q2g hne];exact h.1,h.2⟩
 |l+1,a,its,hne,h=>by
  obtain⟨kids,parts,e,y,E,B,u⟩:=h;refine⟨kids,parts,by rw[q2g hne];exact e,y,E,B,λj f=>⟨q4r K h1 m l _ _ (λF=>?_) (u j f).1,(u j f).2⟩⟩;obtain⟨G,_,n,rfl,hn,h0⟩:=q32 (P:=P) (D:=D) (O:=O) (x:=a) (by rw[e]);have L:=K.loc n hn h0 G;refine (K.once h1 m).2 n hn ?_;rw[q3l L,e,<-F];exact List.mem_map_of_mem (List.mem_of_getElem? (Rf f))
theorem qg1 {c:Nat}{x:Int}(u:c<P.C.n)(h0:P.C.get (c:Int)≠0)(f:x≠0)(b:Int):Pl.store ⟨P.S,P.C.put c x,P.L⟩ D b=P.store D b:=by
 by_cases m:0<=b/\b<(P.C.n:Int)
 ·obtain⟨n,rfl⟩:∃n:Nat,b=(n:Int):=⟨b.toNat,by omega⟩;have hn:n<P.C.n:=by omega
  have y:(P.C.put c x).get (n:Int)=if n=c then x else P.C.get (n:Int):=q2q P.C n hn
  unfold Pl.store Pl.Qh Pl.Zh Pl.live;show ((if (P.C.put c x).get (n:Int)=0 then Jh else match (if (P.C.put c x).get (((n:Int).toNat:Nat):Int)=0 then none else P.L (n:Int).toNat) with|some (.node N)=>N|some (.bytes _ _)=>Jh|none=>_),(if (P.C.put c x).get (n:Int)=0 then 1 else match (if (P.C.put c x).get (((n:Int).toNat:Nat):Int)=0 then none else P.L (n:Int).toNat) with|some (.node _)=>(0:Int)|some (.bytes _ _)=>1|none=>_))=_;rw[Int.toNat_natCast,y];by_cases e:n=c
  ·subst e;rw[if_pos rfl,if_neg f,if_neg f,if_neg f,if_neg h0,if_neg h0,if_neg h0];rfl
  ·rw[if_neg e];rfl
 ·have h1:P.C.get b=0:=by unfold Ct.get;rw[if_neg m]
  have h2:(P.C.put c x).get b=0:=by unfold Ct.get;rw[P.C.Zi,if_neg m]
  rw[q0z h1];exact q0z (P:=⟨P.S,P.C.put c x,P.L⟩) h2
theorem qac {c:Nat}{x:Int}(m:c<P.C.n)(h0:P.C.get (c:Int)≠0){a:Nat}(h:(P.C.put c x).fresh (a:Int)=true):P.C.fresh (a:Int)=true:=by
 have f:a<P.C.n:=by
  have:=q31 h;obtain⟨n,e,hn⟩:=Ae this;rw[P.C.Zi] at hn;omega
 unfold Ct.fresh at h ⊢;rw[q2q P.C a f] at h;by_cases e:a=c
 ·subst e;rw[if_pos rfl] at h;rw[if_neg h0];split at h
  ·cases h
  ·exact h
 ·rw[if_neg e] at h;exact h
theorem qp8 {S0:Sp}{C0:Ct}(h:Sound D P S0 C0)(c:Nat)(x:Int):Sound D ⟨P.S,P.C.put c x,P.L⟩ S0 C0:=by
 have e:(P.C.put c x).n=P.C.n:=P.C.Zi c x;have H:=h.holds;exact⟨h.free,h.n.trans e.symm,h.Vr,⟨H.may,H.gen,H.sec.trans (by rw[e]),H.c,H.res,H.n.trans e.symm,H.slot,H.other,λi f=>by
  have:=H.area i (by rw[e] at f;exact f);show D.Jp (Qo (P.C.put c x).n P.S.gen+i)=Zr (Uh (P.C.put c x).n P.S.gen i) (C0.body (i:Int));rw[e];exact this⟩⟩
theorem qad {S0:Sp}{C0:Ct}(h:Kq D P S0 C0){c:Nat}{x:Int}(f:P.C.first<=c)(e:0<=x/\x<=65535):Kq D ⟨P.S,P.C.put c x,P.L⟩ S0 C0:=
 ⟨⟨Ct.G9 h.ok.c c x e.1 e.2,Ct.Au h.ok.res x f,h.ok.may,by show P.S.Qb=((P.C.put c x).n:Int);rw[P.C.Zi];exact h.ok.sec,h.ok.gen,h.ok.fine⟩,qp8 h.sound c x,h.nodes⟩
theorem qy0 {c:Nat}(h0:P.C.get (c:Int)≠0)(h1:P.C.get (c:Int)≠65535):P.C.Y8 (c:Int)=0/\P.C.ref (c:Int)=P.C.put c (P.C.get (c:Int)+1):=by
 have e:P.C.Y8 (c:Int)=0:=by unfold Ct.Y8;rw[if_neg h0,if_neg h1]
 refine⟨e,?_⟩;unfold Ct.ref;rw[if_pos e,Int.toNat_natCast]
theorem qe5 {c:Nat}(h0:P.C.get (c:Int)≠0):P.C.Jz (c:Int)=0/\P.C.Qy (c:Int)=P.C.put c (P.C.get (c:Int)-1):=by
 refine⟨by unfold Ct.Jz;rw[if_neg h0],?_⟩;unfold Ct.Qy;rw[if_neg h0,Int.toNat_natCast]
theorem qg2 {P':Pl}{O:List Int}(h:∀b,P'.store D b=P.store D b)(b:Int):P'.hide D O b=P.hide D O b:=by
 unfold Pl.hide;rw[h b]
theorem qe6 {R R':Int->Nd × Int}(h:∀b,R' b=R b){a:Int}(L:Loc R a):Loc R' a:=by
 have:R'=R:=funext h;rw[this];exact L
theorem Keep.ref (K:Keep D S0 C0 O H P){c:Nat}(h0:P.C.get (c:Int)≠0)(h1:P.C.get (c:Int)≠65535)(ho:(c:Int)∉O) :
  P.C.Y8 (c:Int)=0/\Keep D S0 C0 O ((c:Int)::H) ⟨P.S,P.C.ref (c:Int),P.L⟩/\∀l,Move l D O O P ⟨P.S,P.C.ref (c:Int),P.L⟩ 0:=by
 obtain⟨X,e⟩:=qy0 h0 h1;obtain⟨c0,G⟩:=K.first h0
 have B:=Ct.Jc K.c (c:Int);have Q:=(Ct.Kw K.Zt.ok.res h0).2.2;rw[Int.toNat_natCast] at Q;rw[e];have E:∀b,Pl.store ⟨P.S,P.C.put c (P.C.get (c:Int)+1),P.L⟩ D b=P.store D b:=qg1 G h0 (by omega);have I:∀b,Pl.hide ⟨P.S,P.C.put c (P.C.get (c:Int)+1),P.L⟩ D O b=P.hide D O b:=qg2 E;have u:∀b:Nat,b<P.C.n->(P.C.put c (P.C.get (c:Int)+1)).get (b:Int)=if b=c then P.C.get (c:Int)+1 else P.C.get (b:Int):=λb B=>q2q P.C b B
 refine⟨X,⟨qad K.Zt Q (by omega),λa m=>K.laid a (qac G h0 m),?_,λx y=>?_,λa m F J=>?_⟩,λl=>?_⟩
 ·show Jo (P.C.put c (P.C.get (c:Int)+1)).n _ _ _;rw[P.C.Zi];refine (K.Uc.ref (c:=c) (cnt':=Pl.cnt ⟨P.S,P.C.put c (P.C.get (c:Int)+1),P.L⟩) ?_ ?_ ?_).same (λ_ _=>rfl) (λb _ _=>by rw[I])
  ·unfold Pl.cnt;omega
  ·unfold Pl.cnt;show ((P.C.put c (P.C.get (c:Int)+1)).get (c:Int)).toNat=_;rw[u c G,if_pos rfl];omega
  ·intro b B f;unfold Pl.cnt;show ((P.C.put c (P.C.get (c:Int)+1)).get (b:Int)).toNat=_;rw[u b B,if_neg f]
 ·obtain⟨R,Y,W⟩:=K.opened x y;obtain⟨n,rfl,hn⟩:=Ae (C:=P.C) (a:=x) (by omega);have f:n≠c:=λe=>ho (e▸y)
  refine⟨List.mem_cons_of_mem _ R,?_,?_⟩
  ·show (P.C.put c (P.C.get (c:Int)+1)).get (n:Int)=1;rw[u n hn,if_neg f];exact Y
  ·have:=congrArg Prod.snd (E (n:Int));exact this.trans W
 ·have m:a<P.C.n:=by
   have:a<(P.C.put c (P.C.get (c:Int)+1)).n:=m;rw[P.C.Zi] at this;exact this
  refine qe6 I (K.loc a m ?_ J);intro M;refine F ?_;show (P.C.put c (P.C.get (c:Int)+1)).get (a:Int)=0;rw[u a m,if_neg (λ(U:a=c)=>h0 (by rw[<-U];exact M))];exact M
 ·refine⟨λx y=>I x,λx y _=>⟨?_,congrArg Prod.fst (E x),Iff.rfl⟩,qe4 h0,P.C.Zi _ _⟩;obtain⟨n,rfl,hn⟩:=Ae y;show _<=(P.C.put c (P.C.get (c:Int)+1)).get (n:Int);rw[u n hn];split
  ·rename_i e;subst e;omega
  ·exact Int.le_refl _
theorem Keep.Qy (K:Keep D S0 C0 O H P){c:Nat}{H0:List Int}(h1:2<=P.C.get (c:Int))(hH:∀a:Nat,0<a->a<P.C.n->H.count (a:Int)=((c:Int)::H0).count (a:Int)) :
  P.C.Jz (c:Int)=0/\Keep D S0 C0 O H0 ⟨P.S,P.C.Qy (c:Int),P.L⟩/\∀l,(P.Qh D (c:Int)).lvl<=l->Move l D O O P ⟨P.S,P.C.Qy (c:Int),P.L⟩ 0:=by
 have h0:P.C.get (c:Int)≠0:=by omega
 obtain⟨R,e⟩:=qe5 h0;obtain⟨c0,F⟩:=K.first h0
 have y:=Ct.Jc K.c (c:Int);have M:=(Ct.Kw K.Zt.ok.res h0).2.2;rw[Int.toNat_natCast] at M;rw[e];have E:∀b,Pl.store ⟨P.S,P.C.put c (P.C.get (c:Int)-1),P.L⟩ D b=P.store D b:=qg1 F h0 (by omega);have G:∀b,Pl.hide ⟨P.S,P.C.put c (P.C.get (c:Int)-1),P.L⟩ D O b=P.hide D O b:=qg2 E;have u:∀b:Nat,b<P.C.n->(P.C.put c (P.C.get (c:Int)-1)).get (b:Int)=if b=c then P.C.get (c:Int)-1 else P.C.get (b:Int):=λb y=>q2q P.C b y
 refine⟨R,⟨qad K.Zt M (by omega),λa m=>K.laid a (qac F h0 m),?_,λx B=>?_,λa m I J=>?_⟩,λl hl=>?_⟩
 ·show Jo (P.C.put c (P.C.get (c:Int)-1)).n _ _ _;rw[P.C.Zi];refine (K.Uc.Qy (c:=c) (H0:=H0) (cnt':=Pl.cnt ⟨P.S,P.C.put c (P.C.get (c:Int)-1),P.L⟩) hH ?_ ?_ ?_).same (λ_ _=>rfl) (λb _ _=>by rw[G])
  ·unfold Pl.cnt;omega
  ·unfold Pl.cnt;show ((P.C.put c (P.C.get (c:Int)-1)).get (c:Int)).toNat+1=_;rw[u c F,if_pos rfl];omega
  ·intro b y f;unfold Pl.cnt;show ((P.C.put c (P.C.get (c:Int)-1)).get (b:Int)).toNat=_;rw[u b y,if_neg f]
 ·obtain⟨W,k2,U⟩:=K.opened x B;obtain⟨n,rfl,hn⟩:=Ae (C:=P.C) (a:=x) (by omega);have f:n≠c:=λe=>by subst e;omega
  obtain⟨n0,_⟩:=K.first (c:=n) (by omega)
  refine⟨?_,?_,?_⟩
  ·have h3:=hH n n0 hn;have h4:=List.count_pos_iff.2 W;rw[List.count_cons,if_neg (by intro Z;have:=eq_of_beq Z;omega)] at h3;exact List.count_pos_iff.1 (by omega)
  ·show (P.C.put c (P.C.get (c:Int)-1)).get (n:Int)=1;rw[u n hn,if_neg f];exact k2
  ·have:=congrArg Prod.snd (E (n:Int));exact this.trans U
 ·have m:a<P.C.n:=by
   have:a<(P.C.put c (P.C.get (c:Int)-1)).n:=m;rw[P.C.Zi] at this;exact this
  refine qe6 G (K.loc a m ?_ J);intro Q;refine I ?_;show (P.C.put c (P.C.get (c:Int)-1)).get (a:Int)=0;rw[u a m,if_neg (λ(X:a=c)=>h0 (by rw[<-X];exact Q))];exact Q
 ·refine⟨λx B=>G x,λx B Y=>⟨?_,congrArg Prod.fst (E x),Iff.rfl⟩,qe4 h0,P.C.Zi _ _⟩;obtain⟨n,rfl,hn⟩:=Ae B;have f:n≠c:=λe=>by subst e;omega
  show _<=(P.C.put c (P.C.get (c:Int)-1)).get (n:Int);rw[u n hn,if_neg f];exact Int.le_refl _
theorem qp9 {c:Nat}{x y:Int}(m:y≠(c:Int)):(P.C.put c x).get y=P.C.get y/\Pl.Qh ⟨P.S,P.C.put c x,P.L⟩ D y=P.Qh D y:=by
 have e:(P.C.put c x).get y=P.C.get y:=by
  by_cases f:0<=y/\y<(P.C.n:Int)
  ·obtain⟨n,rfl⟩:∃n:Nat,y=(n:Int):=⟨y.toNat,by omega⟩;rw[q2q P.C n (by omega),if_neg (by omega)]
  ·unfold Ct.get;rw[P.C.Zi,if_neg f,if_neg f]
 refine⟨e,?_⟩;by_cases h0:P.C.get y=0
 ·unfold Pl.Qh;rw[if_pos h0,if_pos (show (P.C.put c x).get y=0 by rw[e];exact h0)]
 ·obtain⟨n,rfl,hn⟩:=Ae h0;unfold Pl.Qh Pl.live;show (if (P.C.put c x).get (n:Int)=0 then Jh else match (if (P.C.put c x).get (((n:Int).toNat:Nat):Int)=0 then none else P.L (n:Int).toNat) with|some (.node N)=>N|some (.bytes _ _)=>Jh|none=>_)=_;rw[Int.toNat_natCast,e];rfl
def less1 (O:List Int)(c:Int):List Int:=O.filter λx=>!(x==c)
theorem Fv {c x:Int}:x∈less1 O c↔x∈O/\x≠c:=by
 unfold less1;rw[List.mem_filter];simp
theorem Keep.drop (K:Keep D S0 C0 O H P){c:Nat}{H0:List Int}(ho:(c:Int)∈O)(hH:∀a:Nat,0<a->a<P.C.n->H.count (a:Int)=((c:Int)::H0).count (a:Int)) :
  P.C.Jz (c:Int)=0/\Keep D S0 C0 (less1 O (c:Int)) H0 ⟨P.S,P.C.Qy (c:Int),P.L⟩/\∀l,(P.Qh D (c:Int)).lvl<=l->Move l D O (less1 O (c:Int)) P ⟨P.S,P.C.Qy (c:Int),P.L⟩ 0:=by
 obtain⟨_,h1,_⟩:=K.opened _ ho;have h0:P.C.get (c:Int)≠0:=by omega
 obtain⟨W,e⟩:=qe5 h0;obtain⟨c0,M⟩:=K.first h0
 have U:=(Ct.Kw K.Zt.ok.res h0).2.2;rw[Int.toNat_natCast] at U;rw[e,h1];have u:∀b:Nat,b<P.C.n->(P.C.put c (1-1)).get (b:Int)=if b=c then 0 else P.C.get (b:Int):=λb B=>q2q P.C b B
 have J:∀b,b≠(c:Int)->Pl.store ⟨P.S,P.C.put c (1-1),P.L⟩ D b=P.store D b:=λb f=>by
  by_cases B:0<=b/\b<(P.C.n:Int)
  ·obtain⟨n,rfl⟩:∃n:Nat,b=(n:Int):=⟨b.toNat,by omega⟩;have u:=u n (by omega);rw[if_neg (by omega)] at u;unfold Pl.store Pl.Qh Pl.Zh Pl.live;show ((if (P.C.put c (1-1)).get (n:Int)=0 then Jh else match (if (P.C.put c (1-1)).get (((n:Int).toNat:Nat):Int)=0 then none else P.L (n:Int).toNat) with|some (.node N)=>N|some (.bytes _ _)=>Jh|none=>_),(if (P.C.put c (1-1)).get (n:Int)=0 then 1 else match (if (P.C.put c (1-1)).get (((n:Int).toNat:Nat):Int)=0 then none else P.L (n:Int).toNat) with|some (.node _)=>(0:Int)|some (.bytes _ _)=>1|none=>_))=_;rw[Int.toNat_natCast,u];rfl
  ·have h1:P.C.get b=0:=by unfold Ct.get;rw[if_neg B]
   have h2:(P.C.put c (1-1)).get b=0:=by unfold Ct.get;rw[P.C.Zi,if_neg B]
   rw[q0z h1];exact q0z (P:=⟨P.S,P.C.put c (1-1),P.L⟩) h2
 have F:(P.C.put c (1-1)).get (c:Int)=0:=by rw[u c M,if_pos rfl]
 have Q:∀b,Pl.hide ⟨P.S,P.C.put c (1-1),P.L⟩ D (less1 O (c:Int)) b=P.hide D O b:=λb=>by
  by_cases e:b=(c:Int)
  ·subst e;rw[Pe ho,q1z (λh=>(Fv.1 h).2 rfl)];exact q0z (P:=⟨P.S,P.C.put c (1-1),P.L⟩) F
  ·unfold Pl.hide;rw[J b e];by_cases G:b∈O
   ·rw[if_pos G,if_pos (Fv.2 ⟨G,e⟩)]
   ·rw[if_neg G,if_neg (λh=>G (Fv.1 h).1)]
 refine⟨W,⟨qad K.Zt U (by omega),λa y=>K.laid a (qac M h0 y),?_,λx E=>?_,λa y m R=>?_⟩,λl hl=>?_⟩
 ·show Jo (P.C.put c (1-1)).n _ _ _;rw[P.C.Zi];have I:=K.Uc.last (c:=c) (H0:=H0) (cnt':=Pl.cnt ⟨P.S,P.C.put c (1-1),P.L⟩) c0 M hH (by unfold Pl.cnt;rw[h1];rfl) (by
   unfold Pl.cnt;show ((P.C.put c (1-1)).get (c:Int)).toNat=_;rw[F];rfl) (λb B f=>by
   unfold Pl.cnt;show ((P.C.put c (1-1)).get (b:Int)).toNat=_;rw[u b B,if_neg f])
  have I:Jo P.C.n (Pl.cnt ⟨P.S,P.C.put c (1-1),P.L⟩) (λb=>(P.hide D O (b:Int)).1.named) ((P.hide D O (c:Int)).1.named++H0):=I;rw[Pe ho] at I;exact I.same (λ_ _=>rfl) (λb _ _=>by rw[Q])
 ·obtain⟨E,f⟩:=Fv.1 E;obtain⟨Y,k2,X⟩:=K.opened x E;obtain⟨n,rfl,hn⟩:=Ae (C:=P.C) (a:=x) (by omega);obtain⟨n0,_⟩:=K.first (c:=n) (by omega)
  refine⟨?_,?_,?_⟩
  ·have h3:=hH n n0 hn;have h4:=List.count_pos_iff.2 Y;rw[List.count_cons,if_neg (by intro e';have:=eq_of_beq e';omega)] at h3;exact List.count_pos_iff.1 (by omega)
  ·show (P.C.put c (1-1)).get (n:Int)=1;rw[u n hn,if_neg (by omega)];exact k2
  ·have:=congrArg Prod.snd (J (n:Int) f);exact this.trans X
 ·have y:a<P.C.n:=by
   have:a<(P.C.put c (1-1)).n:=y;rw[P.C.Zi] at this;exact this
  have m:(P.C.put c (1-1)).get (a:Int)≠0:=m;rw[u a y] at m;have f:a≠c:=λe=>by rw[if_pos e] at m;exact m rfl
  rw[if_neg f] at m;exact qe6 Q (K.loc a y m λh=>R (Fv.2 ⟨h,by omega⟩))
 ·refine⟨λx E=>Q x,λx E Z=>?_,qe4 h0,P.C.Zi _ _⟩;obtain⟨n,rfl,hn⟩:=Ae E;have f:n≠c:=λe=>by subst e;omega
  refine⟨?_,congrArg Prod.fst (J _ (by omega)),⟨λh=>Fv.2 ⟨h,by omega⟩,λh=>(Fv.1 h).1⟩⟩;show _<=(P.C.put c (1-1)).get (n:Int);rw[u n hn,if_neg f];exact Int.le_refl _
theorem Keep.perm (K:Keep D S0 C0 O H P){H':List Int}(h:∀a:Nat,0<a->a<P.C.n->H'.count (a:Int)=H.count (a:Int)):Keep D S0 C0 O H' P:=
 ⟨K.Zt,K.laid,K.Uc.perm h,λx u=>by
  obtain⟨e,y,m⟩:=K.opened x u;obtain⟨n,rfl,hn⟩:=Ae (C:=P.C) (a:=x) (by omega);obtain⟨f,_⟩:=K.first (c:=n) (by omega)
  have E:=h n f hn;have B:=List.count_pos_iff.2 e;exact⟨List.count_pos_iff.1 (by omega),y,m⟩,K.loc⟩
end
section
variable {b:Nat}{w w':World}{d p:Nat}{S0 S T S':Nat->Prop}{D:DM}{P:Pl}
theorem Qi.below (H:Qi b w d p S0 S T D P)(hb:Below w.1.size w w'):Qi b w' d p S0 S T D P:=
 ⟨H.U8.below hb,H.pool.below hb,H.sub,H.apart,λk e=>⟨(H.tight k e).1,by have:=(H.tight k e).2;have:=hb.size;omega⟩⟩
theorem Qi.more (H:Qi b w d p S0 S T D P)(hb:Below w.1.size w w'):Qi b w' d p S0 S (grow T w w') D P:=by
 have m:=H.base;have f:=H.Cj;have u:=hb.size;refine⟨H.U8.below hb,(H.pool.mono (S':=S) (T':=grow T w w') (λk _ h=>h) (λk e h=>?_) (λk h=>⟨.inl (f k h),by have:=(H.tight k (f k h)).2;omega⟩)).below hb,λk e=>⟨.inl (H.sub k e),by have:=(H.tight k (H.sub k e)).2;omega⟩,H.apart,λk e=>⟨e.1.elim (λh=>(H.tight k h).1) λh=>by omega,e.2⟩⟩;exact h.1.elim id λh=>by omega
theorem Qi.own (H:Qi b w d p S0 S T D P)(t:Turn S' w w')(hT:∀k,S' k->T k)(h0:∀k,S' k->¬S0 k)(h1:∀k,S' k->¬S k):Qi b w' d p S0 S T D P:=
 ⟨H.U8.keep λk e f=>t.block k e λh=>h0 k h f,H.pool.other t hT h1,H.sub,H.apart,λk e=>⟨(H.tight k e).1,by have:=(H.tight k e).2;have:=t.size;omega⟩⟩
theorem Qi.sys (H:Qi b w d p S0 S T D P):Sys b w d p T D P:=⟨S0,S,H⟩
end
def Gg (w:World)(base:Nat)(A:Option Addr)(n c:Nat)(an:List Nat):Prop:=Qs w base 3 1 A n c (an.map λ(a:Nat)=>[.int .i64 (a:Int)])
section
variable {w w':World}{base:Nat}{A:Option Addr}{n c:Nat}{an:List Nat}
theorem Gg.len (h:Gg w base A n c an):an.length=n:=by
 have:=Qs.len h (by omega);rw[List.length_map] at this;omega
theorem Gg.turned (h:Gg w base A n c an){S:Nat->Prop}(T:Turn S w w')(hA:∀k,q01 A=some k->¬S k):Gg w' base A n c an:=Qs.turned h T hA
theorem Gg.below (h:Gg w base A n c an)(hb:Below w.1.size w w'):Gg w' base A n c an:=Qs.below h hb
theorem Gg.lt (h:Gg w base A n c an):∀k,q01 A=some k->base<=k/\k<w.1.size:=Qs.Qa h
theorem Gg.cell (h:Gg w base A n c an){i:Nat}(hi:i<n):∃e a,A=some e/\an[i]?=some a/\w.cell? (e.add i)=some (.int .i64 (a:Int))/\e.block<w.1.size:=by
 have B:=h.len;have u:=Qs.Vs h (by omega);obtain⟨g,o,y,m,_,f⟩:=u.2.2.2 i _ (List.getElem?_eq_getElem (by rw[List.length_map];omega));have h0:=f 0 (.int .i64 ((an[i]'(by omega):Nat):Int)) (by rw[List.getElem_map];rfl);rw[Nat.mul_one,Nat.add_zero] at h0;exact⟨⟨g,o,none⟩,_,y,List.getElem?_eq_getElem (by omega),by rw[Addr.add_mid];exact h0,m⟩
theorem Gg.cap (h:Gg w base A n c an):n<=c/\c<=maxLen:=by
 have e:=Qs.Vs h (by omega);exact⟨e.cap,e.max⟩
end
theorem qpa {b:List UInt8}{a:Int}{N:Nd}(h:Qz b a=some N):N.may=true:=by
 unfold Qz at h;split at h
 ·unfold Dh at h
  cases f:Jt (Yq b).level (Un b) (Yq b).count.toNat with
  |none=>rw[f] at h;cases h
  |some x=>
   obtain⟨M,r⟩:=x;rw[f] at h;dsimp only at h;by_cases e:(Yq b).kind=(if (Yq b).level=0 then 3 else 4)/\(Yq b).addr=a/\Y3 r=true/\M.may=true
   ·rw[if_pos e] at h;obtain rfl:=Option.some.inj h;exact e.2.2.2
   ·rw[if_neg e] at h
    cases h
 ·cases h
theorem qpb {P:Pl}{D:DM}(B:∀a b,P.L a=some b->b.good)(a:Int)(h:(P.store D a).2=0):(P.store D a).1.may=true:=by
 obtain⟨n,rfl,hn,h0⟩:=q4q h
 cases u:P.live n with
 |some b=>
  obtain⟨N,rfl,e⟩:=qcf h0 u h;rw[e];exact q45 (B n _ (q93 u).2)
 |none=>
  have f:P.Zh D (n:Int)=0:=h;unfold Pl.Zh at f;rw[if_neg h0,Int.toNat_natCast,u] at f;dsimp only at f;by_cases m:D.Ym (n:Int)=0
  ·rw[q7s h0 u m];rw[if_pos m] at f;unfold Xz at f;unfold X0
   cases y:Qz (D.Yu (n:Int)) (n:Int) with
   |some N=>exact qpa y
   |none=>rw[y] at f;simp at f
  ·rw[if_neg m] at f;exact absurd f m
structure Src (w0:World)(p:Nat)(R:Int->Nd × Int):Prop where
 node:∀u,Below w0.heap.size w0 u->Tab u->∀a,Calls Tryz.prog 35 #[.pointer (some ⟨p,0,none⟩),.int .i64 a] u λe w'=>q68 (R a).1 (R a).2 u e w'
 may:∀a,(R a).2=0->(R a).1.may=true
theorem qvb {w:World}{p d:Nat}{S0 S T:Nat->Prop}{D:DM}{P:Pl}(f:Y9 w d S0 D)(H:Pool w p d S T P)(u:∀a b,P.L a=some b->b.kindOk)(y:∀a b,P.L a=some b->b.good):Src w p (P.store D):=
 ⟨λ_ e m a=>qa5 (f.below e) (H.below e) u m a,λa h=>qpb y a h⟩
theorem Src.below {w0 w1:World}{p:Nat}{R:Int->Nd × Int}(h:Src w0 p R)(hb:Below w0.1.size w0 w1):Src w1 p R:=
 ⟨λu e f a=>h.node u (hb.trans (e.mono hb.size)) f a,h.may⟩
