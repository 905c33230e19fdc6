/- What is told of a tree from its root on -/
import Derived.Test.YthkfkhejjmhomaaGreatDoorDb28
namespace Go.Proofs.YthkfkhejjmhomaaGreatDoor
open Go Go.RowKit Go.Proofs
set_option maxHeartbeats 8000000
set_option maxRecDepth 100000
def Ui (R:Int->Nd × Int)(a:Int):Nat:=(R a).1.lvl.toNat
def Ll (R:Int->Nd × Int)(k:Kd)(root:Int):List UInt8 × Int:=if root=0 then ([],10) else Ap R k (Ui R root) root
def D9 (R:Int->Nd × Int)(fr «to»:Kd)(most root:Int):List Qb × Int:=if root=0\/most<1 then ([],0) else Jl R fr «to» most.toNat (Ui R root) root []
theorem D8 {R:Int->Nd × Int}:∀{l:Nat} {a:Int} {its:List Qb},Qm R l a its->Ui R a=l/\(R a).1.lvl=(l:Int)/\(R a).2=0
 |0,a,its,h=>by
  unfold Ui;rw[h.1];exact⟨rfl,rfl,rfl⟩
 |l+1,a,its,h=>by
  obtain⟨kids,parts,h1,_⟩:=h;unfold Ui;rw[h1];exact⟨Int.toNat_natCast _,rfl,rfl⟩
theorem qtz {R:Int->Nd × Int}{root:Int}{its:List Qb}(h:Ji R root its)(e:Ql its)(k:Kd):Ll R k root=Ro (valOf its k):=by
 unfold Ll;rcases h with⟨rfl,rfl⟩|⟨l,_,h,h1,_⟩
 ·rw[if_pos rfl];rfl
 ·rw[if_neg (by omega),(D8 h).1,qgk k l root its h e]
theorem qpf {R:Int->Nd × Int}{root:Int}{its:List Qb}(h:Ji R root its)(e:Ql its)(fr «to»:Kd)(most:Int):D9 R fr «to» most root=((within fr «to» its).take most.toNat,0):=by
 unfold D9;rcases h with⟨rfl,rfl⟩|⟨l,_,h,h1,_⟩
 ·rw[if_pos (.inl rfl)];simp[within]
 ·by_cases hm:most<1
  ·rw[if_pos (.inr hm),show most.toNat=0 by omega,List.take_zero]
  ·rw[if_neg (by omega),(D8 h).1,qcw fr «to» _ l root its [] h e (Nat.zero_le _),List.nil_append]
theorem qbw {ks:List Kd}(h:rises ks=true):∀(j i:Nat),i<j->j<ks.length->(keyAt ks i).less (keyAt ks j)=true
 |0,i,hi,_=>absurd hi (Nat.not_lt_zero _)
 |j+1,i,hi,hj=>by
  have h1:Wq ks (j+1)=true:=by
   unfold rises at h;rw[List.all_eq_true] at h;exact h _ (List.mem_range.2 hj)
  have h2:(keyAt ks j).less (keyAt ks (j+1))=true:=by
   unfold Wq at h1;simp at h1;exact h1.2
  by_cases e:i=j
  ·rw[e];exact h2
  ·exact Kd.trans _ _ _ (qbw h j i (by omega) (by omega)) h2
theorem q19 {N:Nd}(hm:N.may=true)(h0:N.lvl=0):N=⟨0,N.items,[]⟩/\Ql N.items/\1<=N.items.length/\N.items.length<=6:=by
 have F:=(Me hm).1 h0;unfold Nd.may at hm;rw[if_pos h0,Bool.and_eq_true,Bool.and_eq_true] at hm;obtain⟨_,h2,f⟩:=hm;have f:=of_decide_eq_true f;refine⟨by cases N;simp_all,?_,f.2⟩;have E:N.keys=N.items.map (·.k):=by unfold Nd.keys;rw[F];simp
 rw[E] at h2;unfold Ql;rw[List.pairwise_iff_getElem];intro i j hi u p;have:=qbw h2 j i p (by rw[List.length_map];exact u);rw[q17 _ hi,q17 _ u] at this;have e:∀q (y:q<N.items.length),Zb N.items q=N.items[q]:=λq y=>by unfold Zb;rw[List.getD_eq_getElem?_getD,List.getElem?_eq_getElem y];rfl
 rwa [e i hi,e j u] at this
theorem Pe {N:Nd}(hm:N.may=true)(h0:N.lvl≠0):N=⟨N.lvl,[],N.kids⟩/\1<=N.lvl/\N.lvl<8/\2<=N.kids.length/\N.kids.length<=12/\∀k,N.Zc k<N.kids.length:=by
 have G:=(Me hm).2 h0;unfold Nd.may at hm;rw[if_neg h0,Bool.and_eq_true,Bool.and_eq_true] at hm;obtain⟨_,h2,F⟩:=hm;obtain⟨p,u,_,y,E⟩:=of_decide_eq_true F;refine⟨by cases N;simp_all,p,u,y,E,λk=>?_⟩;have f:N.keys=N.kids.map (·.k):=by unfold Nd.keys;rw[G];simp
 unfold Nd.Zc;rw[if_neg h0,f,List.length_map];rcases q6w (N.kids.map (·.k)) k N.kids.length with e|e<;>omega
def Gt («to»:Kd)(most:Nat):List Qb->List Qb->List Qb
 |[],acc=>acc
 |x::r,acc=>if «to».less x.k=true\/most<=acc.length then acc else Gt «to» most r (acc++[x])
theorem qbx {fr «to»:Kd}{most:Nat}:∀(r e:List Qb),Ql r->(∀x∈r,x.k.less fr=false)->e.length<=most->Gt «to» most r e=(e++within fr «to» r).take most
 |[],e,_,_,ha=>by
  show e=_;rw[show within fr «to» []=[] from rfl,List.append_nil,List.take_of_length_le ha]
 |x::r,e,hr,hf,ha=>by
  obtain⟨E,F⟩:=List.pairwise_cons.1 hr;unfold Gt;by_cases f:«to».less x.k=true
  ·rw[if_pos (.inl f),q44 λz p=>.inr (by
    rcases List.mem_cons.1 p with rfl|p
    ·exact f
    ·exact Kd.trans _ _ _ f (E z p)),List.append_nil,List.take_of_length_le ha]
  ·by_cases hm:most<=e.length
   ·rw[if_pos (.inr hm),q45 hm,List.take_of_length_le ha]
   ·rw[if_neg (by rintro (h|h);exact f h;exact hm h),qbx r _ F (λy u=>hf y (List.mem_cons_of_mem _ u)) (by rw[List.length_append,List.length_singleton];omega)];have:within fr «to» (x::r)=x::within fr «to» r:=by
     unfold within;rw[List.filter_cons,hf x (List.mem_cons_self ..),if_pos (by simp;simpa using f)]
    rw[this,List.append_assoc];rfl
theorem qpg {its:List Qb}(T:Ql its)(fr «to»:Kd){most:Nat}(p:List Qb)(K:p.length<=most):Gt «to» most (its.drop (lead (its.map (·.k)) fr)) p=(p++within fr «to» its).take most:=by
 obtain⟨j,G⟩:∃j,lead (its.map (·.k)) fr=j:=⟨_,rfl⟩;have R:j<=its.length:=by have:=qb2 (its.map (·.k)) fr;rw[List.length_map] at this;omega
 have e:∀q (E:q<its.length),Zb its q=its[q]:=λq E=>by unfold Zb;rw[List.getD_eq_getElem?_getD,List.getElem?_eq_getElem E];rfl
 have h1:within fr «to» (its.take j)=[]:=q44 λx u=>.inl (by
  obtain⟨q,E,J⟩:=List.getElem_of_mem u;rw[List.length_take] at E;have:=q64 (its.map (·.k)) fr q (by omega);rw[q17 its (by omega),e q (by omega)] at this;rw[<-J,List.getElem_take];exact this)
 have h2:within fr «to» its=within fr «to» (its.drop j):=by
  conv=>lhs;rw[<-List.take_append_drop j its]
  have:within fr «to» (its.take j++its.drop j)=within fr «to» (its.take j)++within fr «to» (its.drop j):=by unfold within;rw[List.filter_append]
  rw[this,h1,List.nil_append]
 rw[G,h2];have y:Ql (its.drop j):=by
  have:Ql (its.take j++its.drop j):=by rw[List.take_append_drop];exact T
  exact (List.pairwise_append.1 this).2.1
 refine qbx _ p y (λx u=>?_) K;by_cases f:j<its.length
 ·have F:(Zb its j).k.less fr=false:=by
   have:=qb3 (its.map (·.k)) fr (by rw[G,List.length_map];exact f);rwa [G,q17 its f] at this
  rw[List.drop_eq_getElem_cons f] at u y;rcases List.mem_cons.1 u with rfl|u
  ·rw[<-e j f];exact F
  ·have I:=(List.pairwise_cons.1 y).1 x u;rw[<-e j f] at I
   cases Q:x.k.less fr with
   |false=>rfl
   |true=>rw[Kd.trans _ _ _ I Q] at F;cases F
 ·rw[List.drop_eq_nil_of_le (by omega)] at u
  cases u
theorem qa2 {P:Pl}{D:DM}{a:Int}(h:P.Qi D a≠0):P.Qd D a=Zp:=by
 unfold Pl.Qi at h;unfold Pl.Qd;by_cases h0:P.C.get a=0
 ·rw[if_pos h0]
 ·rw[if_neg h0] at h ⊢;split at h
  ·exact absurd rfl h
  ·rfl
  ·by_cases e:D.Ye a=0
   ·rw[if_pos e] at h ⊢;unfold Xi at h;unfold Xk
    cases f:Ze (D.Yp a) a with
    |none=>rfl
    |some N=>rw[f] at h;exact absurd rfl h
   ·rw[if_neg e]
structure Pl.Vj (P:Pl)(D:DM):Prop where
 may:∀a:Nat,a<P.C.n->P.C.get (a:Int)≠0->P.Qi D (a:Int)=0->(P.Qd D (a:Int)).may=true
 data:∀a:Nat,a<P.C.n->P.C.get (a:Int)≠0->P.Qi D (a:Int)=0->∀x∈(P.Qd D (a:Int)).items,∀c:Int,Uc x=some c->P.Qi D c≠0
 kids:∀a:Nat,a<P.C.n->P.C.get (a:Int)≠0->P.Qi D (a:Int)=0->∀x∈(P.Qd D (a:Int)).kids,∃c:Nat,x.a=(c:Int)/\0<c/\c<P.C.n/\P.C.get (c:Int)≠0/\P.Qi D (c:Int)=0/\(P.Qd D (c:Int)).lvl+1=(P.Qd D (a:Int)).lvl/\(P.Qd D (c:Int)).least=x.k
def Pl.Nu (P:Pl)(D:DM)(a:Nat):Nat:=if P.Qi D (a:Int)=0 then (P.Qd D (a:Int)).lvl.toNat+1 else 0
theorem q7d {N:Nd}(h:N.may=true):0<=N.lvl/\N.lvl<8:=by
 by_cases h0:N.lvl=0
 ·omega
 ·have:=(Pe h h0).2;omega
section
variable {P:Pl}{D:DM}
theorem q2m {b a:Nat}(hm:(a:Int)∈P.names D b):P.Qi D (b:Int)=0:=by
 by_cases h:P.Qi D (b:Int)=0
 ·exact h
 ·unfold Pl.names at hm;rw[qa2 h] at hm
  cases hm
theorem q51 {b:Nat}(h:P.Qi D (b:Int)=0):P.C.get (b:Int)≠0:=λe=>by
 unfold Pl.Qi at h;rw[if_pos e] at h
 cases h
theorem q7e (h:P.Vj D){b a:Nat}(u:b<P.C.n)(hm:(a:Int)∈P.names D b):((∃x∈(P.Qd D (b:Int)).kids,x.a=(a:Int))/\0<a/\a<P.C.n/\P.C.get (a:Int)≠0/\P.Qi D (a:Int)=0/\(P.Qd D (a:Int)).lvl+1=(P.Qd D (b:Int)).lvl)\/P.Qi D (a:Int)≠0:=by
 have p:=q2m hm;have h0:=q51 p;unfold Pl.names Nd.named at hm;rcases List.mem_append.1 hm with hm|hm
 ·obtain⟨x,f,e⟩:=List.mem_map.1 hm;obtain⟨c,h1,h2,y,E,F,G,_⟩:=h.kids b u h0 p x f;have:a=c:=by rw[h1] at e;omega
  subst this;exact .inl ⟨⟨x,f,e⟩,h2,y,E,F,G⟩
 ·obtain⟨x,f,e⟩:=List.mem_filterMap.1 hm;exact .inr (h.data b u h0 p x f _ e)
theorem qm8 (h:P.Vj D)(b a:Nat)(p:b<P.C.n)(hm:(a:Int)∈P.names D b):P.Nu D a<P.Nu D b:=by
 have f:=q2m hm;unfold Pl.Nu;rw[if_pos f];rcases q7e h p hm with⟨_,E,u,y,e,F⟩|k
 ·have G:=q7d (h.may a u y e);rw[if_pos e];omega
 ·rw[if_neg k];omega
theorem qxh (h:P.Vj D)(b:Nat):P.Nu D b<=8:=by
 unfold Pl.Nu;by_cases f:P.Qi D (b:Int)=0
 ·rw[if_pos f];have h0:=q51 f;obtain⟨c,e,p⟩:=Gq h0;have e:b=c:=by omega
  subst e;have u:=q7d (h.may b p h0 f);omega
 ·rw[if_neg f];omega
theorem qb9 {H:List Int}(R:P.Ad D H)(h:P.Vj D)(Q:P.C.ok)(f:P.C.res){S:Nat->Prop}(J:∀a:Nat,0<a->a<P.C.n->(a:Int)∈H->P.Qi D (a:Int)=0->S a)
  (I:∀b a:Nat,0<b->b<P.C.n->0<a->a<P.C.n->P.Qi D (b:Int)=0->S b->(∃x∈(P.Qd D (b:Int)).kids,x.a=(a:Int))->S a) (a:Nat) (h1:a<P.C.n) (h2:P.Qi D (a:Int)=0):S a:=by
 have E:1<=P.cnt a:=(qhn Q).2 (q51 h2);have p:0<a:=by
  rcases Nat.eq_zero_or_pos a with e|e
  ·subst e;have:=qji f;omega
  ·exact e
 exact Jz.reached R (B:=8) (P.Nu D) (λb a u _ hm=>qm8 h b a u hm) (qxh h) (qji f) (S:=λa=>P.Qi D (a:Int)=0->S a) J (λb a F u p K _ y hm G=>by
  rcases q7e h u hm with⟨T,_⟩|k
  ·exact I b a F u p K (q2m hm) (y (q2m hm)) T
  ·exact absurd G k) (8-P.Nu D a) a (Nat.le_refl _) p h1 E h2
end
theorem qfg {b:List UInt8}{a:Int}{N:Nd}(h:Ze b a=some N):N.may=true:=by
 unfold Ze at h;split at h
 ·unfold Di at h
  cases f:Jr (Yk b).level (Un b) (Yk b).count.toNat with
  |none=>rw[f] at h;cases h
  |some x=>
   obtain⟨M,r⟩:=x;rw[f] at h;dsimp only at h;by_cases e:(Yk b).kind=(if (Yk b).level=0 then 3 else 4)/\(Yk b).addr=a/\Y7 r=true/\M.may=true
   ·rw[if_pos e] at h;obtain rfl:=Option.some.inj h;exact e.2.2.2
   ·rw[if_neg e] at h
    cases h
 ·cases h
theorem qph {P:Pl}{D:DM}(E:∀a b,P.L a=some b->b.good)(a:Int)(h:(P.store D a).2=0):(P.store D a).1.may=true:=by
 obtain⟨n,rfl,hn,h0⟩:=qpc h
 cases u:P.live n with
 |some b=>
  obtain⟨N,rfl,e⟩:=qm6 h0 u h;rw[e];exact q3u (E n _ (q8v u).2)
 |none=>
  have f:P.Qi D (n:Int)=0:=h;unfold Pl.Qi at f;rw[if_neg h0,Int.toNat_natCast,u] at f;dsimp only at f;by_cases p:D.Ye (n:Int)=0
  ·rw[qm5 h0 u p];rw[if_pos p] at f;unfold Xi at f;unfold Xk
   cases y:Ze (D.Yp (n:Int)) (n:Int) with
   |some N=>exact qfg y
   |none=>rw[y] at f;simp at f
  ·rw[if_neg p] at f;exact absurd f p
structure Src (w0:World)(p:Nat)(R:Int->Nd × Int):Prop where
 node:∀u,Below w0.heap.size w0 u->Tab u->∀a,Calls Tryz.prog 37 #[.pointer (some ⟨p,0,none⟩),.int .i64 a] u λe w'=>q5v (R a).1 (R a).2 u e w'
 may:∀a,(R a).2=0->(R a).1.may=true
theorem qz6 {w:World}{p d:Nat}{S0 S T:Nat->Prop}{D:DM}{P:Pl}(f:Wu w d S0 D)(H:Pool w p d S T P)(y:∀a b,P.L a=some b->b.kindOk)(u:∀a b,P.L a=some b->b.good):Src w p (P.store D):=
 ⟨λ_ e E a=>q9z (f.below e) (H.below e) y E a,λa h=>qph u a h⟩
theorem Src.below {w0 w1:World}{p:Nat}{R:Int->Nd × Int}(h:Src w0 p R)(hb:Below w0.1.size w0 w1):Src w1 p R:=
 ⟨λu f e a=>h.node u (hb.trans (f.mono hb.size)) e a,h.may⟩
def U0:Nd:=⟨-1,[],[]⟩
def Pl.tell (P:Pl)(D:DM)(a:Int):Nd × Int:=if P.C.get a≠0/\P.Qi D a≠0 then (U0,0) else P.store D a
def Pl.hide (P:Pl)(D:DM)(O:List Int):Int->Nd × Int:=λa=>if a∈O then (Zp,1) else P.tell D a
def Nd.enough (N:Nd):Prop:=(if N.lvl=0 then 3 else 6)<=N.items.length+N.kids.length
def Dat (R:Int->Nd × Int)(x:Qb):Prop:=∀c,Uc x=some c->R c=(U0,0)
structure Ef (R:Int->Nd × Int)(a:Int):Prop where
 err:(R a).2=0
 may:(R a).1.may=true
 data:∀x∈(R a).1.items,Dat R x
 kids:∀x∈(R a).1.kids,(R x.a).2=0/\(R x.a).1.lvl+1=(R a).1.lvl/\(R x.a).1.least=x.k/\(R x.a).1.enough
def Loc (R:Int->Nd × Int)(a:Int):Prop:=R a=(U0,0)\/Ef R a
structure Keep (D:DM)(S0:Sp)(C0:Ct)(O H:List Int)(P:Pl):Prop where
 Zx:Wy D P S0 C0
 laid:∀a:Nat,P.C.fresh (a:Int)=true->∃b,P.L a=some b
 Ad:Jz P.C.n P.cnt (λb=>(P.hide D O (b:Int)).1.named) H
 opened:∀x∈O,x∈H/\P.C.get x=1
 loc:∀a:Nat,a<P.C.n->P.C.get (a:Int)≠0->(a:Int)∉O->Loc (P.hide D O) (a:Int)
def Ext (R R':Int->Nd × Int):Prop:=∀a,(R a).2=0->R' a=R a
theorem Ext.refl (R:Int->Nd × Int):Ext R R:=λ_ _=>rfl
theorem Ext.trans {R R' R'':Int->Nd × Int}(h:Ext R R')(h2:Ext R' R''):Ext R R'':=λa e=>by
 have h1:=h a e;rw[h2 a (by rw[h1];exact e),h1]
theorem Dat.ext {R R':Int->Nd × Int}{x:Qb}(h:Dat R x)(e:Ext R R'):Dat R' x:=λc f=>by
 have h1:=h c f;rw[e c (by rw[h1])];exact h1
theorem Ef.ext {R R':Int->Nd × Int}{a:Int}(h:Ef R a)(e:Ext R R'):Ef R' a:=by
 have p:=e a h.err;refine⟨by rw[p];exact h.err,by rw[p];exact h.may,λx f=>?_,λx f=>?_⟩
 ·rw[p] at f;exact (h.data x f).ext e
 ·rw[p] at f ⊢;obtain⟨u,E,F,G⟩:=h.kids x f;have y:=e x.a u;rw[y];exact⟨u,E,F,G⟩
theorem Loc.ext {R R':Int->Nd × Int}{a:Int}(h:Loc R a)(e:Ext R R'):Loc R' a:=by
 rcases h with h|h
 ·exact .inl (by rw[e a (by rw[h])];exact h)
 ·exact .inr (h.ext e)
theorem Loc.node {R:Int->Nd × Int}{a:Int}(h:Loc R a)(hl:0<=(R a).1.lvl):Ef R a:=by
 rcases h with h|h
 ·rw[h] at hl;exact absurd hl (by decide)
 ·exact h
def Bh (l:Int)(D:DM)(O e:List Int)(P P':Pl):Prop:=∀x,P.C.get x≠0->l<(P.Qd D x).lvl->P.C.get x<=P'.C.get x/\P'.store D x=P.store D x/\(x∈O↔x∈e)
structure Move (l:Int)(D:DM)(O O':List Int)(P P':Pl)(k:Nat):Prop where
 ext:Ext (P.hide D O) (P'.hide D O')
 above:Bh l D O O' P P'
 free:P.C.free<=P'.C.free+k
 n:P'.C.n=P.C.n
theorem Bh.trans {l:Int}{D:DM}{O O' O'':List Int}{P P' P'':Pl}(hb:∀x,0<=P.C.get x)(h:Bh l D O O' P P')(h2:Bh l D O' O'' P' P''):Bh l D O O'' P P'':=λx u f=>by
 obtain⟨E,p,y⟩:=h x u f;have:=hb x;have e:P'.Qd D x=P.Qd D x:=congrArg Prod.fst p;obtain⟨j1,j2,j3⟩:=h2 x (by omega) (by rw[e];exact f);exact⟨by omega,j2.trans p,y.trans j3⟩
theorem Move.refl (l:Int)(D:DM)(O:List Int)(P:Pl):Move l D O O P P 0:=⟨Ext.refl _,λ_ _ _=>⟨Int.le_refl _,rfl,Iff.rfl⟩,Nat.le_refl _,rfl⟩
theorem Move.trans {l:Int}{D:DM}{O O' O'':List Int}{P P' P'':Pl}{k k':Nat}(hb:∀x,0<=P.C.get x)(h:Move l D O O' P P' k)(h2:Move l D O' O'' P' P'' k'):Move l D O O'' P P'' (k+k'):=
 ⟨h.ext.trans h2.ext,h.above.trans hb h2.above,by have:=h.free;have:=h2.free;omega,h2.n.trans h.n⟩
theorem Move.more {l:Int}{D:DM}{O O':List Int}{P P':Pl}{k k':Nat}(h:Move l D O O' P P' k)(hk:k<=k'):Move l D O O' P P' k':=⟨h.ext,h.above,by have:=h.free;omega,h.n⟩
section
variable {D:DM}{S0:Sp}{C0:Ct}{O H:List Int}{P:Pl}
theorem qdl {C:Ct}{c:Nat}{x:Int}(h0:C.get (c:Int)≠0):C.free<=(C.put c x).free:=by
 have hn:nm C.now c≠0:=λe=>h0 (by unfold Ct.get;split;exact e;rfl)
 unfold Ct.free Ct.Xh;rw[C.Zh];refine List.countP_mono_left λj _ f=>?_
 have y:j≠c:=λe=>by
  subst e;unfold Ct.may Ct.G6 at f;simp at f;exact hn f.2.1
 unfold Ct.may Ct.G6 at f ⊢;have p:nm (C.put c x).now j=nm C.now j:=q4a C.now c j x (λe=>y e.symm);have u:(C.put c x).first=C.first:=by unfold Ct.first;rw[C.Zh]
 rw[p,u];exact f
theorem q11 {x:Int}(h:P.C.get x=0):P.store D x=(Zp,1):=by
 unfold Pl.store Pl.Qd Pl.Qi;rw[if_pos h,if_pos h]
theorem q39 {x:Int}(h:P.C.get x=0):P.tell D x=(Zp,1):=by
 unfold Pl.tell;rw[if_neg (λe=>e.1 h)];exact q11 h
theorem Ii {x:Int}(h:P.Qi D x=0):P.tell D x=P.store D x:=if_neg λe=>e.2 h
theorem qfh {x:Int}(h0:P.C.get x≠0)(h:P.Qi D x≠0):P.tell D x=(U0,0):=if_pos ⟨h0,h⟩
theorem qa3 {x:Int}(h:(P.tell D x).2=0):P.C.get x≠0:=λe=>by
 rw[q39 e] at h;cases h
theorem qdm {x:Int}(h:(P.tell D x).2=0)(f:0<=(P.tell D x).1.lvl):P.Qi D x=0:=by
 by_cases e:P.Qi D x=0
 ·exact e
 ·rw[qfh (qa3 h) e] at f;exact absurd f (by decide)
theorem q8w (h:Wy D P S0 C0){a:Int}(f:P.Qi D a=0):(P.Qd D a).may=true:=by
 have h0:P.C.get a≠0:=λe=>by
  unfold Pl.Qi at f;rw[if_pos e] at f
  cases f
 obtain⟨n,rfl,hn⟩:=Gq h0
 cases p:P.live n with
 |some b=>
  have E:=qdj D h0 p;have F:=h.good n b (q8v p).2
  cases b with
  |node N=>
   have e:P.Qd D (n:Int)=N:=by
    unfold Pl.Qd;rw[if_neg h0,Int.toNat_natCast,p]
   rw[e];exact q3u F
  |bytes k l=>
   have:bkE (Bk.bytes k l)=1:=rfl;rw[this] at E;omega
 |none=>
  unfold Pl.Qi at f;rw[if_neg h0,Int.toNat_natCast,p] at f;unfold Pl.Qd;rw[if_neg h0,Int.toNat_natCast,p];dsimp only at f ⊢;by_cases u:D.Ye (n:Int)=0
  ·rw[if_pos u] at f ⊢;unfold Xi at f;unfold Xk
   cases y:Ze (D.Yp (n:Int)) (n:Int) with
   |none=>rw[y] at f;exact absurd f (by decide)
   |some N=>exact qfg y
  ·rw[if_neg u] at f;exact absurd f u
theorem qdn (f:Wy D P S0 C0){x:Int}(h:P.tell D x=(U0,0)):P.C.get x≠0/\P.Qi D x≠0:=by
 have h0:P.C.get x≠0:=qa3 (D:=D) (by rw[h]);refine⟨h0,λe=>?_⟩;have hm:=q8w f e;rw[Ii e] at h;have:P.Qd D x=U0:=congrArg Prod.fst h;rw[this] at hm;exact absurd hm (by decide)
theorem q52 {P':Pl}{x:Int}(h:P'.store D x=P.store D x)(p:P'.C.get x=0↔P.C.get x=0):P'.tell D x=P.tell D x:=by
 have u:P'.Qi D x=P.Qi D x:=congrArg Prod.snd h;unfold Pl.tell;rw[h,u];by_cases e:P.C.get x=0
 ·rw[if_neg (λq=>q.1 (p.2 e)),if_neg (λq=>q.1 e)]
 ·by_cases f:P.Qi D x=0
  ·rw[if_neg (λq=>q.2 f),if_neg (λq=>q.2 f)]
  ·rw[if_pos ⟨λq=>e (p.1 q),f⟩,if_pos ⟨e,f⟩]
theorem Oy {x:Int}(h:x∈O):P.hide D O x=(Zp,1):=if_pos h
theorem Td {x:Int}(h:x∉O):P.hide D O x=P.tell D x:=if_neg h
theorem q30 {x:Int}(h:(P.hide D O x).2=0):x∉O/\∃n:Nat,x=(n:Int)/\n<P.C.n/\P.C.get (n:Int)≠0:=by
 by_cases e:x∈O
 ·rw[Oy e] at h;cases h
 ·rw[Td e] at h;have h0:=qa3 h;obtain⟨n,rfl,hn⟩:=Gq h0;exact⟨e,n,rfl,hn,h0⟩
theorem qpi {x:Int}(h:(P.hide D O x).2=0)(f:0<=(P.hide D O x).1.lvl):P.hide D O x=P.store D x/\P.Qi D x=0:=by
 obtain⟨p,_⟩:=q30 h;rw[Td p] at h f ⊢;have e:=qdm h f;exact⟨Ii e,e⟩
theorem q3a {l:Nat}{a:Int}{its:List Qb}(h:Qm (P.hide D O) l a its):P.hide D O a=P.store D a/\P.Qi D a=0:=
 qpi (D8 h).2.2 (by rw[(D8 h).2.1];exact Int.natCast_nonneg l)
theorem qpj {R:Int->Nd × Int}{a:Int}(h:Ef R a){c:Int}(f:c∈(R a).1.named):(R c).2=0:=by
 unfold Nd.named at f;rcases List.mem_append.1 f with f|f
 ·obtain⟨x,p,rfl⟩:=List.mem_map.1 f;exact (h.kids x p).1
 ·obtain⟨x,p,e⟩:=List.mem_filterMap.1 f;rw[h.data x p c e]
theorem q7f {R:Int->Nd × Int}{a:Int}(h:R a=(U0,0)):(R a).1.named=[]:=by rw[h];rfl
theorem qu0 {R:Int->Nd × Int}{a:Int}(h:Loc R a){c:Int}(e:c∈(R a).1.named):(R c).2=0:=by
 rcases h with h|h
 ·rw[q7f h] at e;cases e
 ·exact qpj h e
theorem Keep.named (K:Keep D S0 C0 O H P){b:Nat}(hb:b<P.C.n){a:Nat}(hm:(a:Int)∈(P.hide D O (b:Int)).1.named):P.C.get (b:Int)≠0/\(b:Int)∉O/\(P.hide D O (a:Int)).2=0:=by
 have h0:P.C.get (b:Int)≠0/\(b:Int)∉O:=by
  refine⟨λe=>?_,λe=>?_⟩
  ·by_cases f:(b:Int)∈O
   ·rw[Oy f] at hm;cases hm
   ·rw[Td f,q39 e] at hm;cases hm
  ·rw[Oy e] at hm;cases hm
 exact⟨h0.1,h0.2,qu0 (K.loc b hb h0.1 h0.2) hm⟩
theorem Keep.c (K:Keep D S0 C0 O H P):P.C.ok:=K.Zx.ok.c
theorem Keep.first (K:Keep D S0 C0 O H P){c:Nat}(h0:P.C.get (c:Int)≠0):0<c/\c<P.C.n:=by
 obtain⟨h1,h2,e⟩:=Ct.Vk K.Zx.ok.res h0;have f:P.C.first=2+2*Qh P.C.n:=rfl
 rw[Int.toNat_natCast] at e;omega
theorem Keep.once (K:Keep D S0 C0 O H P){c:Nat}(h1:P.C.get (c:Int)=1)(hc:(c:Int)∈H):H.count (c:Int)=1/\∀b:Nat,b<P.C.n->(c:Int)∉(P.hide D O (b:Int)).1.named:=by
 obtain⟨c0,y⟩:=K.first (c:=c) (by omega)
 have h:=K.Ad.eq c c0 y;have u:P.cnt c=1:=by unfold Pl.cnt;rw[h1];rfl
 have I:=List.count_pos_iff.2 hc;refine⟨by omega,λb p hm=>?_⟩;obtain⟨F,_,_⟩:=K.named p hm;have E:=qed (f:=λb=>if 1<=P.cnt b then ((P.hide D O (b:Int)).1.named).count (c:Int) else 0) p;have G:=List.count_pos_iff.2 hm;rw[if_pos ((qhn K.c).2 F)] at E;have e:refs (λb=>(P.hide D O (b:Int)).1.named) P.C.n P.cnt c=sumTo P.C.n λb=>if 1<=P.cnt b then ((P.hide D O (b:Int)).1.named).count (c:Int) else 0:=rfl
 omega
theorem Keep.told (K:Keep D S0 C0 O H P){x:Int}(hx:P.C.get x≠0)(ho:x∉O):Loc (P.hide D O) x:=by
 obtain⟨n,rfl,hn⟩:=Gq hx;exact K.loc n hn hx ho
theorem q1h {c x:Int}(h:x≠c):P.hide D (c::O) x=P.hide D O x:=by
 unfold Pl.hide;have:x∈c::O↔x∈O:=by simp[h]
 by_cases e:x∈O
 ·rw[if_pos e,if_pos (this.2 e)]
 ·rw[if_neg e,if_neg λh=>e (this.1 h)]
theorem Keep.Qav (K:Keep D S0 C0 O H P){x:Int}(he:(P.hide D O x).2=0)(hl:0<=(P.hide D O x).1.lvl):Ef (P.hide D O) x:=by
 obtain⟨e,n,rfl,hn,h0⟩:=q30 he;exact (K.told h0 e).node hl
theorem Keep.tree (K:Keep D S0 C0 O H P){l:Nat}{a:Int}{its:List Qb}(h:Qm (P.hide D O) l a its):Ef (P.hide D O) a:=
 K.Qav (D8 h).2.2 (by rw[(D8 h).2.1];exact Int.natCast_nonneg l)
theorem Keep.dat (K:Keep D S0 C0 O H P):∀(l:Nat) (a:Int) (its:List Qb),Qm (P.hide D O) l a its->∀x∈its,Dat (P.hide D O) x
 |0,a,its,h,x,f=>by
  have L:=K.tree (l:=0) h;refine L.data x ?_;rw[h.1];exact f
 |l+1,a,its,h,x,f=>by
  obtain⟨kids,parts,e,G,I,rfl,F⟩:=h;obtain⟨p,E,f⟩:=List.mem_flatten.1 f;obtain⟨j,y,rfl⟩:=List.getElem_of_mem E;have u:=(F j (by omega)).1;rw[List.getD_eq_getElem?_getD,List.getElem?_eq_getElem y] at u;exact K.dat l _ _ u x f
theorem qjj {c:Nat}{x:Qb}(p:Dat (P.hide D O) x)(f:Uc x≠some (c:Int)):Dat (P.hide D ((c:Int)::O)) x:=λd hd=>by
 rw[q1h (λe=>f (by rw[<-e];exact hd))];exact p d hd
theorem Keep.open_ (K:Keep D S0 C0 O H P){c:Nat}(h1:P.C.get (c:Int)=1)(hc:(c:Int)∈H)(_ho:(c:Int)∉O):Keep D S0 C0 ((c:Int)::O) ((P.hide D O (c:Int)).1.named++H) P:=by
 obtain⟨c0,Q⟩:=K.first (c:=c) (by omega)
 obtain⟨_,h2⟩:=K.once h1 hc;refine⟨K.Zx,K.laid,?_,λx f=>?_,λa G h0 y=>?_⟩
 ·exact K.Ad.set (c:=c) (ks:=[]) (H0:=H) (K':=λb=>(P.hide D ((c:Int)::O) (b:Int)).1.named) Q (by unfold Pl.cnt;rw[h1];decide) (λa _ _=>by simp) (by show (P.hide D ((c:Int)::O) (c:Int)).1.named=[];rw[Oy (List.mem_cons_self ..)];rfl) (λb U F=>by
   show (P.hide D ((c:Int)::O) (b:Int)).1.named=_;rw[q1h (by omega)])
 ·rcases List.mem_cons.1 f with rfl|f
  ·exact⟨List.mem_append_right _ hc,h1⟩
  ·obtain⟨R,T⟩:=K.opened x f;exact⟨List.mem_append_right _ R,T⟩
 ·have F:(a:Int)≠(c:Int):=λe=>y (e▸List.mem_cons_self ..)
  have E:(a:Int)∉O:=λh=>y (List.mem_cons_of_mem _ h)
  have u:=q1h (P:=P) (D:=D) (O:=O) F;rcases K.loc a G h0 E with p|p
  ·exact .inl (u.trans p)
  ·refine .inr ⟨by rw[u];exact p.err,by rw[u];exact p.may,λx f d hd=>?_,λx f=>?_⟩
   ·rw[u] at f;have I:d≠(c:Int):=λe=>h2 a G (by unfold Nd.named;rw[<-e];exact List.mem_append_right _ (List.mem_filterMap.2 ⟨x,f,hd⟩))
    rw[q1h I];exact p.data x f d hd
   ·rw[u] at f ⊢;have J:x.a≠(c:Int):=λe=>h2 a G (by unfold Nd.named;rw[<-e];exact List.mem_append_left _ (List.mem_map_of_mem f))
    rw[q1h J];exact p.kids x f
theorem q3b (K:Keep D S0 C0 O H P){c:Nat}(h1:P.C.get (c:Int)=1)(p:(c:Int)∈H):∀(l:Nat) (a:Int) (its:List Qb),a≠(c:Int)->Qm (P.hide D O) l a its->Qm (P.hide D ((c:Int)::O)) l a its
 |0,a,its,hne,h=>⟨by rw[q1h hne];exact h.1,h.2⟩
 |l+1,a,its,hne,h=>by
  obtain⟨kids,parts,e,E,F,G,u⟩:=h;refine⟨kids,parts,by rw[q1h hne];exact e,E,F,G,λj f=>⟨q3b K h1 p l _ _ (λy=>?_) (u j f).1,(u j f).2⟩⟩;obtain⟨I,n,rfl,hn,h0⟩:=q30 (P:=P) (D:=D) (O:=O) (x:=a) (by rw[e]);refine (K.once h1 p).2 n hn ?_;rw[e,<-y];exact List.mem_append_left _ (List.mem_map_of_mem (List.mem_of_getElem? (q12 f)))
theorem qfi {c:Nat}{x:Int}(u:c<P.C.n)(h0:P.C.get (c:Int)≠0)(f:x≠0)(b:Int):Pl.store ⟨P.S,P.C.put c x,P.L⟩ D b=P.store D b:=by
 by_cases p:0<=b/\b<(P.C.n:Int)
 ·obtain⟨n,rfl⟩:∃n:Nat,b=(n:Int):=⟨b.toNat,by omega⟩;have hn:n<P.C.n:=by omega
  have y:(P.C.put c x).get (n:Int)=if n=c then x else P.C.get (n:Int):=q1x P.C n hn
  unfold Pl.store Pl.Qd Pl.Qi Pl.live;show ((if (P.C.put c x).get (n:Int)=0 then Zp else match (if (P.C.put c x).get (((n:Int).toNat:Nat):Int)=0 then none else P.L (n:Int).toNat) with|some (.node N)=>N|some (.bytes _ _)=>Zp|none=>_),(if (P.C.put c x).get (n:Int)=0 then 1 else match (if (P.C.put c x).get (((n:Int).toNat:Nat):Int)=0 then none else P.L (n:Int).toNat) with|some (.node _)=>(0:Int)|some (.bytes _ _)=>1|none=>_))=_;rw[Int.toNat_natCast,y];by_cases e:n=c
  ·subst e;rw[if_pos rfl,if_neg f,if_neg f,if_neg f,if_neg h0,if_neg h0,if_neg h0];rfl
  ·rw[if_neg e];rfl
 ·have h1:P.C.get b=0:=by unfold Ct.get;rw[if_neg p]
  have h2:(P.C.put c x).get b=0:=by unfold Ct.get;rw[P.C.Zh,if_neg p]
  rw[q11 h1];exact q11 (P:=⟨P.S,P.C.put c x,P.L⟩) h2
theorem qa4 {c:Nat}{x:Int}(p:c<P.C.n)(h0:P.C.get (c:Int)≠0){a:Nat}(h:(P.C.put c x).fresh (a:Int)=true):P.C.fresh (a:Int)=true:=by
 have f:a<P.C.n:=by
  have:=q38 h;obtain⟨n,e,hn⟩:=Gq this;rw[P.C.Zh] at hn;omega
 unfold Ct.fresh at h ⊢;rw[q1x P.C a f] at h;by_cases e:a=c
 ·subst e;rw[if_pos rfl] at h;rw[if_neg h0];split at h
  ·cases h
  ·exact h
 ·rw[if_neg e] at h;exact h
theorem qpk {S0:Sp}{C0:Ct}(h:Sound D P S0 C0)(c:Nat)(x:Int):Sound D ⟨P.S,P.C.put c x,P.L⟩ S0 C0:=by
 have e:(P.C.put c x).n=P.C.n:=P.C.Zh c x;have H:=h.holds;exact⟨h.free,h.n.trans e.symm,h.Af,⟨H.may,H.gen,H.sec.trans (by rw[e]),H.c,H.res,H.n.trans e.symm,H.slot,H.other,λi hi=>by
  have:=H.area i (by rw[e] at hi;exact hi);show D.Xc (Qv (P.C.put c x).n P.S.gen+i)=Zn (U5 (P.C.put c x).n P.S.gen i) (C0.body (i:Int));rw[e];exact this⟩⟩
theorem qa5 {S0:Sp}{C0:Ct}(h:Wy D P S0 C0){c:Nat}{x:Int}(f:P.C.first<=c)(e:0<=x/\x<=65535):Wy D ⟨P.S,P.C.put c x,P.L⟩ S0 C0:=
 ⟨⟨Ct.Ci h.ok.c c x e.1 e.2,Ct.Bc h.ok.res x f,h.ok.may,by show P.S.Qa=((P.C.put c x).n:Int);rw[P.C.Zh];exact h.ok.sec,h.ok.gen,h.ok.fine⟩,qpk h.sound c x,h.kinds⟩
theorem qz7 {c:Nat}(h0:P.C.get (c:Int)≠0)(h1:P.C.get (c:Int)≠65535):P.C.Y4 (c:Int)=0/\P.C.ref (c:Int)=P.C.put c (P.C.get (c:Int)+1):=by
 have e:P.C.Y4 (c:Int)=0:=by unfold Ct.Y4;rw[if_neg h0,if_neg h1]
 refine⟨e,?_⟩;unfold Ct.ref;rw[if_pos e,Int.toNat_natCast]
theorem q8x {c:Nat}(h0:P.C.get (c:Int)≠0):P.C.Jm (c:Int)=0/\P.C.Qq (c:Int)=P.C.put c (P.C.get (c:Int)-1):=by
 refine⟨by unfold Ct.Jm;rw[if_neg h0],?_⟩;unfold Ct.Qq;rw[if_neg h0,Int.toNat_natCast]
theorem qfj {P':Pl}{O:List Int}(h:∀b,P'.store D b=P.store D b)(e:∀b,P'.C.get b=0↔P.C.get b=0)(b:Int):P'.hide D O b=P.hide D O b:=by
 unfold Pl.hide;rw[q52 (h b) (e b)]
theorem qa6 {C:Ct}{c:Nat}{x:Int}(p:c<C.n)(h0:C.get (c:Int)≠0)(u:x≠0)(b:Int):(C.put c x).get b=0↔C.get b=0:=by
 by_cases f:0<=b/\b<(C.n:Int)
 ·obtain⟨n,rfl⟩:∃n:Nat,b=(n:Int):=⟨b.toNat,by omega⟩;rw[q1x C n (by omega)];by_cases e:n=c
  ·subst e;rw[if_pos rfl];exact⟨λh=>absurd h u,λh=>absurd h h0⟩
  ·rw[if_neg e]
 ·unfold Ct.get;rw[C.Zh,if_neg f,if_neg f]
theorem qdo {R R':Int->Nd × Int}(h:∀b,R' b=R b){a:Int}(L:Loc R a):Loc R' a:=by
 have:R'=R:=funext h;rw[this];exact L
theorem Keep.ref (K:Keep D S0 C0 O H P){c:Nat}(h0:P.C.get (c:Int)≠0)(h1:P.C.get (c:Int)≠65535)(ho:(c:Int)∉O) :
  P.C.Y4 (c:Int)=0/\Keep D S0 C0 O ((c:Int)::H) ⟨P.S,P.C.ref (c:Int),P.L⟩/\∀l,Move l D O O P ⟨P.S,P.C.ref (c:Int),P.L⟩ 0:=by
 obtain⟨U,e⟩:=qz7 h0 h1;obtain⟨c0,E⟩:=K.first h0
 have F:=Ct.Zv K.c (c:Int);have R:=(Ct.Vk K.Zx.ok.res h0).2.2;rw[Int.toNat_natCast] at R;rw[e];have T:∀b,Pl.store ⟨P.S,P.C.put c (P.C.get (c:Int)+1),P.L⟩ D b=P.store D b:=qfi E h0 (by omega);have J:∀b,Pl.hide ⟨P.S,P.C.put c (P.C.get (c:Int)+1),P.L⟩ D O b=P.hide D O b:=qfj T (qa6 E h0 (by omega));have u:∀b:Nat,b<P.C.n->(P.C.put c (P.C.get (c:Int)+1)).get (b:Int)=if b=c then P.C.get (c:Int)+1 else P.C.get (b:Int):=λb F=>q1x P.C b F
 refine⟨U,⟨qa5 K.Zx R (by omega),λa p=>K.laid a (qa4 E h0 p),?_,λx y=>?_,λa p G I=>?_⟩,λl=>?_⟩
 ·show Jz (P.C.put c (P.C.get (c:Int)+1)).n _ _ _;rw[P.C.Zh];refine (K.Ad.ref (c:=c) (cnt':=Pl.cnt ⟨P.S,P.C.put c (P.C.get (c:Int)+1),P.L⟩) ?_ ?_ ?_).same (λ_ _=>rfl) (λb _ _=>by rw[J])
  ·unfold Pl.cnt;omega
  ·unfold Pl.cnt;show ((P.C.put c (P.C.get (c:Int)+1)).get (c:Int)).toNat=_;rw[u c E,if_pos rfl];omega
  ·intro b F f;unfold Pl.cnt;show ((P.C.put c (P.C.get (c:Int)+1)).get (b:Int)).toNat=_;rw[u b F,if_neg f]
 ·obtain⟨X,Y⟩:=K.opened x y;obtain⟨n,rfl,hn⟩:=Gq (C:=P.C) (a:=x) (by omega);have f:n≠c:=λe=>ho (e▸y)
  refine⟨List.mem_cons_of_mem _ X,?_⟩;show (P.C.put c (P.C.get (c:Int)+1)).get (n:Int)=1;rw[u n hn,if_neg f];exact Y
 ·have p:a<P.C.n:=by
   have:a<(P.C.put c (P.C.get (c:Int)+1)).n:=p;rw[P.C.Zh] at this;exact this
  refine qdo J (K.loc a p ?_ I);intro Q;refine G ?_;show (P.C.put c (P.C.get (c:Int)+1)).get (a:Int)=0;rw[u a p,if_neg (λ(W:a=c)=>h0 (by rw[<-W];exact Q))];exact Q
 ·refine⟨λx y=>J x,λx y _=>⟨?_,T x,Iff.rfl⟩,qdl h0,P.C.Zh _ _⟩;obtain⟨n,rfl,hn⟩:=Gq y;show _<=(P.C.put c (P.C.get (c:Int)+1)).get (n:Int);rw[u n hn];split
  ·rename_i e;subst e;omega
  ·exact Int.le_refl _
theorem Keep.Qq (K:Keep D S0 C0 O H P){c:Nat}{H0:List Int}(h1:2<=P.C.get (c:Int))(hH:∀a:Nat,0<a->a<P.C.n->H.count (a:Int)=((c:Int)::H0).count (a:Int)) :
  P.C.Jm (c:Int)=0/\Keep D S0 C0 O H0 ⟨P.S,P.C.Qq (c:Int),P.L⟩/\∀l,(P.Qd D (c:Int)).lvl<=l->Move l D O O P ⟨P.S,P.C.Qq (c:Int),P.L⟩ 0:=by
 have h0:P.C.get (c:Int)≠0:=by omega
 obtain⟨W,e⟩:=q8x h0;obtain⟨c0,y⟩:=K.first h0
 have E:=Ct.Zv K.c (c:Int);have R:=(Ct.Vk K.Zx.ok.res h0).2.2;rw[Int.toNat_natCast] at R;rw[e];have T:∀b,Pl.store ⟨P.S,P.C.put c (P.C.get (c:Int)-1),P.L⟩ D b=P.store D b:=qfi y h0 (by omega);have J:∀b,Pl.hide ⟨P.S,P.C.put c (P.C.get (c:Int)-1),P.L⟩ D O b=P.hide D O b:=qfj T (qa6 y h0 (by omega));have u:∀b:Nat,b<P.C.n->(P.C.put c (P.C.get (c:Int)-1)).get (b:Int)=if b=c then P.C.get (c:Int)-1 else P.C.get (b:Int):=λb E=>q1x P.C b E
 refine⟨W,⟨qa5 K.Zx R (by omega),λa p=>K.laid a (qa4 y h0 p),?_,λx F=>?_,λa p G I=>?_⟩,λl hl=>?_⟩
 ·show Jz (P.C.put c (P.C.get (c:Int)-1)).n _ _ _;rw[P.C.Zh];refine (K.Ad.Qq (c:=c) (H0:=H0) (cnt':=Pl.cnt ⟨P.S,P.C.put c (P.C.get (c:Int)-1),P.L⟩) hH ?_ ?_ ?_).same (λ_ _=>rfl) (λb _ _=>by rw[J])
  ·unfold Pl.cnt;omega
  ·unfold Pl.cnt;show ((P.C.put c (P.C.get (c:Int)-1)).get (c:Int)).toNat+1=_;rw[u c y,if_pos rfl];omega
  ·intro b E f;unfold Pl.cnt;show ((P.C.put c (P.C.get (c:Int)-1)).get (b:Int)).toNat=_;rw[u b E,if_neg f]
 ·obtain⟨k1,k2⟩:=K.opened x F;obtain⟨n,rfl,hn⟩:=Gq (C:=P.C) (a:=x) (by omega);have f:n≠c:=λe=>by subst e;omega
  obtain⟨n0,_⟩:=K.first (c:=n) (by omega)
  refine⟨?_,?_⟩
  ·have Y:=hH n n0 hn;have h4:=List.count_pos_iff.2 k1;rw[List.count_cons,if_neg (by intro U;have:=eq_of_beq U;omega)] at Y;exact List.count_pos_iff.1 (by omega)
  ·show (P.C.put c (P.C.get (c:Int)-1)).get (n:Int)=1;rw[u n hn,if_neg f];exact k2
 ·have p:a<P.C.n:=by
   have:a<(P.C.put c (P.C.get (c:Int)-1)).n:=p;rw[P.C.Zh] at this;exact this
  refine qdo J (K.loc a p ?_ I);intro Q;refine G ?_;show (P.C.put c (P.C.get (c:Int)-1)).get (a:Int)=0;rw[u a p,if_neg (λ(X:a=c)=>h0 (by rw[<-X];exact Q))];exact Q
 ·refine⟨λx F=>J x,λx F Z=>⟨?_,T x,Iff.rfl⟩,qdl h0,P.C.Zh _ _⟩;obtain⟨n,rfl,hn⟩:=Gq F;have f:n≠c:=λe=>by subst e;omega
  show _<=(P.C.put c (P.C.get (c:Int)-1)).get (n:Int);rw[u n hn,if_neg f];exact Int.le_refl _
theorem qa7 {c:Nat}{x y:Int}(p:y≠(c:Int)):(P.C.put c x).get y=P.C.get y/\Pl.store ⟨P.S,P.C.put c x,P.L⟩ D y=P.store D y:=by
 have e:(P.C.put c x).get y=P.C.get y:=by
  by_cases f:0<=y/\y<(P.C.n:Int)
  ·obtain⟨n,rfl⟩:∃n:Nat,y=(n:Int):=⟨y.toNat,by omega⟩;rw[q1x P.C n (by omega),if_neg (by omega)]
  ·unfold Ct.get;rw[P.C.Zh,if_neg f,if_neg f]
 refine⟨e,?_⟩;by_cases h0:P.C.get y=0
 ·rw[q11 h0];exact q11 (P:=⟨P.S,P.C.put c x,P.L⟩) (by rw[<-h0];exact e)
 ·obtain⟨n,rfl,hn⟩:=Gq h0;unfold Pl.store Pl.Qd Pl.Qi Pl.live;show ((if (P.C.put c x).get (n:Int)=0 then Zp else match (if (P.C.put c x).get (((n:Int).toNat:Nat):Int)=0 then none else P.L (n:Int).toNat) with|some (.node N)=>N|some (.bytes _ _)=>Zp|none=>_),(if (P.C.put c x).get (n:Int)=0 then 1 else match (if (P.C.put c x).get (((n:Int).toNat:Nat):Int)=0 then none else P.L (n:Int).toNat) with|some (.node _)=>(0:Int)|some (.bytes _ _)=>1|none=>_))=_;rw[Int.toNat_natCast,e];rfl
def less1 (O:List Int)(c:Int):List Int:=O.filter λx=>!(x==c)
theorem q0n {c x:Int}:x∈less1 O c↔x∈O/\x≠c:=by
 unfold less1;rw[List.mem_filter];simp
theorem Keep.drop (K:Keep D S0 C0 O H P){c:Nat}{H0:List Int}(ho:(c:Int)∈O)(hH:∀a:Nat,0<a->a<P.C.n->H.count (a:Int)=((c:Int)::H0).count (a:Int)) :
  P.C.Jm (c:Int)=0/\Keep D S0 C0 (less1 O (c:Int)) H0 ⟨P.S,P.C.Qq (c:Int),P.L⟩/\∀l,(P.Qd D (c:Int)).lvl<=l->Move l D O (less1 O (c:Int)) P ⟨P.S,P.C.Qq (c:Int),P.L⟩ 0:=by
 obtain⟨_,h1⟩:=K.opened _ ho;have h0:P.C.get (c:Int)≠0:=by omega
 obtain⟨Z,e⟩:=q8x h0;obtain⟨c0,Q⟩:=K.first h0
 have W:=(Ct.Vk K.Zx.ok.res h0).2.2;rw[Int.toNat_natCast] at W;rw[e,h1];have u:∀b:Nat,b<P.C.n->(P.C.put c (1-1)).get (b:Int)=if b=c then 0 else P.C.get (b:Int):=λb E=>q1x P.C b E
 have X:∀b,b≠(c:Int)->Pl.store ⟨P.S,P.C.put c (1-1),P.L⟩ D b=P.store D b:=λb f=>by
  by_cases E:0<=b/\b<(P.C.n:Int)
  ·obtain⟨n,rfl⟩:∃n:Nat,b=(n:Int):=⟨b.toNat,by omega⟩;have u:=u n (by omega);rw[if_neg (by omega)] at u;unfold Pl.store Pl.Qd Pl.Qi Pl.live;show ((if (P.C.put c (1-1)).get (n:Int)=0 then Zp else match (if (P.C.put c (1-1)).get (((n:Int).toNat:Nat):Int)=0 then none else P.L (n:Int).toNat) with|some (.node N)=>N|some (.bytes _ _)=>Zp|none=>_),(if (P.C.put c (1-1)).get (n:Int)=0 then 1 else match (if (P.C.put c (1-1)).get (((n:Int).toNat:Nat):Int)=0 then none else P.L (n:Int).toNat) with|some (.node _)=>(0:Int)|some (.bytes _ _)=>1|none=>_))=_;rw[Int.toNat_natCast,u];rfl
  ·have h1:P.C.get b=0:=by unfold Ct.get;rw[if_neg E]
   have h2:(P.C.put c (1-1)).get b=0:=by unfold Ct.get;rw[P.C.Zh,if_neg E]
   rw[q11 h1];exact q11 (P:=⟨P.S,P.C.put c (1-1),P.L⟩) h2
 have G:(P.C.put c (1-1)).get (c:Int)=0:=by rw[u c Q,if_pos rfl]
 have T:∀b,b≠(c:Int)->(P.C.put c (1-1)).get b=P.C.get b:=λb f=>(qa7 (D:=D) f).1
 have U:∀b,Pl.hide ⟨P.S,P.C.put c (1-1),P.L⟩ D (less1 O (c:Int)) b=P.hide D O b:=λb=>by
  by_cases e:b=(c:Int)
  ·subst e;rw[Oy ho,Td (λh=>(q0n.1 h).2 rfl)];exact q39 (P:=⟨P.S,P.C.put c (1-1),P.L⟩) G
  ·unfold Pl.hide;rw[q52 (P:=P) (P':=⟨P.S,P.C.put c (1-1),P.L⟩) (X b e) (by rw[<-T b e])];by_cases I:b∈O
   ·rw[if_pos I,if_pos (q0n.2 ⟨I,e⟩)]
   ·rw[if_neg I,if_neg (λh=>I (q0n.1 h).1)]
 refine⟨Z,⟨qa5 K.Zx W (by omega),λa y=>K.laid a (qa4 Q h0 y),?_,λx F=>?_,λa y p R=>?_⟩,λl hl=>?_⟩
 ·show Jz (P.C.put c (1-1)).n _ _ _;rw[P.C.Zh];have J:=K.Ad.last (c:=c) (H0:=H0) (cnt':=Pl.cnt ⟨P.S,P.C.put c (1-1),P.L⟩) c0 Q hH (by unfold Pl.cnt;rw[h1];rfl) (by
   unfold Pl.cnt;show ((P.C.put c (1-1)).get (c:Int)).toNat=_;rw[G];rfl) (λb E f=>by
   unfold Pl.cnt;show ((P.C.put c (1-1)).get (b:Int)).toNat=_;rw[u b E,if_neg f])
  have J:Jz P.C.n (Pl.cnt ⟨P.S,P.C.put c (1-1),P.L⟩) (λb=>(P.hide D O (b:Int)).1.named) ((P.hide D O (c:Int)).1.named++H0):=J;rw[Oy ho] at J;exact J.same (λ_ _=>rfl) (λb _ _=>by rw[U])
 ·obtain⟨F,f⟩:=q0n.1 F;obtain⟨k1,k2⟩:=K.opened x F;obtain⟨n,rfl,hn⟩:=Gq (C:=P.C) (a:=x) (by omega);obtain⟨n0,_⟩:=K.first (c:=n) (by omega)
  refine⟨?_,?_⟩
  ·have h3:=hH n n0 hn;have h4:=List.count_pos_iff.2 k1;rw[List.count_cons,if_neg (by intro Y;have:=eq_of_beq Y;omega)] at h3;exact List.count_pos_iff.1 (by omega)
  ·show (P.C.put c (1-1)).get (n:Int)=1;rw[u n hn,if_neg (by omega)];exact k2
 ·have y:a<P.C.n:=by
   have:a<(P.C.put c (1-1)).n:=y;rw[P.C.Zh] at this;exact this
  have p:(P.C.put c (1-1)).get (a:Int)≠0:=p;rw[u a y] at p;have f:a≠c:=λe=>by rw[if_pos e] at p;exact p rfl
  rw[if_neg f] at p;exact qdo U (K.loc a y p λh=>R (q0n.2 ⟨h,by omega⟩))
 ·refine⟨λx F=>U x,λx F a1=>?_,qdl h0,P.C.Zh _ _⟩;obtain⟨n,rfl,hn⟩:=Gq F;have f:n≠c:=λe=>by subst e;omega
  refine⟨?_,X _ (by omega),⟨λh=>q0n.2 ⟨h,by omega⟩,λh=>(q0n.1 h).1⟩⟩;show _<=(P.C.put c (1-1)).get (n:Int);rw[u n hn,if_neg f];exact Int.le_refl _
theorem Keep.perm (K:Keep D S0 C0 O H P){H':List Int}(h:∀a:Nat,0<a->a<P.C.n->H'.count (a:Int)=H.count (a:Int)):Keep D S0 C0 O H' P:=
 ⟨K.Zx,K.laid,K.Ad.perm h,λx e=>by
  obtain⟨f,p⟩:=K.opened x e;obtain⟨n,rfl,hn⟩:=Gq (C:=P.C) (a:=x) (by omega);obtain⟨u,_⟩:=K.first (c:=n) (by omega)
  have y:=h n u hn;have E:=List.count_pos_iff.2 f;exact⟨List.count_pos_iff.1 (by omega),p⟩,K.loc⟩
end
def Pz (w:World)(lo hi:Nat)(A:Option Addr)(n:Nat)(xs:List Qb):Prop:=
 ∀j,j<n->∃g o V p q,A=some ⟨g,o,none⟩/\g<w.1.size/\w.cell? ⟨g,o+j*4,none⟩=some (.int .i64 (Zb xs j).k.obj)/\w.cell? ⟨g,o+j*4+1,none⟩=some (.int .i64 (Zb xs j).k.kind)/\
  w.cell? ⟨g,o+j*4+2,none⟩=some (.int .i64 (Zb xs j).k.off)/\w.cell? ⟨g,o+j*4+3,none⟩=some (.slice V p q)/\Sl w V p q (Zb xs j).v/\((Zb xs j).v≠[]->∀b,q01 V=some b->lo<=b/\b<hi)
def Held (w:World)(lo hi:Nat)(A:Option Addr)(n c:Nat)(B:Option Addr)(m d:Nat)(M:Nd):Prop:=
 hi<=w.1.size/\n<=20/\m<=20/\∀w',w.1.size<=w'.1.size->(∀k,lo<=k->k<hi->w'.1[k]?=w.1[k]?)->J4 w' lo A n c M.items/\Zk w' B m d M.kids/\Pz w' lo hi A n M.items
section
variable {w w':World}{lo hi n c m d:Nat}{A B:Option Addr}{M:Nd}
theorem Held.rows (h:Held w lo hi A n c B m d M):J4 w lo A n c M.items/\Zk w B m d M.kids:=by
 obtain⟨a,b,_⟩:=h.2.2.2 w (Nat.le_refl _) λ_ _ _=>rfl
 exact⟨a,b⟩
theorem Held.vals (h:Held w lo hi A n c B m d M):Pz w lo hi A n M.items:=(h.2.2.2 w (Nat.le_refl _) λ_ _ _=>rfl).2.2
theorem Held.turn {S:Nat->Prop}(h:Held w lo hi A n c B m d M)(t:Turn S w w')(hS:∀k,lo<=k->k<hi->¬S k):Held w' lo hi A n c B m d M:=by
 obtain⟨h1,h2,p,u⟩:=h;have y:∀k,lo<=k->k<hi->w'.1[k]?=w.1[k]?:=λk e f=>t.block k (by omega) (hS k e f)
 exact⟨Nat.le_trans h1 t.size,h2,p,λG F E=>u G (Nat.le_trans t.size F) λk a b=>(E k a b).trans (y k a b)⟩
theorem Held.below (h:Held w lo hi A n c B m d M)(hb:Below w.1.size w w'):Held w' lo hi A n c B m d M:=h.turn (Qx (S:=λ_=>False) hb) λ_ _ _ h=>h
end
theorem qfk {w w':World}{base n c:Nat}{A:Option Addr}{xs:List Qb}(h:J4 w base A n c xs)(Y:w.1.size<=w'.1.size)(J:∀k,base<=k->k<w.1.size->w'.1[k]?=w.1[k]?):J4 w' base A n c xs:=by
 obtain⟨G,h1,h2,R⟩:=h;refine⟨G,h1.keep λg a b=>J g a b,h2,λj r x U X=>?_⟩;obtain⟨V,p,q,e,y,f⟩:=R j r x U X;refine⟨V,p,q,e,⟨y.1,y.2.1,y.2.2.1,λi u F=>?_⟩,f⟩;obtain⟨E,I,K,Q⟩:=y.2.2.2 i u F;have W:x.v≠[]:=λe=>by rw[e] at F;simp at F
 have T:=(f W E.block (by rw[I];rfl)).1;exact⟨E,I,by omega,(World.cell?_of_block (a:=E.add i) (by rw[Ls];exact J _ T K)).trans Q⟩
theorem qpl {w w':World}{lo n c:Nat}{A:Option Addr}{xs:List Qb}(h:J4 w lo A n c xs)(hz:w.1.size<=w'.1.size)(U:∀k,lo<=k->k<w.1.size->w'.1[k]?=w.1[k]?):Pz w' lo w.1.size A n xs:=λj hj=>by
 obtain⟨f,h1,h2,Z⟩:=h;have hl:f.length=n:=h1.len (by omega);have W:f[j]?=some (f[j]'(by omega)):=List.getElem?_eq_getElem (by omega);have hx:=Tf (xs:=xs) (j:=j) (by omega);obtain⟨V,p,q,e,F,E⟩:=Z j _ _ W hx;obtain⟨g,o,R,hg,_,T⟩:=(h1.Uo (by omega)).2.2.2 j _ W;rw[e] at T;have J:=(h1.Qc g (by rw[R];rfl)).1;have cell:∀i v,(Vm (Zb xs j).k V p q)[i]?=some v->w'.cell? ⟨g,o+j*4+i,none⟩=some v:=λi v y=>(World.cell?_of_block (a:=⟨g,_,none⟩) (U g J hg)).trans (T i v y)
 refine⟨g,o,V,p,q,R,by omega,cell 0 _ rfl,cell 1 _ rfl,cell 2 _ rfl,cell 3 _ rfl,⟨F.1,F.2.1,F.2.2.1,λi u K=>?_⟩,λy b G=>⟨(E y b G).1,F.Qc y b G⟩⟩;obtain⟨I,Q,X,Y⟩:=F.2.2.2 i u K;have y:(Zb xs j).v≠[]:=λe=>by rw[e] at K;simp at K
 have G:=(E y I.block (by rw[Q];rfl)).1;exact⟨I,Q,by omega,(World.cell?_of_block (a:=I.add i) (by rw[Ls];exact U _ G X)).trans Y⟩
theorem qdp {w w':World}{A B:Option Addr}{n c m d:Nat}{M:Nd}(hn:n<=20)(hm:m<=20)(f:J4 w' w.1.size A n c M.items)(u:Qr w' w.1.size 148 4 B m d (M.kids.map Qj.vs)):Held w' w.1.size w'.1.size A n c B m d M:=
 ⟨Nat.le_refl _,hn,hm,λy p e=>⟨qfk f p e,(u.keep λg a b=>e g a b).Uo (by omega),qpl f p e⟩⟩
theorem NB.turned {w w':World}{b:Nat}{l:Int}{A B:Option Addr}{n c m d:Nat}(H:NB w b l A n c B m d){S:Nat->Prop}(T:Turn S w w')(hb:¬S b):NB w' b l A n c B m d:=H.keep (T.block b H.lt hb)
def Aq (R:Int->Nd × Int)(l a:Int):Int:=if (R a).2≠0 then (R a).2 else if (R a).1.lvl≠l-1 then 5 else 0
def Dp (R:Int->Nd × Int)(l a:Int):Nd:=if (R a).2≠0 then Zp else if (R a).1.lvl≠l-1 then Zp else (R a).1
theorem qjk {w0 w:World}{p:Nat}{R:Int->Nd × Int}(H:Src w0 p R)(B0:Below w0.1.size w0 w)(ht:Tab w)(l:Int)(b0:1<=l)(b4:l<8)(kids:List Qj)(A:Option Addr)(n c:Nat)(B:Option Addr)(m d:Nat)(hK:Zk w B m d kids)(i:Nat)(hi:i<m)(x:Int)(G:(Qe kids i).a=x) :
  Calls Tryz.prog 98 #[.pointer (some ⟨p,0,none⟩),.agg #[.int .i64 l,.slice A n c,.slice B m d],.int .i64 (i:Int)] w λe w'=>q5v (Dp R l x) (Aq R l x) w e w':=by
 obtain⟨g,o,rfl,hg,-,-,-,k3⟩:=hK.cell hi;rw[G] at k3;have K:NB ((w.alloc (.cells #[.int .i64 l,.slice A n c,.slice (some ⟨g,o,none⟩) m d] 77)).alloc (.cells #[.int .i64 0,.slice none 0 0,.slice none 0 0] 77)) w.1.size l A n c (some ⟨g,o,none⟩) m d:=(NB.new w _ _ _ _ _ _ _ _).below (Qk) (by simp);have W:NB ((w.alloc (.cells #[.int .i64 l,.slice A n c,.slice (some ⟨g,o,none⟩) m d] 77)).alloc (.cells #[.int .i64 0,.slice none 0 0,.slice none 0 0] 77)) (w.1.size+1) 0 none 0 0 none 0 0:=by
  have:=NB.new (w.alloc (.cells #[.int .i64 l,.slice A n c,.slice (some ⟨g,o,none⟩) m d] 77)) 0 none 0 0 none 0 0 77;rwa [World.size_alloc] at this
 have y:Below w.1.size w ((w.alloc (.cells #[.int .i64 l,.slice A n c,.slice (some ⟨g,o,none⟩) m d] 77)).alloc (.cells #[.int .i64 0,.slice none 0 0,.slice none 0 0] 77)):=(Qk).alloc (by simp) _;have z1:((w.alloc (.cells #[.int .i64 l,.slice A n c,.slice (some ⟨g,o,none⟩) m d] 77)).alloc (.cells #[.int .i64 0,.slice none 0 0,.slice none 0 0] 77)).1.size=w.1.size+2:=by simp
 have q2:=K.c2;have I:=(y.cell (p:=⟨g,_,none⟩) hg).trans k3;have Hn:=Lib.hid (λu hu tu=>H.node u hu tu x);have zw:=B0.size;have hj:(0:Int)<=(i:Int):=by omega
 have a8:(i:Int)<(m:Int):=by omega
 obtain⟨_,b5⟩:=hK.bounds;clear k3 hK;obtain⟨M,E,hR⟩:∃M E,R x=(M,E):=⟨_,_,rfl⟩;rw[hR] at Hn;unfold Dp Aq;rw[hR];dsimp only;clear hR;by_cases U:E=0
 ·have g1:(E==0)=true:=by simp[U]
  have g2:(E != 0)=false:=by simp[U]
  by_cases Z:M.lvl=l-1
  ·have g3:(M.lvl==l-1)=true:=by simp[Z]
   have g4:(M.lvl != l-1)=false:=by simp[Z]
   simp only[if_neg (show ¬E≠0 by simpa using U),if_neg (show ¬M.lvl≠l-1 by simpa using Z)];clear Z U;go_enter Tryz.func98,Tryz.ntmps98
   go_wp2_with fail
   generalize (w.alloc (.cells #[.int .i64 l,.slice A n c,.slice (some ⟨g,o,none⟩) m d] 77)).alloc (.cells #[.int .i64 0,.slice none 0 0,.slice none 0 0] 77)=w1 at K W y z1 q2 I ⊢;have t1:=ht.below y ht.1;refine (Hn.out w1 (B0.trans (y.mono zw)) t1).mono ?_;clear q2 I;rintro e f ⟨A1,n1,c1,B1,m1,d1,rfl,a6,a2,hI,a1,F⟩;have z2:=F.size;have N2:=K.below F K.lt;have J:=W.below F W.lt;have X:=y.trans (F.mono y.size);have N3:NB (f.alloc (.cells #[.int .i64 0,.slice none 0 0,.slice none 0 0] 77)) f.1.size 0 none 0 0 none 0 0:=NB.new f _ _ _ _ _ _ _ _;have T:Below f.1.size f (f.alloc (.cells #[.int .i64 0,.slice none 0 0,.slice none 0 0] 77)):=Qk;have R3:=J.below T J.lt;have zz:=J.lt;have X2:NB f w.1.size l A n c (some ⟨g,o,none⟩) m d:=N2;go_wp2_with (first
    |(refine Gp rfl (.tmp 6) _ rfl (w.1.size+1) rfl M.lvl A1 n1 c1 B1 m1 d1 rfl R4 ?_;intro w5 R5 T5)
    |(refine Gp rfl (.tmp 8) _ rfl f.1.size rfl M.lvl A1 n1 c1 B1 m1 d1 rfl N3 ?_;intro w4 N4 Q;have R4:NB w4 (w.1.size+1) 0 none 0 0 none 0 0:=R3.turned Q (λh=>by have h:w.1.size+1=f.1.size:=h;omega);have p0:=N4.c0;have a7:=((X2.below T X2.lt).turned Q (λh=>by have h:w.1.size=f.1.size:=h;omega)).c0;have p1:=N4.c1;have p2:=N4.c2)
    |fail)
   have Y:Turn (λk=>k=w.1.size+1) f w5:=((Qx (S:=λk=>k=w.1.size+1) T).trans Q (λx G=>.inr (by have:x=f.1.size:=G;omega))).trans T5 (λx G=>.inl G);refine bodyPost_ret (Ak Tryz.results98 rfl (He R5)) rfl ?_;exact⟨A1,n1,c1,B1,m1,d1,rfl,a6,a2,(qfk hI Y.size λk h1 h2=>Y.block k h2 (by intro (h:k=w.1.size+1);omega)).less (by omega),(a1.keep λk h1 h2=>Y.block k h2 (by intro (h:k=w.1.size+1);omega)).less (by omega),X.trans (Y.below (λk hk=>by have:k=w.1.size+1:=hk;omega) X.size)⟩
  ·have g3:(M.lvl==l-1)=false:=by simp[Z]
   have g4:(M.lvl != l-1)=true:=by simp[Z]
   simp only[if_neg (show ¬E≠0 by simpa using U),if_pos (show M.lvl≠l-1 from Z)];clear Z U;go_enter Tryz.func98,Tryz.ntmps98
   go_wp2_with fail
   generalize (w.alloc (.cells #[.int .i64 l,.slice A n c,.slice (some ⟨g,o,none⟩) m d] 77)).alloc (.cells #[.int .i64 0,.slice none 0 0,.slice none 0 0] 77)=w1 at K W y z1 q2 I ⊢;have t1:=ht.below y ht.1;refine (Hn.out w1 (B0.trans (y.mono zw)) t1).mono ?_;clear q2 I;rintro e f ⟨A1,n1,c1,B1,m1,d1,rfl,a6,a2,hI,a1,F⟩;have z2:=F.size;have N2:=K.below F K.lt;have J:=W.below F W.lt;have X:=y.trans (F.mono y.size);have N3:NB (f.alloc (.cells #[.int .i64 0,.slice none 0 0,.slice none 0 0] 77)) f.1.size 0 none 0 0 none 0 0:=NB.new f _ _ _ _ _ _ _ _;have T:Below f.1.size f (f.alloc (.cells #[.int .i64 0,.slice none 0 0,.slice none 0 0] 77)):=Qk;have R3:=J.below T J.lt;have zz:=J.lt;have X2:NB f w.1.size l A n c (some ⟨g,o,none⟩) m d:=N2;go_wp2_with (first
    |(refine Gp rfl (.tmp 6) _ rfl (w.1.size+1) rfl 0 none 0 0 none 0 0 rfl R4 ?_;intro w5 R5 T5)
    |(refine Gp rfl (.tmp 8) _ rfl f.1.size rfl M.lvl A1 n1 c1 B1 m1 d1 rfl N3 ?_;intro w4 N4 Q;have R4:NB w4 (w.1.size+1) 0 none 0 0 none 0 0:=R3.turned Q (λh=>by have h:w.1.size+1=f.1.size:=h;omega);have p0:=N4.c0;have a7:=((X2.below T X2.lt).turned Q (λh=>by have h:w.1.size=f.1.size:=h;omega)).c0)
    |fail)
   have Y:Turn (λk=>k=w.1.size+1) f w5:=((Qx (S:=λk=>k=w.1.size+1) T).trans Q (λx G=>.inr (by have:x=f.1.size:=G;omega))).trans T5 (λx G=>.inl G);refine bodyPost_ret (Ak Tryz.results98 rfl (He R5)) rfl ?_;exact⟨none,0,0,none,0,0,rfl,by omega,by omega,Ox _ _,Lu _ _ _ _,X.trans (Y.below (λk hk=>by have:k=w.1.size+1:=hk;omega) X.size)⟩
 ·have g1:(E==0)=false:=by simp[U]
  have g2:(E != 0)=true:=by simp[U]
  simp only[if_pos (show E≠0 from U)];clear U;go_enter Tryz.func98,Tryz.ntmps98
  go_wp2_with fail
  generalize (w.alloc (.cells #[.int .i64 l,.slice A n c,.slice (some ⟨g,o,none⟩) m d] 77)).alloc (.cells #[.int .i64 0,.slice none 0 0,.slice none 0 0] 77)=w1 at K W y z1 q2 I ⊢;have t1:=ht.below y ht.1;refine (Hn.out w1 (B0.trans (y.mono zw)) t1).mono ?_;clear q2 I;rintro e f ⟨A1,n1,c1,B1,m1,d1,rfl,a6,a2,hI,a1,F⟩;have z2:=F.size;have N2:=K.below F K.lt;have J:=W.below F W.lt;have X:=y.trans (F.mono y.size);have N3:NB (f.alloc (.cells #[.int .i64 0,.slice none 0 0,.slice none 0 0] 77)) f.1.size 0 none 0 0 none 0 0:=NB.new f _ _ _ _ _ _ _ _;have T:Below f.1.size f (f.alloc (.cells #[.int .i64 0,.slice none 0 0,.slice none 0 0] 77)):=Qk;have R3:=J.below T J.lt;have zz:=J.lt;have X2:NB f w.1.size l A n c (some ⟨g,o,none⟩) m d:=N2;go_wp2_with (first
   |(refine Gp rfl (.tmp 6) _ rfl (w.1.size+1) rfl 0 none 0 0 none 0 0 rfl R4 ?_;intro w5 R5 T5)
   |(refine Gp rfl (.tmp 8) _ rfl f.1.size rfl M.lvl A1 n1 c1 B1 m1 d1 rfl N3 ?_;intro w4 N4 Q;have R4:NB w4 (w.1.size+1) 0 none 0 0 none 0 0:=R3.turned Q (λh=>by have h:w.1.size+1=f.1.size:=h;omega))
   |fail)
  have Y:Turn (λk=>k=w.1.size+1) f w5:=((Qx (S:=λk=>k=w.1.size+1) T).trans Q (λx G=>.inr (by have:x=f.1.size:=G;omega))).trans T5 (λx G=>.inl G);refine bodyPost_ret (Ak Tryz.results98 rfl (He R5)) rfl ?_;exact⟨none,0,0,none,0,0,rfl,by omega,by omega,Ox _ _,Lu _ _ _ _,X.trans (Y.below (λk hk=>by have:k=w.1.size+1:=hk;omega) X.size)⟩
