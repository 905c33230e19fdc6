/- A pool as plain data: Format and Commit: plain facts -/
import Derived.Test.YtnnbaihfboacoaaGreatDoorEr15
import Derived.Test.YtnnbaihfboacoaaGreatDoorEr17
namespace Go.Proofs.YtnnbaihfboacoaaGreatDoor
open Go Go.RowKit Go.Proofs
def q13:List UInt8:=List.replicate 256 0
def Vf (_:Nat):List Stp:=[.w 0 q13,.w 1 q13,.fl]
def Tm (n:Nat):List Stp:=Dx (Qo n 1) (Y4 (Ct.zero n) 1)++[.fl]
def fmtS (n:Nat):Sp:=sp0 1 (n:Int) 0
def fmtC (n:Nat):List Stp:=[.w 1 (swB (fmtS n) 1),.fl]
def Xt (n:Nat):List Stp:=Vf n++(Tm n++fmtC n)
theorem q1h (C:Ct)(g:Int):(Y4 C g).length=Qe C.n:=by unfold Y4;simp
theorem qdk (C:Ct)(g:Int){i:Nat}(hi:i<Qe C.n):(Y4 C g).getD i []=Zr (Uh C.n g i) (C.body (i:Int)):=by
 unfold Y4;rw[List.getD_eq_getElem?_getD,List.getElem?_map,List.getElem?_range hi];rfl
theorem qfb {C:Ct}(_:32<=C.n)(_:C.n<=2048){g:Int}(_:Kv g){x:List UInt8}(b:x∈Y4 C g):x.length=256:=by
 unfold Y4 at b;rw[List.mem_map] at b;obtain⟨i,d,rfl⟩:=b;exact q76 _ _ (by rw[Ct.Ug (List.mem_range.1 d)];exact Nat.le_refl _)
theorem q5b {n:Nat}(h1:32<=n)(h2:n<=2048):(fmtS n).may=true:=by
 refine qiy ?_ λj d=>?_
 ·unfold Sp.hd fmtS sp0;exact decide_eq_true ⟨by show (1:Int)<=1;omega,by show (1:Int)<=1099511627775;omega,by show (32:Int)<=(n:Int);omega,by show (n:Int)<=2048;omega,by show (0:Int)<=0;omega,by show (0:Int)<=(n:Int)-1;omega⟩
 ·have e:(fmtS n).at_ j=Vl.zero:=by
   unfold Sp.at_ fmtS sp0;rw[List.getD_eq_getElem?_getD,List.getElem?_replicate];split<;>rfl
  have b:Vl.zero.same Vl.zero=true:=by simp[Vl.same]
  unfold Sp.ok1;rw[e,b,Bool.true_or]
theorem qxi {n:Nat}(h1:32<=n)(h2:n<=2048):∀a∈Xt n,a.ok n:=by
 intro a b;have m:q13.length=256:=by unfold q13;rw[List.length_replicate]
 unfold Xt Vf Tm fmtC at b;rw[List.mem_append,List.mem_append,List.mem_append] at b;rcases b with b|(b|b)|b
 ·simp at b;rcases b with rfl|rfl|rfl
  ·exact⟨by omega,m⟩
  ·exact⟨by omega,m⟩
  ·trivial
 ·cases a with
  |w s x=>
   obtain⟨i,e,u,p⟩:=qhj b;rw[q1h,Ct.Q9] at e;have:=q2x h1 h2 1 e;refine⟨by omega,?_⟩;rw[p];have d:i<(Y4 (Ct.zero n) 1).length:=by rw[q1h,Ct.Q9];exact e
   refine qfb (C:=Ct.zero n) (by rw[Ct.Q9];exact h1) (by rw[Ct.Q9];exact h2) (g:=1) ⟨by omega,by omega⟩ ?_;rw[List.getD_eq_getElem?_getD,List.getElem?_eq_getElem d];exact List.getElem_mem d
  |fl=>trivial
 ·simp at b;subst b;trivial
 ·simp at b;rcases b with rfl|rfl
  ·refine⟨by omega,?_⟩;have f:Xq (fmtS n) 1=true:=by unfold Xq;rw[q5b h1 h2,Bool.true_and];decide
   unfold swB;rw[if_pos f];exact q76 _ _ (by rw[q7e (q5b h1 h2)];omega)
  ·trivial
theorem qnw {n:Nat}:(Xt n).length=Qe n+6:=by
 unfold Xt Vf Tm fmtC;rw[List.length_append,List.length_append,List.length_append,qdj,q1h,Ct.Q9];simp;omega
theorem qnx {n:Nat}(h1:32<=n)(h2:n<=2048)(d:Nat->List UInt8):Xc 0 (Xt n) (d 0)=q13/\Xc 1 (Xt n) (d 1)=swB (fmtS n) 1/\∀i,i<Qe n->Xc (Qo n 1+i) (Xt n) (d (Qo n 1+i))=Zr (Uh n 1 i) ((Ct.zero n).body (i:Int)):=by
 have f:∀s,s<2->spares s (Dx (Qo n 1) (Y4 (Ct.zero n) 1)):=λs p=>q7j (.inl (by unfold Qo;omega))
 unfold Xt Vf Tm fmtC;refine⟨?_,?_,λi b=>?_⟩
 ·rw[Oc,Oc,Oc,q15 (f 0 (by omega))];rfl
 ·rw[Oc,Oc];rfl
 ·have e:i<(Y4 (Ct.zero n) 1).length:=by rw[q1h,Ct.Q9];exact b
  have h:=q2x h1 h2 1 b;rw[Oc,Oc,Oc,qf8 _ _ _ _ e,qdk _ _ (by rw[Ct.Q9];exact b),Ct.Q9];exact q15 (s:=Qo n 1+i) (l:=[Stp.w 1 (swB (fmtS n) 1),.fl]) (λt x m=>by simp at m;omega) _
inductive Bk where
 |node (N:Nd)
 |bytes (k:Int) (l:List UInt8)
def Bk.out (b:Bk)(a:Nat)(g:Int):List UInt8:=match b with
 |.node N=>Jm N (a:Int) g
 |.bytes k l=>Zr (Qb0 k a l.length g) l
def Bk.fine (b:Bk):Prop:=∀(a:Nat) (g:Int),a<=2047->Kv g->(b.out a g).length=256
structure Pl where
 S:Sp
 C:Ct
 L:Nat->Option Bk
def Pl.g (P:Pl):Int:=P.S.gen+1
def Pl.Ib (P:Pl)(a:Nat):Option (Nat × List UInt8):=match P.L a with
 |some b=>if P.C.get (a:Int)=0 then none else some (a,b.out a P.g)
 |none=>none
def Pl.new (P:Pl):List (Nat × List UInt8):=(List.range P.C.n).filterMap P.Ib
def Pl.sup (P:Pl):Sp:=⟨P.g,P.S.Qb,P.S.log,P.S.Jk,P.S.len⟩
def Pl.blocks (P:Pl):List Stp:=Io P.new++Dx (Qo P.C.n P.g) (Y4 P.C P.g)
def Pl.steps (P:Pl):List Stp:=Uo P.blocks (P.g % 2).toNat (swB P.sup (P.g % 2))
def Pl.done (P:Pl):Pl:=⟨P.sup,P.C.commit,λ_=>none⟩
structure Pl.ok (P:Pl):Prop where
 c:P.C.ok
 res:P.C.res
 may:P.S.may=true
 sec:P.S.Qb=(P.C.n:Int)
 gen:P.S.gen<1099511627775
 fine:∀a b,P.L a=some b->b.fine
theorem Pl.ok.Kv {P:Pl}(h:P.ok):Go.Proofs.YtnnbaihfboacoaaGreatDoor.Kv P.g:=by
 have:=(q12 h.may).1;exact⟨by unfold Pl.g;omega,by have:=h.gen;unfold Pl.g;omega⟩
theorem Pl.ok.Cm {P:Pl}(h:P.ok):P.sup.may=true:=by
 obtain⟨h1,h2⟩:=q12 h.may;have b:=h.Kv;refine qiy (decide_eq_true ⟨b.1,b.2,h1.2.2⟩) λj e=>?_
 have d:P.S.ok1 j=true:=by
  have hm:=h.may;unfold Sp.may at hm;rw[Bool.and_eq_true,List.all_eq_true] at hm;exact hm.2 j (List.mem_range.2 e)
 exact d
theorem q7l {P:Pl}{a:Nat}{x:List UInt8}:(a,x)∈P.new↔a<P.C.n/\∃b,P.L a=some b/\¬P.C.get (a:Int)=0/\x=b.out a P.g:=by
 unfold Pl.new;rw[List.mem_filterMap];constructor
 ·rintro⟨c,u,hn⟩;unfold Pl.Ib at hn
  cases d:P.L c with
  |none=>rw[d] at hn;cases hn
  |some b=>
   rw[d] at hn;dsimp only at hn;split at hn
   ·cases hn
   ·rename_i e;injection hn with hn;injection hn with f m;subst f;exact⟨List.mem_range.1 u,b,d,e,m.symm⟩
 ·rintro⟨p,b,d,e,rfl⟩;refine⟨a,List.mem_range.2 p,?_⟩;unfold Pl.Ib;rw[d];dsimp only;rw[if_neg e]
theorem q9q {P:Pl}(h:P.ok){a:Nat}{x:List UInt8}(e:(a,x)∈P.new):a<P.C.n/\P.C.first<=a:=by
 obtain⟨h1,b,_,d,_⟩:=q7l.1 e;have:=(Ct.Kw h.res d).2.2;rw[Int.toNat_natCast] at this;exact⟨h1,this⟩
theorem qhl (g:Int):(g % 2).toNat<2/\((g % 2).toNat:Int)=g % 2:=by omega
theorem Pl.Qai {P:Pl}(h:P.ok):∀s∈P.steps,s.ok P.C.n:=by
 intro s d;have hn:=h.c.1;have A:=h.Kv;have E:=qhl P.g;unfold Pl.steps Uo Pl.blocks at d;rw[List.mem_append,List.mem_append] at d;rcases d with (d|d)|d
 ·cases s with
  |fl=>trivial
  |w a x=>
   unfold Io at d;rw[List.mem_map] at d;obtain⟨⟨F,G⟩,D,e⟩:=d;injection e with p m;dsimp only at p m;subst p m;obtain⟨h1,b,B,_,rfl⟩:=q7l.1 D;exact⟨h1,h.fine _ _ B _ _ (by omega) A⟩
 ·cases s with
  |fl=>trivial
  |w a x=>
   obtain⟨i,u,p,m⟩:=qhj d;have f:=u;rw[q1h] at f;have:=q2x hn.1 hn.2 P.g f;refine⟨by omega,?_⟩;rw[m,List.getD_eq_getElem?_getD,List.getElem?_eq_getElem u];exact qfb hn.1 hn.2 A (List.getElem_mem u)
 ·simp at d;rcases d with rfl|rfl|rfl
  ·trivial
  ·refine⟨by omega,?_⟩;have y:Xq P.sup (P.g % 2)=true:=by unfold Xq;rw[h.Cm,Bool.true_and];exact decide_eq_true ⟨by omega,by omega⟩
   unfold swB;rw[if_pos y];exact q76 _ _ (by rw[q7e h.Cm];omega)
  ·trivial
theorem Pl.Eh (P:Pl):P.steps.length=P.new.length+Qe P.C.n+3:=by
 unfold Pl.steps;rw[qxb];unfold Pl.blocks Io;rw[List.length_append,List.length_map,qdj,q1h]
theorem Pl.Gj {P:Pl}(_h:P.ok){s:Nat}(h1:∀x,(s,x)∉P.new)(h2:s<Qo P.C.n P.g\/Qo P.C.n P.g+Qe P.C.n<=s):spares s P.blocks:=by
 have f:spares s (Io P.new):=qdc λb p e=>h1 b.2 (by rw[<-e];exact p)
 have m:spares s (Dx (Qo P.C.n P.g) (Y4 P.C P.g)):=q7j (by rw[q1h];exact h2);intro t x d;unfold Pl.blocks at d;rcases List.mem_append.1 d with d|d
 ·exact f t x d
 ·exact m t x d
theorem Pl.Nl {P:Pl}(h:P.ok){s:Nat}(hs:s<2):spares s P.blocks:=by
 refine Pl.Gj h (λx b=>?_) (.inl (by unfold Qo;omega));have:=(q9q h b).2;unfold Ct.first at this
 omega
theorem Pl.F6 {P:Pl}(_h:P.ok){i:Nat}(hi:i<Qe P.C.n)(d:List UInt8):Xc (Qo P.C.n P.g+i) P.blocks d=Zr (Uh P.C.n P.g i) (P.C.body (i:Int)):=by
 unfold Pl.blocks;rw[Oc,qf8 _ _ _ _ (by rw[q1h];exact hi),qdk _ _ hi]
theorem Pl.Ls {P:Pl}(h:P.ok){a:Nat}{b:Bk}(ha:a<P.C.n)(hL:P.L a=some b)(hg:¬P.C.get (a:Int)=0)(d:List UInt8):Xc a P.blocks d=b.out a P.g:=by
 have hm:(a,b.out a P.g)∈P.new:=q7l.2 ⟨ha,b,hL,hg,rfl⟩;have hn:=h.c.1;have u:=(q9q h hm).2;have m:spares a (Dx (Qo P.C.n P.g) (Y4 P.C P.g)):=q7j (by
  rw[q1h];right
  by_cases h0:0<Qe P.C.n
  ·have:=q2x hn.1 hn.2 P.g (i:=Qe P.C.n-1) (by omega);unfold Ct.first at u
   omega
  ·have:Qe P.C.n=0:=by omega
   exfalso
   unfold Qe at this;omega)
 unfold Pl.blocks;rw[Oc,qhd a _ _ _ hm λy A=>by
  obtain⟨_,B,f,_,e⟩:=q7l.1 A;rw[hL] at f;injection f with p;rw[e,<-p],q15 m]
structure Qa6 (P:Pl)(S0:Sp)(C0:Ct)(f:Nat->List UInt8):Prop where
 may:S0.may=true
 gen:S0.gen=P.S.gen
 sec:S0.Qb=(P.C.n:Int)
 c:C0.ok
 res:C0.res
 n:C0.n=P.C.n
 slot:f (P.S.gen % 2).toNat=swB S0 (P.S.gen % 2)
 other:(Gf (f ((P.S.gen+1) % 2).toNat) ((P.S.gen+1) % 2)).gen<P.S.gen
 area:∀i,i<Qe P.C.n->f (Qo P.C.n P.S.gen+i)=Zr (Uh P.C.n P.S.gen i) (C0.body (i:Int))
structure DM.free (D:DM):Prop where
 on:D.off=false
 Oi:D.fused=false
theorem qny {D:DM}(h:D.free)(m:Nat):D.room m=m:=by
 unfold DM.room;rw[h.on,h.Oi];rfl
theorem qjd {D:DM}(h:D.free){l:List Stp}(m:∀a∈l,a.ok D.n):D.Zy l=0/\(D.Qk l).free/\(D.Qk l).n=D.n/\(D.Qk l).steps=D.steps+l.length/\(D.Qk l).mem=D.mem.Ox l:=by
 obtain⟨h1,h2,_,e,b,_,f⟩:=qse l D m;have d:=qny h l.length;rw[d,List.take_length] at h1;rw[d] at b;rcases f with⟨_,j2,j3⟩|⟨j1,_,_⟩
 ·exact⟨j2,⟨j3.trans h.on,e.trans h.Oi⟩,h2,b,h1⟩
 ·omega
theorem qnz (D:DM)(s:Nat):D.mem.Zp s=D.Zp s:=rfl
theorem qvx (D:DM)(s:Nat):D.mem.Jp s=D.Jp s:=rfl
theorem qli (D:DM)(s:Nat):D.mem.newest s=D.newest s:=rfl
def Pl.fresh (n:Nat):Pl:=⟨fmtS n,Ct.zero n,λ_=>none⟩
theorem qje {n:Nat}(h1:32<=n)(h2:n<=2048):(Pl.fresh n).ok:=
 ⟨Ct.Ba h1 h2,Ct.Ip n,q5b h1 h2,by show (n:Int)=((Ct.zero n).n:Int);rw[Ct.Q9],by show (1:Int)<1099511627775;omega,λa b h=>by cases h⟩
structure Sound (D:DM)(P:Pl)(S0:Sp)(C0:Ct):Prop where
 free:D.free
 n:D.n=P.C.n
 Vr:∀s,D.Zp s=[]
 holds:Qa6 P S0 C0 D.Jp
theorem qdl {D:DM}{n:Nat}(h1:32<=n)(h2:n<=2048)(hn:D.n=n)(h:D.free):D.Zy (Xt n)=0/\Sound (D.Qk (Xt n)) (Pl.fresh n) (fmtS n) (Ct.zero n)/\(D.Qk (Xt n)).steps=D.steps+(Qe n+6):=by
 subst hn;obtain⟨m,p,u,d,e⟩:=qjd h (qxi h1 h2);rw[qnw] at d;have f:∀s,(D.Qk (Xt D.n)).Zp s=[]:=λs=>by
  rw[<-qnz,e];unfold Xt fmtC;rw[q7i,q7i];rfl
 have hd:∀s,(D.Qk (Xt D.n)).Jp s=Xc s (Xt D.n) (D.newest s):=λs=>by
  have y:(D.Qk (Xt D.n)).newest s=(D.Qk (Xt D.n)).Jp s:=by unfold DM.newest;rw[f];rfl
  rw[<-y,<-qli,e,q5a];rfl
 obtain⟨B,E,F⟩:=qnx h1 h2 D.newest;refine⟨m,⟨p,u.trans (Ct.Q9 _).symm,f,?_⟩,d⟩;refine⟨q5b h1 h2,rfl,by show (D.n:Int)=((Ct.zero D.n).n:Int);rw[Ct.Q9],Ct.Ba h1 h2,Ct.Ip _,rfl,?_,?_,λi A=>?_⟩
 ·show (D.Qk (Xt D.n)).Jp 1=swB (fmtS D.n) 1;rw[hd,E]
 ·show (Gf ((D.Qk (Xt D.n)).Jp 0) 0).gen<1;rw[hd,B];unfold q13;rw[(qhk (qnv 0)).1];decide
 ·have b:i<Qe D.n:=by
   have:(Pl.fresh D.n).C.n=D.n:=Ct.Q9 _;rwa [this] at A
  show (D.Qk (Xt D.n)).Jp (Qo (Ct.zero D.n).n 1+i)=Zr (Uh (Ct.zero D.n).n 1 i) _;rw[Ct.Q9,hd,F i b]
theorem qfd {D:DM}{P:Pl}(h:P.ok){H:Sp}{R:Ct}(p:Sound D P H R) :
  D.Zy P.steps=0/\Sound (D.Qk P.steps) P.done P.sup P.C/\(D.Qk P.steps).steps=D.steps+(P.new.length+Qe P.C.n+3)/\
   (∀a b,a<P.C.n->P.L a=some b->¬P.C.get (a:Int)=0->(D.Qk P.steps).Jp a=b.out a P.g)/\(∀s,P.C.first<=s->(∀x,(s,x)∉P.new)->(D.Qk P.steps).Jp s=D.Jp s):=by
 have hn:=h.c.1;have Z:=qhl P.g;have Q:=qhl P.S.gen;have B:(P.S.gen % 2).toNat≠(P.g % 2).toNat:=by unfold Pl.g;omega
 obtain⟨T,U,W,I,J⟩:=qjd p.free (l:=P.steps) (λa u=>by rw[p.n];exact Pl.Qai h a u);rw[Pl.Eh] at I;have f:=λs=>quw P.blocks (P.g % 2).toNat (swB P.sup (P.g % 2)) D.mem s
 have X:∀s,(D.Qk P.steps).Zp s=[]:=λs=>by rw[<-qnz,J];exact (f s).1
 have hd:∀s,(D.Qk P.steps).Jp s=if s=(P.g % 2).toNat then swB P.sup (P.g % 2) else Xc s P.blocks (D.Jp s):=λs=>by
  have K:=(f s).2;rw[qbs (p.Vr s)] at K;rw[<-qvx,J];exact K
 have A:=p.holds;have d:∀{s:Nat},P.C.first<=s->s≠(P.g % 2).toNat:=λ{s} y=>by unfold Ct.first at y;omega
 refine⟨T,⟨U,W.trans p.n,X,?_⟩,I,λa b u M O=>?_,λs y F=>?_⟩
 ·refine⟨h.Cm,rfl,h.sec,h.c,h.res,rfl,?_,?_,λi Y=>?_⟩
  ·show (D.Qk P.steps).Jp (P.g % 2).toNat=swB P.sup (P.g % 2);rw[hd,if_pos rfl]
  ·show (Gf ((D.Qk P.steps).Jp ((P.g+1) % 2).toNat) ((P.g+1) % 2)).gen<P.g;have e:(P.g+1) % 2=P.S.gen % 2:=by unfold Pl.g;omega
   rw[e,hd,if_neg B,q15 (Pl.Nl h (by omega)),A.slot];have G:Xq H (P.S.gen % 2)=true:=by unfold Xq;rw[A.may,Bool.true_and];exact decide_eq_true ⟨by omega,by omega⟩
   rw[(qbz G).2,A.gen];unfold Pl.g;omega
  ·have m:i<Qe P.C.n:=Y;have:=q2x hn.1 hn.2 P.g m;show (D.Qk P.steps).Jp (Qo P.C.n P.g+i)=Zr (Uh P.C.n P.g i) (P.C.body (i:Int));rw[hd,if_neg (by omega),Pl.F6 h m]
 ·have hm:(a,b.out a P.g)∈P.new:=q7l.2 ⟨u,b,M,O,rfl⟩;rw[hd,if_neg (d (q9q h hm).2),Pl.Ls h u M O]
 ·have E:s<Qo P.C.n P.g\/Qo P.C.n P.g+Qe P.C.n<=s:=by
   right
   unfold Ct.first at y
   unfold Qo;rcases (show (P.g % 2).toNat=0\/(P.g % 2).toNat=1 by omega) with e|e<;>rw[e]<;>omega
  rw[hd,if_neg (d y),q15 (Pl.Gj h F E)]
theorem q8g {D:DM}{P:Pl}{e:Sp}{d:Ct}(m:Sound D P e d):Eb D.newest false D.n=0/\Gq D.newest=e/\Me D.newest D.n P.S.gen=d.commit:=by
 have H:=m.holds;have b:∀s,D.newest s=D.Jp s:=λs=>by unfold DM.newest;rw[m.Vr];rfl
 have p:=qvv (S:=e) H.may (C:=d) H.c H.res (by rw[H.n];exact H.sec) (f:=D.newest) (by rw[H.gen,b];exact H.slot) (by rw[H.gen,b];exact H.other)
  (λi u=>by rw[H.n] at u ⊢;rw[H.gen,b];exact H.area i u)
 rw[H.n,H.gen] at p;rw[m.n];exact p
theorem Ct.Oj {C:Ct}{k:Nat}(h:C.pick=some k)(j:Nat)(hj:j<C.n):C.alloc.may j=if j=k then false else C.may j:=by
 obtain⟨h1,h2,d,f,_⟩:=Ct.Xk h;rw[(Ct.Xv h).2.2,Ct.Eu,Ct.Eu,Ct.Bj (C.Zi k 1),q6d C k 1 j hj];have e:nm (C.put k 1).done j=nm C.done j:=rfl;rw[e];by_cases b:j=k
 ·rw[if_pos b,if_pos b];exact decide_eq_false (by rintro⟨_,m,_⟩;omega)
 ·rw[if_neg b,if_neg b]
theorem Ct.En {C:Ct}{k:Nat}(h:C.pick=some k):∀m,m<=C.n->C.alloc.Jw m+(if k<m then 1 else 0)=C.Jw m:=by
 obtain⟨h1,h2,p,u,_⟩:=Ct.Xk h;have d:C.may k=true:=by rw[Ct.Eu];exact decide_eq_true ⟨h2,p,u⟩
 intro m;induction m with
 |zero=>intro _;rfl
 |succ m b=>
  intro hm;have b:=b (by omega);rw[Ct.Ku,Ct.Ku,Ct.Oj h m (by omega)];by_cases e:m=k
  ·subst e;rw[if_pos rfl,if_neg (by decide),if_pos (by omega),if_pos d];rw[if_neg (by omega)] at b;omega
  ·rw[if_neg e];by_cases f:k<m
   ·rw[if_pos f] at b;rw[if_pos (show k<m+1 by omega)];omega
   ·rw[if_neg f] at b;rw[if_neg (show ¬k<m+1 by omega)];omega
theorem Ct.Uz {C:Ct}{k:Nat}(h:C.pick=some k):C.alloc.free+1=C.free:=by
 have b:=(Ct.Xk h).1;have:=Ct.En h C.n (Nat.le_refl _);rw[if_pos b] at this;unfold Ct.free;rw[C.Eo];exact this
theorem Ct.Ul {C:Ct}(h:0<C.free):∃k,C.pick=some k:=by
 cases b:C.pick with
 |some k=>exact⟨k,rfl⟩
 |none=>have:=Ct.Ws b;omega
theorem Ct.Pq {n:Nat}:(Ct.zero n).free=n-(2+2*Qe n):=by
 have key:∀m,m<=n->(Ct.zero n).Jw m=m-(2+2*Qe n):=by
  intro m;induction m with
  |zero=>intro _;show 0=_;omega
  |succ m ih=>
   intro hm;have b:=(Ct.Qao n).2 m (by omega);have d:(Ct.zero n).first=2+2*Qe n:=by unfold Ct.first;rw[Ct.Q9]
   rw[Ct.Ku,ih (by omega),Ct.Eu,d,b.1,b.2];by_cases h:2+2*Qe n<=m
   ·rw[if_pos (decide_eq_true ⟨h,rfl,rfl⟩)];omega
   ·rw[if_neg (by rw[decide_eq_true_iff];exact λe=>h e.1)];omega
 unfold Ct.free;rw[Ct.Q9];exact key n (Nat.le_refl _)
def Pl.lay (P:Pl)(b:Bk):Pl:=match P.C.pick with
 |some a=>⟨P.S,P.C.alloc,upd P.L a (some b)⟩
 |none=>P
theorem q37 {P:Pl}{a:Nat}(h:P.C.pick=some a)(b:Bk):P.lay b=⟨P.S,P.C.alloc,upd P.L a (some b)⟩:=by unfold Pl.lay;rw[h]
theorem qo0 {P:Pl}(h:P.ok){b:Bk}(p:b.fine):(P.lay b).ok:=by
 cases m:P.C.pick with
 |none=>
  have:P.lay b=P:=by unfold Pl.lay;rw[m]
  rw[this];exact h
 |some a=>
  rw[q37 m];refine⟨Ct.Sm h.c,Ct.Ol h.res,h.may,by show P.S.Qb=(P.C.alloc.n:Int);rw[Ct.Eo];exact h.sec,h.gen,λc d f=>?_⟩;replace f:upd P.L a (some b) c=some d:=f;by_cases e:c=a
  ·subst e;rw[Aw] at f;injection f with f;exact f▸p
  ·rw[Ar _ _ e] at f;exact h.fine c d f
theorem qo1 {P:Pl}(b:Bk):(P.lay b).C.n=P.C.n:=by
 unfold Pl.lay;split
 ·exact P.C.Eo
 ·rfl
theorem qvw {P:Pl}(b:Bk):(P.lay b).S=P.S:=by
 unfold Pl.lay;split<;>rfl
theorem qo2 {D:DM}{P:Pl}{m:Sp}{f:Ct}(h:Sound D P m f)(b:Bk):Sound D (P.lay b) m f:=by
 have d:=qo1 (P:=P) b;have e:=qvw (P:=P) b;refine⟨h.free,h.n.trans d.symm,h.Vr,?_⟩;have H:=h.holds;exact⟨H.may,by rw[e];exact H.gen,by rw[d];exact H.sec,H.c,H.res,by rw[d];exact H.n,by rw[e];exact H.slot,by rw[e];exact H.other,by rw[d,e];exact H.area⟩
theorem qdm {P:Pl}{a:Nat}(h:P.C.pick=some a)(b:Bk)(c:Nat)(d:c<P.C.n):(P.lay b).C.get (c:Int)=if c=a then 1 else P.C.get (c:Int):=by
 rw[q37 h];show P.C.alloc.get (c:Int)=_;rw[(Ct.Xv h).2.2];unfold Ct.get;rw[C_put_n_get d,q6d P.C a 1 c d];by_cases e:c=a
 ·rw[if_pos e,if_pos e]
 ·rw[if_neg e,if_neg e,if_pos (show 0<=(c:Int)/\(c:Int)<(P.C.n:Int) by omega),Int.toNat_natCast]
 where
 C_put_n_get {C:Ct} {k:Nat} {x:Int} {c:Nat} (d:c<C.n):(if 0<=(c:Int)/\(c:Int)<((C.put k x).n:Int) then nm (C.put k x).now (c:Int).toNat else 0)=nm (C.put k x).now c:=by
  rw[C.Zi,if_pos ⟨by omega,by omega⟩,Int.toNat_natCast]
theorem qfc {P:Pl}{a:Nat}(h:P.C.pick=some a)(b:Bk)(c:Nat):(P.lay b).L c=if c=a then some b else P.L c:=by
 rw[q37 h];rfl
