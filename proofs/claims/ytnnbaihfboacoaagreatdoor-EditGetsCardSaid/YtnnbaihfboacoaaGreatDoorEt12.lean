/- A pool's disk: what is mounted of it, and what its blocks hold: plain facts -/
import Derived.Test.YtnnbaihfboacoaaGreatDoorPlCv1
import Derived.Test.YtnnbaihfboacoaaGreatDoorEt11
namespace Go.Proofs.YtnnbaihfboacoaaGreatDoor
open Go Go.RowKit Go.Proofs
theorem qo3 (m:Nat):Y3 (List.replicate m 0)=true:=by
 unfold Y3;simp
theorem Pl.ok.Cm {P:Pl}(h:P.ok):P.sup.may=true:=by
 obtain⟨h1,h2⟩:=q12 h.may;have b:=h.Kv;refine qiy (decide_eq_true ⟨b.1,b.2,h1.2.2⟩) λj e=>?_
 have d:P.S.ok1 j=true:=by
  have hm:=h.may;unfold Sp.may at hm;rw[Bool.and_eq_true,List.all_eq_true] at hm;exact hm.2 j (List.mem_range.2 e)
 exact d
theorem q7l {P:Pl}{a:Nat}{x:List UInt8}:(a,x)∈P.new↔a<P.C.n/\∃b,P.L a=some b/\¬P.C.get (a:Int)=0/\x=b.out a P.g:=by
 unfold Pl.new;rw[List.mem_filterMap];constructor
 ·rintro⟨c,u,hn⟩;unfold Pl.Ib at hn
  cases d:P.L c with
  |none=>rw[d] at hn;cases hn
  |some b=>
   rw[d] at hn;dsimp only at hn;split at hn
   ·cases hn
   ·rename_i e;injection hn with hn;injection hn with f m;subst f;exact⟨List.mem_range.1 u,b,d,e,m.symm⟩
 ·rintro⟨p,b,d,e,rfl⟩;refine⟨a,List.mem_range.2 p,?_⟩;unfold Pl.Ib;rw[d];dsimp only;rw[if_neg e]
theorem q9q {P:Pl}(h:P.ok){a:Nat}{x:List UInt8}(e:(a,x)∈P.new):a<P.C.n/\P.C.first<=a:=by
 obtain⟨h1,b,_,d,_⟩:=q7l.1 e;have:=(Ct.Kw h.res d).2.2;rw[Int.toNat_natCast] at this;exact⟨h1,this⟩
theorem qhl (g:Int):(g % 2).toNat<2/\((g % 2).toNat:Int)=g % 2:=by omega
theorem Pl.Qai {P:Pl}(h:P.ok):∀s∈P.steps,s.ok P.C.n:=by
 intro s d;have hn:=h.c.1;have A:=h.Kv;have E:=qhl P.g;unfold Pl.steps Uo Pl.blocks at d;rw[List.mem_append,List.mem_append] at d;rcases d with (d|d)|d
 ·cases s with
  |fl=>trivial
  |w a x=>
   unfold Io at d;rw[List.mem_map] at d;obtain⟨⟨F,G⟩,D,e⟩:=d;injection e with p m;dsimp only at p m;subst p m;obtain⟨h1,b,B,_,rfl⟩:=q7l.1 D;exact⟨h1,h.fine _ _ B _ _ (by omega) A⟩
 ·cases s with
  |fl=>trivial
  |w a x=>
   obtain⟨i,u,p,m⟩:=qhj d;have f:=u;rw[q1h] at f;have:=q2x hn.1 hn.2 P.g f;refine⟨by omega,?_⟩;rw[m,List.getD_eq_getElem?_getD,List.getElem?_eq_getElem u];exact qfb hn.1 hn.2 A (List.getElem_mem u)
 ·simp at d;rcases d with rfl|rfl|rfl
  ·trivial
  ·refine⟨by omega,?_⟩;have y:Xq P.sup (P.g % 2)=true:=by unfold Xq;rw[h.Cm,Bool.true_and];exact decide_eq_true ⟨by omega,by omega⟩
   unfold swB;rw[if_pos y];exact q76 _ _ (by rw[q7e h.Cm];omega)
  ·trivial
theorem Pl.Eh (P:Pl):P.steps.length=P.new.length+Qe P.C.n+3:=by
 unfold Pl.steps;rw[qxb];unfold Pl.blocks Io;rw[List.length_append,List.length_map,qdj,q1h]
theorem Pl.Gj {P:Pl}(_h:P.ok){s:Nat}(h1:∀x,(s,x)∉P.new)(h2:s<Qo P.C.n P.g\/Qo P.C.n P.g+Qe P.C.n<=s):spares s P.blocks:=by
 have f:spares s (Io P.new):=qdc λb p e=>h1 b.2 (by rw[<-e];exact p)
 have m:spares s (Dx (Qo P.C.n P.g) (Y4 P.C P.g)):=q7j (by rw[q1h];exact h2);intro t x d;unfold Pl.blocks at d;rcases List.mem_append.1 d with d|d
 ·exact f t x d
 ·exact m t x d
theorem Pl.Nl {P:Pl}(h:P.ok){s:Nat}(hs:s<2):spares s P.blocks:=by
 refine Pl.Gj h (λx b=>?_) (.inl (by unfold Qo;omega));have:=(q9q h b).2;unfold Ct.first at this
 omega
theorem Pl.F6 {P:Pl}(_h:P.ok){i:Nat}(hi:i<Qe P.C.n)(d:List UInt8):Xc (Qo P.C.n P.g+i) P.blocks d=Zr (Uh P.C.n P.g i) (P.C.body (i:Int)):=by
 unfold Pl.blocks;rw[Oc,qf8 _ _ _ _ (by rw[q1h];exact hi),qdk _ _ hi]
theorem Pl.Ls {P:Pl}(h:P.ok){a:Nat}{b:Bk}(ha:a<P.C.n)(hL:P.L a=some b)(hg:¬P.C.get (a:Int)=0)(d:List UInt8):Xc a P.blocks d=b.out a P.g:=by
 have hm:(a,b.out a P.g)∈P.new:=q7l.2 ⟨ha,b,hL,hg,rfl⟩;have hn:=h.c.1;have u:=(q9q h hm).2;have m:spares a (Dx (Qo P.C.n P.g) (Y4 P.C P.g)):=q7j (by
  rw[q1h];right
  by_cases h0:0<Qe P.C.n
  ·have:=q2x hn.1 hn.2 P.g (i:=Qe P.C.n-1) (by omega);unfold Ct.first at u
   omega
  ·have:Qe P.C.n=0:=by omega
   exfalso
   unfold Qe at this;omega)
 unfold Pl.blocks;rw[Oc,qhd a _ _ _ hm λy A=>by
  obtain⟨_,B,f,_,e⟩:=q7l.1 A;rw[hL] at f;injection f with p;rw[e,<-p],q15 m]
theorem qvx (D:DM)(s:Nat):D.mem.Jp s=D.Jp s:=rfl
theorem qfd {D:DM}{P:Pl}(h:P.ok){H:Sp}{R:Ct}(p:Sound D P H R) :
  D.Zy P.steps=0/\Sound (D.Qk P.steps) P.done P.sup P.C/\(D.Qk P.steps).steps=D.steps+(P.new.length+Qe P.C.n+3)/\
   (∀a b,a<P.C.n->P.L a=some b->¬P.C.get (a:Int)=0->(D.Qk P.steps).Jp a=b.out a P.g)/\(∀s,P.C.first<=s->(∀x,(s,x)∉P.new)->(D.Qk P.steps).Jp s=D.Jp s):=by
 have hn:=h.c.1;have Z:=qhl P.g;have Q:=qhl P.S.gen;have B:(P.S.gen % 2).toNat≠(P.g % 2).toNat:=by unfold Pl.g;omega
 obtain⟨T,U,W,I,J⟩:=qjd p.free (l:=P.steps) (λa u=>by rw[p.n];exact Pl.Qai h a u);rw[Pl.Eh] at I;have f:=λs=>quw P.blocks (P.g % 2).toNat (swB P.sup (P.g % 2)) D.mem s
 have X:∀s,(D.Qk P.steps).Zp s=[]:=λs=>by rw[<-qnz,J];exact (f s).1
 have hd:∀s,(D.Qk P.steps).Jp s=if s=(P.g % 2).toNat then swB P.sup (P.g % 2) else Xc s P.blocks (D.Jp s):=λs=>by
  have K:=(f s).2;rw[qbs (p.Vr s)] at K;rw[<-qvx,J];exact K
 have A:=p.holds;have d:∀{s:Nat},P.C.first<=s->s≠(P.g % 2).toNat:=λ{s} y=>by unfold Ct.first at y;omega
 refine⟨T,⟨U,W.trans p.n,X,?_⟩,I,λa b u M O=>?_,λs y F=>?_⟩
 ·refine⟨h.Cm,rfl,h.sec,h.c,h.res,rfl,?_,?_,λi Y=>?_⟩
  ·show (D.Qk P.steps).Jp (P.g % 2).toNat=swB P.sup (P.g % 2);rw[hd,if_pos rfl]
  ·show (Gf ((D.Qk P.steps).Jp ((P.g+1) % 2).toNat) ((P.g+1) % 2)).gen<P.g;have e:(P.g+1) % 2=P.S.gen % 2:=by unfold Pl.g;omega
   rw[e,hd,if_neg B,q15 (Pl.Nl h (by omega)),A.slot];have G:Xq H (P.S.gen % 2)=true:=by unfold Xq;rw[A.may,Bool.true_and];exact decide_eq_true ⟨by omega,by omega⟩
   rw[(qbz G).2,A.gen];unfold Pl.g;omega
  ·have m:i<Qe P.C.n:=Y;have:=q2x hn.1 hn.2 P.g m;show (D.Qk P.steps).Jp (Qo P.C.n P.g+i)=Zr (Uh P.C.n P.g i) (P.C.body (i:Int));rw[hd,if_neg (by omega),Pl.F6 h m]
 ·have hm:(a,b.out a P.g)∈P.new:=q7l.2 ⟨u,b,M,O,rfl⟩;rw[hd,if_neg (d (q9q h hm).2),Pl.Ls h u M O]
 ·have E:s<Qo P.C.n P.g\/Qo P.C.n P.g+Qe P.C.n<=s:=by
   right
   unfold Ct.first at y
   unfold Qo;rcases (show (P.g % 2).toNat=0\/(P.g % 2).toNat=1 by omega) with e|e<;>rw[e]<;>omega
  rw[hd,if_neg (d y),q15 (Pl.Gj h F E)]
