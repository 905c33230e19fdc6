/- The code's pool: Count, Free, Super, PutBytes, Unref -/
import Derived.Test.YtloolbmdiimanaaGreatDoorGv22
namespace Go.Proofs.YtloolbmdiimanaaGreatDoor
open Go Go.RowKit Go.Proofs Tryz
set_option maxHeartbeats 8000000
set_option maxRecDepth 100000
section
open Go.ChangeMaps (setBlock)
section
variable {P:Program}{w:WD}{t k e b clock:Nat}{l:List MapEntry}
theorem q4j (E:U0 l clock)(A:P.underlying t=some (.map k e))(g:P.underlying k=some (.int .i64)){z:Value}(F:(zeroValue e).run P w=.ok z w)(u:w.1[b]?=some (.map l.toArray clock))(s:Int) :
  (Instr.lookup t (.map (some b)) (.int .i64 s) true).run P w=.ok (.tuple #[(Zf s l).getD z,.bool (Zf s l).isSome]) w:=by
 have y:=λB=>MapKept.run_checkKey (P:=P) (w:=w) g (k:=.int .i64 s) rfl B 9999
 rcases q9y s l 0 E.key with⟨h1,h2,_⟩|⟨j,x,h1,_,_,D,_⟩
 ·have f:=MapKept.run_findKey (P:=P) (w:=w) g h1;simp[Instr.lookup,run_underlying A,MapKept.run_getObj_map u,y,f,F,h2]
 ·have f:=MapKept.run_findKey (P:=P) (w:=w) g h1;simp[Instr.lookup,run_underlying A,MapKept.run_getObj_map u,y,f,D]
end
section
variable {w w1 w2:WD}{p d m clock:Nat}{cur:Array Value}{l:List MapEntry}{v:Nat->Value}{Sc S T:NP}{P P':Pl}
theorem PL.store (L:PL w p d m cur l clock v Sc S T P)(t:Turn Sc w w1)(C1:Yu w1 p 36 Sc P'.C)(b12:Below w1.1.size w1 w2)(hn:P'.C.n=P.C.n)(hS:P'.S=P.S){a:Nat}(ha:a<P.C.n){b:Bk}(hlive:∀c,P'.live c=if c=a then some b else P.live c)
  (hgood:∀c x,P'.L c=some x->x.good) (hok:P'.ok) {q:Nat} (hx:Sl w2 (some ⟨q,0,none⟩) 256 256 (b.out a 0)) (hq:¬T q) :
  Pool (setBlock w2 m (.map (Zr (a:Int) (.slice (some ⟨q,0,none⟩) 256 256) clock l).toArray (if Zf (a:Int) l=none then clock+1 else clock))) p d S T P'/\
   Turn S w (setBlock w2 m (.map (Zr (a:Int) (.slice (some ⟨q,0,none⟩) 256 256) clock l).toArray (if Zf (a:Int) l=none then clock+1 else clock))):=by
 have Q:=t.block m L.mlt λh=>(L.ne m h).2 rfl
 have R:=L.mlt;have U:=t.size;have W:=b12.size;have J:Turn S w w2:=(t.mono L.Ym.2.2).then (Zb b12);have u:Turn (λk=>k=m) w2 (setBlock w2 m (.map (Zr (a:Int) (.slice (some ⟨q,0,none⟩) 256 256) clock l).toArray (if Zf (a:Int) l=none then clock+1 else clock))):=q0q _ rfl;have y:(setBlock w2 m (.map (Zr (a:Int) (.slice (some ⟨q,0,none⟩) 256 256) clock l).toArray (if Zf (a:Int) l=none then clock+1 else clock))).1[m]?=some (.map (Zr (a:Int) (.slice (some ⟨q,0,none⟩) 256 256) clock l).toArray (if Zf (a:Int) l=none then clock+1 else clock)):=q2u (by omega);generalize setBlock w2 m (.map (Zr (a:Int) (.slice (some ⟨q,0,none⟩) 256 256) clock l).toArray (if Zf (a:Int) l=none then clock+1 else clock))=X at u y ⊢;have f:∀k,k<w.1.size->k≠m->¬Sc k->X.1[k]?=w.1[k]?:=λk B E F=>(u.block k (by omega) E).trans ((b12.block k (by omega)).trans (t.block k B F))
 have G:=f p L.Iz L.p_m (λh=>(L.ne p h).1 rfl);refine⟨⟨m,cur,Zr (a:Int) (.slice (some ⟨q,0,none⟩) 256 256) clock l,(if Zf (a:Int) l=none then clock+1 else clock),upd v a (.slice (some ⟨q,0,none⟩) 256 256),Sc,G.trans L.me,hS▸L.ph,?_,y,L.ents.put (a:Int) _,λc=>?_,λe O=>?_,λc x h=>?_,hgood,L.Ym,L.ne,L.sub,hok,hS▸L.He⟩,J.trans u λk B=>by rw[B];exact .inl L.Ym.2.1⟩
 ·have I:=C1.below b12;exact I.keep (u.block p (by have:=L.Iz;omega) L.p_m) λk B H=>u.block k B λe=>(L.ne k H).2 e
 ·rw[qdu,hlive c];by_cases e:c=a
  ·subst e;rw[AA rfl,AA rfl,Aj];rfl
  ·rw[AB (by omega),AB e,Af _ _ e];exact L.look c
 ·rw[hn];rcases q9x O with h|⟨h,_⟩
  ·exact L.keys e h
  ·exact⟨a,ha,by unfold kI;rw[h]⟩
 ·rw[hlive c] at h;by_cases e:c=a
  ·rw[AA e] at h;injection h with h;subst h e;rw[Aj];refine⟨q,256,rfl,?_,hq⟩;exact PL.keep.stay_slice hx u.size λA=>u.block q A λe=>hq (by rw[e];exact L.sub m L.Ym.2.1)
  ·rw[AB e] at h;rw[Af _ _ e];obtain⟨g,K,M,H,A⟩:=L.row c x h;exact⟨g,K,M,PL.keep.stay_slice H (by have:=u.size;omega) λD=>f g D (λe=>A (by rw[e];exact L.sub m L.Ym.2.1)) λh=>A (L.sub g (L.Ym.2.2 g h)),A⟩
theorem PL.drop (L:PL w p d m cur l clock v Sc S T P)(t:Turn Sc w w1)(C1:Yu w1 p 36 Sc P'.C)(hn:P'.C.n=P.C.n)(hS:P'.S=P.S){z:Int}(hlive:∀c:Nat,P'.live c=if (c:Int)=z then none else P.live c)
  (hgood:∀c x,P'.L c=some x->x.good) (hok:P'.ok) :
  Pool (setBlock w1 m (.map (Xt z l).toArray clock)) p d S T P'/\Turn S w (setBlock w1 m (.map (Xt z l).toArray clock)):=by
 have M:=L.mlt;have O:=t.size;have u:Turn (λk=>k=m) w1 (setBlock w1 m (.map (Xt z l).toArray clock)):=q0q _ rfl;have y:(setBlock w1 m (.map (Xt z l).toArray clock)).1[m]?=some (.map (Xt z l).toArray clock):=q2u (by omega);generalize setBlock w1 m (.map (Xt z l).toArray clock)=Q at u y ⊢;have f:∀k,k<w.1.size->k≠m->¬Sc k->Q.1[k]?=w.1[k]?:=λk A E F=>(u.block k (by omega) E).trans (t.block k A F)
 have G:=f p L.Iz L.p_m (λh=>(L.ne p h).1 rfl);refine⟨⟨m,cur,Xt z l,clock,v,Sc,G.trans L.me,hS▸L.ph,?_,y,L.ents.del z,λc=>?_,λe K=>?_,λc x h=>?_,hgood,L.Ym,L.ne,L.sub,hok,hS▸L.He⟩,(t.mono L.Ym.2.2).trans u λk A=>by rw[A];exact .inl L.Ym.2.1⟩
 ·exact C1.keep (u.block p (by have:=L.Iz;omega) L.p_m) λk A H=>u.block k A λe=>(L.ne k H).2 e
 ·rw[q91 _ L.ents.one,hlive c];by_cases e:(c:Int)=z
  ·rw[AA e,AA e];rfl
  ·rw[AB e,AB e];exact L.look c
 ·rw[hn];exact L.keys e (q63 K)
 ·rw[hlive c] at h;split at h
  ·cases h
  ·obtain⟨g,I,J,H,B⟩:=L.row c x h;exact⟨g,I,J,PL.keep.stay_slice H (by have:=u.size;omega) λD=>f g D (λe=>B (by rw[e];exact L.sub m L.Ym.2.1)) λh=>B (L.sub g (L.Ym.2.2 g h)),B⟩
end
theorem qk3 {P:Pl}{a:Nat}(h:P.C.pick=some a)(b:Bk)(c:Nat):(P.lay b).live c=if c=a then some b else P.live c:=by
 unfold Pl.live;by_cases f:c<P.C.n
 ·rw[q7n h b c f,qbv h b c];by_cases e:c=a
  ·rw[AA e,AA e,AA e,AB (by omega)]
  ·rw[AB e,AB e,AB e]
 ·have y:=(Ct.Ju h).1;have e:c≠a:=by omega
  have g:P.C.get (c:Int)=0:=by unfold Ct.get;rw[AB (by omega)]
  have u:(P.lay b).C.get (c:Int)=0:=by unfold Ct.get;rw[qi2,AB (by omega)]
  rw[g,u,AB e,AA rfl,AA rfl]
section
variable {w:WD}{p d:Nat}{S T:NP}{P:Pl}
theorem q5b (H:Pool w p d S T P)(a x:Int)(g:P.C.get a=x) :
  Calls prog 104 #[.pointer (some ⟨p,0,none⟩),.int .i64 a] w λe u=>e=.returned (.int .i64 x)/\w=u:=by
 obtain⟨m,cur,l,clock,v,Sc,L⟩:=H;have f:=q2j L.ct a x g;go_enter func104,ntmps104
 go_wp2_with fail
 refine f.mono ?_;rintro e w1 ⟨rfl,rfl⟩;go_wp2;go_ret;exact⟨rfl,rfl⟩
end
section
attribute [local go_sem ↓] q25 q6n
end
end
section
open Go.ChangeMaps (setBlock)
def Pl.Gy (k:Int)(n:Nat):Bool:=match Yg k with|some m=>decide (n<=m)|none=>false
def Pl.Du (P:Pl)(k:Int)(n:Nat):Int:=if Pl.Gy k n=true then P.C.Ku else 0
def Pl.Zr (P:Pl)(k:Int)(n:Nat):Int:=if (Yg k).isSome=true then if Pl.Gy k n=true then P.C.Kt else 7 else 1
def Pl.put (P:Pl)(k:Int)(l:LU):Pl:=if Pl.Gy k l.length=true then P.lay (.bytes k l) else P
theorem q6w {P:Pl}(h:P.C.pick=none)(b:Bk):P.lay b=P:=by unfold Pl.lay;rw[h]
theorem qk4 {P:Pl}{b:Bk}(u:b.good)(h:∀c x,P.L c=some x->x.good):∀c x,(P.lay b).L c=some x->x.good:=λc x f=>by
 cases g:P.C.pick with
 |none=>rw[q6w g] at f;exact h c x f
 |some a=>
  rw[qbv g] at f;split at f
  ·injection f with f;exact f▸u
  ·exact h c x f
theorem qtq {w w':WD}{S:NP}{A:OA}{n c:Nat}{l:LU}(h:Sl w A n c l)(X:Turn S w w')(g:0<n->∀f,A=some f->¬S f.block):Sl w' A n c l:=by
 by_cases hn:0<n
 ·exact q6q h X (g hn)
 ·have y:l=[]:=BF (by rw[h.len];omega);subst y;exact⟨h.1,h.2.1,h.2.2.1,λj u B=>by simp at B⟩
theorem qe9 {w:WD}{p d:Nat}{S T:NP}{P:Pl}(H:Pool w p d S T P)(hT:∀k,T k->k<w.1.size)(hG:¬T 1)(k:Int)(A:OA)(n c:Nat)(x:LU)(hs:Sl w A n c x)(hA:0<n->∀ad,A=some ad->¬S ad.block)(ht:Tab w) :
  Calls prog 48 #[.pointer (some ⟨p,0,none⟩),.int .i64 k,.slice A n c] w λe B=>e=.returned (.tuple #[.int .i64 (P.Du k x.length),.int .i64 (P.Zr k x.length)])/\Pool B p d S T (P.put k x)/\Turn S w B:=by
 have u:=hs.len;have Z:=H.ok;have g:=q34 k;unfold Dz at g
 cases D:Yg k with
 |none=>
  rw[D] at g;have y:Pl.Gy k x.length=false:=by unfold Pl.Gy;rw[D]
  have R:=HI (show P.Du k x.length=0 by unfold Pl.Du;rw[y];rfl);have Q:=HI (show P.Zr k x.length=1 by unfold Pl.Zr;rw[D];rfl);have Y:=HI (show P.put k x=P by unfold Pl.put;rw[y];rfl);clear y D;go_enter func48,ntmps48
  go_wp2_with (first
   |(go_at_call 74;refine (g w).mono ?_;rintro e w1 ⟨rfl,rfl⟩)
   |fail)
  go_ret2;rw[R.out,Q.out,Y.out];exact⟨rfl,H,Turn.refl _ _⟩
 |some most=>
  rw[D] at g;obtain⟨a9,d2⟩:=q58 D;by_cases b1:n<=most
  ·have y:Pl.Gy k x.length=true:=by unfold Pl.Gy;rw[D,u];exact AL b1
   have R:=HI (show P.Du k x.length=P.C.Ku by unfold Pl.Du;rw[y];rfl);have Q:=HI (show P.Zr k x.length=P.C.Kt by unfold Pl.Zr;rw[D,y];rfl);have Y:=HI (show P.put k x=P.lay (.bytes k x) by unfold Pl.put;rw[y];rfl);have e1:¬(most:Int)<(n:Int):=by omega
   have M:(Bk.bytes k x).good:=qcg a9 (by omega);obtain⟨m,cur,l,clock,v,Sc,L⟩:=H;have f:=q7l L.ct;clear y D
   cases O:P.C.pick with
   |none=>
    obtain⟨W,X,a3⟩:=Ct.Y9 O;rw[W,X,a3] at f;rw[W] at Q;rw[X] at R;rw[q6w O] at Y;have f:=HI f;clear W X a3 O;go_enter func48,ntmps48
    go_wp2_with (first
     |(go_at_call 74;refine (g w).mono ?_;rintro e w1 ⟨rfl,rfl⟩)
     |(go_at_call 85;refine f.out.mono ?_;rintro e w2 ⟨rfl,C2,K⟩)
     |fail)
    go_ret2;rw[R.out,Q.out,Y.out];exact⟨rfl,⟨m,cur,l,clock,v,Sc,L.Qas K C2 rfl (λ_=>Iff.rfl) Z⟩,K.mono L.Ym.2.2⟩
   |some a=>
    obtain⟨W,X,a3⟩:=Ct.Jf O;have b9:=(Ct.Ju O).1;have G:P.C.get (a:Int)=0:=by unfold Ct.get;rw[AA (by omega),AJ];exact (Ct.Ju O).2.2.1
    have I:Zf (a:Int) l=none:=by rw[L.look a];unfold Pl.live;rw[AA G];rfl
    have E:=HI I;have d5:=Z.c.1;have hS:=qte (P:=P) (.bytes k x);have hn:=qi2 (P:=P) (.bytes k x);have U:=qjv Z M.fine;have a6:P.C.alloc=(P.lay (.bytes k x)).C:=by rw[q2k O]
    have b0:=qk3 O (.bytes k x);have a8:=qk4 M L.good;rw[W,X,a6] at f;rw[W] at Q;rw[X] at R;have a0:(Ba k a x.length 0).ok=true:=M.hd a 0 (by omega) q1w;have a7:x.length<=236:=M.body;have b2:Xb (Ba k a x.length 0) x=0:=by unfold Xb;rw[AA a0,AA a7]
    have b3:Xi (Ba k a x.length 0) x=(Bk.bytes k x).out a 0:=by unfold Xi;rw[AA a0,AA a7];rfl
    have b6:=HI b2;have b7:=HI b3;have f:=HI f;have b5:=HI b0;have b4:=HI a8;have a5:=HI U;have HS:=HI hS;have Hn:=HI hn;have a4:=HI u;clear W X a3 O a6 hS hn U b0 a8 a0 b2 b3 u I G;go_enter func48,ntmps48
    go_wp2_with (first
     |(go_at_call 74;refine (g w).mono ?_;rintro e w1 ⟨rfl,rfl⟩)
     |(go_at_call 85;refine f.out.mono ?_;rintro e w2 ⟨rfl,C2,K⟩)
     |fail)
    have d3:=K.block p L.Iz λh=>(L.ne p h).1 rfl
    have d1:=K.block m L.mlt λh=>(L.ne m h).2 rfl
    have z2:=K.size;have d7:=L.Iz;have d6:=L.mlt;have d4:w2.cell? ⟨p,40,none⟩=some (.map (some m)):=(AY (a:=⟨p,40,none⟩) d3).trans L.c40;have s2:Sl w2 A n c x:=qtq hs K λhn ad e h=>hA hn ad e (L.Ym.2.2 _ h)
    have t2:Tab w2:=ht.turned K λh=>hG (L.sub _ (L.Ym.2.2 _ h))
    have hF:∀B,Below w2.1.size w2 B->B.cell? ⟨p,40,none⟩=some (.map (some m))/\Below w2.1.size w2 B:=λB hb=>⟨(hb.cell (p:=⟨p,40,none⟩) (by show p<_;omega)).trans d4,hb⟩
    have BD:Below w2.1.size w2 w2.drew:=(AI _ _).drew;have b8:=HI (λ(B:WD) (hb:Below w2.1.size w2 B) (v':Value)=>(congrArg (λz:Nat=>Result.ok () (setBlock B m (.map (Zr (a:Int) v' clock l).toArray z))) (AA E.out)).subst (motive:=λr=>(Instr.mapUpdate 64 (.map (some m)) (.int .i64 (a:Int)) v').run prog B=r) <| q1t (P:=prog) (t:=64) (k:=3) (e:=22) L.ents underlying64 underlying3 ((hb.block m (by omega)).trans (d1.trans L.map)) (a:Int) v');go_region_held3 (λB=>B.cell? ⟨p,40,none⟩=some (.map (some m)))
     (first|assumption|exact (hF _ BD).1|exact (hF _ F).1|exact (AY (a:=⟨p,40,none⟩) ((q0q (S:=λk=>k=m) _ rfl).block p (by have:=Below.size F;omega) L.p_m)).trans (hF _ F).1)
     (first
      |(go_at_call 37;refine (q5p (Ba k a n 0) A n c x _ s2.drew (t2.below BD t2.1)).mono ?_;rw[<-a4.out,b6.out,b7.out];rintro e w3 ⟨A3,n3,c3,rfl,J,d0,c9⟩;have F:Below w2.1.size w2 w3:=BD.trans c9;have d8:=b8.out w3 F)
      |fail)
    obtain⟨q,rfl,rfl,rfl⟩:=d0 (by first|trivial|rfl);have hq:=(J.block ⟨q,0,none⟩ rfl).1;obtain⟨R1,R2⟩:=L.store (P':=P.lay (.bytes k x)) (b:=.bytes k x) K C2 F Hn.out HS.out b9 b5.out b4.out a5.out J.sl (λh=>by have h1:=hT q h;have h2:w2.drew.1.size=w2.1.size:=rfl;have h3:w2.drew.1.size<=q:=hq;omega);rw[AA E.out] at R1 R2;go_wp2;go_ret2;rw[R.out,Q.out,Y.out];exact⟨rfl,R1,R2⟩
  ·have y:Pl.Gy k x.length=false:=by unfold Pl.Gy;rw[D,u];exact AH b1
   have R:=HI (show P.Du k x.length=0 by unfold Pl.Du;rw[y];rfl);have Q:=HI (show P.Zr k x.length=7 by unfold Pl.Zr;rw[D,y];rfl);have Y:=HI (show P.put k x=P by unfold Pl.put;rw[y];rfl);have e1:(most:Int)<(n:Int):=by omega
   clear y D;go_enter func48,ntmps48
   go_wp2_with (first
    |(go_at_call 74;refine (g w).mono ?_;rintro e w1 ⟨rfl,rfl⟩)
    |fail)
   go_ret2;rw[R.out,Q.out,Y.out];exact⟨rfl,H,Turn.refl _ _⟩
theorem qg3 (C:Ct)(a:Int)(c:Nat):(C.Qp a).get (c:Int)=if (c:Int)=a then C.Jv a else C.get (c:Int):=by
 by_cases h0:C.get a=0
 ·have f:C.Qp a=C:=by unfold Ct.Qp;rw[AA h0]
  have g:C.Jv a=0:=by unfold Ct.Jv;rw[AA h0]
  rw[f,g];by_cases e:(c:Int)=a
  ·rw[AA e,e,h0]
  ·rw[AB e]
 ·have f:C.Qp a=C.put a.toNat (C.get a-1):=by unfold Ct.Qp;rw[AB h0]
  have g:C.Jv a=C.get a-1:=by unfold Ct.Jv;rw[AB h0]
  have A:0<=a/\a<(C.n:Int):=Classical.byContradiction λh=>h0 (by unfold Ct.get;rw[AB h])
  obtain⟨V,u⟩:∃V,C.get a-1=V:=⟨_,rfl⟩;rw[f,g,u];by_cases y:c<C.n
  ·have h1:(C.put a.toNat V).get (c:Int)=nm (C.put a.toNat V).now c:=by unfold Ct.get;rw[C.Zg,AA (by omega),AJ]
   have h2:C.get (c:Int)=nm C.now c:=by unfold Ct.get;rw[AA (by omega),AJ]
   rw[h1,h2,q67 _ _ _ _ y];by_cases e:c=a.toNat
   ·rw[AA e,AA (by omega)]
   ·rw[AB e,AB (by omega)]
  ·have h1:(C.put a.toNat V).get (c:Int)=0:=by unfold Ct.get;rw[C.Zg,AB (by omega)]
   have h2:C.get (c:Int)=0:=by unfold Ct.get;rw[AB (by omega)]
   rw[h1,h2,AB (by omega)]
theorem qci {C:Ct}{a:Int}(h:C.Jv a≠0):C.get a≠0:=λh0=>h (by unfold Ct.Jv;rw[AA h0])
theorem qmg (P:Pl)(a:Int)(c:Nat):Pl.live ⟨P.S,P.C.Qp a,P.L⟩ c=if (c:Int)=a/\P.C.Jv a=0 then none else P.live c:=by
 show (if (P.C.Qp a).get (c:Int)=0 then none else P.L c)=if (c:Int)=a/\P.C.Jv a=0 then none else (if P.C.get (c:Int)=0 then none else P.L c)
 rw[qg3];by_cases e:(c:Int)=a
 ·rw[AA e];by_cases h:P.C.Jv a=0
  ·rw[AA h,AA ⟨e,h⟩]
  ·rw[AB h,AB λh2=>h h2.2,e,AB (qci h)]
 ·have f:¬((c:Int)=a/\P.C.Jv a=0):=λh2=>e h2.1
  rw[AB e,AB f]
theorem qtr {P:Pl}(h:P.ok)(a:Int):Pl.ok ⟨P.S,P.C.Qp a,P.L⟩:=
 ⟨Ct.Pn h.c a,Ct.Po h.res a,h.may,by show P.S.Qa=((P.C.Qp a).n:Int);rw[Ct.E8];exact h.sec,h.gen,h.fine⟩
theorem qmh {w:WD}{p d:Nat}{S T:NP}{P:Pl}(H:Pool w p d S T P)(a:Int) :
  Calls prog 178 #[.pointer (some ⟨p,0,none⟩),.int .i64 a] w λe Z=>e=.returned (.tuple #[.int .i64 (P.C.Jv a),.int .i64 (P.C.Jp a)])/\Pool Z p d S T ⟨P.S,P.C.Qp a,P.L⟩/\Turn S w Z:=by
 have W:=H.ok;obtain⟨m,cur,l,clock,v,Sc,L⟩:=H;have f:=qlz L.ct a;have g:=qmg P a;have y:=qg3 P.C a;have A:=qci (C:=P.C) (a:=a);have G:=qtr W a;obtain⟨V,Q⟩:∃V,P.C.Jv a=V:=⟨_,rfl⟩;obtain⟨E,Y⟩:∃E,P.C.Jp a=E:=⟨_,rfl⟩;rw[Q] at f g A ⊢;simp only[Q] at y;rw[Y] at f ⊢;have F:=HI f;have K:=HI g;have D:=HI G;have M:=HI y;have O:=HI A;have a2:=L.Iz;have a1:=L.mlt;clear f g G Q Y y A;by_cases h0:V=0
 ·have nb:(V==0)=true:=by simpa using h0
  have I:=HI h0;clear h0;go_enter func178,ntmps178
  go_wp2_with fail
  refine F.out.mono ?_;rintro e w1 ⟨rfl,J,B⟩;have X:=B.block p L.Iz λh=>(L.ne p h).1 rfl
  have U:=B.block m L.mlt λh=>(L.ne m h).2 rfl
  have a3:w1.cell? ⟨p,40,none⟩=some (.map (some m)):=(AY (a:=⟨p,40,none⟩) X).trans L.c40;have a0:=λu ty=>q4k (P:=prog) (t:=64) (k:=3) (e:=22) L.ents underlying64 underlying3 (U.trans L.map) a u ty
  obtain⟨R1,R2⟩:=L.drop (P':=⟨P.S,P.C.Qp a,P.L⟩) (z:=a) B J (Ct.E8 _ _) rfl (λc=>by rw[K.out c];simp only[I.out,and_true]) L.good D.out;go_wp2;go_ret2;exact⟨rfl,R1,R2⟩
 ·have nb:(V==0)=false:=by simpa using h0
  have I:=HI h0;clear h0;go_enter func178,ntmps178
  go_wp2_with fail
  refine F.out.mono ?_;rintro e w1 ⟨rfl,J,B⟩;have R:=L.Qas B J (Ct.E8 _ _) (λc=>?_) D.out
  ·go_wp2;go_ret2;exact⟨rfl,⟨m,cur,l,clock,v,Sc,R⟩,B.mono L.Ym.2.2⟩
  ·rw[M.out c];by_cases e:(c:Int)=a
   ·rw[AA e,e];exact⟨λh=>absurd h I.out,λh=>absurd h (O.out I.out)⟩
   ·rw[AB e]
end
section
variable {w:WD}{p d:Nat}{S T:NP}{P:Pl}
theorem qk5 (H:Pool w p d S T P)(a:Int)(h0:P.C.get a=0) :
  Calls prog 75 #[.pointer (some ⟨p,0,none⟩),.int .i64 a] w λe g=>e=.returned (.tuple #[.slice none 0 0,.int .i64 0,.int .i64 1])/\w=g:=by
 have f:=q5b H a 0 h0;go_enter func75,ntmps75
 go_wp2_with (first
  |(go_at_call 104;refine f.mono ?_;rintro e w1 ⟨rfl,rfl⟩)
  |fail)
 go_ret3;exact⟨rfl,rfl⟩
theorem qcj (H:Pool w p d S T P)(a:Nat)(b:Bk)(u:P.live a=some b) :
  Calls prog 75 #[.pointer (some ⟨p,0,none⟩),.int .i64 (a:Int)] w λe D=>∃A n c,e=.returned (.tuple #[.slice A n c,.int .i64 1,.int .i64 0])/\Sl D A n c (b.out a 0)/\Below w.1.size w D:=by
 obtain⟨x,B⟩:∃x,P.C.get (a:Int)=x:=⟨_,rfl⟩;have y:x≠0:=λh=>by unfold Pl.live at u;rw[AA (B.trans h)] at u;cases u
 have E:=q5b H (a:Int) x B;have J:(x==0)=false:=by simpa using y
 obtain⟨m,cur,l,clock,v,Sc,L⟩:=H;obtain⟨g,c,G,F,_⟩:=L.row a b u;have I:=L.c40;have f:=q4j L.ents underlying64 underlying3 (Tryz.zeroValue22 w) L.map (a:Int);rw[L.look a,u,G] at f;replace f:(Instr.lookup 64 (.map (some m)) (.int .i64 (a:Int)) true).run prog w=.ok (.tuple #[.slice (some ⟨g,0,none⟩) 256 c,.bool true]) w:=f;clear B y u;go_enter func75,ntmps75
 go_wp2_with (first
  |(go_at_call 104;refine E.mono ?_;rintro e w1 ⟨rfl,rfl⟩)
  |fail)
 go_ret3;exact⟨_,_,_,rfl,F,AI _ _⟩
theorem q69 {G:NP}{D:DM}(E:Vp w d G D)(H:Pool w p d S T P)(a:Nat)(h0:P.C.get (a:Int)≠0)(y:P.live a=none) :
  Calls prog 75 #[.pointer (some ⟨p,0,none⟩),.int .i64 (a:Int)] w λe B=>∃A n c,e=.returned (.tuple #[.slice A n c,.int .i64 5,.int .i64 (D.Jw (a:Int))])/\Sl B A n c (D.Xh (a:Int))/\Below w.1.size w B:=by
 obtain⟨x,u⟩:∃x,P.C.get (a:Int)=x:=⟨_,rfl⟩;rw[u] at h0;have J:=q5b H (a:Int) x u;have O:(x==0)=false:=by simpa using h0
 obtain⟨m,cur,l,clock,v,Sc,L⟩:=H;have K:=L.c40;have Q:=L.c0;have f:=q4j L.ents underlying64 underlying3 (Tryz.zeroValue22 w) L.map (a:Int);rw[L.look a,y] at f;replace f:(Instr.lookup 64 (.map (some m)) (.int .i64 (a:Int)) true).run prog w=.ok (.tuple #[.slice none 0 0,.bool false]) w:=f;obtain⟨_,_,_,_,_,F⟩:=E;have g:=q94 F (a:Int);clear u h0 y;go_enter func75,ntmps75
 go_wp2_with (first
  |(go_at_call 104;refine J.mono ?_;rintro e w1 ⟨rfl,rfl⟩)
  |(go_at_call 42;refine g.mono ?_;rintro e w2 ⟨A,n,rfl,M,_,I,_⟩)
  |fail)
 go_ret3;exact⟨_,_,_,rfl,M,I⟩
end
theorem qts {x:LU}{k:Int}{a most:Nat}(h:Vb x k (a:Int)=false):Vd x k a most=false:=by unfold Vd;rw[h,Bool.false_and]
def Cm (x:LU)(k:Int)(a most:Nat)(f:Int):Int:=if Vd x k a most=true then 0 else f
def Cj (x:LU)(k:Int)(a most:Nat):LU:=if Vd x k a most=true then Oq x else []
theorem qk6 {x:LU}{k:Int}{a most:Nat}(f:Int)(h:Vd x k a most=false):Cm x k a most f=f/\Cj x k a most=[]:=by unfold Cm Cj;rw[h];exact⟨rfl,rfl⟩
theorem qi8 {x:LU}{k:Int}{a most:Nat}(f:Int)(h:Vd x k a most=true):Cm x k a most f=0/\Cj x k a most=Oq x:=by unfold Cm Cj;rw[h];exact⟨rfl,rfl⟩
theorem qg4 {w:WD}{p:Nat}(k:Int)(most:Nat)(hk:Yg k=some most)(a:Nat)(x:LU)(ow:Int)
  (hB:Calls prog 75 #[.pointer (some ⟨p,0,none⟩),.int .i64 (a:Int)] w λe w'=>∃A n c,e=.returned (.tuple #[.slice A n c,.int .i64 ow,.int .i64 0])/\Sl w' A n c x/\Below w.1.size w w') (ht:Tab w) :
  Calls prog 45 #[.pointer (some ⟨p,0,none⟩),.int .i64 (a:Int),.int .i64 k] w λe w'=>∃A n c,e=.returned (.tuple #[.slice A n c,.int .i64 (Cm x k a most ow)])/\Sl w' A n c (Cj x k a most)/\Below w.1.size w w'/\∀W,A=some W->w.1.size<=W.block:=by
 have E:=q34 k;unfold Dz at E;rw[hk] at E;replace E:∀w:WD,Calls prog 74 #[.int .i64 k] w λe w'=>e=.returned (.tuple #[.int .i64 (most:Int),.bool true])/\w=w':=E
 obtain⟨d3,c9⟩:=q58 hk;have a0:=HI hB;clear hB hk;have G:=λ(Y:WD) (A:OA) (n c:Nat) (s4:Sl Y A n c x) (t4:Tab Y)=>qs3 A n c x k (a:Int) Y s4 t4
 unfold qbs at G
 cases D:Vb x k (a:Int)
 ·obtain⟨c1,c2,c3⟩:=qy0 D;rw[c1,c2,c3] at G;have U:=HI G;obtain⟨O,Q⟩:=qk6 ow (qts (most:=most) D);have D1:=HI O;have D2:=HI Q;clear G O Q c1 c2 c3 D;go_enter func45,ntmps45
  go_wp2_with (first
   |(go_at_call 74;refine (E w).mono ?_;rintro e w1 ⟨rfl,rfl⟩)
   |(go_at_call 75;refine a0.out.mono ?_;rintro e Y ⟨A4,n4,q4,rfl,s4,y⟩;have t4:=ht.below y ht.1)
   |(go_at_call 76;refine (U.out Y A4 n4 q4 s4 t4).mono ?_;rintro e u ⟨A5,n5,q5,rfl,f,M⟩)
   |(refine q1f rfl (.tmp 13) (.tmp 37) rfl u.1.size rfl Hd.zero _ rfl (HB.zero u _) (by simp) ?_;intro w6 K B T6;have g:Below u.1.size u w6:=(Ql).trans (B _ (AE _)))
   |fail)
  go_ret2;rw[D1.out,D2.out];exact⟨_,_,_,rfl,G6 _,y.trans ((M.trans (g.mono M.size)).mono y.size),λW h=>(by cases h)⟩
 ·obtain⟨c1,c2,c3⟩:=qw1 D;rw[c1,c2,c3] at G;have R:okB x=true:=by unfold Vb at D;rw[BN] at D;exact D.1
  have d0:=qvn R;have a5:=(AK R).2.2.1;obtain⟨H,hH⟩:∃H,Xo x=H:=⟨_,rfl⟩;have a2:H.ok=true:=by rw[<-hH];unfold Xo;rw[AA R];exact a5
  rw[hH] at G;have a3:0<=H.count:=(AK a2).2.2.2.1.1;have U:=HI G;have a4:Vd x k a most=(decide (H.level=0/\H.count<=(most:Int))&&Yc ((x.drop 20).drop H.count.toNat)):=by unfold Vd;rw[D,hH,Bool.true_and]
  have b2:Oq x=(x.drop 20).take H.count.toNat:=by unfold Oq;rw[hH]
  have Z:=HI a4;have b6:=HI b2;have b1:(x.drop 20).length=236:=by rw[AS,d0]
  clear G c1 c2 c3 D a5 hH a2 a4 b2 R;by_cases h1:H.level=0
  ·have nl:(H.level != 0)=false:=by simpa using h1
   by_cases h2:H.count<=(most:Int)
   ·obtain⟨X,b9⟩:=Int.eq_ofNat_of_zero_le a3;have d4:X<=most:=by omega
    have b8:∃ki W le ge,H=⟨ki,W,(X:Int),le,ge⟩:=⟨H.kind,H.addr,H.level,H.gen,by cases H;simp_all⟩;obtain⟨ki,W,le,ge,rfl⟩:=b8;obtain⟨r,hr⟩:∃r,Yc ((x.drop 20).drop X)=r:=⟨_,rfl⟩;have I:Vd x k a most=r:=by rw[Z.out,AL ⟨h1,h2⟩,Bool.true_and];simpa using hr
    have Hr:=HI hr;have b0:=HI I;have e4:¬(most:Int)<(X:Int):=by omega
    clear hr I h1 h2 b9 a3;have a9:=HI b1;clear b1
    cases r
    ·obtain⟨O,Q⟩:=qk6 ow b0.out;have D1:=HI O;have D2:=HI Q;clear O Q;go_enter func45,ntmps45
     go_wp2_with (first
      |(go_at_call 74;refine (E w).mono ?_;rintro e w1 ⟨rfl,rfl⟩)
      |(go_at_call 75;refine a0.out.mono ?_;rintro e Y ⟨A4,n4,q4,rfl,s4,y⟩;have t4:=ht.below y ht.1)
      |(go_at_call 76;refine (U.out Y A4 n4 q4 s4 t4).mono ?_;rintro e u ⟨A5,n5,q5,rfl,f,M⟩;have a8:n5=236:=(f.sl.len.symm.trans a9.out);subst a8;have a7:=f.sl.cap;have a1:=f.sl.max;unfold maxLen at a1;obtain⟨A2,a6⟩:∃A2,(if q5=X then A5 else Option.map (λx=>x.add X) A5)=A2:=⟨_,rfl⟩)
      |(refine q1f rfl (.tmp 13) (.tmp 37) rfl u.1.size rfl ⟨ki,W,(X:Int),le,ge⟩ _ rfl (HB.zero u _) (by simp) ?_;intro w6 K B T6;have g:Below u.1.size u w6:=(Ql).trans (B _ (AE _));have F:=K.at_ 3;have J:=K.at_ 1;simp only[Xv,Hd.Bf] at F J;have s7:=(f.sl.below g).drop (k:=X) (by omega);rw[a6] at s7)
      |(go_at_call 77;refine (q8l _ _ _ _ false Hr.out w6 s7).mono ?_;rintro e w7 ⟨rfl,b7⟩;have b3:=(b7.cell (p:=⟨u.1.size,2,none⟩) (by obtain⟨_,h⟩:=K;exact Kw h)).trans F)
      |fail)
     go_ret2;rw[D1.out,D2.out];exact⟨_,_,_,rfl,G6 _,y.trans ((M.trans ((g.trans (b7.mono g.size)).mono M.size)).mono y.size),λW h=>(by cases h)⟩
    ·obtain⟨O,Q⟩:=qi8 ow b0.out;have D1:=HI O;have D2:=HI (Q.trans b6.out);clear O Q;go_enter func45,ntmps45
     go_wp2_with (first
      |(go_at_call 74;refine (E w).mono ?_;rintro e w1 ⟨rfl,rfl⟩)
      |(go_at_call 75;refine a0.out.mono ?_;rintro e Y ⟨A4,n4,q4,rfl,s4,y⟩;have t4:=ht.below y ht.1)
      |(go_at_call 76;refine (U.out Y A4 n4 q4 s4 t4).mono ?_;rintro e u ⟨A5,n5,q5,rfl,f,M⟩;have a8:n5=236:=(f.sl.len.symm.trans a9.out);subst a8;have a7:=f.sl.cap;have a1:=f.sl.max;unfold maxLen at a1;obtain⟨A2,a6⟩:∃A2,(if q5=X then A5 else Option.map (λx=>x.add X) A5)=A2:=⟨_,rfl⟩)
      |(refine q1f rfl (.tmp 13) (.tmp 37) rfl u.1.size rfl ⟨ki,W,(X:Int),le,ge⟩ _ rfl (HB.zero u _) (by simp) ?_;intro w6 K B T6;have g:Below u.1.size u w6:=(Ql).trans (B _ (AE _));have F:=K.at_ 3;have J:=K.at_ 1;simp only[Xv,Hd.Bf] at F J;have s7:=(f.sl.below g).drop (k:=X) (by omega);rw[a6] at s7)
      |(go_at_call 77;refine (q8l _ _ _ _ true Hr.out w6 s7).mono ?_;rintro e w7 ⟨rfl,b7⟩;have b3:=(b7.cell (p:=⟨u.1.size,2,none⟩) (by obtain⟨_,h⟩:=K;exact Kw h)).trans F)
      |fail)
     go_ret2;rw[D1.out,D2.out];have s8:=((f.sl.below g).below b7).take (k:=X) (by omega);exact⟨_,_,_,rfl,by simpa using s8,y.trans ((M.trans ((g.trans (b7.mono g.size)).mono M.size)).mono y.size),λW h=>AZ y.size (f.block W h).1⟩
   ·have e4:(most:Int)<H.count:=by omega
    have I:Vd x k a most=false:=by rw[Z.out,AH (λh=>h2 h.2),Bool.false_and]
    obtain⟨O,Q⟩:=qk6 ow I;have D1:=HI O;have D2:=HI Q;clear O Q I h2 h1;go_enter func45,ntmps45
    go_wp2_with (first
     |(go_at_call 74;refine (E w).mono ?_;rintro e w1 ⟨rfl,rfl⟩)
     |(go_at_call 75;refine a0.out.mono ?_;rintro e Y ⟨A4,n4,q4,rfl,s4,y⟩;have t4:=ht.below y ht.1)
     |(go_at_call 76;refine (U.out Y A4 n4 q4 s4 t4).mono ?_;rintro e u ⟨A5,n5,q5,rfl,f,M⟩)
     |(refine q1f rfl (.tmp 13) (.tmp 37) rfl u.1.size rfl H _ rfl (HB.zero u _) (by simp) ?_;intro w6 K B T6;have g:Below u.1.size u w6:=(Ql).trans (B _ (AE _));have F:=K.at_ 3;have J:=K.at_ 1;simp only[Xv,Hd.Bf] at F J)
     |fail)
    go_ret2;rw[D1.out,D2.out];exact⟨_,_,_,rfl,G6 _,y.trans ((M.trans (g.mono M.size)).mono y.size),λW h=>(by cases h)⟩
  ·have nl:(H.level != 0)=true:=by simpa using h1
   have I:Vd x k a most=false:=by rw[Z.out,AH (λh=>h1 h.1),Bool.false_and]
   obtain⟨O,Q⟩:=qk6 ow I;have D1:=HI O;have D2:=HI Q;clear O Q I h1;go_enter func45,ntmps45
   go_wp2_with (first
    |(go_at_call 74;refine (E w).mono ?_;rintro e w1 ⟨rfl,rfl⟩)
    |(go_at_call 75;refine a0.out.mono ?_;rintro e Y ⟨A4,n4,q4,rfl,s4,y⟩;have t4:=ht.below y ht.1)
    |(go_at_call 76;refine (U.out Y A4 n4 q4 s4 t4).mono ?_;rintro e u ⟨A5,n5,q5,rfl,f,M⟩)
    |(refine q1f rfl (.tmp 13) (.tmp 37) rfl u.1.size rfl H _ rfl (HB.zero u _) (by simp) ?_;intro w6 K B T6;have g:Below u.1.size u w6:=(Ql).trans (B _ (AE _));have F:=K.at_ 3;have J:=K.at_ 1;simp only[Xv,Hd.Bf] at F J)
    |fail)
   go_ret2;rw[D1.out,D2.out];exact⟨_,_,_,rfl,G6 _,y.trans ((M.trans (g.mono M.size)).mono y.size),λW h=>(by cases h)⟩
section
theorem qpe (n:Nat):Xu n=Vf n++Uw (Ct.zero n) (fmtS n):=by
 unfold Xu Sv fmtC Uw Ls;rw[Ct.Zc];show Vf n++(Fe (Qx n 1) (Wy (Ct.zero n) 1)++[.fl]++[.w 1 (swB (fmtS n) 1),.fl])=Vf n++(Fe (Qx n 1) (Wy (Ct.zero n) 1)++.fl::[.w 1 (swB (fmtS n) 1),.fl]);rw[AM];rfl
theorem qx5 (g x:Int)(w:WD):(bdS #[(0,.int .i64 g),(1,.int .i64 x)]).run prog w=.ok (.agg (sp0 g x 0).vs.toArray) w:=by
 show (Instr.build 61 #[(0,.int .i64 g),(1,.int .i64 x)]).run prog w=_;kernel_rfl
structure Ru (w0 w:WD)(p d q:Nat)(S0:NP)(D:DM)(P:Pl):Prop where
 turn:Turn S0 w0 w
 Bc:Vp w d (λk=>(S0 k\/w0.heap.size<=k)/\k<q) D
 pool:∀T:NP,(∀k,q<=k->T k)->Pool w p d (λk=>q<=k) T P
 ge:w0.heap.size<=q/\q<=w.heap.size
attribute [local go_sem ↓] q93
theorem qi9 {w:WD}{d:Nat}{X:NP}{D:DM}(L:Vp w d X D)(O:D.free)(hG:¬X 1)(ht:Tab w){m:Nat}(a7:D.Y2 m)(hm:m<=700000) :
  Calls prog 14 #[.pointer (some ⟨d,0,none⟩)] w λe w'=>∃p q,e=.returned (.tuple #[.pointer (some ⟨p,0,none⟩),.int .i64 0])/\Ru w w' p d q X (D.Qy (Xu D.n)) (Pl.fresh D.n):=by
 have f:=L.Qa;unfold Qa at f;obtain⟨K,g,_⟩:=qju f.1 f.2 rfl O;obtain⟨n,hn⟩:∃n,D.n=n:=⟨_,rfl⟩;rw[hn] at K g f ⊢;rw[qpe] at K;have F:D.Jk (Vf n)=0:=Classical.byContradiction λh=>h (by
  have:=(q68 (l':=Uw (Ct.zero n) (fmtS n)) h).1;rw[this] at K;exact K)
 have M:(D.Qy (Vf n)).Jk (Uw (Ct.zero n) (fmtS n))=0:=by rw[q3y,AA F] at K;exact K
 have H:D.Qy (Xu n)=(D.Qy (Vf n)).Qy (Uw (Ct.zero n) (fmtS n)):=by rw[qpe,q3z,AA F]
 have B:=qmd L a7 (by omega);rw[hn] at B;have a3:D.Uu (Vf n)=true:=AL F;rw[a3] at B;obtain⟨D1,G⟩:∃x,D.Qy (Vf n)=x:=⟨_,rfl⟩;obtain⟨D2,A⟩:∃x,D.Qy (Xu n)=x:=⟨_,rfl⟩;have a6:D1.n=n:=by rw[<-G,qx0];exact hn
 have Q:D2.n=n:=by rw[<-A,qx0];exact hn
 have b7:D1.Y2 (m+3):=by rw[<-G];exact q6u _ a7
 rw[G] at B M H;rw[A] at g H ⊢;have a4:D1.Uu (Uw (Ct.zero n) (fmtS n))=true:=AL M;have y:=qfs g;rw[Q] at y;have a5:(Gq D2.newest).gen<1099511627775:=by rw[y.2.1];show (1:Int)<1099511627775;omega
 have hP:Pl.Gh D2.newest n=Pl.fresh n:=by
  unfold Pl.Gh Pl.fresh;rw[y.2.1];have:Ny D2.newest n (fmtS n).gen=Ct.zero n:=by
   have h:=y.2.2;have e:(Ct.zero n).commit=Ct.zero n:=rfl;rw[e] at h;exact h
  rw[this]
 have I:=g.free.on;have b3:=HI y.1;have b0:=HI B;have a9:=HI a4;have a8:=HI H;have HP:=HI hP;have b1:=HI a5;have Z:=HI I;have Y:=HI a6;have b5:=HI Q;have HG:=HI hG;have b8:=qx5 1 (n:Int);have c9:=ht.1;clear B a4 H hP a5 I a6 Q y a3 M F K g hG hn G A;go_enter func14,ntmps14
 go_wp2_with fail
 refine b0.out.mono ?_;rintro e w1 ⟨rfl,W⟩;have t1:=ht.turned W.turn HG.out;have Ly:=W.Bc.tight;obtain⟨_,_,_,_,_,a0⟩:=Ly;have u:=q98 a0;rw[Y.out] at u;have b6:=HI u;clear u a0;go_wp2_with (first
  |(go_at_call 23;refine b6.out.mono ?_;rintro e w2 ⟨rfl,rfl⟩)
  |fail)
 refine (qe5 n f.1 f.2 w1).mono ?_;rintro e w2 ⟨pc,rfl,C2,b9,b2⟩;have J:=W.Bc.tight.below b2;have t2:=t1.below b2 t1.1;have z1:=W.turn.size;have z2:=b2.size;obtain⟨_,_,_,_,_,a1⟩:=J;have u:=q98 a1;have J:=W.Bc.tight.below b2;rw[Y.out] at u;have a2:=HI u;clear u a1;go_wp2_with (first
  |(go_at_call 23;refine a2.out.mono ?_;rintro e w3 ⟨rfl,rfl⟩)
  |fail)
 have U:=qi5 J C2 (λk E=>⟨by have:=E.2;omega,λh=>by have:=E.2;omega⟩) (λh=>h.1.elim HG.out λh2=>by omega) (fmtS n) (q56 f.1 f.2) (qk0 (q56 f.1 f.2)) (by rw[Ct.Zc];rfl) t2 b7 (by omega);rw[a9.out,<-a8.out] at U;refine U.mono ?_;rintro e w3 ⟨rfl,L3⟩;clear U;have t3:=t2.turned L3.turn λh=>h.1.elim HG.out λh2=>by omega
 have z3:=L3.turn.size;go_wp2_with fail
 refine (qme L3.Bc t3 b1.out).mono ?_;rw[Z.out,b5.out,HP.out,b3.out];rintro e w4 ⟨⟨_,p,rfl,R,hp⟩|⟨h,_⟩,b4⟩
 ·go_wp2;go_ret2;refine⟨p,w3.1.size,rfl,?_,?_,R,by omega,b4.size⟩
  ·have T2:Turn X w w2:=W.turn.trans (Zb b2) λk E=>.inl E
   have T3:Turn X w w3:=T2.trans L3.turn λk E=>E.1.elim .inl λh=>.inr h
   exact T3.trans (Zb b4) λk E=>.inl E
  ·exact ((L3.Bc.mono (S':=λk=>(X k\/w.1.size<=k)/\k<w3.1.size) λk E h=>⟨h.elim (λh=>h.1) λh=>.inr (by omega),E⟩).below b4)
 ·exact absurd rfl h
end
