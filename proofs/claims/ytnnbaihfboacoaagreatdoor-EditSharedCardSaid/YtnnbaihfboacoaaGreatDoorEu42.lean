/- A pool all of whose counted blocks are nodes of trees: what is counted is reached from tho -/
import Derived.Test.YtnnbaihfboacoaaGreatDoorGbCv1
import Derived.Test.YtnnbaihfboacoaaGreatDoorEu41
namespace Go.Proofs.YtnnbaihfboacoaaGreatDoor
open Go Go.RowKit Go.Proofs
set_option maxHeartbeats 16000000
section
variable {P:Pl}{D:DM}
theorem Qei {H f:List Int}(M:P.Uc D H)(h:P.Ui D)(B:P.C.ok)(A:P.C.res)(I:∀a:Nat,0<a->a<P.C.n->f.count (a:Int)=H.count (a:Int)){K:Nat->List Int}{N:Nat->Nat}
  (F:∀b,b<P.C.n->P.C.get (b:Int)≠0->K b=(P.Qh D (b:Int)).kids.map (·.a)) (E:∀b,b<P.C.n->P.C.get (b:Int)=0->K b=[]) (G:Ej K f P.C.n N []) (a:Nat) (J:a<P.C.n):(N a:Int)=P.C.get (a:Int):=by
 have h1:=Qeq (n:=P.C.n) (cnt:=P.cnt) (K:=P.names D) M (P.Oa D) (λb a y u hm=>qmc h B b a y u hm) (qwc h) (qjv A) I
  (λb y u=>by
   have h0:=(qaa B).1 u;rw[F b y h0,q8k h y h0])
  (λb y u=>E b y (by
   by_cases e:P.C.get (b:Int)=0
   ·exact e
   ·have:=(qaa B).2 e;omega)) G a J
 have y:=Ct.Jc B (a:Int);rw[h1];unfold Pl.cnt;omega
end
section
variable {D:DM}{S0:Sp}{C0:Ct}{H:List Int}{P:Pl}
theorem Qe0 (K:Keep D S0 C0 [] H P){e:List Int}{Ns:List (Int × Nd)}{seen:Nat->Bool}(E:Qcl (P.store D) e Ns seen [])(u:∀a:Nat,0<a->a<P.C.n->e.count (a:Int)=H.count (a:Int)){N:Nat->Nat}(hn:Ej (λb=>((Gs Ns (b:Int)).getD Jh).named) e P.C.n N [])(a:Nat)(F:a<P.C.n):(N a:Int)=P.C.get (a:Int):=by
 have f:∀b:Nat,0<b->b<P.C.n->(b:Int)∈H->(b:Int)∈e:=λb h1 h2 B=>List.count_pos_iff.1 (by rw[u b h1 h2];exact List.count_pos_iff.2 B)
 have A:=Qdu K E f;refine Qei K.Qcd K.Ui K.c K.Zt.ok.res u (K:=λb=>((Gs Ns (b:Int)).getD Jh).named) (λb y h0=>?_) (λb y h0=>?_) hn a F
 ·show ((Gs Ns (b:Int)).getD Jh).named=_;rw[A b,if_neg h0];exact q8k K.Ui y h0
 ·show ((Gs Ns (b:Int)).getD Jh).named=_;rw[A b,if_pos h0];rfl
theorem Qe1 (K:Keep D S0 C0 [] H P){f:List Int}{Ns:List (Int × Nd)}{seen:Nat->Bool}(y:Qcl (P.store D) f Ns seen [])(A:∀a:Nat,0<a->a<P.C.n->(a:Int)∈H->(a:Int)∈f)(b:Nat):(((Gs Ns (b:Int)).getD Jh).named).length<=18:=by
 rw[Qdu K y A b];by_cases h0:P.C.get (b:Int)=0
 ·rw[if_pos h0];exact Nat.zero_le _
 ·rw[if_neg h0];have L:=K.told h0 (by simp:(b:Int)∉([]:List Int));have e:=q3l L;rw[Nh] at e L;show (P.Qh D (b:Int)).named.length<=18;have e:(P.Qh D (b:Int)).named=(P.Qh D (b:Int)).kids.map (·.a):=e;rw[e,List.length_map];have hm:(P.Qh D (b:Int)).may=true:=L.may;by_cases u:(P.Qh D (b:Int)).lvl=0
  ·rw[(q1r hm u).1];simp
  ·have:=(Py hm u).2.2.2.2.1;omega
end
def Qdq (Ns:List (Int × Nd)):Nat->List Int:=λb=>((Gs Ns (b:Int)).getD Jh).named
def nmN (out:List Int):Nat->Nat:=λb=>(nm out b).toNat
def Qdz (w:World)(g most:Nat):Nat:=sumTo most λb=>match w.cell? ⟨g,b,none⟩ with|some v=>if (intOf v).toNat=0 then 1 else 0|none=>0
def Qeb (v:Value):Nat:=match v with|.slice _ n _=>n|_=>0
theorem Qdr {w:World}{g most:Nat}{out:List Int}(h:J6 w g most most out):Qdz w g most=unseen most (nmN out):=
 q3z λb e=>by rw[(h.at_ e).1];rfl
structure Qdx (w0:World)(Ns:List (Int × Nd))(zs:List Int)(most g0 b0 bnd:Nat)(w:World)(A:Option Addr)(c:Nat)(todo out:List Int):Prop where
 row:Qs w b0 3 1 A todo.length c (todo.map iv)
 out_:J6 w g0 most most out
 inv:Ej (Qdq Ns) zs most (nmN out) todo
 pos:∀b,b<most->0<=nm out b
 few:todo.length+18*unseen most (nmN out)<=bnd
 low:Below w0.heap.size w0 w
 g0b:g0<b0/\w0.heap.size<=g0/\b0<=w.heap.size
theorem Qdt {O:World}{Ns:List (Int × Nd)}{zs:List Int}{most u J f:Nat}{w w':World}{A y:Option Addr}{c B L:Nat}{x:Int}{r out:List Int}(H:Qdx O Ns zs most u J f w A c (x::r) out)(W:x<=0\/(most:Int)<=x)(E:(x::r).length=L)(F:Below w.1.size w w')(R:Qs w' w.1.size 3 1 y (0+(L-1)) B (([]++r).map iv)) :
  (∃(G:Option Addr) (K I:Nat) (e out:List Int),Value.slice y (L-1) B=.slice G I K/\e.length=I/\Qdx O Ns zs most u J f w' G K e out)/\Qeb (.slice y (L-1) B)+19*Qdz w' u most<Qeb (.slice A L c)+19*Qdz w u most:=by
 have M:r.length=L-1:=by rw[<-E];rfl
 have Q:1<=L:=by rw[<-E];exact Nat.succ_pos _
 have O6:J6 w' u most most out:=H.out_.keep (F.block _ H.out_.lt);have T:=H.few;rw[E] at T;refine⟨⟨y,B,L-1,r,out,rfl,M,⟨?_,O6,Qfg H.inv W,H.pos,by omega,H.low.trans (F.mono H.low.size),⟨H.g0b.1,H.g0b.2.1,Nat.le_trans H.g0b.2.2 F.size⟩⟩⟩,?_⟩
 ·rw[Nat.zero_add,List.nil_append] at R;rw[M];exact R.less H.g0b.2.2
 ·rw[Qdr O6,Qdr H.out_];show L-1+_<L+_;omega
theorem Qf6 {out:List Int}{q:Nat}{y:Int}(f:q<out.length)(u:nm out q=y)(h0:0<=y)(b:Nat):nmN (out.set q (y+1)) b=bump (nmN out) q b:=by
 unfold nmN bump;by_cases e:b=q
 ·subst e;rw[if_pos rfl];have:nm (out.set b (y+1)) b=y+1:=by unfold nm;simp[List.getD,f]
  rw[this];show (y+1).toNat=(nm out b).toNat+1;rw[u];omega
 ·rw[if_neg e];have:nm (out.set q (y+1)) b=nm out b:=by unfold nm;simp[List.getD,List.getElem?_set_ne (λh=>e h.symm)]
  rw[this]
theorem Qdm {Y:World}{Ns:List (Int × Nd)}{zs:List Int}{most M b0 J:Nat}{w w':World}{A W:Option Addr}{c X L q E:Nat}{y:Int}{r out ys:List Int}(H:Qdx Y Ns zs most M b0 J w A c ((q:Int)::r) out)(a1:0<q)(I:q<most)(hy:nm out q=y)(a2:0<=y)(T:ys=if y=0 then Qdq Ns q else [])(hk:(Qdq Ns q).length<=18)
  (Z:((q:Int)::r).length=L) (hE:L-1+ys.length=E) (O:J6 w' M most most (out.set q (y+1))) (hb:Below Y.1.size Y w') (hz:w.1.size<=w'.1.size) (R:Qs w' w.1.size 3 1 W E X ((r++ys).map iv)) :
  (∃(A9:Option Addr) (c9 L':Nat) (G out:List Int),Value.slice W E X=.slice A9 L' c9/\G.length=L'/\Qdx Y Ns zs most M b0 J w' A9 c9 G out)/\Qeb (.slice W E X)+19*Qdz w' M most<Qeb (.slice A L c)+19*Qdz w M most:=by
 have hr:r.length=L-1:=by rw[<-Z];rfl
 have a6:1<=L:=by rw[<-Z];exact Nat.succ_pos _
 have ho:out.length=most:=H.out_.len;have hn:=Qf6 (out:=out) (q:=q) (by omega) hy a2;have hf:=H.few;rw[Z] at hf;have u:nmN out q=0↔y=0:=by unfold nmN;rw[hy];omega
 have F:ys=if nmN out q=0 then Qdq Ns q else []:=by
  rw[T];by_cases e:y=0
  ·rw[if_pos e,if_pos (u.2 e)]
  ·rw[if_neg e,if_neg (λh=>e (u.1 h))]
 have hm:=Qff H.inv a1 I;rw[<-F] at hm;have B:=Qez (K:=Qdq Ns) (todo:=r) (out:=nmN out) I hk;rw[<-F] at B;have f:=Qd7 (out:=nmN out) I;have hu:unseen most (nmN (out.set q (y+1)))=unseen most (bump (nmN out) q):=Qeu λb _=>hn b
 have hl:(r++ys).length=E:=by rw[List.length_append,hr];exact hE
 refine⟨⟨W,X,E,r++ys,out.set q (y+1),rfl,hl,⟨?_,O,hm.same (by omega) (λb _=>hn b),λb hb=>?_,?_,hb,⟨H.g0b.1,H.g0b.2.1,Nat.le_trans H.g0b.2.2 hz⟩⟩⟩,?_⟩
 ·rw[hl];exact R.less H.g0b.2.2
 ·by_cases e:b=q
  ·subst e;have:nm (out.set b (y+1)) b=y+1:=by unfold nm;simp[List.getD,show b<out.length by omega]
   rw[this];omega
  ·have:nm (out.set q (y+1)) b=nm out b:=by unfold nm;simp[List.getD,List.getElem?_set_ne (λh=>e h.symm)]
   rw[this];exact H.pos b hb
 ·rw[hu,hl];rw[List.length_append] at B;omega
 ·rw[Qdr O,Qdr H.out_,hu];show E+_<L+_;have Q:ys.length<=if y=0 then 18 else 0:=by
   rw[T];by_cases e:y=0
   ·rw[if_pos e,if_pos e];exact hk
   ·rw[if_neg e,if_neg e];exact Nat.le_refl _
  by_cases e:y=0
  ·rw[if_pos (u.2 e)] at f;rw[if_pos e] at Q;omega
  ·rw[if_neg (λh=>e (u.1 h))] at f;rw[if_neg e] at Q;omega
theorem Qfj {Q:World->Prop}(A:Option Addr)(n c:Nat)(Ns:List (Int × Nd))(B:Option Addr)(m k:Nat)(zs:List Int)(most:Nat)(w:World)(hI:Anl Q w A n c Ns)(hQ:∀w',Below w.1.size w w'->Q w')(hZ:Rt w B m k zs)(hn:n<=100000)(hm:m<=1000)(f3:1<=most)(b5:most<=4096)(hK:∀b,(Qdq Ns b).length<=18) :
  Calls Tryz.prog 38 #[.slice A n c,.slice B m k,.int .i64 (most:Int)] w λe w'=>∃g out,e=.returned (.slice (some ⟨g,0,none⟩) most most)/\J6 w' g most most out/\Ej (Qdq Ns) zs most (nmN out) []/\(∀b,b<most->0<=nm out b)/\Below w.1.size w w':=by
 have e5:zs.length=m:=by have:=hZ.len;simpa using this
 go_enter Tryz.func38,Tryz.ntmps38
 go_wp2_with (first
  |(at_make;refine Qev rfl _ _ rfl most rfl rfl (by omega) ?_;intro w1 R1 b1;have R0:=qor w1 3 1;have z1:w.1.size<w1.1.size:=R1.lt;have X:Below w1.1.size w1 (w1.alloc (.cells #[] 3)):=Qm;have Z1:=(Jf.below hZ b1).below X)
  |(at_builtin;refine Qdg rfl _ _ rfl w1.1.size (some ⟨w1.1.size,0,none⟩) 0 0 [] rfl R0 B m k zs rfl Z1 (by omega) X.size ?_;intro A2 c2 w2 R2 b2)
  |fail)
 have c8:∀b,nm (List.replicate most 0) b=0:=λb=>by
  unfold nm;by_cases hb:b<most
  ·simp[List.getD,hb]
  ·simp[List.getD,hb]
 rw[List.nil_append] at R2;have b3:Below w1.1.size w1 w2:=X.trans (b2.mono (Nat.le_refl _));have F0:Qdx w Ns zs most w.1.size w1.1.size (m+18*most) w2 A2 c2 zs (List.replicate most 0):=⟨by rw[e5];simpa using R2,R1.keep (b3.block _ z1),(Qe2 _ _ _).same f3 (λb _=>by unfold nmN;rw[c8];rfl),λb _=>by rw[c8];exact Int.le_refl _,by
  have:=Qft most (nmN (List.replicate most 0));have h2:=Nat.mul_le_mul_left 18 this;omega,b1.trans (b3.mono b1.size),⟨z1,Nat.le_refl _,b3.size⟩⟩
 have i2:m<=1000:=hm;clear R0 X Z1 R2 b2 R1 b3 c8;go_loopw [8,9,10,11] (λtv _ _ _ wr=>∃(A9:Option Addr) (c9 L:Nat) (J out:List Int),tv=.slice A9 L c9/\J.length=L/\Qdx w Ns zs most w.1.size w1.1.size (m+18*most) wr A9 c9 J out) (λtv _ _ _ wr=>Qeb tv+19*Qdz wr w.1.size most)
 case atStart=>exact⟨A2,c2,m,zs,_,by simp,e5,F0⟩
 case round=>
  clear F0;obtain⟨A9,c9,L,J,out,rfl,hL,H⟩:=hrel;by_cases h0:L=0
  ·subst h0;obtain rfl:J=[]:=List.length_eq_zero_iff.1 hL;go_wp2_with fail
   go_ret;exact⟨w.1.size,out,rfl,H.out_,H.inv,H.pos,H.low⟩
  ·obtain⟨x,r,rfl⟩:∃x r,J=x::r:=by
    cases J with
    |nil=>exact absurd hL.symm (by simpa using h0)
    |cons x r=>exact⟨x,r,rfl⟩
   have e0:(0:Int)<(L:Int):=by omega
   have HS:=H.row.Vs (by omega);rw[hL] at HS;obtain⟨g,o,rfl,hg,_,hr⟩:=HS.at_ (j:=0) (by omega);have a0:wr.cell? ⟨g,o,none⟩=some (.int .i64 x):=by simpa using hr 0 (.int .i64 x) rfl
   have g1:=HS.cap;have g2:=HS.max;obtain⟨A5,d4⟩:∃A5,(if c9=1 then (some ⟨g,o,none⟩:Option Addr) else some ⟨g,o+1,none⟩)=A5:=⟨_,rfl⟩;have H5:Rt wr A5 (L-1) (c9-1) r:=by
    have h1:=HS.drop (k:=1) (by omega);have e1:(if c9=1 then (some ⟨g,o,none⟩:Option Addr) else (some ⟨g,o,none⟩:Option Addr).map (·.add (1*1)))=A5:=d4;rw[e1] at h1;exact h1
   have R4:=qor wr 3 1;have X:Below wr.1.size wr (wr.alloc (.cells #[] 3)):=Qm;have a8:Rt (wr.alloc (.cells #[] 3)) A5 (L-1) (c9-1) r:=Jf.below H5 X;have f2:=H.few;rw[hL] at f2;have a6:=Lib.hid hL;clear hL hr HS H5;have zr:w.1.size<wr.1.size:=H.out_.lt;have Y:=Lib.hid H;clear H;by_cases O:x<=0\/(most:Int)<=x
   ·have d8:=Lib.hid O;by_cases e1:x<=0
    ·clear O;go_wp2_with (first
      |(at_builtin;refine Qdg rfl _ _ rfl wr.1.size (some ⟨wr.1.size,0,none⟩) 0 0 [] rfl R4 A5 (L-1) (c9-1) r rfl a8 (by omega) X.size ?_;intro A6 c6 w6 R6 b6)
      |fail)
     exact Qdt Y.out d8.out a6.out (X.trans b6) R6
    ·have e2:(most:Int)<=x:=by omega
     clear O;go_wp2_with (first
      |(at_builtin;refine Qdg rfl _ _ rfl wr.1.size (some ⟨wr.1.size,0,none⟩) 0 0 [] rfl R4 A5 (L-1) (c9-1) r rfl a8 (by omega) X.size ?_;intro A6 c6 w6 R6 b6)
      |fail)
     exact Qdt Y.out d8.out a6.out (X.trans b6) R6
   ·obtain⟨q,rfl⟩:∃q:Nat,x=(q:Int):=⟨x.toNat,by omega⟩;have e1:¬(q:Int)<=0:=by omega
    have e2:¬(most:Int)<=(q:Int):=by omega
    have e3:(0:Int)<=(q:Int):=by omega
    have e4:(q:Int)<(most:Int):=by omega
    have M:q<most:=by omega
    have c7:0<q:=by omega
    obtain⟨y,hy⟩:∃y,nm out q=y:=⟨_,rfl⟩;have g0:0<=y/\y<=100000:=by
     have h1:=Y.out.pos q M;have h2:=Qey Y.out.inv (k:=18) (λb _=>hK b) M;unfold nmN at h2;have h3:18*most<=18*4096:=Nat.mul_le_mul_left 18 b5;omega
    have g5:L<=1000+18*4096:=by
     have h3:18*most<=18*4096:=Nat.mul_le_mul_left 18 b5;omega
    have hw:IntKind.i64.wrap (y+1)=y+1:=IntWalk.i64_in _ (by omega);clear O;go_wp2_with (first
     |(at_builtin;refine Qdg rfl _ _ rfl wr.1.size (some ⟨wr.1.size,0,none⟩) 0 0 [] rfl R4 A5 (L-1) (c9-1) r rfl a8 (by omega) X.size ?_;intro A6 c6 w6 R6 b6;have a1:Below wr.1.size wr w6:=X.trans b6;have O6:J6 w6 w.1.size most most out:=Y.out.out_.keep (a1.block _ zr);obtain⟨o1,o2⟩:=O6.at_ M;rw[hy] at o1)
     |fail)
    have O7:=O6.Vr q (y+1);have T7:Turn (λk=>k=w.1.size) w6 (w6.setCell ⟨w.1.size,q,none⟩ (.int .i64 (y+1))):=Ez (S:=λk=>k=w.1.size) _ rfl;have R7:=R6.turned T7 (λk hk e=>by have h1:=(R6.Qa k hk).1;have e:k=w.1.size:=e;omega);generalize w6.setCell ⟨w.1.size,q,none⟩ (.int .i64 (y+1))=w7 at O7 T7 R7 ⊢;have d2:Below w.1.size w6 w7:=T7.below (λk hk=>by have h:k=w.1.size:=hk;omega) (by have:=a1.size;omega);have R:Below w.1.size w w7:=(Y.out.low.trans (a1.mono Y.out.low.size)).trans d2;have i1:=d2.size;have z46:=a1.size;rw[Nat.zero_add,List.nil_append] at R7;obtain⟨o',b9⟩:∃o',Gs Ns (q:Int)=o':=⟨_,rfl⟩;have d0:=Lib.hid (Qd2 A n c Ns (q:Int) w7 (hI.below R) hn);rw[b9] at d0;clear o1 o2 O6 R6 T7 b6 a1 a0 R4 X a8 d4;refine d0.out.mono ?_;rintro e G ⟨A1,n1,c1,B1,m1,d1,rfl,f4,b5,hq,b8⟩;have N9:NB (G.alloc (.cells #[.int .i64 0,.slice none 0 0,.slice none 0 0] 75)) G.1.size 0 none 0 0 none 0 0:=NB.new G _ _ _ _ _ _ _ _;have b4:Below G.1.size G (G.alloc (.cells #[.int .i64 0,.slice none 0 0,.slice none 0 0] 75)):=Qm;have O8:=O7.keep (b8.block _ O7.lt);have g7:out.length=most:=Y.out.out_.len;by_cases d9:y=0
    ·subst d9;have T:nm (out.set q (0+1)) q=1:=by unfold nm;simp[List.getD,show q<out.length by omega]
     cases o' with
     |none=>
      go_wp2_with (first
       |(refine Gt rfl (.tmp 10) (.tmp 44) rfl G.1.size rfl 0 A1 n1 c1 B1 m1 d1 rfl N9 ?_;intro f F W;have I:Turn (λ_=>False) G f:=(Qv (S:=λ_=>False) b4).trans W (λk h=>.inr (by have h:k=G.1.size:=h;omega));have E:Below G.1.size G f:=I.below (λ_ h=>h.elim) (Nat.le_refl _);have K:J6 f w.1.size most most (out.set q (0+1)):=O8.keep (E.block _ O8.lt);obtain⟨p1,p2⟩:=K.at_ M;rw[T] at p1;have q0:=F.c0;have q1:=F.c1;have q2:=F.c2)
       |fail)
      have u:Below w7.1.size w7 f:=b8.trans (E.mono b8.size);have Z:=R7.below u;have e7:=u.size;exact Qdm (ys:=[]) Y.out c7 M hy (Int.le_refl _) (by unfold Qdq;rw[b9,if_pos rfl];rfl) (hK q) a6.out rfl K (R.trans (u.mono R.size)) (by omega) (by rw[List.append_nil];exact Z)
     |some N=>
      go_wp2_with (first
       |(refine Gt rfl (.tmp 10) (.tmp 44) rfl G.1.size rfl N.lvl A1 n1 c1 B1 m1 d1 rfl N9 ?_;intro f F W;have I:Turn (λ_=>False) G f:=(Qv (S:=λ_=>False) b4).trans W (λk h=>.inr (by have h:k=G.1.size:=h;omega));have E:Below G.1.size G f:=I.below (λ_ h=>h.elim) (Nat.le_refl _);have K:J6 f w.1.size most most (out.set q (0+1)):=O8.keep (E.block _ O8.lt);obtain⟨p1,p2⟩:=K.at_ M;rw[T] at p1;have q0:=F.c0;have q1:=F.c1;have q2:=F.c2)
       |fail)
      have u:Below w7.1.size w7 f:=b8.trans (E.mono b8.size);have Z:=R7.below u;have e7:=u.size;have a2:Below w.1.size w f:=R.trans (u.mono R.size);have a7:=hq f (hQ f a2);have Hk:=Lib.hid (Qe4 N A1 n1 c1 B1 m1 d1 f a7.1 a7.2 f4 b5);have d7:Qdq Ns q=N.named:=by unfold Qdq;rw[b9];rfl
      have d5:=hK q;rw[d7] at d5;clear q0 q1 q2 p1 p2 a7 N9 b4 E I W F;refine Hk.out.mono ?_;rintro e g8 ⟨Ak,nk,ck,rfl,Ik,b0⟩;have d6:N.named.length=nk:=by have:=Ik.len;simpa using this
      have f0:=Z.below b0;have g9:=b0.size;have f9:nk<=18:=by omega
      have e8:=Lib.hid d6;clear d6 d5;go_wp2_with (first
       |(at_builtin;refine Qdg rfl _ _ rfl wr.1.size A6 (L-1) c6 r rfl f0 Ak nk ck N.named rfl Ik (by omega) (by omega) ?_;intro g3 g4 e6 f1 b7)
       |fail)
      have e9:J6 e6 w.1.size most most (out.set q (0+1)):=(K.keep (b0.block _ K.lt)).keep (b7.block _ zr);have i0:=b7.size;have d3:Below w.1.size w e6:=(a2.trans (b0.mono a2.size)).trans (b7.mono (by omega));exact Qdm (ys:=N.named) Y.out c7 M hy (Int.le_refl _) (by rw[d7,if_pos rfl]) (hK q) a6.out (by rw[e8.out]) e9 d3 (by omega) f1
    ·have g6:¬y+1=1:=by omega
     have T:nm (out.set q (y+1)) q=y+1:=by unfold nm;simp[List.getD,show q<out.length by omega]
     go_wp2_with (first
      |(refine Gt rfl (.tmp 10) (.tmp 44) rfl G.1.size rfl (o'.getD Jh).lvl A1 n1 c1 B1 m1 d1 rfl N9 ?_;intro f F W;have I:Turn (λ_=>False) G f:=(Qv (S:=λ_=>False) b4).trans W (λk h=>.inr (by have h:k=G.1.size:=h;omega));have E:Below G.1.size G f:=I.below (λ_ h=>h.elim) (Nat.le_refl _);have K:J6 f w.1.size most most (out.set q (y+1)):=O8.keep (E.block _ O8.lt);obtain⟨p1,p2⟩:=K.at_ M;rw[T] at p1;have q0:=F.c0;have q1:=F.c1;have q2:=F.c2)
      |fail)
     have u:Below w7.1.size w7 f:=b8.trans (E.mono b8.size);have Z:=R7.below u;have e7:=u.size;exact Qdm (ys:=[]) Y.out c7 M hy g0.1 (by rw[if_neg d9]) (hK q) a6.out rfl K (R.trans (u.mono R.size)) (by omega) (by rw[List.append_nil];exact Z)
theorem Qfw {Q:World->Prop}(p:Nat)(A:Option Addr)(n c:Nat)(Ns:List (Int × Nd))(B:Option Addr)(m k:Nat)(zs:List Int)(most:Nat)(C:Nat->Int)(w:World)(hI:Anl Q w A n c Ns)(hQ:∀w',Below w.1.size w w'->Q w')(hZ:Rt w B m k zs)(hn:n<=100000)(hm:m<=1000)(M:1<=most)(R:most<=4096)(hK:∀b,(Qdq Ns b).length<=18)
  (Z:∀w',Below w.1.size w w'->∀a:Nat,a<most->Calls Tryz.prog 39 #[.pointer (some ⟨p,0,none⟩),.int .i64 (a:Int)] w' λe w2=>e=.returned (.int .i64 (C a))/\w'=w2)
  (hE:∀out,Ej (Qdq Ns) zs most (nmN out) []->(∀b,b<most->0<=nm out b)->∀b,b<most->nm out b=C b) :
  Calls Tryz.prog 16 #[.pointer (some ⟨p,0,none⟩),.slice A n c,.slice B m k,.int .i64 (most:Int)] w λe w'=>e=.returned (.bool true)/\Below w.1.size w w':=by
 have Hn:=Lib.hid (Qfj A n c Ns B m k zs most w hI hQ hZ hn hm M R hK);have HC:=Lib.hid Z;have HE:=Lib.hid hE;clear hI hQ hZ hK Z hE;go_enter Tryz.func16,Tryz.ntmps16
 go_wp2_with fail
 refine Hn.out.mono ?_;rintro e W ⟨g,out,rfl,O,X,hp,Y⟩;have E:=Lib.hid (HE.out out X hp);clear X hp;go_wp2_with fail
 go_loopw [10] (λi wr=>∃j:Nat,j<=most/\i=.int .i64 (j:Int)/\Below W.1.size W wr) (λi _=>most-(intOf i).toNat)
 case atStart=>exact⟨0,Nat.zero_le _,rfl,Below.refl _ _⟩
 case round=>
  obtain⟨j,hj,rfl,G⟩:=hrel;have I:=Y.trans (G.mono Y.size);have zr:=G.size;by_cases y:j<most
  ·have F:g<W.1.size:=O.lt;obtain⟨x,T⟩:∃x,C j=x:=⟨_,rfl⟩;have a0:=(O.at_ y).1;rw[E.out j y,T] at a0;have d0:∀u:Grown wr,u.to.cell? ⟨g,j,none⟩=some (.int .i64 x):=λu=>Grown.cell ((G.cell (p:=⟨g,_,none⟩) F).trans a0) (Nat.lt_of_lt_of_le F zr) u
   have f:=λu:Grown wr=>HC.out u.to (I.trans (u.ok.mono I.size)) j y
   rw[T] at f;have K:=Lib.hid f;have nG:(x != x)=false:=by simp
   have e0:(0:Int)<=(j:Int):=by omega
   have e1:(j:Int)<(most:Int):=by omega
   clear a0 f T;go_wp2_with fail
   refine Yc (by kernel_rfl) (by kernel_rfl) ?_;repeat (go_big_quiet_step (first|(go_at_call 39;exact Calls.Yw (K.out _))|fail))
   refine wpQuiet_nil ?_;rintro _ ⟨u,rfl⟩;have J:=G.trans (u.ok.mono zr);clear d0;go_wp2;exact⟨⟨j+1,by omega,by go_num,J⟩,by simp[intOf];omega⟩
  ·obtain rfl:most=j:=by omega
   go_wp2_with fail
   go_ret;exact⟨rfl,I⟩
section
variable {b:Nat}{w w':World}{d p:Nat}{U:Nat->Prop}{D:DM}{P:Pl}{H:List Int}{m:Nat}{g:Int}{zs:List Int}{Ns:List (Int × Nd)}{seen:Nat->Bool}
theorem Ed.Qfa (E:Ed b w d p U D P H m g)(hc:∀a:Nat,0<a->a<P.C.n->zs.count (a:Int)=H.count (a:Int))(hN:Qcl (P.store D) zs Ns seen []){Q:World->Prop}{A:Option Addr}{n c:Nat}(hI:Anl Q w A n c Ns)(hQ:∀w',Below w.1.size w w'->Q w')(hn:n<=100000){B:Option Addr}{k kc:Nat}(hZ:Rt w B k kc zs)(hk:k<=1000){most:Nat}(hmost:P.C.n=most)(h1:1<=most)(h2:most<=4096) :
  Calls Tryz.prog 16 #[.pointer (some ⟨p,0,none⟩),.slice A n c,.slice B k kc,.int .i64 (most:Int)] w λe w'=>e=.returned (.bool true)/\Below w.1.size w w':=by
 obtain⟨S0,S,T,h,_,_⟩:=E.sys;obtain⟨_,_,K⟩:=E.keep;refine Qfw p A n c Ns B k kc zs most (λa=>P.C.get (a:Int)) w hI hQ hZ hn hk h1 h2 (Qe1 K hN (Qd3 hc)) (λw' y a _=>q5i (h.pool.below y) a _ rfl) λout f F a u=>?_
 subst hmost;have:=Qe0 K hN hc f a u;rw[<-this];unfold nmN;have:=F a u;omega
theorem Ed.foundAt (E:Ed b w d p U D P H m g)(hc:∀a:Nat,0<a->a<P.C.n->zs.count (a:Int)=H.count (a:Int))(hN:Qcl (P.store D) zs Ns seen []):Qeo (P.store D) Ns:=by
 obtain⟨_,_,K⟩:=E.keep;exact Qd4 K hN (Qd3 hc)
end
