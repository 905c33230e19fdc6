/- The code's find: the way down, with whatever visits its nodes -/
import Derived.Test.YthkfkhejjmhomaaGreatDoorDb29
namespace Go.Proofs.YthkfkhejjmhomaaGreatDoor
open Go Go.RowKit Go.Proofs
set_option maxHeartbeats 16000000
set_option maxRecDepth 100000
def Zu (R:Int->Nd × Int)(k:Kd):Nat->Int->List (Int × Nd) × Int
 |0,a=>if (R a).2≠0 then ([],(R a).2) else if (R a).1.lvl≠0 then ([],5) else ([(a,(R a).1)],0)
 |l+1,a=>if (R a).2≠0 then ([],(R a).2) else if (R a).1.lvl≠((l+1:Nat):Int) then ([],5) else
   ((a,(R a).1)::(Zu R k l (Qe (R a).1.kids ((R a).1.Zc k)).a).1,(Zu R k l (Qe (R a).1.kids ((R a).1.Zc k)).a).2)
def Ym (R:Int->Nd × Int)(k:Kd)(root:Int):List (Int × Nd) × Int:=if root=0 then ([],0) else Zu R k (Ui R root) root
theorem q3f {R:Int->Nd × Int}{k:Kd}{a:Int}(h:(R a).2≠0):∀l,Zu R k l a=([],(R a).2)
 |0=>by unfold Zu;rw[if_pos h]
 |l+1=>by unfold Zu;rw[if_pos h]
theorem q4i {R:Int->Nd × Int}{k:Kd}{a:Int}(h:(R a).2=0):∀l:Nat,(R a).1.lvl≠(l:Int)->Zu R k l a=([],5)
 |0,h2=>by unfold Zu;rw[if_neg (by simpa using h),if_pos (by simpa using h2)]
 |l+1,h2=>by unfold Zu;rw[if_neg (by simpa using h),if_pos h2]
theorem q7o {R:Int->Nd × Int}{k:Kd}{a:Int}{M:Nd}(h:R a=(M,0))(h2:M.lvl=0):Zu R k 0 a=([(a,M)],0):=by
 unfold Zu;rw[h];dsimp only;rw[if_neg (by simp),if_neg (by simpa using h2)]
theorem q7p {R:Int->Nd × Int}{k:Kd}{a:Int}{M:Nd}{l:Nat}(h:R a=(M,0))(h2:M.lvl=((l+1:Nat):Int)):Zu R k (l+1) a=((a,M)::(Zu R k l (Qe M.kids (M.Zc k)).a).1,(Zu R k l (Qe M.kids (M.Zc k)).a).2):=by
 conv=>lhs;unfold Zu
 rw[h];dsimp only;rw[if_neg (by simp),if_neg (by simpa using h2)]
structure Visit (w0:World)(f:Nat)(cap:Array Value)(Inv:List (Int × Nd)->(Nat->Prop)->World->Prop):Prop where
 ent:∀(args:Array Value) (w:World),(callFunc f args).run Tryz.prog w=.ok (.enter f args) w
 in_:∀{vs T w},Inv vs T w->∀k,T k->w0.heap.size<=k/\k<w.heap.size
 keep:∀{vs T w w' S},Inv vs T w->Turn S w w'->(∀k,S k->¬T k)->Inv vs T w'
 call:∀{vs T w lo hi a M A n c B m d},Inv vs T w->Held w lo hi A n c B m d M->(∀k,lo<=k->k<hi->¬T k)->w0.heap.size<=lo->vs.length<=10->
  Calls Tryz.prog f (#[.int .i64 a,.agg #[.int .i64 M.lvl,.slice A n c,.slice B m d]]++cap) w λe w'=>e=.returned (.tuple #[])/\∃T',Inv (vs++[(a,M)]) T' w'/\Turn T w w'/\∀k,T' k->T k\/w.heap.size<=k\/(lo<=k/\k<hi)
def Rx (w:World)(b:Nat):Nat:=match w.cell? ⟨b,0,none⟩ with
 |some (.int _ z)=>z.toNat
 |_=>0
theorem qqj {w:World}{b:Nat}{l:Int}{A B:Option Addr}{n c m d:Nat}(H:NB w b l A n c B m d):Rx w b=l.toNat:=by
 unfold Rx;rw[H.c0]
structure Px (w0 wb:World)(T0:Nat->Prop)(R:Int->Nd × Int)(k:Kd)(Inv:List (Int × Nd)->(Nat->Prop)->World->Prop)(F:List (Int × Nd) × Int)(nb:Nat)(av ev:Value)(w:World)(vs:List (Int × Nd))(T:Nat->Prop):Prop where
 inv:Inv vs T w
 low:Below w0.heap.size w0 w
 key:KB w wb.heap.size k
 kge:w0.heap.size<=wb.heap.size/\wb.heap.size<nb
 node:∃l A n c B m d,NB w nb l A n c B m d
 old:Turn T0 wb w
 sub:∀k,T k->T0 k\/wb.heap.size<=k
 noT:¬T nb/\¬T wb.heap.size
 at_:(∃E:Int,E≠0/\ev=.int .i64 E/\F=(vs,E))\/
  (∃(l:Nat) (a:Int) (M:Nd) (lo hi:Nat) (A:Option Addr) (n c:Nat) (B:Option Addr) (m d:Nat),ev=.int .i64 0/\av=.int .i64 a/\R a=(M,0)/\M.lvl=(l:Int)/\l+vs.length<=8/\NB w nb M.lvl A n c B m d/\Held w lo hi A n c B m d M/\
   (∀k,lo<=k->k<hi->¬T k)/\(hi<=nb\/nb<lo)/\wb.heap.size<lo/\w0.heap.size<=lo/\F=(vs++(Zu R k l a).1,(Zu R k l a).2))
theorem qqk {X w:World}{p f:Nat}{cap:Array Value}{R:Int->Nd × Int}{a1:List (Int × Nd)->(Nat->Prop)->World->Prop}(H:Src X p R)(V:Visit X f cap a1)(B0:Below X.1.size X w)(c6:Tab X)(root:Int)(k:Kd)(T0:Nat->Prop)(hI:a1 [] T0 w) :
  Calls Tryz.prog 118 #[.pointer (some ⟨p,0,none⟩),.int .i64 root,.agg #[.int .i64 k.obj,.int .i64 k.kind,.int .i64 k.off],.func (.func f) #[] cap] w λe w'=>e=.returned (.int .i64 (Ym R k root).2)/\∃T,a1 (Ym R k root).1 T w'/\Below X.1.size X w'/\Turn T0 w w':=by
 obtain⟨K0,bB⟩:=Y1 w k;have zw:=B0.size;have d9:=V.in_ hI;by_cases hr:root=0
 ·subst hr;have e:Ym R k 0=([],0):=if_pos rfl;rw[e];clear e;go_enter Tryz.func118,Tryz.ntmps118
  go_wp2_with fail
  go_ret;exact⟨rfl,T0,V.keep hI (Qx (S:=λ_=>False) bB) (λ_ h=>h.elim),B0.trans (bB.mono zw),Qx bB⟩
 ·have l3:(root==0)=false:=by simp[hr]
  have l4:decide (root=0)=false:=decide_eq_false hr;have hF:Ym R k root=Zu R k (Ui R root) root:=if_neg hr;obtain⟨F,e9⟩:∃F,Ym R k root=F:=⟨_,rfl⟩;rw[e9] at hF ⊢;clear e9;have I1:=V.keep hI (Qx (S:=λ_=>False) bB) (λ_ h=>h.elim);have z1:(w.alloc (.cells #[.int .i64 k.obj,.int .i64 k.kind,.int .i64 k.off] 45)).1.size=w.1.size+1:=by simp
  have Hn:=Lib.hid (λu hu tu=>H.node u hu tu root);obtain⟨M,E,hR⟩:∃M E,R root=(M,E):=⟨_,_,rfl⟩;have HR:=Lib.hid hR;rw[hR] at Hn;have HF:=Lib.hid hF;clear hF hR;go_enter Tryz.func118,Tryz.ntmps118
  go_wp2_with fail
  generalize w.alloc (.cells #[.int .i64 k.obj,.int .i64 k.kind,.int .i64 k.off] 45)=w1 at K0 bB I1 z1 ⊢;have B1:=B0.trans (bB.mono zw);refine (Hn.out w1 B1 (c6.below B1 c6.1)).mono ?_;rintro e w2 ⟨A1,n1,c1,e2,m1,d1,rfl,j9,j7,f0,f2,b2⟩;have l5:=b2.size;have Hd:=qdp j9 j7 f0 f2;have N3:NB (w2.alloc (.cells #[.int .i64 0,.slice none 0 0,.slice none 0 0] 77)) w2.1.size 0 none 0 0 none 0 0:=NB.new w2 _ _ _ _ _ _ _ _;have b3:Below w2.1.size w2 (w2.alloc (.cells #[.int .i64 0,.slice none 0 0,.slice none 0 0] 77)):=Qk;clear f0 f2;go_wp2_with (first
   |(refine Gp rfl (.tmp 10) _ rfl w2.1.size rfl M.lvl A1 n1 c1 e2 m1 d1 rfl N3 ?_;intro w4 N4 T4)
   |fail)
  have XX:Turn (λ_=>False) w1 w4:=((Qx (S:=λ_=>False) b2).trans (Qx (S:=λ_=>False) b3) (λ_ h=>.inl h)).trans T4 (λx Y=>.inr (by have:x=w2.1.size:=Y;omega));have X2:Turn (λ_=>False) w2 w4:=(Qx (S:=λ_=>False) b3).trans T4 (λx Y=>.inr (by have:x=w2.1.size:=Y;omega));have I4:=V.keep I1 XX (λ_ h=>h.elim);have B4:Below X.1.size X w4:=B1.trans (XX.below (λ_ h=>h.elim) B1.size);have K4:=K0.keep (XX.block _ K0.lt (λh=>h));have d0:=Hd.turn X2 (λ_ _ _ h=>h);obtain⟨I,g3⟩:∃I,w2.1.size=I:=⟨_,rfl⟩;rw[g3] at N4 d0 ⊢;have D0:Px X w T0 R k a1 F I (.int .i64 root) (.int .i64 E) w4 [] T0:=by
   have hR:=HR.out;have hF:=HF.out;refine⟨I4,B4,K4,⟨zw,by omega⟩,⟨_,_,_,_,_,_,_,N4⟩,(Qx (S:=T0) bB).trans XX (λ_ h=>h.elim),λk h=>.inl h,⟨λh=>by have:=(d9 _ h).2;omega,λh=>by have:=(d9 _ h).2;omega⟩,?_⟩;by_cases J:E=0
   ·subst J;have hm:=H.may root (by rw[hR]);rw[hR] at hm;have hm:M.may=true:=hm;have hl:0<=M.lvl/\M.lvl<8:=by
     by_cases h0:M.lvl=0
     ·omega
     ·have:=Pe hm h0;omega
    have b9:M.lvl=(Ui R root:Int):=by unfold Ui;rw[hR];exact (Int.toNat_of_nonneg hl.1).symm
    refine .inr ⟨Ui R root,root,M,w1.1.size,I,A1,n1,c1,e2,m1,d1,rfl,rfl,hR,b9,by simp;omega,N4,d0,λk h1 h2 h=>by have:=(d9 _ h).2;omega,.inl (Nat.le_refl _),by omega,by omega,by rw[hF];rfl⟩
   ·refine .inl ⟨E,J,rfl,?_⟩;rw[hF,q3f (by rw[hR];exact J),hR]
  clear I4 B4 K4 N4 d0 Hd N3 b3 b2 XX X2 T4 I1 K0 g3 HR HF Hn;have k6:=V.ent;go_loopw [9,11,12,13] (λav ev _ _ wr=>∃vs T,Px X w T0 R k a1 F I av ev wr vs T) (λ_ ev _ _ wr=>if intOf ev=0 then Rx wr I+1 else 0)
  case atStart=>exact⟨[],T0,D0⟩
  case round=>
   obtain⟨vs,T,D⟩:=hrel;obtain⟨P,K,Q,f9,k4,U,a8,O,i5⟩:=D;have g7:=K.size;have i8:=Q.lt;clear D0;rcases i5 with⟨E',d4,rfl,a2⟩|⟨l,a,B,lo,hi,A,n,c,Bq,m,d,rfl,rfl,b8,b9,k7,hN,d7,a7,g4,l2,j0,a2⟩
   ·have g1:(E'==0)=false:=by simp[d4]
    have g2:decide (E'=0)=false:=decide_eq_false d4;have HF:=Lib.hid a2;clear d4 a2;go_wp2_with fail
    go_ret;exact⟨by rw[HF.out];rfl,T,by rw[HF.out];exact P,K,U⟩
   ·have c8:B.may=true:=by have:=H.may a (by rw[b8]);rwa [b8] at this
    have l0:=hN.lt;have i4:=hN;have f4:=V.in_ P;have p0:=hN.c0;have p1:=hN.c1;have p2:=hN.c2;have Z:=Lib.hid (V.call (a:=a) P d7 a7 j0 (by omega));have e7:=Lib.hid b8;have G:=Lib.hid b9;have HF:=Lib.hid a2;clear a2 b8 b9 P
    cases l with
    |zero=>
     have e8:F=(vs++[(a,B)],0):=by rw[HF.out,q7o e7.out G.out]
     have g1:(B.lvl==0)=true:=by rw[G.out];rfl
     have g2:decide (B.lvl=0)=true:=decide_eq_true G.out;have e3:=Lib.hid e8;clear e8;go_wp2_with fail
     refine Z.out.mono ?_;rintro e w5 ⟨rfl,T',b5,T5,a6⟩;have q0:=(hN.turned T5 O.1).c0;clear p0 p1 p2;go_wp2_with fail
     go_ret;exact⟨by rw[e3.out];rfl,T',by rw[e3.out];exact b5,K.trans (T5.below (λx Y=>(f4 x Y).1) g7),U.trans T5 a8⟩
    |succ l=>
     obtain⟨-,i6,i7,-,-,g6⟩:=Pe c8 (by rw[G.out];omega);have g1:(B.lvl==0)=false:=by rw[G.out];simp;omega
     have g2:decide (B.lvl=0)=false:=decide_eq_false (by rw[G.out];omega);have k0:=Q.c0;go_wp2_with fail
     refine Z.out.mono ?_;rintro e w5 ⟨rfl,T',b5,T5,a6⟩;have N5:=hN.turned T5 O.1;have K5:=Q.keep (T5.block _ i8 O.2);have b4:=d7.turn T5 a7;have W:=K.trans (T5.below (λx Y=>(f4 x Y).1) g7);have f8:=V.in_ b5;have z5:=T5.size;have g9:=U.trans T5 a8;have i0:∀k,T' k->T0 k\/w.1.size<=k:=λk h=>by
      have hh:=U.size;rcases a6 k h with h|h|h
      ·exact a8 k h
      ·exact .inr (by omega)
      ·exact .inr (by omega)
     have c9:¬T' I/\¬T' w.1.size:=⟨λh=>by rcases a6 I h with h|h|h;exact O.1 h;omega;omega,λh=>by rcases a6 _ h with h|h|h;exact O.2 h;omega;omega⟩;clear p0 p1 p2 k0 hN Q d7 a7 g4 a6 T5 K;have p0:=N5.c0;have p1:=N5.c1;have p2:=N5.c2;have k0:=K5.c0;have k1:=K5.c1;have k2:=K5.c2;obtain⟨r5,s5⟩:=b4.rows;obtain⟨x,Y⟩:∃x,B.Zc k=x:=⟨_,rfl⟩;have k5:=g6 k;rw[Y] at k5;have g0:B.kids.length=m:=Jq.len s5 |> λh=>by rw[List.length_map] at h;exact h
     obtain⟨rr,g5⟩:∃rr,Vd B.keys k x=rr:=⟨_,rfl⟩;have i3:=Lib.hid (q2i B (Me c8) k x Y rr g5 A n c Bq m d w5 r5.Yc s5 (by have:=b4.2.1;omega) (by have:=b4.2.2.1;omega));have Hx:=Lib.hid Y;clear g5 Y g6;go_wp2_with fail
     refine i3.out.mono ?_;rintro e w6 ⟨rfl,b6⟩;have N6:=N5.below b6 N5.lt;have K6:=K5.below b6 K5.lt;obtain⟨r6,s6⟩:=(b4.below b6).rows;have b0:=W.trans (b6.mono W.size);have z6:=b6.size;clear p0 p1 p2 k0 k1 k2 r5 s5 r6;have p0:=N6.c0;have p1:=N6.c1;have p2:=N6.c2;obtain⟨g,o,rfl,hg,-,-,-,y3⟩:=s6.cell (j:=x) (by omega);obtain⟨y,hy⟩:∃y,(Qe B.kids x).a=y:=⟨_,rfl⟩;rw[hy] at y3;have e1:(x:Int)<(m:Int):=by omega
     have e0:(0:Int)<=(x:Int):=by omega
     obtain⟨_,l1⟩:=Zk.bounds s6;have c7:=Lib.hid (qjk H b0 (c6.below b0 c6.1) B.lvl i6 i7 B.kids A n c (some ⟨g,o,none⟩) m d s6 x (by omega) y hy);have Hy:=Lib.hid hy;have k8:=Lib.hid g0;clear hy g0 s6;go_wp2_with fail
     refine c7.out.mono ?_;clear c7;obtain⟨M2,d8⟩:∃M2,Dp R B.lvl y=M2:=⟨_,rfl⟩;obtain⟨E2,d5⟩:∃E2,Aq R B.lvl y=E2:=⟨_,rfl⟩;rw[d8,d5];have e4:=Lib.hid d8;have b1:=Lib.hid d5;clear d8 d5;rintro e w7 ⟨A2,n2,c2,B2,m2,d2,rfl,k3,j8,f1,f3,b7⟩;have i1:=qdp k3 j8 f1 f3;have z7:=b7.size;have N7:=N6.below b7 N6.lt;have K7:=K6.below b7 K6.lt;clear p0 p1 p2 f1 f3 y3;go_wp2_with (first
      |(refine Gp rfl (.tmp 10) _ rfl I rfl M2.lvl A2 n2 c2 B2 m2 d2 rfl N7 ?_;intro w8 N8 T8)
      |fail)
     have z8:=T8.size;have k9:=N5.lt;have d3:Turn (λg=>g=I) w5 w8:=((Qx (S:=λg=>g=I) b6).trans (Qx (S:=λg=>g=I) b7) (λ_ h=>.inl h)).trans T8 (λ_ h=>.inl h);have I8:=V.keep b5 d3 (λk hk h=>by have hk:k=I:=hk;rw[hk] at h;exact c9.1 h);have i2:=i1.turn T8 (λk h1 h2 h=>by have h:k=I:=h;omega);have K8:=K7.keep (T8.block _ K7.lt (by show ¬w.1.size=I;omega));have g8:Below X.1.size X w8:=W.trans (d3.below (λk hk=>by have:k=I:=hk;omega) W.size);refine⟨⟨vs++[(a,B)],T',I8,g8,K8,f9,⟨_,_,_,_,_,_,_,N8⟩,g9.trans d3 (λk h=>.inr (by have h:k=I:=h;omega)),i0,c9,?_⟩,?_⟩
     ·have d6:F=((vs++[(a,B)])++(Zu R k l y).1,(Zu R k l y).2):=by
       rw[HF.out,q7p e7.out G.out,Hx.out,Hy.out,List.append_assoc];rfl
      by_cases h1:(R y).2=0
      ·have J:Aq R B.lvl y=if (R y).1.lvl≠B.lvl-1 then 5 else 0:=if_neg (by simpa using h1)
       have hM:Dp R B.lvl y=if (R y).1.lvl≠B.lvl-1 then Zp else (R y).1:=if_neg (by simpa using h1)
       by_cases h2:(R y).1.lvl=B.lvl-1
       ·rw[if_neg (by simpa using h2)] at J hM;rw[b1.out] at J;rw[e4.out] at hM;subst J;have i9:M2.lvl=(l:Int):=by rw[hM,h2,G.out];omega
        exact .inr ⟨l,y,M2,w6.1.size,w7.1.size,A2,n2,c2,B2,m2,d2,rfl,rfl,by rw[hM];exact Prod.ext rfl h1,i9,by rw[List.length_append,List.length_singleton];omega,N8,i2,λk h3 h4 h5=>by have:=(f8 k h5).2;omega,.inr (by omega),by omega,by have:=b0.size;omega,d6⟩
       ·rw[if_pos h2] at J;rw[b1.out] at J;subst J;refine .inl ⟨5,by omega,rfl,?_⟩;rw[d6,q4i h1 l (λh=>h2 (by rw[h,G.out];omega)),List.append_nil]
      ·have J:Aq R B.lvl y=(R y).2:=if_pos h1;rw[b1.out] at J;refine .inl ⟨E2,by rw[J];exact h1,rfl,?_⟩;rw[d6,q3f h1,List.append_nil,J]
     ·have e5:Rx wr I=l+1:=by rw[qqj i4,G.out];omega
      rw[e5];by_cases J:E2=0
      ·have e6:Rx w8 I=l:=by
        rw[qqj N8];have h1:=b1.out;rw[J] at h1;unfold Aq at h1;have h2:=e4.out;unfold Dp at h2;split at h1
        ·rename_i h;exact absurd h1 h
        ·rename_i h;rw[if_neg h] at h2;split at h1
         ·cases h1
         ·rename_i h3;rw[if_neg h3] at h2;have h3:(R y).1.lvl=B.lvl-1:=by simpa using h3
          rw[<-h2,h3,G.out];omega
       rw[e6];simp[intOf,J]
      ·simp[intOf,J]
def Yo (vs:List (Int × Nd)):Nd:=(vs.getLast?.map (·.2)).getD Zp
def qi1 (k:Kd)(N:Nd):List UInt8 × Int:=if Vd N.keys k (N.Zc k)=true then ((Zb N.items (N.Zc k)).v,0) else ([],10)
theorem qc8 (vs:List (Int × Nd))(x:Int × Nd):Yo (vs++[x])=x.2:=by unfold Yo;simp
theorem qc9 {x:Int × Nd}{vs:List (Int × Nd)}(h:vs≠[]):Yo (x::vs)=Yo vs:=by
 unfold Yo;rw[List.getLast?_cons_of_ne_nil h]
theorem qk7 {R:Int->Nd × Int}{k:Kd}:∀{l:Nat} {a:Int},(Zu R k l a).2=0->(Zu R k l a).1≠[]
 |0,a,h=>by
  unfold Zu at h ⊢;split at h
  ·rename_i h1;exact absurd h h1
  ·rename_i h1;rw[if_neg h1];split at h
   ·cases h
   ·rename_i h2;rw[if_neg h2];simp
 |l+1,a,h=>by
  unfold Zu at h ⊢;split at h
  ·rename_i h1;exact absurd h h1
  ·rename_i h1;rw[if_neg h1];split at h
   ·cases h
   ·rename_i h2;rw[if_neg h2];simp
theorem qk8 {R:Int->Nd × Int}{k:Kd}:∀(l:Nat) (a:Int),Ap R k l a=if (Zu R k l a).2≠0 then ([],(Zu R k l a).2) else qi1 k (Yo (Zu R k l a).1)
 |0,a=>by
  by_cases h1:(R a).2=0
  ·by_cases h2:(R a).1.lvl=0
   ·have e:R a=((R a).1,0):=Prod.ext rfl h1;rw[q7o e h2];unfold Ap;rw[if_neg (by simpa using h1),if_neg (by simpa using h2)];rfl
   ·rw[q4i h1 0 (by simpa using h2)];unfold Ap;rw[if_neg (by simpa using h1),if_pos h2];rfl
  ·rw[q3f h1];unfold Ap;rw[if_pos h1,if_pos h1]
 |l+1,a=>by
  by_cases h1:(R a).2=0
  ·by_cases h2:(R a).1.lvl=((l+1:Nat):Int)
   ·have e:R a=((R a).1,0):=Prod.ext rfl h1;rw[q7p e h2];unfold Ap;rw[if_neg (by simpa using h1),if_neg (by simpa using h2),qk8 l _];dsimp only;by_cases d:(Zu R k l (Qe (R a).1.kids ((R a).1.Zc k)).a).2=0
    ·rw[if_neg (by simpa using d),if_neg (by simpa using d),qc9 (qk7 d)]
    ·rw[if_pos d,if_pos d]
   ·rw[q4i h1 (l+1) h2];unfold Ap;rw[if_neg (by simpa using h1),if_pos h2];rfl
  ·rw[q3f h1];unfold Ap;rw[if_pos h1,if_pos h1]
theorem qql (R:Int->Nd × Int)(k:Kd)(root:Int):Ll R k root=if (Ym R k root).2≠0 then ([],(Ym R k root).2) else qi1 k (Yo (Ym R k root).1):=by
 unfold Ll Ym;by_cases h:root=0
 ·rw[if_pos h,if_pos h];rfl
 ·rw[if_neg h,if_neg h,qk8]
theorem qca {R:Int->Nd × Int}{k:Kd}(hm:∀a,(R a).2=0->(R a).1.may=true):∀{l:Nat} {a:Int},(Zu R k l a).2=0->(Yo (Zu R k l a).1).lvl=0/\(Yo (Zu R k l a).1).may=true
 |0,a,h=>by
  by_cases h1:(R a).2=0
  ·by_cases h2:(R a).1.lvl=0
   ·have d:R a=((R a).1,0):=Prod.ext rfl h1;rw[q7o d h2];exact⟨h2,hm a h1⟩
   ·rw[q4i h1 0 (by simpa using h2)] at h
    cases h
  ·rw[q3f h1] at h;exact absurd h h1
 |l+1,a,h=>by
  by_cases h1:(R a).2=0
  ·by_cases h2:(R a).1.lvl=((l+1:Nat):Int)
   ·have d:R a=((R a).1,0):=Prod.ext rfl h1;rw[q7p d h2] at h ⊢;have:=qca hm h;rw[qc9 (qk7 h)];exact this
   ·rw[q4i h1 (l+1) h2] at h
    cases h
  ·rw[q3f h1] at h;exact absurd h h1
theorem qmi {R:Int->Nd × Int}{k:Kd}(hm:∀a,(R a).2=0->(R a).1.may=true){root:Int}(h:(Ym R k root).2=0):(Yo (Ym R k root).1).lvl=0/\(Yo (Ym R k root).1).fit/\(Vd (Yo (Ym R k root).1).keys k ((Yo (Ym R k root).1).Zc k)=true->(Yo (Ym R k root).1).Zc k<(Yo (Ym R k root).1).items.length):=by
 unfold Ym at h ⊢;by_cases h0:root=0
 ·rw[if_pos h0];exact⟨rfl,⟨λ_=>rfl,λ_=>rfl⟩,λh=>by cases h⟩
 ·rw[if_neg h0] at h ⊢;obtain⟨h1,h2⟩:=qca hm h;have e:=Me h2;refine⟨h1,e,λh=>?_⟩;unfold Vd at h;rw[Bool.and_eq_true] at h;have d:=of_decide_eq_true h.1;have f:∀N:Nd,N.kids=[]->N.keys.length=N.items.length:=λN m=>by unfold Nd.keys;rw[m];simp
  rw[f _ (e.1 h1)] at d;exact d
structure Ip (w:World)(lim base vb mb tb:Nat)(most:Int)(tk:Kd)(A:Option Addr)(acc:List Qb):Prop where
 var:∃t c,w.heap[vb]?=some (.cells #[.slice A acc.length c] t (0,0))/\J4 w lim A acc.length c acc/\∀k,q01 A=some k->base<=k
 many:∃t,w.heap[mb]?=some (.cells #[.int .i64 most] t (0,0))
 last:KB w tb tk
 Qc5:lim<=base
 lt:vb<base/\mb<base/\tb<base/\base<=w.heap.size/\mb≠vb/\tb≠vb
theorem Ip.below {w w':World}{lim base vb mb tb:Nat}{most:Int}{tk:Kd}{A:Option Addr}{acc:List Qb}(h:Ip w lim base vb mb tb most tk A acc)(hb:Below w.1.size w w'):Ip w' lim base vb mb tb most tk A acc:=by
 obtain⟨⟨t,c,h1,h2,e⟩,⟨u,f⟩,m,p,d⟩:=h;exact⟨⟨t,c,(hb.block vb (Kw h1)).trans h1,h2.below hb,e⟩,⟨u,(hb.block mb (Kw f)).trans f⟩,m.below hb m.lt,p,⟨d.1,d.2.1,d.2.2.1,Nat.le_trans d.2.2.2.1 hb.size,d.2.2.2.2⟩⟩
theorem qzd {w:World}{vb:Nat}{A:Option Addr}{n c:Nat}{t:TypeId}(B:w.1[vb]?=some (.cells #[.slice A n c] t (0,0))){V:Option Addr}{p q:Nat}{x:List UInt8}(h:Sl w V p q x)(D:x≠[]):∀k,q01 V=some k->k≠vb:=λk d e=>by
 subst e;have y:0<x.length:=List.length_pos_iff.2 D;obtain⟨f,m,F,u⟩:=h.2.2.2 0 (bv x[0]) (by rw[List.getElem?_map,List.getElem?_eq_getElem y];rfl);rw[m] at d;have d:f.block=k:=Option.some.inj d;have h1:w.1[(f.add 0).block]?=some (.cells #[.slice A n c] t (0,0)):=by rw[Ls,d];exact B
 have h2:=qhm h1 u;obtain⟨z,E⟩:∃z,(f.add 0).off=z:=⟨_,rfl⟩;rw[E] at h2;match z,h2 with
 |0,h2=>injection h2 with h2;cases h2
 |z+1,h2=>simp at h2
theorem qqm {w w':World}{base vb n c H c2:Nat}{A B:Option Addr}{t:TypeId}{xs:List Qb}(h:J4 w base A n c xs)(G:w.1[vb]?=some (.cells #[.slice B H c2] t (0,0)))(E:∀k,q01 A=some k->k≠vb)(T:Turn (λk=>k=vb) w w'):J4 w' base A n c xs:=by
 obtain⟨u,h1,h2,D⟩:=h;refine⟨u,h1.turned T (λk d=>E k d),h2,λj r x F m=>?_⟩;obtain⟨V,p,q,e,y,f⟩:=D j r x F m;exact⟨V,p,q,e,y.turned' T (λm k d=>qzd G y m k d),f⟩
theorem qar {w:World}{lim base vb mb tb:Nat}{most:Int}{«to»:Kd}{A:Option Addr}{d:List Qb}(h:Ip w lim base vb mb tb most «to» A d)(k:Kd)(r:Bool)(f:(decide ((d.length:Int)<most)&&!(«to».less k))=r) :
  Calls Tryz.prog 54 #[.agg #[.int .i64 k.obj,.int .i64 k.kind,.int .i64 k.off],.pointer (some ⟨vb,0,none⟩),.pointer (some ⟨mb,0,none⟩),.pointer (some ⟨tb,0,none⟩)] w λe F=>e=.returned (.bool r)/\Below w.1.size w F:=by
 obtain⟨u,m⟩:=Y1 w k;have h1:=h.below m;obtain⟨⟨t,c,y,-⟩,⟨O,hm⟩,p,-,-⟩:=h1;have c0:=cell_of_one y;have c1:=cell_of_one hm;have G:=u.c0;have H:=u.c1;have I:=u.c2;have J:=p.c0;have K:=p.c1;have M:=p.c2;clear y hm p h;by_cases hn:(d.length:Int)<most
 ·rw[decide_eq_true hn,Bool.true_and] at f;have B:=Lib.hid (qkt «to» k (w.alloc (.cells #[.int .i64 k.obj,.int .i64 k.kind,.int .i64 k.off] 45)));have D:=Lib.hid f;clear f;go_enter Tryz.func54,Tryz.ntmps54
  go_wp2_with fail
  refine B.out.mono ?_;rintro e P ⟨rfl,E⟩;go_wp2_with fail
  go_ret;exact⟨by rw[<-D.out];rfl,m.trans (E.mono m.size)⟩
 ·rw[decide_eq_false hn,Bool.false_and] at f;subst f;go_enter Tryz.func54,Tryz.ntmps54
  go_wp2_with fail
  go_ret;exact⟨rfl,m⟩
theorem qqn {w:World}{lim base vb mb tb:Nat}{most:Int}{«to»:Kd}{A:Option Addr}{d:List Qb}(h:Ip w lim base vb mb tb most «to» A d)(x:Qb)(V:Option Addr)(p q:Nat)(hs:Sl w V p q x.v)(hV:x.v≠[]->∀g,q01 V=some g->lim<=g/\q01 A≠some g)(hn:d.length<=100000) :
  Calls Tryz.prog 57 #[.agg #[.int .i64 x.k.obj,.int .i64 x.k.kind,.int .i64 x.k.off,.slice V p q],.pointer (some ⟨vb,0,none⟩)] w λe w'=>e=.returned (.tuple #[])/\∃G,Ip w' lim base vb mb tb most «to» G (d++[x])/\Turn (λk=>k=vb\/q01 A=some k) w w'/\∀k,q01 G=some k->q01 A=some k\/w.1.size<=k:=by
 have H:Below w.1.size w ((w.alloc (.cells #[.int .i64 x.k.obj,.int .i64 x.k.kind,.int .i64 x.k.off,.slice V p q] 50)).alloc (.cells #[.int .i64 x.k.obj,.int .i64 x.k.kind,.int .i64 x.k.off,.slice V p q] 50)):=(Qk).alloc (by simp) _;have b0:Below w.1.size w (w.alloc (.cells #[.int .i64 x.k.obj,.int .i64 x.k.kind,.int .i64 x.k.off,.slice V p q] 50)):=Qk;have z1:((w.alloc (.cells #[.int .i64 x.k.obj,.int .i64 x.k.kind,.int .i64 x.k.off,.slice V p q] 50)).alloc (.cells #[.int .i64 x.k.obj,.int .i64 x.k.kind,.int .i64 x.k.off,.slice V p q] 50)).1.size=w.1.size+2:=by simp
 have f:(w.alloc (.cells #[.int .i64 x.k.obj,.int .i64 x.k.kind,.int .i64 x.k.off,.slice V p q] 50)).1[w.1.size]?=some (.cells #[.int .i64 x.k.obj,.int .i64 x.k.kind,.int .i64 x.k.off,.slice V p q] 50 (0,0)):=heap_alloc_new w _;have q0:(w.alloc (.cells #[.int .i64 x.k.obj,.int .i64 x.k.kind,.int .i64 x.k.off,.slice V p q] 50)).cell? ⟨w.1.size,0,none⟩=some (.int .i64 x.k.obj):=by rw[cell_of_row _ _ _ _ _ _ f];rfl
 have q1:(w.alloc (.cells #[.int .i64 x.k.obj,.int .i64 x.k.kind,.int .i64 x.k.off,.slice V p q] 50)).cell? ⟨w.1.size,1,none⟩=some (.int .i64 x.k.kind):=by rw[cell_of_row _ _ _ _ _ _ f];rfl
 have q2:(w.alloc (.cells #[.int .i64 x.k.obj,.int .i64 x.k.kind,.int .i64 x.k.off,.slice V p q] 50)).cell? ⟨w.1.size,2,none⟩=some (.int .i64 x.k.off):=by rw[cell_of_row _ _ _ _ _ _ f];rfl
 have q3:(w.alloc (.cells #[.int .i64 x.k.obj,.int .i64 x.k.kind,.int .i64 x.k.off,.slice V p q] 50)).cell? ⟨w.1.size,3,none⟩=some (.slice V p q):=by rw[cell_of_row _ _ _ _ _ _ f];rfl
 have D:Jq ((w.alloc (.cells #[.int .i64 x.k.obj,.int .i64 x.k.kind,.int .i64 x.k.off,.slice V p q] 50)).alloc (.cells #[.int .i64 x.k.obj,.int .i64 x.k.kind,.int .i64 x.k.off,.slice V p q] 50)) 4 (some ⟨w.1.size+1,0,none⟩) 1 1 [Vm x.k V p q]:=by
  have:=(q1i (w.alloc (.cells #[.int .i64 x.k.obj,.int .i64 x.k.kind,.int .i64 x.k.off,.slice V p q] 50)) 50 4 (Vm x.k V p q) _ rfl rfl).Uo (by omega);rwa [World.size_alloc] at this
 obtain⟨⟨t,c,Z,row,B⟩,⟨t2,hm⟩,u,P,⟨l1,l2,l3,l4,l5,l6⟩⟩:=h;have W:=Kw Z;have a2:=Kw hm;have a1:=u.lt;have c0:=cell_of_one ((b0.block vb W).trans Z);have U:=(H.block vb W).trans Z;have Q:=(H.block mb a2).trans hm;have M:=u.below H a1;have Y:=row.below H;have K:∀k,q01 A=some k->base<=k/\k<w.1.size:=λk m=>⟨B k m,(row.Qc k m).2⟩
 have a7:=hs.below H;clear row Z hm u hs f;go_enter Tryz.func57,Tryz.ntmps57
 go_wp2_with (first
  |(at_builtin;refine q5k rfl _ _ rfl lim A d.length c d rfl Y (some ⟨w.1.size+1,0,none⟩) 1 x V p q rfl D a7 hV hn (by omega) ?_)
  |fail)
 intro G c6 w3 X I E;have F:∀b,b<base->¬q01 A=some b:=λb hb h=>by have:=(K b h).1;omega
 have y:=(I.block vb (by omega) (F vb l1)).trans U;have h3:=cell_of_one y;have f3:=free_of_one y;have a6:∀k,q01 G=some k->k≠vb:=λk m e=>by
  rcases E with h|h
  ·rw[h] at m;have:=(K k m).1;omega
  ·rw[h] at m;have:=Option.some.inj m;omega
 have J:Turn (λk=>k=vb) w3 (w3.setCell ⟨vb,0,none⟩ (.slice G (d.length+1) c6)):=Ac (a:=⟨vb,0,none⟩) _ rfl;have z3:=I.size;have R:=(I.block mb (by omega) (F mb l2)).trans Q;have O:=M.keep (I.block tb (by omega) (F tb l3));have T:=Kw R;clear c0 q0 q1 q2 q3 D Q M U;go_wp2;go_end0
 have e:(d++[x]).length=d.length+1:=by simp
 refine⟨rfl,G,⟨⟨t,c6,by rw[e];exact one_setCell y,by rw[e];exact qqm X y a6 J,λk m=>?_⟩,⟨t2,(J.block mb T l5).trans R⟩,O.keep (J.block tb O.lt l6),P,⟨l1,l2,l3,by have:=J.size;omega,l5,l6⟩⟩,((Qx (S:=λk=>k=vb\/q01 A=some k) H).trans I (λk h=>.inl (.inr h))).trans J (λk h=>.inl (.inl h)),λk m=>?_⟩
 ·rcases E with h|h
  ·exact B k (h▸m)
  ·rw[h] at m;have:=Option.some.inj m;omega
 ·rcases E with h|h
  ·exact .inl (h▸m)
  ·rw[h] at m;have:=Option.some.inj m;exact .inr (by omega)
def GInv (e:World)(lb:Nat)(vs:List (Int × Nd))(T:Nat->Prop)(w:World):Prop:=
 ∃(lo hi:Nat) (A:Option Addr) (n c:Nat) (B:Option Addr) (m d:Nat),NB w lb (Yo vs).lvl A n c B m d/\Held w lo hi A n c B m d (Yo vs)/\(lb<lo\/hi<=lb)/\e.1.size<=lb/\e.1.size<=lo/\∀k,T k↔k=lb\/(lo<=k/\k<hi)
theorem qmj {w:World}{lb:Nat}(a:Int)(M:Nd)(A:Option Addr)(n c:Nat)(B:Option Addr)(m d:Nat){l:Int}{y D:Option Addr}{J c0 I H:Nat}(N:NB w lb l y J c0 D I H) :
  Calls Tryz.prog 119 #[.int .i64 a,.agg #[.int .i64 M.lvl,.slice A n c,.slice B m d],.pointer (some ⟨lb,0,none⟩)] w λe u=>e=.returned (.tuple #[])/\NB u lb M.lvl A n c B m d/\Turn (λk=>k=lb) w u:=by
 have p:Below w.1.size w (w.alloc (.cells #[.int .i64 M.lvl,.slice A n c,.slice B m d] 77)):=Qk;have E:=N.below p N.lt;have f:NB (w.alloc (.cells #[.int .i64 M.lvl,.slice A n c,.slice B m d] 77)) w.1.size M.lvl A n c B m d:=NB.new w _ _ _ _ _ _ _ _;have K:=f.c0;have O:=f.c1;have P:=f.c2;go_enter Tryz.func119,Tryz.ntmps119
 go_wp2_with (first
  |(refine Gp rfl (.tmp 2) _ rfl lb rfl M.lvl A n c B m d rfl E ?_;intro Q F G)
  |fail)
 go_end0
 exact⟨rfl,F,(Qx (S:=λk=>k=lb) p).trans G λ_ h=>.inl h⟩
theorem qqo {F:World}{lb:Nat}:Visit F 119 #[.pointer (some ⟨lb,0,none⟩)] (GInv F lb) where
 ent:=λ_ _=>by kernel_rfl
 in_:=λh k p=>by
  obtain⟨lo,hi,A,n,c,B,m,d,N,H,h1,h2,u,f⟩:=h;have:=N.lt;have:=H.1;rcases (f k).1 p with rfl|⟨R,U⟩
  ·exact⟨h2,N.lt⟩
  ·omega
 keep:=λh t E=>by
  obtain⟨lo,hi,A,n,c,B,m,d,N,H,h1,h2,u,f⟩:=h;exact⟨lo,hi,A,n,c,B,m,d,N.turned t λh=>E _ h ((f lb).2 (.inl rfl)),H.turn t λk a b h=>E _ h ((f k).2 (.inr ⟨a,b⟩)),h1,h2,u,f⟩
 call:=λ{vs T w lo hi a M A n c B m d} h G hd D _=>by
  obtain⟨K,J,O,Y,c0,P,W,Q,N,H,h1,h2,u,f⟩:=h;refine (qmj a M A n c B m d N).mono ?_;rintro e Z ⟨rfl,I,X⟩;have y:¬(lo<=lb/\lb<hi):=λh=>hd lb h.1 h.2 ((f lb).2 (.inl rfl))
  refine⟨rfl,λk=>k=lb\/(lo<=k/\k<hi),⟨lo,hi,A,n,c,B,m,d,by rw[qc8];exact I,by rw[qc8];exact G.turn X (λk a b h=>y ⟨by rw[<-h];exact a,by rw[<-h];exact b⟩),by omega,h2,D,λ_=>Iff.rfl⟩,X.mono λk p=>(f k).2 (.inl p),λk p=>?_⟩;rcases p with rfl|p
  ·exact .inl ((f k).2 (.inl rfl))
  ·exact .inr (.inr p)
theorem qqp (w:World):Held w w.1.size w.1.size none 0 0 none 0 0 Zp:=
 ⟨Nat.le_refl _,by omega,by omega,λe _ _=>⟨Ox _ _,qdq _,λj d=>absurd d (Nat.not_lt_zero _)⟩⟩
theorem qup {w:World}{p:Nat}{R:Int->Nd × Int}(H:Src w p R)(ht:Tab w)(root:Int)(k:Kd) :
  Calls Tryz.prog 71 #[.pointer (some ⟨p,0,none⟩),.int .i64 root,.agg #[.int .i64 k.obj,.int .i64 k.kind,.int .i64 k.off]] w λe w'=>∃A n c,e=.returned (.tuple #[.slice A n c,.int .i64 (Ll R k root).2])/\Sl w' A n c (Ll R k root).1/\Below w.1.size w w':=by
 have K:KB ((w.alloc (.cells #[.int .i64 k.obj,.int .i64 k.kind,.int .i64 k.off] 45)).alloc (.cells #[.int .i64 0,.slice none 0 0,.slice none 0 0] 77)) w.1.size k:=(KB.new w k.obj k.kind k.off _).below (Qk) (by simp);have N1:NB ((w.alloc (.cells #[.int .i64 k.obj,.int .i64 k.kind,.int .i64 k.off] 45)).alloc (.cells #[.int .i64 0,.slice none 0 0,.slice none 0 0] 77)) (w.1.size+1) 0 none 0 0 none 0 0:=NB.new2 w _ _ _ _ _ _ _ _ _;have b1:Below w.1.size w ((w.alloc (.cells #[.int .i64 k.obj,.int .i64 k.kind,.int .i64 k.off] 45)).alloc (.cells #[.int .i64 0,.slice none 0 0,.slice none 0 0] 77)):=(Qk).alloc (by simp) _;have z1:((w.alloc (.cells #[.int .i64 k.obj,.int .i64 k.kind,.int .i64 k.off] 45)).alloc (.cells #[.int .i64 0,.slice none 0 0,.slice none 0 0] 77)).1.size=w.1.size+2:=by simp
 have I:=Lib.hid (qql R k root);have X:=Lib.hid (λh=>qmi (k:=k) (root:=root) H.may h);obtain⟨F,hF⟩:∃F,Ym R k root=F:=⟨_,rfl⟩;obtain⟨G,W⟩:∃G,Ll R k root=G:=⟨_,rfl⟩;rw[hF] at I X;rw[W] at I ⊢;have HF:=Lib.hid hF;clear hF W;have Y:=K.c0;have Z:=K.c1;have k2:=K.c2;go_enter Tryz.func71,Tryz.ntmps71
 go_wp2_with fail
 generalize (w.alloc (.cells #[.int .i64 k.obj,.int .i64 k.kind,.int .i64 k.off] 45)).alloc (.cells #[.int .i64 0,.slice none 0 0,.slice none 0 0] 77)=w1 at K N1 b1 z1 Y Z k2 ⊢;have I1:GInv w (w.1.size+1) [] (λk=>k=w.1.size+1) w1:=⟨w1.1.size,w1.1.size,none,0,0,none,0,0,N1,qqp w1,.inl (by omega),by omega,by omega,λk=>⟨.inl,λh=>h.elim id λh=>by omega⟩⟩;refine (qqk H qqo b1 ht root k _ I1).mono ?_;rw[HF.out];rintro e w2 ⟨rfl,T,⟨lo,hi,A,n,c,B,m,d,O,Hd,-,-,-,-⟩,Q,X2⟩;have K2:=K.keep (X2.block _ K.lt (by show ¬w.1.size=w.1.size+1;omega));clear Y Z k2 I1;obtain⟨M,hM⟩:∃M,Yo F.1=M:=⟨_,rfl⟩;obtain⟨E,hE⟩:∃E,F.2=E:=⟨_,rfl⟩;rw[hM] at O Hd;rw[hM,hE] at I X;rw[hE];clear hM hE HF;by_cases h0:E=0
 ·subst h0;obtain⟨-,D,u⟩:=X.out rfl;have f:=I.out;rw[if_neg (by simp)] at f;obtain⟨t,y⟩:∃t,M.Zc k=t:=⟨_,rfl⟩;obtain⟨r,hr⟩:∃r,Vd M.keys k t=r:=⟨_,rfl⟩;obtain⟨r2,s2⟩:=Hd.rows;have J:M.items.length=n:=r2.Yc.len;have P:=Lib.hid (q2i M D k t y r hr A n c B m d w2 r2.Yc s2 (by have:=Hd.2.1;omega) (by have:=Hd.2.2.1;omega));have p0:=O.c0;have p1:=O.c1;have p2:=O.c2;have Y:=K2.c0;have Z:=K2.c1;have k2:=K2.c2;unfold qi1 at f;rw[y,hr] at f;rw[y,hr,J] at u;have u:=Lib.hid u;have J:=Lib.hid J;clear D I X y hr r2 s2
  cases r with
  |false=>
   rw[if_neg (by simp)] at f;subst f;go_wp2_with fail
   refine P.out.mono ?_;rintro e w3 ⟨rfl,U⟩;clear p0 p1 p2 Y Z k2;go_wp2_with fail
   go_ret2;exact⟨none,0,0,rfl,Ik _,Q.trans (U.mono Q.size)⟩
  |true=>
   rw[if_pos rfl] at f;have a1:=u.out rfl;have Hg:=Lib.hid f;clear f;go_wp2_with fail
   refine P.out.mono ?_;rintro e w3 ⟨rfl,U⟩;have q1:=(O.below U O.lt).c1;clear p0 p1 p2 Y Z k2;obtain⟨r3,-⟩:=(Hd.below U).rows;obtain⟨g,o,V,a,b,rfl,hg,-,-,-,y3,hs⟩:=r3.Yc.cell a1;have e0:(0:Int)<=(t:Int):=by omega
   have e1:(t:Int)<(n:Int):=by omega
   obtain⟨_,a2⟩:=r3.Yc.bounds;clear r3;go_wp2_with fail
   go_ret2;refine⟨V,a,b,by rw[Hg.out];rfl,by rw[Hg.out];exact hs,Q.trans (U.mono Q.size)⟩
 ·have f:=I.out;rw[if_pos h0] at f;have g1:(E==0)=false:=by simp[h0]
  have g2:(E != 0)=true:=by simp[h0]
  subst f;clear h0 I X;go_wp2_with fail
  go_ret2;exact⟨none,0,0,rfl,Ik _,Q⟩
