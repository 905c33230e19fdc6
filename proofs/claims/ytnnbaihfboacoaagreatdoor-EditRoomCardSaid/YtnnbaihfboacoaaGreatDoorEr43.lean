/- The laws of find: a tree that is grown in a new pool: what the two loops keep -/
import Derived.Test.YtnnbaihfboacoaaGreatDoorEr31
namespace Go.Proofs.YtnnbaihfboacoaaGreatDoor
open Go Go.RowKit Go.Proofs
set_option maxHeartbeats 16000000
set_option maxRecDepth 100000
section
variable {b:Nat}{w w1:World}{d p:Nat}{S0 S T:Nat->Prop}{D:DM}{P:Pl}
end
theorem Bg.turned {Q:World->Prop}{w w':World}{base n c:Nat}{A:Option Addr}{Ns:List Nd}{S:Nat->Prop}(h:Bg Q w base A n c Ns)(t:Turn S w w')(hS:∀k,base<=k->k<w.1.size->¬S k):Bg Q w' base A n c Ns:=by
 obtain⟨e,h1,h2,m⟩:=h;exact⟨e,h1.turned t (λk f=>hS k (h1.Qa k f).1 (h1.Qa k f).2),h2,m⟩
def Tq:DM:=(DM.mk0 256).Qk (Xt 256)
structure Fz (b:Nat)(w:World)(d p:Nat)(D:DM)(P:Pl)(root:Int)(its:List Qc):Prop where
 sys:∃S0 S T,Qi b w d p S0 S T D P
 Zt:Kq D P (fmtS 256) (Ct.zero 256)
 tree:Zb (P.store D) root its
 n:P.C.n=256
 S:P.S=fmtS 256
structure Qcv (w0:World)(d p:Nat)(S0 S:Nat->Prop)(its:List Qc)(f l:Nat)(nv lv:Value)(w:World)(P:Pl)(Ns:List Nd):Prop where
 lvl:Lvl Tq its f l P Ns
 fuel:l+f=5
 Oa:∃L:Nat,L=l+1/\lv=.int .i64 (L:Int)
 rows:∃wl A c,nv=.slice A Ns.length c/\Bg (Turn S wl) w wl.heap.size A Ns.length c Ns/\Turn S wl w/\(∀k,S k->k<wl.heap.size)
 sys:∃T,Qi w0.heap.size w d p S0 S T Tq P
 Zt:Kq Tq P (fmtS 256) (Ct.zero 256)
 tab:Tab w
 low:Below w0.heap.size w0 w
 n:P.C.n=256
 S:P.S=fmtS 256
def Jb (R:Int->Nd × Int)(k:Kd):Nat->Int->List (Int × Nd) × Int
 |0,a=>if (R a).2≠0 then ([],(R a).2) else if (R a).1.lvl≠0 then ([],5) else ([(a,(R a).1)],0)
 |l+1,a=>if (R a).2≠0 then ([],(R a).2) else if (R a).1.lvl≠((l+1:Nat):Int) then ([],5) else
   ((a,(R a).1)::(Jb R k l (Qg (R a).1.kids ((R a).1.Za k)).a).1,(Jb R k l (Qg (R a).1.kids ((R a).1.Za k)).a).2)
def Yh (R:Int->Nd × Int)(k:Kd)(root:Int):List (Int × Nd) × Int:=if root=0 then ([],0) else Jb R k (Ub R root) root
theorem q3r {R:Int->Nd × Int}{k:Kd}{a:Int}(h:(R a).2≠0):∀l,Jb R k l a=([],(R a).2)
 |0=>by unfold Jb;rw[if_pos h]
 |l+1=>by unfold Jb;rw[if_pos h]
theorem q4x {R:Int->Nd × Int}{k:Kd}{a:Int}(h:(R a).2=0):∀l:Nat,(R a).1.lvl≠(l:Int)->Jb R k l a=([],5)
 |0,h2=>by unfold Jb;rw[if_neg (by simpa using h),if_pos (by simpa using h2)]
 |l+1,h2=>by unfold Jb;rw[if_neg (by simpa using h),if_pos h2]
theorem q80 {R:Int->Nd × Int}{k:Kd}{a:Int}{M:Nd}(h:R a=(M,0))(h2:M.lvl=0):Jb R k 0 a=([(a,M)],0):=by
 unfold Jb;rw[h];dsimp only;rw[if_neg (by simp),if_neg (by simpa using h2)]
theorem q81 {R:Int->Nd × Int}{k:Kd}{a:Int}{M:Nd}{l:Nat}(h:R a=(M,0))(h2:M.lvl=((l+1:Nat):Int)):Jb R k (l+1) a=((a,M)::(Jb R k l (Qg M.kids (M.Za k)).a).1,(Jb R k l (Qg M.kids (M.Za k)).a).2):=by
 conv=>lhs;unfold Jb
 rw[h];dsimp only;rw[if_neg (by simp),if_neg (by simpa using h2)]
structure Visit (w0:World)(f:Nat)(cap:Array Value)(Inv:List (Int × Nd)->(Nat->Prop)->World->Prop):Prop where
 ent:∀(args:Array Value) (w:World),(callFunc f args).run Tryz.prog w=.ok (.enter f args) w
 in_:∀{vs T w},Inv vs T w->∀k,T k->w0.heap.size<=k/\k<w.heap.size
 keep:∀{vs T w w' S},Inv vs T w->Turn S w w'->(∀k,S k->¬T k)->Inv vs T w'
 call:∀{vs T w lo hi a M A n c B m d},Inv vs T w->Held w lo hi A n c B m d M->(∀k,lo<=k->k<hi->¬T k)->w0.heap.size<=lo->vs.length<=10->
  Calls Tryz.prog f (#[.int .i64 a,.agg #[.int .i64 M.lvl,.slice A n c,.slice B m d]]++cap) w λe w'=>e=.returned (.tuple #[])/\∃T',Inv (vs++[(a,M)]) T' w'/\Turn T w w'/\∀k,T' k->T k\/w.heap.size<=k\/(lo<=k/\k<hi)
def Qac (w:World)(b:Nat):Nat:=match w.cell? ⟨b,0,none⟩ with
 |some (.int _ z)=>z.toNat
 |_=>0
theorem qqa {w:World}{b:Nat}{l:Int}{A B:Option Addr}{n c m d:Nat}(H:NB w b l A n c B m d):Qac w b=l.toNat:=by
 unfold Qac;rw[H.c0]
structure Rn (w0 wb:World)(T0:Nat->Prop)(R:Int->Nd × Int)(k:Kd)(Inv:List (Int × Nd)->(Nat->Prop)->World->Prop)(F:List (Int × Nd) × Int)(nb:Nat)(av ev:Value)(w:World)(vs:List (Int × Nd))(T:Nat->Prop):Prop where
 inv:Inv vs T w
 low:Below w0.heap.size w0 w
 key:KB w wb.heap.size k
 kge:w0.heap.size<=wb.heap.size/\wb.heap.size<nb
 node:∃l A n c B m d,NB w nb l A n c B m d
 old:Turn T0 wb w
 sub:∀k,T k->T0 k\/wb.heap.size<=k
 noT:¬T nb/\¬T wb.heap.size
 at_:(∃E:Int,E≠0/\ev=.int .i64 E/\F=(vs,E))\/
  (∃(l:Nat) (a:Int) (M:Nd) (lo hi:Nat) (A:Option Addr) (n c:Nat) (B:Option Addr) (m d:Nat),ev=.int .i64 0/\av=.int .i64 a/\R a=(M,0)/\M.lvl=(l:Int)/\l+vs.length<=8/\NB w nb M.lvl A n c B m d/\Held w lo hi A n c B m d M/\
   (∀k,lo<=k->k<hi->¬T k)/\(hi<=nb\/nb<lo)/\wb.heap.size<lo/\w0.heap.size<=lo/\F=(vs++(Jb R k l a).1,(Jb R k l a).2))
theorem qgh {Y w:World}{p f:Nat}{cap:Array Value}{R:Int->Nd × Int}{a2:List (Int × Nd)->(Nat->Prop)->World->Prop}(H:Src Y p R)(V:Visit Y f cap a2)(B0:Below Y.1.size Y w)(c7:Tab Y)(root:Int)(k:Kd)(T0:Nat->Prop)(hI:a2 [] T0 w) :
  Calls Tryz.prog 40 #[.pointer (some ⟨p,0,none⟩),.int .i64 root,.agg #[.int .i64 k.obj,.int .i64 k.kind,.int .i64 k.off],.func (.func f) #[] cap] w λe w'=>e=.returned (.int .i64 (Yh R k root).2)/\∃T,a2 (Yh R k root).1 T w'/\Below Y.1.size Y w'/\Turn T0 w w':=by
 obtain⟨K0,bB⟩:=Xb w k;have zw:=B0.size;have e2:=V.in_ hI;by_cases hr:root=0
 ·subst hr;have e:Yh R k 0=([],0):=if_pos rfl;rw[e];clear e;go_enter Tryz.func40,Tryz.ntmps40
  go_wp2_with fail
  go_ret;exact⟨rfl,T0,V.keep hI (Qv (S:=λ_=>False) bB) (λ_ h=>h.elim),B0.trans (bB.mono zw),Qv bB⟩
 ·have l5:(root==0)=false:=by simp[hr]
  have l6:decide (root=0)=false:=decide_eq_false hr;have hF:Yh R k root=Jb R k (Ub R root) root:=if_neg hr;obtain⟨F,f0⟩:∃F,Yh R k root=F:=⟨_,rfl⟩;rw[f0] at hF ⊢;clear f0;have I1:=V.keep hI (Qv (S:=λ_=>False) bB) (λ_ h=>h.elim);have z1:(w.alloc (.cells #[.int .i64 k.obj,.int .i64 k.kind,.int .i64 k.off] 30)).1.size=w.1.size+1:=by simp
  have Hn:=Lib.hid (λu hu tu=>H.node u hu tu root);obtain⟨M,E,hR⟩:∃M E,R root=(M,E):=⟨_,_,rfl⟩;have HR:=Lib.hid hR;rw[hR] at Hn;have HF:=Lib.hid hF;clear hF hR;go_enter Tryz.func40,Tryz.ntmps40
  go_wp2_with fail
  generalize w.alloc (.cells #[.int .i64 k.obj,.int .i64 k.kind,.int .i64 k.off] 30)=w1 at K0 bB I1 z1 ⊢;have B1:=B0.trans (bB.mono zw);refine (Hn.out w1 B1 (c7.below B1 c7.1)).mono ?_;rintro e w2 ⟨A1,n1,c1,e3,m1,d1,rfl,k4,j9,f1,f3,b2⟩;have l7:=b2.size;have Hd:=qe8 k4 j9 f1 f3;have N3:NB (w2.alloc (.cells #[.int .i64 0,.slice none 0 0,.slice none 0 0] 75)) w2.1.size 0 none 0 0 none 0 0:=NB.new w2 _ _ _ _ _ _ _ _;have b3:Below w2.1.size w2 (w2.alloc (.cells #[.int .i64 0,.slice none 0 0,.slice none 0 0] 75)):=Qm;clear f1 f3;go_wp2_with (first
   |(refine Gt rfl (.tmp 10) _ rfl w2.1.size rfl M.lvl A1 n1 c1 e3 m1 d1 rfl N3 ?_;intro w4 N4 T4)
   |fail)
  have XX:Turn (λ_=>False) w1 w4:=((Qv (S:=λ_=>False) b2).trans (Qv (S:=λ_=>False) b3) (λ_ h=>.inl h)).trans T4 (λx Z=>.inr (by have:x=w2.1.size:=Z;omega));have X2:Turn (λ_=>False) w2 w4:=(Qv (S:=λ_=>False) b3).trans T4 (λx Z=>.inr (by have:x=w2.1.size:=Z;omega));have I4:=V.keep I1 XX (λ_ h=>h.elim);have B4:Below Y.1.size Y w4:=B1.trans (XX.below (λ_ h=>h.elim) B1.size);have K4:=K0.keep (XX.block _ K0.lt (λh=>h));have d3:=Hd.turn X2 (λ_ _ _ h=>h);obtain⟨I,g5⟩:∃I,w2.1.size=I:=⟨_,rfl⟩;rw[g5] at N4 d3 ⊢;have D0:Rn Y w T0 R k a2 F I (.int .i64 root) (.int .i64 E) w4 [] T0:=by
   have hR:=HR.out;have hF:=HF.out;refine⟨I4,B4,K4,⟨zw,by omega⟩,⟨_,_,_,_,_,_,_,N4⟩,(Qv (S:=T0) bB).trans XX (λ_ h=>h.elim),λk h=>.inl h,⟨λh=>by have:=(e2 _ h).2;omega,λh=>by have:=(e2 _ h).2;omega⟩,?_⟩;by_cases J:E=0
   ·subst J;have hm:=H.may root (by rw[hR]);rw[hR] at hm;have hm:M.may=true:=hm;have hl:0<=M.lvl/\M.lvl<8:=by
     by_cases h0:M.lvl=0
     ·omega
     ·have:=Py hm h0;omega
    have c6:M.lvl=(Ub R root:Int):=by unfold Ub;rw[hR];exact (Int.toNat_of_nonneg hl.1).symm
    refine .inr ⟨Ub R root,root,M,w1.1.size,I,A1,n1,c1,e3,m1,d1,rfl,rfl,hR,c6,by simp;omega,N4,d3,λk h1 h2 h=>by have:=(e2 _ h).2;omega,.inl (Nat.le_refl _),by omega,by omega,by rw[hF];rfl⟩
   ·refine .inl ⟨E,J,rfl,?_⟩;rw[hF,q3r (by rw[hR];exact J),hR]
  clear I4 B4 K4 N4 d3 Hd N3 b3 b2 XX X2 T4 I1 K0 g5 HR HF Hn;have k8:=V.ent;go_loopw [9,11,12,13] (λav ev _ _ wr=>∃vs T,Rn Y w T0 R k a2 F I av ev wr vs T) (λ_ ev _ _ wr=>if intOf ev=0 then Qac wr I+1 else 0)
  case atStart=>exact⟨[],T0,D0⟩
  case round=>
   obtain⟨vs,T,D⟩:=hrel;obtain⟨Q,K,U,g3,k6,W,b0,O,i7⟩:=D;have g9:=K.size;have j0:=U.lt;clear D0;rcases i7 with⟨E',d5,rfl,a6⟩|⟨l,a,B,lo,hi,A,n,c,Bq,m,d,rfl,rfl,b9,c6,k9,hN,d8,a8,g6,l4,j8,a6⟩
   ·have g1:(E'==0)=false:=by simp[d5]
    have g2:decide (E'=0)=false:=decide_eq_false d5;have HF:=Lib.hid a6;clear d5 a6;go_wp2_with fail
    go_ret;exact⟨by rw[HF.out];rfl,T,by rw[HF.out];exact Q,K,W⟩
   ·have c9:B.may=true:=by have:=H.may a (by rw[b9]);rwa [b9] at this
    have l2:=hN.lt;have i6:=hN;have f9:=V.in_ Q;have p0:=hN.c0;have p1:=hN.c1;have p2:=hN.c2;have a1:=Lib.hid (V.call (a:=a) Q d8 a8 j8 (by omega));have e8:=Lib.hid b9;have G:=Lib.hid c6;have HF:=Lib.hid a6;clear a6 b9 c6 Q
    cases l with
    |zero=>
     have e9:F=(vs++[(a,B)],0):=by rw[HF.out,q80 e8.out G.out]
     have g1:(B.lvl==0)=true:=by rw[G.out];rfl
     have g2:decide (B.lvl=0)=true:=decide_eq_true G.out;have e4:=Lib.hid e9;clear e9;go_wp2_with fail
     refine a1.out.mono ?_;rintro e w5 ⟨rfl,T',b8,T5,a7⟩;have q0:=(hN.turned T5 O.1).c0;clear p0 p1 p2;go_wp2_with fail
     go_ret;exact⟨by rw[e4.out];rfl,T',by rw[e4.out];exact b8,K.trans (T5.below (λx Z=>(f9 x Z).1) g9),W.trans T5 b0⟩
    |succ l=>
     obtain⟨-,i8,i9,-,-,g8⟩:=Py c9 (by rw[G.out];omega);have g1:(B.lvl==0)=false:=by rw[G.out];simp;omega
     have g2:decide (B.lvl=0)=false:=decide_eq_false (by rw[G.out];omega);have k0:=U.c0;go_wp2_with fail
     refine a1.out.mono ?_;rintro e w5 ⟨rfl,T',b8,T5,a7⟩;have N5:=hN.turned T5 O.1;have K5:=U.keep (T5.block _ j0 O.2);have b5:=d8.turn T5 a8;have X:=K.trans (T5.below (λx Z=>(f9 x Z).1) g9);have g0:=V.in_ b8;have z5:=T5.size;have i1:=W.trans T5 b0;have i2:∀k,T' k->T0 k\/w.1.size<=k:=λk h=>by
      have hh:=W.size;rcases a7 k h with h|h|h
      ·exact b0 k h
      ·exact .inr (by omega)
      ·exact .inr (by omega)
     have d0:¬T' I/\¬T' w.1.size:=⟨λh=>by rcases a7 I h with h|h|h;exact O.1 h;omega;omega,λh=>by rcases a7 _ h with h|h|h;exact O.2 h;omega;omega⟩;clear p0 p1 p2 k0 hN U d8 a8 g6 a7 T5 K;have p0:=N5.c0;have p1:=N5.c1;have p2:=N5.c2;have k0:=K5.c0;have k1:=K5.c1;have k2:=K5.c2;obtain⟨r5,s5⟩:=b5.rows;obtain⟨x,Z⟩:∃x,B.Za k=x:=⟨_,rfl⟩;have k7:=g8 k;rw[Z] at k7;have g4:B.kids.length=m:=Jf.len s5 |> λh=>by rw[List.length_map] at h;exact h
     obtain⟨rr,g7⟩:∃rr,Vb B.keys k x=rr:=⟨_,rfl⟩;have i5:=Lib.hid (q22 B (Nj c9) k x Z rr g7 A n c Bq m d w5 r5.Zq s5 (by have:=b5.2.1;omega) (by have:=b5.2.2.1;omega));have Hx:=Lib.hid Z;clear g7 Z g8;go_wp2_with fail
     refine i5.out.mono ?_;rintro e w6 ⟨rfl,b6⟩;have N6:=N5.below b6 N5.lt;have K6:=K5.below b6 K5.lt;obtain⟨r6,s6⟩:=(b5.below b6).rows;have b1:=X.trans (b6.mono X.size);have z6:=b6.size;clear p0 p1 p2 k0 k1 k2 r5 s5 r6;have p0:=N6.c0;have p1:=N6.c1;have p2:=N6.c2;obtain⟨g,o,rfl,hg,-,-,-,y3⟩:=s6.cell (j:=x) (by omega);obtain⟨y,hy⟩:∃y,(Qg B.kids x).a=y:=⟨_,rfl⟩;rw[hy] at y3;have e1:(x:Int)<(m:Int):=by omega
     have e0:(0:Int)<=(x:Int):=by omega
     obtain⟨_,l3⟩:=Zm.bounds s6;have c8:=Lib.hid (qjz H b1 (c7.below b1 c7.1) B.lvl i8 i9 B.kids A n c (some ⟨g,o,none⟩) m d s6 x (by omega) y hy);have Hy:=Lib.hid hy;have l0:=Lib.hid g4;clear hy g4 s6;go_wp2_with fail
     refine c8.out.mono ?_;clear c8;obtain⟨M2,d9⟩:∃M2,Dl R B.lvl y=M2:=⟨_,rfl⟩;obtain⟨E2,d6⟩:∃E2,Ap R B.lvl y=E2:=⟨_,rfl⟩;rw[d9,d6];have e7:=Lib.hid d9;have b4:=Lib.hid d6;clear d9 d6;rintro e w7 ⟨A2,n2,c2,B2,m2,d2,rfl,k5,k3,f2,f4,b7⟩;have i3:=qe8 k5 k3 f2 f4;have z7:=b7.size;have N7:=N6.below b7 N6.lt;have K7:=K6.below b7 K6.lt;clear p0 p1 p2 f2 f4 y3;go_wp2_with (first
      |(refine Gt rfl (.tmp 10) _ rfl I rfl M2.lvl A2 n2 c2 B2 m2 d2 rfl N7 ?_;intro w8 N8 T8)
      |fail)
     have z8:=T8.size;have l1:=N5.lt;have d4:Turn (λg=>g=I) w5 w8:=((Qv (S:=λg=>g=I) b6).trans (Qv (S:=λg=>g=I) b7) (λ_ h=>.inl h)).trans T8 (λ_ h=>.inl h);have I8:=V.keep b8 d4 (λk hk h=>by have hk:k=I:=hk;rw[hk] at h;exact d0.1 h);have i4:=i3.turn T8 (λk h1 h2 h=>by have h:k=I:=h;omega);have K8:=K7.keep (T8.block _ K7.lt (by show ¬w.1.size=I;omega));have i0:Below Y.1.size Y w8:=X.trans (d4.below (λk hk=>by have:k=I:=hk;omega) X.size);refine⟨⟨vs++[(a,B)],T',I8,i0,K8,g3,⟨_,_,_,_,_,_,_,N8⟩,i1.trans d4 (λk h=>.inr (by have h:k=I:=h;omega)),i2,d0,?_⟩,?_⟩
     ·have d7:F=((vs++[(a,B)])++(Jb R k l y).1,(Jb R k l y).2):=by
       rw[HF.out,q81 e8.out G.out,Hx.out,Hy.out,List.append_assoc];rfl
      by_cases h1:(R y).2=0
      ·have J:Ap R B.lvl y=if (R y).1.lvl≠B.lvl-1 then 5 else 0:=if_neg (by simpa using h1)
       have hM:Dl R B.lvl y=if (R y).1.lvl≠B.lvl-1 then Jh else (R y).1:=if_neg (by simpa using h1)
       by_cases h2:(R y).1.lvl=B.lvl-1
       ·rw[if_neg (by simpa using h2)] at J hM;rw[b4.out] at J;rw[e7.out] at hM;subst J;have j7:M2.lvl=(l:Int):=by rw[hM,h2,G.out];omega
        exact .inr ⟨l,y,M2,w6.1.size,w7.1.size,A2,n2,c2,B2,m2,d2,rfl,rfl,by rw[hM];exact Prod.ext rfl h1,j7,by rw[List.length_append,List.length_singleton];omega,N8,i4,λk h3 h4 h5=>by have:=(g0 k h5).2;omega,.inr (by omega),by omega,by have:=b1.size;omega,d7⟩
       ·rw[if_pos h2] at J;rw[b4.out] at J;subst J;refine .inl ⟨5,by omega,rfl,?_⟩;rw[d7,q4x h1 l (λh=>h2 (by rw[h,G.out];omega)),List.append_nil]
      ·have J:Ap R B.lvl y=(R y).2:=if_pos h1;rw[b4.out] at J;refine .inl ⟨E2,by rw[J];exact h1,rfl,?_⟩;rw[d7,q3r h1,List.append_nil,J]
     ·have e5:Qac wr I=l+1:=by rw[qqa i6,G.out];omega
      rw[e5];by_cases J:E2=0
      ·have e6:Qac w8 I=l:=by
        rw[qqa N8];have h1:=b4.out;rw[J] at h1;unfold Ap at h1;have h2:=e7.out;unfold Dl at h2;split at h1
        ·rename_i h;exact absurd h1 h
        ·rename_i h;rw[if_neg h] at h2;split at h1
         ·cases h1
         ·rename_i h3;rw[if_neg h3] at h2;have h3:(R y).1.lvl=B.lvl-1:=by simpa using h3
          rw[<-h2,h3,G.out];omega
       rw[e6];simp[intOf,J]
      ·simp[intOf,J]
def Yj (vs:List (Int × Nd)):Nd:=(vs.getLast?.map (·.2)).getD Jh
def qel (k:Kd)(N:Nd):List UInt8 × Int:=if Vb N.keys k (N.Za k)=true then ((Qj N.items (N.Za k)).v,0) else ([],10)
theorem qcs (vs:List (Int × Nd))(x:Int × Nd):Yj (vs++[x])=x.2:=by unfold Yj;simp
theorem qct {x:Int × Nd}{vs:List (Int × Nd)}(h:vs≠[]):Yj (x::vs)=Yj vs:=by
 unfold Yj;rw[List.getLast?_cons_of_ne_nil h]
theorem qkk {R:Int->Nd × Int}{k:Kd}:∀{l:Nat} {a:Int},(Jb R k l a).2=0->(Jb R k l a).1≠[]
 |0,a,h=>by
  unfold Jb at h ⊢;split at h
  ·rename_i h1;exact absurd h h1
  ·rename_i h1;rw[if_neg h1];split at h
   ·cases h
   ·rename_i h2;rw[if_neg h2];simp
 |l+1,a,h=>by
  unfold Jb at h ⊢;split at h
  ·rename_i h1;exact absurd h h1
  ·rename_i h1;rw[if_neg h1];split at h
   ·cases h
   ·rename_i h2;rw[if_neg h2];simp
theorem qkl {R:Int->Nd × Int}{k:Kd}:∀(l:Nat) (a:Int),Aj R k l a=if (Jb R k l a).2≠0 then ([],(Jb R k l a).2) else qel k (Yj (Jb R k l a).1)
 |0,a=>by
  by_cases h1:(R a).2=0
  ·by_cases h2:(R a).1.lvl=0
   ·have f:R a=((R a).1,0):=Prod.ext rfl h1;rw[q80 f h2];unfold Aj;rw[if_neg (by simpa using h1),if_neg (by simpa using h2)];rfl
   ·rw[q4x h1 0 (by simpa using h2)];unfold Aj;rw[if_neg (by simpa using h1),if_pos h2];rfl
  ·rw[q3r h1];unfold Aj;rw[if_pos h1,if_pos h1]
 |l+1,a=>by
  by_cases h1:(R a).2=0
  ·by_cases h2:(R a).1.lvl=((l+1:Nat):Int)
   ·have f:R a=((R a).1,0):=Prod.ext rfl h1;rw[q81 f h2];unfold Aj;rw[if_neg (by simpa using h1),if_neg (by simpa using h2),qkl l _];dsimp only;by_cases e:(Jb R k l (Qg (R a).1.kids ((R a).1.Za k)).a).2=0
    ·rw[if_neg (by simpa using e),if_neg (by simpa using e),qct (qkk e)]
    ·rw[if_pos e,if_pos e]
   ·rw[q4x h1 (l+1) h2];unfold Aj;rw[if_neg (by simpa using h1),if_pos h2];rfl
  ·rw[q3r h1];unfold Aj;rw[if_pos h1,if_pos h1]
theorem qgi (R:Int->Nd × Int)(k:Kd)(root:Int):Bl R k root=if (Yh R k root).2≠0 then ([],(Yh R k root).2) else qel k (Yj (Yh R k root).1):=by
 unfold Bl Yh;by_cases h:root=0
 ·rw[if_pos h,if_pos h];rfl
 ·rw[if_neg h,if_neg h,qkl]
theorem qcu {R:Int->Nd × Int}{k:Kd}(hm:∀a,(R a).2=0->(R a).1.may=true):∀{l:Nat} {a:Int},(Jb R k l a).2=0->(Yj (Jb R k l a).1).lvl=0/\(Yj (Jb R k l a).1).may=true
 |0,a,h=>by
  by_cases h1:(R a).2=0
  ·by_cases h2:(R a).1.lvl=0
   ·have e:R a=((R a).1,0):=Prod.ext rfl h1;rw[q80 e h2];exact⟨h2,hm a h1⟩
   ·rw[q4x h1 0 (by simpa using h2)] at h
    cases h
  ·rw[q3r h1] at h;exact absurd h h1
 |l+1,a,h=>by
  by_cases h1:(R a).2=0
  ·by_cases h2:(R a).1.lvl=((l+1:Nat):Int)
   ·have e:R a=((R a).1,0):=Prod.ext rfl h1;rw[q81 e h2] at h ⊢;have:=qcu hm h;rw[qct (qkk h)];exact this
   ·rw[q4x h1 (l+1) h2] at h
    cases h
  ·rw[q3r h1] at h;exact absurd h h1
theorem qcv {R:Int->Nd × Int}{k:Kd}(hm:∀a,(R a).2=0->(R a).1.may=true){root:Int}(h:(Yh R k root).2=0):(Yj (Yh R k root).1).lvl=0/\(Yj (Yh R k root).1).fit/\(Vb (Yj (Yh R k root).1).keys k ((Yj (Yh R k root).1).Za k)=true->(Yj (Yh R k root).1).Za k<(Yj (Yh R k root).1).items.length):=by
 unfold Yh at h ⊢;by_cases h0:root=0
 ·rw[if_pos h0];exact⟨rfl,⟨λ_=>rfl,λ_=>rfl⟩,λh=>by cases h⟩
 ·rw[if_neg h0] at h ⊢;obtain⟨h1,h2⟩:=qcu hm h;have f:=Nj h2;refine⟨h1,f,λh=>?_⟩;unfold Vb at h;rw[Bool.and_eq_true] at h;have e:=of_decide_eq_true h.1;have m:∀N:Nd,N.kids=[]->N.keys.length=N.items.length:=λN u=>by unfold Nd.keys;rw[u];simp
  rw[m _ (f.1 h1)] at e;exact e
structure Lc (w:World)(lim base vb mb tb:Nat)(most:Int)(tk:Kd)(A:Option Addr)(acc:List Qc):Prop where
 var:∃t c,w.heap[vb]?=some (.cells #[.slice A acc.length c] t (0,0))/\J4 w lim A acc.length c acc/\∀k,q01 A=some k->base<=k
 many:∃t,w.heap[mb]?=some (.cells #[.int .i64 most] t (0,0))
 last:KB w tb tk
 Qcw:lim<=base
 lt:vb<base/\mb<base/\tb<base/\base<=w.heap.size/\mb≠vb/\tb≠vb
theorem Lc.below {w w':World}{lim base vb mb tb:Nat}{most:Int}{tk:Kd}{A:Option Addr}{acc:List Qc}(h:Lc w lim base vb mb tb most tk A acc)(hb:Below w.1.size w w'):Lc w' lim base vb mb tb most tk A acc:=by
 obtain⟨⟨t,c,h1,h2,f⟩,⟨B,m⟩,u,y,e⟩:=h;exact⟨⟨t,c,(hb.block vb (Wi h1)).trans h1,h2.below hb,f⟩,⟨B,(hb.block mb (Wi m)).trans m⟩,u.below hb u.lt,y,⟨e.1,e.2.1,e.2.2.1,Nat.le_trans e.2.2.2.1 hb.size,e.2.2.2.2⟩⟩
def GInv (u:World)(e:Nat)(vs:List (Int × Nd))(T:Nat->Prop)(w:World):Prop:=
 ∃(lo f:Nat) (A:Option Addr) (n c:Nat) (B:Option Addr) (m d:Nat),NB w e (Yj vs).lvl A n c B m d/\Held w lo f A n c B m d (Yj vs)/\(e<lo\/f<=e)/\u.1.size<=e/\u.1.size<=lo/\∀k,T k↔k=e\/(lo<=k/\k<f)
theorem qmk {w:World}{f:Nat}(a:Int)(M:Nd)(A:Option Addr)(n c:Nat)(B:Option Addr)(m d:Nat){l:Int}{F G:Option Addr}{Q c0 O K:Nat}(N:NB w f l F Q c0 G O K) :
  Calls Tryz.prog 41 #[.int .i64 a,.agg #[.int .i64 M.lvl,.slice A n c,.slice B m d],.pointer (some ⟨f,0,none⟩)] w λe E=>e=.returned (.tuple #[])/\NB E f M.lvl A n c B m d/\Turn (λk=>k=f) w E:=by
 have y:Below w.1.size w (w.alloc (.cells #[.int .i64 M.lvl,.slice A n c,.slice B m d] 75)):=Qm;have H:=N.below y N.lt;have u:NB (w.alloc (.cells #[.int .i64 M.lvl,.slice A n c,.slice B m d] 75)) w.1.size M.lvl A n c B m d:=NB.new w _ _ _ _ _ _ _ _;have U:=u.c0;have W:=u.c1;have X:=u.c2;go_enter Tryz.func41,Tryz.ntmps41
 go_wp2_with (first
  |(refine Gt rfl (.tmp 2) _ rfl f rfl M.lvl A n c B m d rfl H ?_;intro Y I J)
  |fail)
 go_end0
 exact⟨rfl,I,(Qv (S:=λk=>k=f) y).trans J λ_ h=>.inl h⟩
theorem qgj {K:World}{u:Nat}:Visit K 41 #[.pointer (some ⟨u,0,none⟩)] (GInv K u) where
 ent:=λ_ _=>by kernel_rfl
 in_:=λh k y=>by
  obtain⟨lo,E,A,n,c,B,m,d,N,H,h1,h2,F,f⟩:=h;have:=N.lt;have:=H.1;rcases (f k).1 y with rfl|⟨h5,h6⟩
  ·exact⟨h2,N.lt⟩
  ·omega
 keep:=λh t J=>by
  obtain⟨lo,E,A,n,c,B,m,d,N,H,h1,h2,F,f⟩:=h;exact⟨lo,E,A,n,c,B,m,d,N.turned t λh=>J _ h ((f u).2 (.inl rfl)),H.turn t λk a b h=>J _ h ((f k).2 (.inr ⟨a,b⟩)),h1,h2,F,f⟩
 call:=λ{vs T w lo E a M A n c B m d} h O hd I _=>by
  obtain⟨W,U,Y,n0,c0,Z,m0,d0,N,H,h1,h2,F,f⟩:=h;refine (qmk a M A n c B m d N).mono ?_;rintro e w' ⟨rfl,Q,X⟩;have G:¬(lo<=u/\u<E):=λh=>hd u h.1 h.2 ((f u).2 (.inl rfl))
  refine⟨rfl,λk=>k=u\/(lo<=k/\k<E),⟨lo,E,A,n,c,B,m,d,by rw[qcs];exact Q,by rw[qcs];exact O.turn X (λk a b h=>G ⟨by rw[<-h];exact a,by rw[<-h];exact b⟩),by omega,h2,I,λ_=>Iff.rfl⟩,X.mono λk y=>(f k).2 (.inl y),λk y=>?_⟩;rcases y with rfl|y
  ·exact .inl ((f k).2 (.inl rfl))
  ·exact .inr (.inr y)
theorem qgk (w:World):Held w w.1.size w.1.size none 0 0 none 0 0 Jh:=
 ⟨Nat.le_refl _,by omega,by omega,λf _ _=>⟨O8 _ _,qdy _,λj e=>absurd e (Nat.not_lt_zero _)⟩⟩
structure Told (w:World)(p:Nat)(R:Int->Nd × Int)(root:Int)(its:List Qc):Prop where
 src:Src w p R
 tree:Zb R root its
 Qd:Qd its
 len:its.length<=150
theorem Told.below {w w':World}{p:Nat}{R:Int->Nd × Int}{root:Int}{its:List Qc}(h:Told w p R root its)(hb:Below w.1.size w w'):Told w' p R root its:=⟨h.src.below hb,h.tree,h.Qd,h.len⟩
theorem Fz.told {b:Nat}{w:World}{d p:Nat}{D:DM}{P:Pl}{root:Int}{its:List Qc}(h:Fz b w d p D P root its)(hr:Qd its)(hl:its.length<=150):Told w p (P.store D) root its:=by
 obtain⟨S0,S,T,H⟩:=h.sys;exact⟨qvb H.U8 H.pool h.Zt.kind h.Zt.good,h.tree,hr,hl⟩
theorem Fz.below {b:Nat}{w w':World}{d p:Nat}{D:DM}{P:Pl}{root:Int}{its:List Qc}(h:Fz b w d p D P root its)(hb:Below w.1.size w w'):Fz b w' d p D P root its:=by
 obtain⟨S0,S,T,H⟩:=h.sys;exact⟨⟨S0,S,T,H.below hb⟩,h.Zt,h.tree,h.n,h.S⟩
section
variable {w:World}{p:Nat}{R:Int->Nd × Int}{root:Int}{its:List Qc}
end
theorem J4.cellV {w:World}{base n c:Nat}{A:Option Addr}{xs:List Qc}(h:J4 w base A n c xs){j:Nat}(hj:j<n):∃b o V p q,A=some ⟨b,o,none⟩/\b<w.1.size/\w.cell? ⟨b,o+j*4+3,none⟩=some (.slice V p q)/\Sl w V p q (Qj xs j).v/\((Qj xs j).v≠[]->∀g,q01 V=some g->base<=g):=by
 have I:=h.Zq.len;obtain⟨f,h1,h2,G⟩:=h;have F:f[j]?=some (f[j]'(by omega)):=List.getElem?_eq_getElem (by omega);obtain⟨B,m,d,e,H,y⟩:=G j _ _ F (q11 (by omega));obtain⟨g,o,rfl,u,_,E⟩:=(h1.Vs (by omega)).2.2.2 j _ F;rw[e] at E;exact⟨g,o,B,m,d,rfl,u,E 3 _ rfl,H,λh g u=>(y h g u).1⟩
theorem qtx {w:World}{p:Nat}{R:Int->Nd × Int}(H:Src w p R)(ht:Tab w)(root:Int)(k:Kd) :
  Calls Tryz.prog 17 #[.pointer (some ⟨p,0,none⟩),.int .i64 root,.agg #[.int .i64 k.obj,.int .i64 k.kind,.int .i64 k.off]] w λe w'=>∃A n c,e=.returned (.tuple #[.slice A n c,.int .i64 (Bl R k root).2])/\Sl w' A n c (Bl R k root).1/\((Bl R k root).1≠[]->∀g,q01 A=some g->w.1.size<=g)/\Below w.1.size w w':=by
 have O:KB ((w.alloc (.cells #[.int .i64 k.obj,.int .i64 k.kind,.int .i64 k.off] 30)).alloc (.cells #[.int .i64 0,.slice none 0 0,.slice none 0 0] 75)) w.1.size k:=(KB.new w k.obj k.kind k.off _).below (Qm) (by simp);have N1:NB ((w.alloc (.cells #[.int .i64 k.obj,.int .i64 k.kind,.int .i64 k.off] 30)).alloc (.cells #[.int .i64 0,.slice none 0 0,.slice none 0 0] 75)) (w.1.size+1) 0 none 0 0 none 0 0:=NB.new2 w _ _ _ _ _ _ _ _ _;have b1:Below w.1.size w ((w.alloc (.cells #[.int .i64 k.obj,.int .i64 k.kind,.int .i64 k.off] 30)).alloc (.cells #[.int .i64 0,.slice none 0 0,.slice none 0 0] 75)):=(Qm).alloc (by simp) _;have z1:((w.alloc (.cells #[.int .i64 k.obj,.int .i64 k.kind,.int .i64 k.off] 30)).alloc (.cells #[.int .i64 0,.slice none 0 0,.slice none 0 0] 75)).1.size=w.1.size+2:=by simp
 have J:=Lib.hid (qgi R k root);have Z:=Lib.hid (λh=>qcv (k:=k) (root:=root) H.may h);obtain⟨F,hF⟩:∃F,Yh R k root=F:=⟨_,rfl⟩;obtain⟨G,Y⟩:∃G,Bl R k root=G:=⟨_,rfl⟩;rw[hF] at J Z;rw[Y] at J ⊢;have HF:=Lib.hid hF;clear hF Y;have k0:=O.c0;have k1:=O.c1;have k2:=O.c2;go_enter Tryz.func17,Tryz.ntmps17
 go_wp2_with fail
 generalize (w.alloc (.cells #[.int .i64 k.obj,.int .i64 k.kind,.int .i64 k.off] 30)).alloc (.cells #[.int .i64 0,.slice none 0 0,.slice none 0 0] 75)=w1 at O N1 b1 z1 k0 k1 k2 ⊢;have I1:GInv w (w.1.size+1) [] (λk=>k=w.1.size+1) w1:=⟨w1.1.size,w1.1.size,none,0,0,none,0,0,N1,qgk w1,.inl (by omega),by omega,by omega,λk=>⟨.inl,λh=>h.elim id λh=>by omega⟩⟩;refine (qgh H qgj b1 ht root k _ I1).mono ?_;rw[HF.out];rintro e w2 ⟨rfl,T,⟨lo,hi,A,n,c,B,m,d,Q,Hd,-,-,a8,-⟩,W,X2⟩;have K2:=O.keep (X2.block _ O.lt (by show ¬w.1.size=w.1.size+1;omega));clear k0 k1 k2 I1;obtain⟨M,hM⟩:∃M,Yj F.1=M:=⟨_,rfl⟩;obtain⟨E,hE⟩:∃E,F.2=E:=⟨_,rfl⟩;rw[hM] at Q Hd;rw[hM,hE] at J Z;rw[hE];clear hM hE HF;by_cases h0:E=0
 ·subst h0;obtain⟨-,I,u⟩:=Z.out rfl;have f:=J.out;rw[if_neg (by simp)] at f;obtain⟨t,y⟩:∃t,M.Za k=t:=⟨_,rfl⟩;obtain⟨r,hr⟩:∃r,Vb M.keys k t=r:=⟨_,rfl⟩;obtain⟨r2,s2⟩:=Hd.rows;have K:M.items.length=n:=r2.Zq.len;have U:=Lib.hid (q22 M I k t y r hr A n c B m d w2 r2.Zq s2 (by have:=Hd.2.1;omega) (by have:=Hd.2.2.1;omega));have p0:=Q.c0;have p1:=Q.c1;have p2:=Q.c2;have k0:=K2.c0;have k1:=K2.c1;have k2:=K2.c2;unfold qel at f;rw[y,hr] at f;rw[y,hr,K] at u;have u:=Lib.hid u;have K:=Lib.hid K;clear I J Z y hr r2 s2
  cases r with
  |false=>
   rw[if_neg (by simp)] at f;subst f;go_wp2_with fail
   refine U.out.mono ?_;rintro e w3 ⟨rfl,X⟩;clear p0 p1 p2 k0 k1 k2;go_wp2_with fail
   go_ret2;exact⟨none,0,0,rfl,q24 _,W.trans (X.mono W.size)⟩
  |true=>
   rw[if_pos rfl] at f;have a6:=u.out rfl;have Hg:=Lib.hid f;clear f;go_wp2_with fail
   refine U.out.mono ?_;rintro e w3 ⟨rfl,X⟩;have q1:=(Q.below X Q.lt).c1;clear p0 p1 p2 k0 k1 k2;obtain⟨r3,-⟩:=(Hd.below X).rows;obtain⟨g,o,V,a,b,rfl,hg,y3,hs,a1⟩:=r3.cellV a6;have a2:=Lib.hid a1;clear a1;have e0:(0:Int)<=(t:Int):=by omega
   have e1:(t:Int)<(n:Int):=by omega
   obtain⟨_,a7⟩:=r3.Zq.bounds;clear r3;go_wp2_with fail
   go_ret2;refine⟨V,a,b,by rw[Hg.out];rfl,by rw[Hg.out];exact hs,by rw[Hg.out];exact λh1 g hg=>by have:=a2.out h1 g hg;omega,W.trans (X.mono W.size)⟩
 ·have f:=J.out;rw[if_pos h0] at f;have g1:(E==0)=false:=by simp[h0]
  have g2:(E != 0)=true:=by simp[h0]
  subst f;clear h0 J Z;go_wp2_with fail
  go_ret2;exact⟨none,0,0,rfl,q24 _,W⟩
theorem Told.Qbg {w:World}{p:Nat}{R:Int->Nd × Int}{root:Int}{its:List Qc}(h:Told w p R root its)(ht:Tab w)(k:Kd)(G:List UInt8 × Int)(hG:Gl (valOf its k)=G) :
  Calls Tryz.prog 17 #[.pointer (some ⟨p,0,none⟩),.int .i64 root,.agg #[.int .i64 k.obj,.int .i64 k.kind,.int .i64 k.off]] w λe f=>∃A n c,e=.returned (.tuple #[.slice A n c,.int .i64 G.2])/\Sl f A n c G.1/\(G.1≠[]->∀g,q01 A=some g->w.1.size<=g)/\Below w.1.size w f:=by
 have:=qtx h.src ht root k;rw[qjx h.tree h.Qd,hG] at this;exact this
