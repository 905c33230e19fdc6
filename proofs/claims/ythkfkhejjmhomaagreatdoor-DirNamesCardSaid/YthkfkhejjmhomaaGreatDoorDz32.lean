/- The code's edit: recount -/
import Derived.Test.YthkfkhejjmhomaaGreatDoorDz31
namespace Go.Proofs.YthkfkhejjmhomaaGreatDoor
open Go Go.RowKit Go.Proofs
set_option maxHeartbeats 8000000
set_option maxRecDepth 100000
theorem Qeg {Q:World->Prop}{N:Nd}{A B:Option Addr}{n c m d:Nat}(h:U6 Q N A n c B m d)(e:N.fit){j:Nat}(q:j<=N.size):j<=if N.lvl=0 then n else m:=by
 have u:=h.size;have f:=h.ln;have g:=h.lm;by_cases h0:N.lvl=0
 ·rw[if_pos h0];have:=e.1 h0;rw[this] at g;simp at g;omega
 ·rw[if_neg h0];have:=e.2 h0;rw[this] at f;simp at f;omega
theorem Qdk {N:Nd}(h:N.fit)(i j:Nat):(N.cut i j).fit:=by
 unfold Nd.cut;by_cases h0:N.lvl=0
 ·rw[if_pos h0];exact⟨λ_=>h.1 h0,λhn=>absurd h0 hn⟩
 ·rw[if_neg h0];exact⟨λe=>absurd e h0,λ_=>h.2 h0⟩
theorem Zal {s:Zz}(h:s.N.fit)(i j:Nat):(Ls s i j).fit:=by
 unfold Ls Wv;constructor
 ·intro h0;have h0:s.N.lvl=0:=h0;have e:=λa b=>(Qdk h a b).1 (by unfold Nd.cut;rw[if_pos h0];exact h0)
  simp[e]
 ·intro h0;have h0:¬s.N.lvl=0:=h0;have e:=λa b=>(Qdk h a b).2 (by unfold Nd.cut;rw[if_neg h0];exact h0)
  simp[e]
theorem Pn (N:Nd)(i j:Nat):(N.cut i j).items.length<=N.items.length/\(N.cut i j).kids.length<=N.kids.length:=by
 unfold Nd.cut;split
 ·refine⟨?_,Nat.le_refl _⟩;show ((N.items.drop i).take (j-i)).length<=_;rw[List.length_take,List.length_drop];omega
 ·refine⟨Nat.le_refl _,?_⟩;show ((N.kids.drop i).take (j-i)).length<=_;rw[List.length_take,List.length_drop];omega
section
variable {b:Nat}{w w':World}{d p:Nat}{S0 S T:Nat->Prop}{D:DM}{P P':Pl}
theorem Qfa (H:Zb b w d p S0 S T D P)(hb:1<b)(ht:Tab w)(s:Zz)(z:s.N.fit)(A:Option Addr)(n c:Nat)(B:Option Addr)(m F:Nat)(O:U6 (Turn S w) s.N A n c B m F)(i j:Nat)(hi:i<=j)(hj:j<=s.N.size)(a8:s.N.size<=20)(R:P.X7 s i j=some P') :
  Calls Tryz.prog 185 #[tv p,spA s A n c B m F,.int .i64 (i:Int),.int .i64 (j:Int)] w λe w'=>e=.returned (.int .i64 0)/\Zb b w' d p S0 S T D P'/\Turn S w w'/\Tab w':=by
 have hS:=H.low;have hn:=O.hn;have hm:=O.hm;have q:=O.size;have K:=Qeg O z hj;have a7:=Zal z i j;obtain⟨N,W,Z,hd,sh⟩:=s;dsimp only at z O hj a8 hn hm q K;have V:RB ((w.alloc (.cells #[.pointer (some ⟨p,0,none⟩)] 173)).alloc (.cells (Nh N.lvl A n c B m F W (Z:Int) hd sh).toArray 180)) w.1.size [.pointer (some ⟨p,0,none⟩)]:=(RB.new w [.pointer (some ⟨p,0,none⟩)] 173).below (Ib) (by simp);have g:RB ((w.alloc (.cells #[.pointer (some ⟨p,0,none⟩)] 173)).alloc (.cells (Nh N.lvl A n c B m F W (Z:Int) hd sh).toArray 180)) (w.1.size+1) (Nh N.lvl A n c B m F W (Z:Int) hd sh):=by
  have:=RB.new (w.alloc (.cells #[.pointer (some ⟨p,0,none⟩)] 173)) (Nh N.lvl A n c B m F W (Z:Int) hd sh) 180;rwa [World.size_alloc] at this
 have E:Below w.1.size w ((w.alloc (.cells #[.pointer (some ⟨p,0,none⟩)] 173)).alloc (.cells (Nh N.lvl A n c B m F W (Z:Int) hd sh).toArray 180)):=(Ib).alloc (by simp) _;unfold Pl.X7 at R;dsimp only at R;unfold tv spA;dsimp only;unfold Nh at V g E
 cases sh with
 |true=>
  rw[if_pos rfl] at R;have HP:=Lib.hid R;clear R;obtain⟨A1,n1,c1,B1,m1,d1,e1,q1,l1⟩:=Qdj O (i:=0) (j:=i) (Nat.zero_le _) (by omega);obtain⟨A2,n2,c2,B2,m2,d2,e2,q2,l2⟩:=Qdj O (i:=j) (j:=N.size) (by omega) (Qeg O z (Nat.le_refl _));have f:=λu=>Qak N.lvl A n c B m F 0 i (Nat.zero_le _) (by omega) ⟨hn.2.1,hn.2.2⟩ ⟨hm.2.1,hm.2.2⟩ u
  have U:=λu=>Qak N.lvl A n c B m F j N.size (by omega) (Qeg O z (Nat.le_refl _)) ⟨hn.2.1,hn.2.2⟩ ⟨hm.2.1,hm.2.2⟩ u
  have HS:=λu=>O0 N.lvl A n c B m F (by omega) (by omega) u
  rw[e1] at f;rw[show ((0:Nat):Int)=0 from rfl] at f;rw[e2] at U;rw[<-q] at HS;unfold Px at f U HS;have f:=Lib.hid f;have U:=Lib.hid U;have HS:=Lib.hid HS;have b2:n+m<=20:=by omega
  clear e1 e2 K q;go_enter Tryz.func185,Tryz.ntmps185
  have x6:=g.cell 6 rfl;go_wp2_with fail
  generalize ((w.alloc (.cells #[.pointer (some ⟨p,0,none⟩)] 173)).alloc (.cells #[.int .i64 N.lvl,.slice A n c,.slice B m F,.int .i64 W,.int .i64 (Z:Int),.bool hd,.bool true] 180))=I at V g E ⊢;have z1:=g.lt;have z0:=E.size;have hF:∀u,Below I.1.size I u->u.cell? ⟨w.1.size,0,none⟩=some (.pointer (some ⟨p,0,none⟩))/\u.cell? ⟨w.1.size+1,0,none⟩=some (.int .i64 N.lvl)/\u.cell? ⟨w.1.size+1,1,none⟩=some (.slice A n c)/\u.cell? ⟨w.1.size+1,2,none⟩=some (.slice B m F):=λu G=>
   ⟨(V.below G V.lt).cell 0 rfl,(g.below G g.lt).cell 0 rfl,(g.below G g.lt).cell 1 rfl,(g.below G g.lt).cell 2 rfl⟩
  have hT:∀u,Below I.1.size I u->∀v,Turn S u v->v.cell? ⟨w.1.size,0,none⟩=some (.pointer (some ⟨p,0,none⟩))/\v.cell? ⟨w.1.size+1,0,none⟩=some (.int .i64 N.lvl)/\v.cell? ⟨w.1.size+1,1,none⟩=some (.slice A n c)/\v.cell? ⟨w.1.size+1,2,none⟩=some (.slice B m F):=λu G v hv=>
   have t1:=(V.below G V.lt).turned hv (λh=>by have:=hS _ h;omega);have x1:=(g.below G g.lt).turned hv (λh=>by have:=hS _ h;omega);⟨t1.cell 0 rfl,x1.cell 0 rfl,x1.cell 1 rfl,x1.cell 2 rfl⟩
  have y:Below I.1.size I I.drew:=(Below.refl _ _).drew;have b3:Ls ⟨N,W,Z,hd,true⟩ i j=Wv N.lvl [N.cut 0 i,N.cut j N.size]:=rfl;have Hj:=(λ(u:World) (G:Below I.1.size I u) (X:Option Addr) (J:Bnl (Turn S w) u X 2 2 [N.cut 0 i,N.cut j N.size])=>Qa4 (S:=S) (w:=u) (λk Y=>by have:=hS k Y;have:=G.size;omega) [N.cut 0 i,N.cut j N.size] N.lvl l1 X 2 2 (by
    obtain⟨b0,r1,r2,r3⟩:=J;exact⟨b0,r1,r2,λj r M hr hM=>by
     obtain⟨A',n',c',B',m',d',e',hq⟩:=r3 j r M hr hM;exact⟨A',n',c',B',m',d',e',hq.mono λv hv=>(Uk (S:=S) (E.trans (G.mono E.size))).trans hv λk Y=>.inl Y⟩⟩) (by omega) (by omega)
    (by have h1:=Pn N 0 i;have h2:=Pn N j N.size;have h3:=O.ln;simp only[List.flatMap_cons,List.flatMap_nil,List.length_append,List.length_nil];omega)
    (by have h1:=Pn N 0 i;have h2:=Pn N j N.size;have h3:=O.lm;simp only[List.flatMap_cons,List.flatMap_nil,List.length_append,List.length_nil];omega))
  unfold Px at Hj;replace Hj:=Lib.hid Hj;have Hr:∀(u:World) (_:Below I.1.size I u) (A':Option Addr) (n' c':Nat) (B':Option Addr) (m' d':Nat) (_:U6 (Turn S u) (Wv N.lvl [N.cut 0 i,N.cut j N.size]) A' n' c' B' m' d'),Calls Tryz.prog 229 #[.agg #[.pointer (some ⟨p,0,none⟩)],.agg #[.int .i64 N.lvl,.slice A' n' c',.slice B' m' d']] u λe w'=>e=.returned (.int .i64 0)/\Zb b w' d p S0 S T D P'/\Turn S u w'/\Tab w':=
   (λu G A' n' c' B' m' d' hq=>Qve (H.below (E.trans (G.mono E.size))) hb (ht.below (E.trans (G.mono E.size)) ht.1) (Ls ⟨N,W,Z,hd,true⟩ i j) a7 A' n' c' B' m' d' hq HP.out)
  replace Hr:=Lib.hid Hr;clear x6;have J:=Lib.hid (λu=>Qmm (Q:=Turn S w) u 178 q1 q2);rw[l1,l2] at J;go_region_held3 (λw'=>w'.cell? ⟨w.1.size,0,none⟩=some (.pointer (some ⟨p,0,none⟩))/\w'.cell? ⟨w.1.size+1,0,none⟩=some (.int .i64 N.lvl)/\w'.cell? ⟨w.1.size+1,1,none⟩=some (.slice A n c)/\w'.cell? ⟨w.1.size+1,2,none⟩=some (.slice B m F))
   (first|(with_reducible assumption)|(with_reducible exact hF _ y)|(with_reducible exact hF _ (y.alloc y.size _))|(with_reducible exact a2.out))
   (first
    |(go_at_call 187;(with_reducible refine (f.out _).mono ?_);rintro e wX ⟨rfl,J⟩;replace y:=y.trans (J.mono y.size);clear J)
    |(go_at_call 187;(with_reducible refine (U.out _).mono ?_);rintro e wX ⟨rfl,J⟩;replace y:=y.trans (J.mono y.size);clear J)
    |(go_at_call 188;(with_reducible refine (HS.out _).mono ?_);rintro e wX ⟨rfl,J⟩;replace y:=y.trans (J.mono y.size);clear J)
    |(go_at_call 186;refine (Hj.out _ (y.alloc y.size _) _ (J.out _)).mono ?_;rintro e wX ⟨A3,n3,c3,B3,m3,d3,rfl,a6,a1⟩;replace y:=(y.alloc y.size _).trans (a1.mono (y.alloc y.size _).size);clear a1)
    |(go_at_call 229;refine (Hr.out _ y _ _ _ _ _ _ a6).mono ?_;rintro e w5 ⟨rfl,H5,X5,t5⟩;have XX:Turn S w w5:=(Uk (S:=S) (E.trans (y.mono E.size))).trans X5 λk Y=>.inl Y;have a2:=Lib.hid (hT _ y _ X5);replace H5:=Lib.hid H5)
    |fail)
  all_goals (go_wp2_with fail;go_ret;exact⟨rfl,H5.out,XX,t5⟩)
 |false=>
  rw[if_neg Bool.false_ne_true] at R;by_cases hl:0<N.lvl
  ·rw[if_pos hl] at R;obtain rfl:=Option.some.inj R;clear R;have H1:=H.below E;have t1:=ht.below E ht.1;have x6:=g.cell 6 rfl;have x0:=g.cell 0 rfl;clear K q;go_enter Tryz.func185,Tryz.ntmps185
   go_wp2;go_ret;exact⟨rfl,H1,Uk E,t1⟩
  ·rw[if_neg hl] at R;have HP:=Lib.hid R;clear R;obtain⟨A1,n1,c1,B1,m1,d1,e1,q1,l1⟩:=Qdj O hi K;have f:=λu=>Qak N.lvl A n c B m F i j hi K ⟨hn.2.1,hn.2.2⟩ ⟨hm.2.1,hm.2.2⟩ u
   rw[e1] at f;unfold Px at f;replace f:=Lib.hid f;have Hr:∀(u:World) (_:Below w.1.size w u),Calls Tryz.prog 230 #[.agg #[.pointer (some ⟨p,0,none⟩)],.agg #[.int .i64 N.lvl,.slice A1 n1 c1,.slice B1 m1 d1]] u λe w'=>e=.returned (.int .i64 0)/\Zb b w' d p S0 S T D P'/\Turn S u w'/\Tab w':=λu G=>by
    have:=Qon (H.below G) hb (ht.below G ht.1) (N.cut i j) (Qdk z i j) A1 n1 c1 B1 m1 d1 (q1.mono λv hv=>(Uk (S:=S) G).trans hv λk Y=>.inl Y) HP.out;rw[l1] at this;exact this
   replace Hr:=Lib.hid Hr;have x6:=g.cell 6 rfl;have x0:=g.cell 0 rfl;clear e1 K q;go_enter Tryz.func185,Tryz.ntmps185
   go_wp2_with fail
   generalize ((w.alloc (.cells #[.pointer (some ⟨p,0,none⟩)] 173)).alloc (.cells #[.int .i64 N.lvl,.slice A n c,.slice B m F,.int .i64 W,.int .i64 (Z:Int),.bool hd,.bool false] 180))=I at V g E x6 x0 ⊢;have g0:∀u:Grown I,u.to.cell? ⟨w.1.size,0,none⟩=some (.pointer (some ⟨p,0,none⟩)):=Grown.cell (V.cell 0 rfl) V.lt;have g1:∀u:Grown I,u.to.cell? ⟨w.1.size+1,0,none⟩=some (.int .i64 N.lvl):=Grown.cell (g.cell 0 rfl) g.lt;have g2:∀u:Grown I,u.to.cell? ⟨w.1.size+1,1,none⟩=some (.slice A n c):=Grown.cell (g.cell 1 rfl) g.lt;have g3:∀u:Grown I,u.to.cell? ⟨w.1.size+1,2,none⟩=some (.slice B m F):=Grown.cell (g.cell 2 rfl) g.lt;refine Oq 6 (by kernel_rfl) (by kernel_rfl) ?_;simp only[List.take_succ_cons,List.take_zero,List.drop_succ_cons,List.drop_zero];repeat (go_big_quiet_step (first|(go_at_call 187;exact Calls.grown (f.out _))|fail))
   refine wpQuiet_nil ?_;rintro _ ⟨u,rfl⟩;have BB:=E.trans (u.ok.mono E.size);go_wp2_with fail
   refine (Hr.out _ BB).mono ?_;rintro e w5 ⟨rfl,H5,X5,t5⟩;go_wp2;go_ret;exact⟨rfl,H5,(Uk (S:=S) BB).trans X5 λk Y=>.inl Y,t5⟩
end
section
attribute [local go_sem ↓] Qj2
section
variable {b:Nat}{w w':World}{d p:Nat}{S0 S T:Nat->Prop}{D:DM}{P P':Pl}
theorem Qk7 (H:Zb b w d p S0 S T D P)(hb:1<b)(ht:Tab w)(b0:∀a b,P.L a=some b->b.kindOk)(s:Zz)(A:Option Addr)(n c:Nat)(B:Option Addr)(m E:Nat)(hB:Vf (Turn S w) B m E s.N.kids)(hl:1<=s.N.lvl/\s.N.lvl<8)(i:Nat)(f:P.Yc D s i=true)(z:(P.W9 D s i).N.may=true)(hP:P.X7 (P.W9 D s i) 0 0=some P') :
  Calls Tryz.prog 234 #[tv p,spA s A n c B m E,.int .i64 (i:Int)] w λe w'=>∃A n c B m E,e=.returned (.tuple #[spA (P.W9 D s i) A n c B m E,.int .i64 0])/\U6 (Turn (λk=>k<w.1.size) w') (P.W9 D s i).N A n c B m E/\Zb b w' d p S0 S T D P'/\Turn S w w'/\Tab w':=by
 have hS:=H.low;have Hk:=λ(u:World) (X:Below w.1.size w u)=>Qoh (H.below X) (ht.below X ht.1) b0 s A n c B m E (λv hv=>hB v ((Uk (S:=S) X).trans hv λk f=>.inl f)) hl i f
 obtain⟨o,ho⟩:∃o,P.W9 D s i=o:=⟨_,rfl⟩;rw[ho] at Hk z hP ⊢;clear f ho hl hB;obtain⟨N,I,J,hd,K⟩:=s;obtain⟨M,oa,ox,oh,os⟩:=o;dsimp only at z;have F:=U0 z;have b5:M.size<=12:=by
  unfold Nd.size;by_cases h0:M.lvl=0
  ·obtain⟨e1,_,_,h6⟩:=q12 z h0;have h7:=F.1 h0;rw[h7];simp;omega
  ·have h6:=(q13 z h0).2.2.2.2.1;have h7:=F.2 h0;rw[h7];simp;omega
 unfold tv spA at Hk;dsimp only at Hk;have T1:RB (((w.alloc (.cells #[.pointer (some ⟨p,0,none⟩)] 173)).alloc (.cells (Nh N.lvl A n c B m E I (J:Int) hd K).toArray 180)).alloc zsp) w.1.size [.pointer (some ⟨p,0,none⟩)]:=(RB.new w [.pointer (some ⟨p,0,none⟩)] 173).below ((Ib).alloc (by simp) _) (by simp);have X1:RB (((w.alloc (.cells #[.pointer (some ⟨p,0,none⟩)] 173)).alloc (.cells (Nh N.lvl A n c B m E I (J:Int) hd K).toArray 180)).alloc zsp) (w.1.size+1) (Nh N.lvl A n c B m E I (J:Int) hd K):=by
  have:=RB.new (w.alloc (.cells #[.pointer (some ⟨p,0,none⟩)] 173)) (Nh N.lvl A n c B m E I (J:Int) hd K) 180;rw[World.size_alloc] at this;exact this.below (Ib) (by simp)
 have R1:RB (((w.alloc (.cells #[.pointer (some ⟨p,0,none⟩)] 173)).alloc (.cells (Nh N.lvl A n c B m E I (J:Int) hd K).toArray 180)).alloc zsp) (w.1.size+2) (Nh 0 none 0 0 none 0 0 0 0 false false):=by
  have:=Nu ((w.alloc (.cells #[.pointer (some ⟨p,0,none⟩)] 173)).alloc (.cells (Nh N.lvl A n c B m E I (J:Int) hd K).toArray 180));rwa [World.size_alloc,World.size_alloc] at this
 have b1:Below w.1.size w (((w.alloc (.cells #[.pointer (some ⟨p,0,none⟩)] 173)).alloc (.cells (Nh N.lvl A n c B m E I (J:Int) hd K).toArray 180)).alloc zsp):=((Ib).alloc (by simp) _).alloc (by simp;omega) _;replace Hk:=Lib.hid Hk;have HP:=Lib.hid hP;clear hP;have y0:=T1.cell 0 rfl;have y:∀(j:Nat) v,(Nh N.lvl A n c B m E I (J:Int) hd K)[j]?=some v->(((w.alloc (.cells #[.pointer (some ⟨p,0,none⟩)] 173)).alloc (.cells (Nh N.lvl A n c B m E I (J:Int) hd K).toArray 180)).alloc zsp).cell? ⟨w.1.size+1,j,none⟩=some v:=λj v hv=>X1.cell j hv
 have x0:=y 0 _ rfl;have x1:=y 1 _ rfl;have x2:=y 2 _ rfl;have x3:=y 3 _ rfl;have x4:=y 4 _ rfl;have x5:=y 5 _ rfl;have x6:=y 6 _ rfl;clear y;unfold tv spA;dsimp only;unfold Nh at T1 X1 R1 b1 y0 x0 x1 x2 x3 x4 x5 x6;go_enter Tryz.func234,Tryz.ntmps234
 go_wp2_with fail
 generalize (((w.alloc (.cells #[.pointer (some ⟨p,0,none⟩)] 173)).alloc (.cells #[.int .i64 N.lvl,.slice A n c,.slice B m E,.int .i64 I,.int .i64 (J:Int),.bool hd,.bool K] 180)).alloc zsp)=G at T1 X1 R1 b1 y0 x0 x1 x2 x3 x4 x5 x6 ⊢;refine (Hk.out G b1).mono ?_;rintro e g ⟨R,Z,c3,U,Y,V,rfl,a2,b2⟩;have z1:=R1.lt;have z0:=b1.size;have z2:=b2.size;have T2:=T1.below b2 T1.lt;have R2:=R1.below b2 R1.lt;clear y0 x0 x1 x2 x3 x4 x5 x6;go_wp2_with (first
  |(refine Le rfl (.tmp 8) _ rfl g.1.size rfl M.lvl R Z c3 U Y V oa (ox:Int) oh os rfl (Nu g) rfl ?_;intro O Q3 TQ)
  |fail)
 have bz:Below g.1.size g (g.alloc zsp):=Ib;have b3:Below g.1.size g O:=bz.trans (TQ.below (λk f=>by have:k=g.1.size:=f;omega) bz.size);have T3:=T2.below b3 T2.lt;have R3:=R2.below b3 R2.lt;have BB:=b1.trans ((b2.trans (b3.mono b2.size)).mono b1.size);clear T1 X1 R1 T2 R2 TQ bz;have z3:=b3.size;have zQ:=Q3.lt;have q:=λ(u:World) (X:Zb b u d p S0 S (grow T w G) D P) (b4:Tab u) (hx:Turn (λk=>k<G.1.size) g u)=>Qfa X hb b4 ⟨M,oa,ox,oh,os⟩ F R Z c3 U Y V (a2.mono λv hv=>hx.trans hv λk f=>.inl (by have:=hS k f;show k<G.1.size;omega)) 0 0 (Nat.le_refl _) (Nat.zero_le _) (by show M.size<=20;omega) HP.out
 unfold tv spA at q;dsimp only at q;rw[show ((0:Nat):Int)=0 from rfl] at q;replace q:=Lib.hid q;have bD:Below O.1.size O O.drew:=(Below.refl _ _).drew;have HD:Zb b O.drew d p S0 S (grow T w G) D P:=(H.more b1).below ((b2.trans (b3.mono b2.size)).trans (bD.mono (by omega)));have tD:Tab O.drew:=ht.below (BB.trans (bD.mono BB.size)) ht.1;have cells:∀u,Turn (λk=>S k\/k=w.1.size+2) O u->u.cell? ⟨w.1.size,0,none⟩=some (.pointer (some ⟨p,0,none⟩))/\u.cell? ⟨g.1.size,0,none⟩=some (.int .i64 M.lvl)/\u.cell? ⟨g.1.size,1,none⟩=some (.slice R Z c3)/\u.cell? ⟨g.1.size,2,none⟩=some (.slice U Y V)/\u.cell? ⟨g.1.size,3,none⟩=some (.int .i64 oa)/\u.cell? ⟨g.1.size,4,none⟩=some (.int .i64 (ox:Int))/\u.cell? ⟨g.1.size,5,none⟩=some (.bool oh)/\u.cell? ⟨g.1.size,6,none⟩=some (.bool os):=λu X=>
  have t1:=T3.turned X (λh=>h.elim (λh=>by have:=hS _ h;omega) λh=>by omega);have q1:=Q3.turned X (λh=>h.elim (λh=>by have:=hS _ h;omega) λh=>by omega);⟨t1.cell 0 rfl,q1.cell 0 rfl,q1.cell 1 rfl,q1.cell 2 rfl,q1.cell 3 rfl,q1.cell 4 rfl,q1.cell 5 rfl,q1.cell 6 rfl⟩
 have c1:=cells O.drew (Uk bD);go_region_held3 (λu=>u.cell? ⟨w.1.size,0,none⟩=some (.pointer (some ⟨p,0,none⟩))/\u.cell? ⟨g.1.size,0,none⟩=some (.int .i64 M.lvl)/\u.cell? ⟨g.1.size,1,none⟩=some (.slice R Z c3)/\u.cell? ⟨g.1.size,2,none⟩=some (.slice U Y V)/\u.cell? ⟨g.1.size,3,none⟩=some (.int .i64 oa)/\u.cell? ⟨g.1.size,4,none⟩=some (.int .i64 (ox:Int))/\u.cell? ⟨g.1.size,5,none⟩=some (.bool oh)/\u.cell? ⟨g.1.size,6,none⟩=some (.bool os))
  (first|(with_reducible assumption)|(with_reducible exact a7.out)|(with_reducible exact a8.out))
  (first
   |(go_at_call 185;(with_reducible refine (q.out O.drew HD tD ((Uk (S:=λk=>k<G.1.size) b3).trans (Uk (S:=λk=>k<G.1.size) bD) λk f=>.inl f)).mono ?_);rintro e w5 ⟨rfl,H5,X5,t5⟩;have XX:Turn S O w5:=(Uk (S:=S) bD).trans X5 λk f=>.inl f;have a7:=Lib.hid (cells w5 (XX.mono λk f=>.inl f));have T6:Turn (λk=>k=w.1.size+2) w5 (w5.setCells (w.1.size+2) 0 (Nh M.lvl R Z c3 U Y V oa (ox:Int) oh os)):=Gg (S:=λk=>k=w.1.size+2) rfl _ 0 w5;have a8:=Lib.hid (cells _ ((XX.mono (S':=λk=>S k\/k=w.1.size+2) λk f=>.inl f).trans T6 λk f=>.inl (.inr f)));replace H5:=Lib.hid H5;have R5:=R3.turned XX (λh=>by have:=hS _ h;omega);have b6:=Qne R5 rfl M.lvl R Z c3 U Y V oa (ox:Int) oh os;have R6:=Lib.hid (R5.stored (Nh M.lvl R Z c3 U Y V oa (ox:Int) oh os) rfl))
   |fail)
 go_wp2_with fail
 have b7:=X5.size;refine bodyPost_ret (Md Tryz.results234 rfl (Qbr R6.out)) rfl ?_;have a6:∀k,S k->k<G.1.size:=λk f=>by have:=hS k f;omega
 have zX:=XX.size;refine⟨R,Z,c3,U,Y,V,rfl,Qht a2 (((Uk (S:=λk=>k<G.1.size) b3).trans XX λk f=>.inl (a6 k f)).trans T6 λk f=>.inl (by have:k=w.1.size+2:=f;show k<G.1.size;omega)) z0,?_,?_,?_⟩
 ·have W:=H.sub;have a1:=H.Va;have h2:grow T w G (w.1.size+2):=⟨.inr (by omega),by omega⟩;have Ho:=H5.out.own T6 (λk f=>by have:k=w.1.size+2:=f;rw[this];exact h2) (λk f h=>by have:k=w.1.size+2:=f;have:=(H.tight k (W k h)).2;omega) (λk f h=>by have:k=w.1.size+2:=f;have:=hS k h;omega);exact Ho.less (λk f=>⟨.inl f,by have:=(H.tight k f).2;omega⟩) W a1
 ·exact ((Uk (S:=S) BB).trans XX λk f=>.inl f).trans T6 λk f=>.inr (by have:k=w.1.size+2:=f;omega)
 ·exact t5.turned T6 (λh=>by have h:1=w.1.size+2:=h;have:=ht.1;omega)
end
end
theorem TBn:Bc Tryz.prog 315 178 3 56 (.agg #[.int .i64 0,.slice none 0 0,.slice none 0 0]):=⟨Tryz.underlying315,by kernel_rfl,rfl,by omega⟩
def Qe2 (Q:World->Prop)(w:World)(base:Nat)(A:Option Addr)(n c:Nat)(Ns:List Nd):Prop:=
 ∃e,Qr w base 178 3 A n c e/\e.length=Ns.length/\∀(j:Nat) r N,e[j]?=some r->Ns[j]?=some N->∃A n c B m d,r=Cj N.lvl A n c B m d/\U6 Q N A n c B m d
section
variable {Q:World->Prop}{w w':World}{base n c:Nat}{A:Option Addr}{Ns:List Nd}
theorem Qxu (Q:World->Prop)(w:World)(base:Nat):Qe2 Q w base none 0 0 []:=⟨[],Lp _ _ _ _,rfl,λj r x e=>by simp at e⟩
theorem Qe2.below (h:Qe2 Q w base A n c Ns)(hb:Below w.1.size w w'):Qe2 Q w' base A n c Ns:=by
 obtain⟨e,h1,h2⟩:=h;exact⟨e,h1.below hb,h2⟩
theorem Qe2.bnl (h:Qe2 Q w base A n c Ns):Bnl Q w A n c Ns:=by
 obtain⟨e,h1,h2⟩:=h;exact⟨e,h1.Hr (by omega),h2⟩
theorem Qe2.Zx (h:Qe2 Q w base A n c Ns):∀k,Xq A=some k->base<=k/\k<w.1.size:=by
 obtain⟨e,h1,_⟩:=h;exact h1.Zx
theorem Qkq (ty:TypeId)(q:Qe2 Q w base A n c Ns){B:Option Addr}{d:Nat}{N:Nd}{G:Option Addr}{K c1:Nat}{H:Option Addr}{J I:Nat}
  (e:Zg w 3 B 1 d [Cj N.lvl G K c1 H J I]) (U:U6 Q N G K c1 H J I) (hn:n<=1000) (f:base<=w.1.size) :
  ∃E F w',(Builtin.append_ #[315,315] ty #[.slice A n c,.slice B 1 d]).run Tryz.prog w=.ok (.slice E (n+1) F) w'/\Qe2 Q w' base E (n+1) F (Ns++[N])/\Below base w w':=by
 obtain⟨g,h1,h2,M⟩:=q;obtain⟨E,F,w',u,z,O⟩:=Qfw (P:=Tryz.prog) w TBn ty base A n c g h1 B 1 d _ e (by omega) (Qzw _ _ _ _ _ _ _) (by omega) (by omega) f;refine⟨E,F,w',u,⟨_,z,by simp[h2],λj V x e y=>?_⟩,O⟩;by_cases R:j<g.length
 ·rw[List.getElem?_append_left R] at e;rw[List.getElem?_append_left (by omega)] at y;exact M j V x e y
 ·rw[List.getElem?_append_right (by omega)] at e y;have m:j-g.length=0:=by
   have:=(List.getElem?_eq_some_iff.1 e).1;simp at this;omega
  rw[m] at e;rw[<-h2,m] at y;obtain rfl:=Option.some.inj e;obtain rfl:=Option.some.inj y;exact⟨_,_,_,_,_,_,rfl,U⟩
theorem Qj3 {o:Oper}{a:Act}{K:Act->World->Prop}{H:Exit->Act->World->Prop}(G x:Operand)
  (J:o.op=.call { callee:=.builtin .append,args:=#[G,x],argTypes:=#[315,315] })
  (R:a.eval G=.slice A n c) (f:Qe2 Q w base A n c Ns) {B:Option Addr} {d:Nat} (U:a.eval x=.slice B 1 d) {N:Nd} {u:Option Addr} {F c1:Nat} {y:Option Addr} {E z:Nat}
  (O:Zg w 3 B 1 d [Cj N.lvl u F c1 y E z]) (M:U6 Q N u F c1 y E z) (hn:n<=1000) (e:base<=w.1.size)
  (h:∀m q w',Qe2 Q w' base m (n+1) q (Ns++[N])->Below base w w'->K (a.put o.dst (.slice m (n+1) q)) w') :
  Oper.wp Tryz.prog o a w K H:=by
 obtain⟨m,q,w',g,h2,I⟩:=Qkq (ty:=o.type) f O M hn e;unfold Oper.wp execOp;simp only[J,resolve,invoke,builtin,Sem.run_bind,Sem.run_pure,Result.andThen_ok,List.map_toArray,List.map_cons,List.map_nil,R,U,g];exact h m q w' h2 I
end
theorem Zct (w:World)(l:Int)(A:Option Addr)(n c:Nat)(B:Option Addr)(m d:Nat):Zg (w.alloc (.cells #[.int .i64 l,.slice A n c,.slice B m d] 178)) 3 (some ⟨w.1.size,0,none⟩) 1 1 [Cj l A n c B m d]:=(Np w 178 3 (Cj l A n c B m d) _ rfl rfl).Hr (by omega)
theorem Qps {N:Nd}{j:Nat}(h:j<parts N):(pieces N).take (j+1)=(pieces N).take j++[N.cut (N.size*j / parts N) (N.size*(j+1) / parts N)]:=by
 have e:(pieces N).length=parts N:=by unfold pieces;simp
 rw[List.take_succ_eq_append_getElem (by omega)];congr 2
 unfold pieces;simp
theorem Qol {Q:World->Prop}{N:Nd}{A B:Option Addr}{n c m d:Nat}(hB:U6 Q N A n c B m d)(a1:N.fit)(d8:N.size<=60)(w:World) :
  Calls Tryz.prog 235 #[Px N.lvl A n c B m d] w λe w'=>∃X k U,e=.returned (.slice X k U)/\Qe2 Q w' w.1.size X k U (pieces N)/\Below w.1.size w w':=by
 have F:=hB.size;have hn:=hB.hn;have hm:=hB.hm;obtain⟨z,hz⟩:∃z,N.size=z:=⟨_,rfl⟩;obtain⟨P,hP⟩:∃P,parts N=P:=⟨_,rfl⟩;obtain⟨f,G⟩:∃f,Iw N.lvl=f:=⟨_,rfl⟩;have d2:6<=f/\f<=12:=by rw[<-G];unfold Iw;split<;>omega
 have O:(z+f-1) / f=P:=by rw[<-hP,<-hz,<-G];rfl
 have c6:P<=100:=by rw[<-O];exact Nat.le_trans (Nat.div_le_self _ _) (by omega)
 have M:NB (w.alloc (.cells #[.int .i64 N.lvl,.slice A n c,.slice B m d] 178)) w.1.size N.lvl A n c B m d:=NB.new w _ _ _ _ _ _ _ _;have b1:Below w.1.size w (w.alloc (.cells #[.int .i64 N.lvl,.slice A n c,.slice B m d] 178)):=Ib;have HL:=λu=>Qae N.lvl A n c B m d u
 have Z:=λu=>O0 N.lvl A n c B m d (by omega) (by omega) u
 rw[G] at HL;rw[<-F,hz] at Z;have c0:=M.c0;have c1:=M.c1;have c2:=M.c2;unfold Px at HL Z ⊢;replace HL:=Lib.hid HL;replace Z:=Lib.hid Z;have d9:IntKind.i64.wrap ((z:Int)+(f:Int))=((z+f:Nat):Int):=by rw[show (z:Int)+(f:Int)=((z+f:Nat):Int) by omega];exact IntWalk.i64_in _ (by omega)
 have e5:IntKind.i64.wrap (((z+f:Nat):Int)-1)=((z+f-1:Nat):Int):=by rw[show ((z+f:Nat):Int)-1=((z+f-1:Nat):Int) by omega];exact IntWalk.i64_in _ (by omega)
 have hq:((z:Int)+(f:Int)-1) / (f:Int)=(P:Int):=by
  rw[<-O,show (z:Int)+(f:Int)-1=((z+f-1:Nat):Int) by omega];exact (Int.natCast_ediv _ _).symm
 have d0:((f:Int)==0)=false:=by simp;omega
 go_enter Tryz.func235,Tryz.ntmps235
 go_wp2_with fail
 generalize w.alloc (.cells #[.int .i64 N.lvl,.slice A n c,.slice B m d] 178)=w1 at M b1 c0 c1 c2 ⊢;refine (HL.out w1).mono ?_;rintro e w2 ⟨rfl,b2⟩;have N2:=M.below b2 M.lt;have c0:=N2.c0;have c1:=N2.c1;have c2:=N2.c2;go_wp2_with fail
 refine (Z.out w2).mono ?_;rintro e w3 ⟨rfl,b3⟩;have N3:=N2.below b3 N2.lt;have BB:=b1.trans ((b2.trans (b3.mono b2.size)).mono b1.size);have z1:=N3.lt;clear c0 c1 c2 M N2 b1 b2 b3;go_wp2_with fail
 simp only[hq];clear hq;go_loopw [6,21] (λl i wr=>∃(j:Nat) (X:Option Addr) (U:Nat),j<=P/\i=.int .i64 (j:Int)/\l=.slice X j U/\Qe2 Q wr (w.1.size+1) X j U ((pieces N).take j)/\NB wr w.1.size N.lvl A n c B m d/\Below w.1.size w wr) (λ_ i _=>P-(intOf i).toNat)
 case atStart=>exact⟨0,none,0,Nat.zero_le _,rfl,rfl,Qxu _ _ _,N3,BB⟩
 case round=>
  obtain⟨j,X,U,hj,rfl,rfl,own,NN,hb⟩:=hrel;have zN:=NN.lt;have zb:=hb.size;have V:w.1.size+1<=wr.1.size:=zN;by_cases b7:j<P
  ·have HT:=Lib.hid (Qps (N:=N) (j:=j) (by rw[hP];exact b7));obtain⟨lo,E⟩:∃lo,z*j / P=lo:=⟨_,rfl⟩;obtain⟨hi,q⟩:∃hi,z*(j+1) / P=hi:=⟨_,rfl⟩;have a2:lo<=hi:=by rw[<-E,<-q];exact Nat.div_le_div_right (Nat.mul_le_mul_left _ (by omega))
   have d6:hi<=z:=by
    rw[<-q];exact Nat.le_trans (Nat.div_le_div_right (Nat.mul_le_mul_left z (show j+1<=P by omega))) (by rw[Nat.mul_div_cancel _ (by omega)];exact Nat.le_refl _)
   have R:=Qeg hB a1 (j:=hi) (by omega);obtain⟨W,n1,c1,Y,m1,d1,e1,q1,l1⟩:=Qdj hB a2 R;have HC:=λu=>Qak N.lvl A n c B m d lo hi a2 R ⟨hn.2.1,hn.2.2⟩ ⟨hm.2.1,hm.2.2⟩ u
   rw[e1] at HC;unfold Px at HC;replace HC:=Lib.hid HC;have b8:z*j<=6000:=by have:=Nat.mul_le_mul (show z<=60 by omega) (show j<=100 by omega);omega
   have a7:z*(j+1)<=6060:=by have:=Nat.mul_le_mul (show z<=60 by omega) (show j+1<=101 by omega);omega
   have c8:((P:Int)==0)=false:=by simp;omega
   obtain⟨p1,H⟩:∃p1,z*j=p1:=⟨_,rfl⟩;obtain⟨p2,I⟩:∃p2,z*(j+1)=p2:=⟨_,rfl⟩;rw[H] at b8 E;rw[I] at a7 q;have v1:IntKind.i64.wrap ((z:Int)*(j:Int))=(p1:Int):=by rw[<-H,<-Int.natCast_mul];exact IntWalk.i64_in _ (by omega)
   have v2:IntKind.i64.wrap ((z:Int)*((j:Int)+1))=(p2:Int):=by rw[show (z:Int)*((j:Int)+1)=((z*(j+1):Nat):Int) by rw[Int.natCast_mul];rfl,I];exact IntWalk.i64_in _ (by omega)
   have v3:(p1:Int) / (P:Int)=(lo:Int):=by rw[<-E];exact (Int.natCast_ediv _ _).symm
   have v4:(p2:Int) / (P:Int)=(hi:Int):=by rw[<-q];exact (Int.natCast_ediv _ _).symm
   have b6:lo<=60:=by omega
   have b5:hi<=60:=by omega
   have v5:IntKind.i64.wrap (hi:Int)=(hi:Int):=IntWalk.i64_in _ (by omega);have v6:IntKind.i64.wrap (lo:Int)=(lo:Int):=IntWalk.i64_in _ (by omega);obtain⟨J,hJ⟩:∃J,j+1=J:=⟨_,rfl⟩;have e0:IntKind.i64.wrap ((j:Int)+1)=(J:Int):=by rw[<-hJ];exact IntWalk.i64_in _ (by omega)
   have e2:IntKind.i64.wrap ((z:Int)*(J:Int))=(p2:Int):=by rw[<-hJ];exact v2
   have e3:(p1:Int).tdiv (P:Int)=(lo:Int):=by rw[<-v3];exact Int.tdiv_eq_ediv_of_nonneg (by omega)
   have e4:(p2:Int).tdiv (P:Int)=(hi:Int):=by rw[<-v4];exact Int.tdiv_eq_ediv_of_nonneg (by omega)
   replace hJ:=Lib.hid hJ;have a8:¬(P:Int)=0:=by omega
   have c7:¬P=0:=by omega
   have d4:decide ((P:Int)=0)=false:=decide_eq_false a8;have d3:z<=60:=by omega
   have b4:=Lib.hid (show (pieces N).take (j+1)=(pieces N).take j++[N.cut lo hi] by rw[HT.out,hP,hz,H,I,E,q]);have a6:=Lib.hid (λ(u:World)=>(l1.symm▸Zct u N.lvl W n1 c1 Y m1 d1:Zg (u.alloc (.cells #[.int .i64 N.lvl,.slice W n1 c1,.slice Y m1 d1] 178)) 3 (some ⟨u.1.size,0,none⟩) 1 1 [Cj (N.cut lo hi).lvl W n1 c1 Y m1 d1]));clear e1 R hz hP F H I E q HT G O l1;have cells:∀u,Below (w.1.size+1) wr u->u.cell? ⟨w.1.size,0,none⟩=some (.int .i64 N.lvl)/\u.cell? ⟨w.1.size,1,none⟩=some (.slice A n c)/\u.cell? ⟨w.1.size,2,none⟩=some (.slice B m d):=λu hu=>
    have N':=NN.below hu (by omega);⟨N'.c0,N'.c1,N'.c2⟩
   have g:Below wr.1.size wr wr.drew:=(Below.refl _ _).drew;go_wp2_with fail
   go_region_held3 (λu=>u.cell? ⟨w.1.size,0,none⟩=some (.int .i64 N.lvl)/\u.cell? ⟨w.1.size,1,none⟩=some (.slice A n c)/\u.cell? ⟨w.1.size,2,none⟩=some (.slice B m d))
    (first|(with_reducible assumption)|(with_reducible exact cells _ (g.mono V))|(with_reducible exact cells _ ((g.alloc g.size _).mono V))|(with_reducible exact b0.out))
    (first
     |(go_at_call 188;(with_reducible refine (Z.out _).mono ?_);rintro e wX ⟨rfl,hX⟩;replace g:=g.trans (hX.mono g.size);clear hX)
     |(go_at_call 187;(with_reducible refine (HC.out _).mono ?_);rintro e wX ⟨rfl,hX⟩;replace g:=g.trans (hX.mono g.size);clear hX)
     |(rw[if_pos (by rfl)];refine Qj3 (Q:=Q) (base:=w.1.size+1) (.tmp 24) (.tmp 40) (by rfl) (by rfl) (own.below (g.alloc g.size (.cells #[.int .i64 N.lvl,.slice W n1 c1,.slice Y m1 d1] 178))) (by rfl) (a6.out _) q1 (by omega) (by have:=(g.alloc g.size (.cells #[.int .i64 N.lvl,.slice W n1 c1,.slice Y m1 d1] 178)).size;omega) ?_;intro X' b9 w6 K y;have bA:=g.alloc g.size (.cells #[.int .i64 N.lvl,.slice W n1 c1,.slice Y m1 d1] 178);have y:=(bA.mono V).trans y;have b0:=Lib.hid (cells w6 y))
     |fail)
   all_goals (
    go_wp2_with fail
    rw[<-b4.out] at K;exact⟨⟨j+1,X',b9,by omega,by rw[<-hJ.out],rfl,K,NN.below y (by omega),hb.trans (y.mono (by omega))⟩,by simp[intOf];have:=hJ.out;omega⟩)
  ·have d7:P<=j:=by omega
   have d5:¬(j:Int)<(P:Int):=by omega
   have c9:(pieces N).length=P:=by rw[<-hP];unfold pieces;simp
   rw[List.take_of_length_le (by omega)] at own;go_wp2;go_ret;exact⟨X,j,U,rfl,⟨own.choose,own.choose_spec.1.less (by omega),own.choose_spec.2⟩,hb⟩
