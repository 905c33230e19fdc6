/- The code's edit: recount -/
import Derived.Test.YthkfkhejjmhomaaGreatDoorEs29
namespace Go.Proofs.YthkfkhejjmhomaaGreatDoor
open Go Go.RowKit Go.Proofs
set_option maxHeartbeats 8000000
set_option maxRecDepth 100000
theorem qau {Q:World->Prop}{N:Nd}{A B:Option Addr}{n c m d:Nat}(h:Jg Q N A n c B m d)(e:N.fit){j:Nat}(y:j<=N.size):j<=if N.lvl=0 then n else m:=by
 have E:=h.size;have f:=h.ln;have u:=h.lm;by_cases h0:N.lvl=0
 ·rw[if_pos h0];have:=e.1 h0;rw[this] at u;simp at u;omega
 ·rw[if_neg h0];have:=e.2 h0;rw[this] at f;simp at f;omega
theorem q8c {N:Nd}(h:N.fit)(i j:Nat):(N.cut i j).fit:=by
 unfold Nd.cut;by_cases h0:N.lvl=0
 ·rw[if_pos h0];exact⟨λ_=>h.1 h0,λhn=>absurd h0 hn⟩
 ·rw[if_neg h0];exact⟨λe=>absurd e h0,λ_=>h.2 h0⟩
theorem qub {s:Qs}(h:s.N.fit)(i j:Nat):(Zq s i j).fit:=by
 unfold Zq Zz;constructor
 ·intro h0;have h0:s.N.lvl=0:=h0;have e:=λa b=>(q8c h a b).1 (by unfold Nd.cut;rw[if_pos h0];exact h0)
  simp[e]
 ·intro h0;have h0:¬s.N.lvl=0:=h0;have e:=λa b=>(q8c h a b).2 (by unfold Nd.cut;rw[if_neg h0];exact h0)
  simp[e]
theorem q2d (N:Nd)(i j:Nat):(N.cut i j).items.length<=N.items.length/\(N.cut i j).kids.length<=N.kids.length:=by
 unfold Nd.cut;split
 ·refine⟨?_,Nat.le_refl _⟩;show ((N.items.drop i).take (j-i)).length<=_;rw[List.length_take,List.length_drop];omega
 ·refine⟨Nat.le_refl _,?_⟩;show ((N.kids.drop i).take (j-i)).length<=_;rw[List.length_take,List.length_drop];omega
section
variable {b:Nat}{w w':World}{d p:Nat}{S0 S T:Nat->Prop}{D:DM}{P P':Pl}
theorem q94 (H:Qe b w d p S0 S T D P)(hb:1<b)(ht:Tab w)(s:Qs)(G:s.N.fit)(A:Option Addr)(n c:Nat)(B:Option Addr)(m J:Nat)(W:Jg (Turn S w) s.N A n c B m J)(i j:Nat)(hi:i<=j)(hj:j<=s.N.size)(a4:s.N.size<=20)(Y:P.Qv s i j=some P') :
  Calls Tryz.prog 185 #[tv p,Vb s A n c B m J,.int .i64 (i:Int),.int .i64 (j:Int)] w λe w'=>e=.returned (.int .i64 0)/\Qe b w' d p S0 S T D P'/\Turn S w w'/\Tab w':=by
 have hS:=H.low;have hn:=W.hn;have hm:=W.hm;have E:=W.size;have U:=qau W G hj;have a3:=qub G i j;obtain⟨N,ad,nx,hd,sh⟩:=s;dsimp only at G W hj a4 hn hm E U;have T1:RB ((w.alloc (.cells #[.pointer (some ⟨p,0,none⟩)] 173)).alloc (.cells (Jc N.lvl A n c B m J ad (nx:Int) hd sh).toArray 180)) w.1.size [.pointer (some ⟨p,0,none⟩)]:=(RB.new w [.pointer (some ⟨p,0,none⟩)] 173).below (Qn) (by simp);have y:RB ((w.alloc (.cells #[.pointer (some ⟨p,0,none⟩)] 173)).alloc (.cells (Jc N.lvl A n c B m J ad (nx:Int) hd sh).toArray 180)) (w.1.size+1) (Jc N.lvl A n c B m J ad (nx:Int) hd sh):=by
  have:=RB.new (w.alloc (.cells #[.pointer (some ⟨p,0,none⟩)] 173)) (Jc N.lvl A n c B m J ad (nx:Int) hd sh) 180;rwa [World.size_alloc] at this
 have I:Below w.1.size w ((w.alloc (.cells #[.pointer (some ⟨p,0,none⟩)] 173)).alloc (.cells (Jc N.lvl A n c B m J ad (nx:Int) hd sh).toArray 180)):=(Qn).alloc (by simp) _;unfold Pl.Qv at Y;dsimp only at Y;unfold tv Vb;dsimp only;unfold Jc at T1 y I
 cases sh with
 |true=>
  rw[if_pos rfl] at Y;have HP:=Lib.hid Y;clear Y;obtain⟨A1,n1,c1,B1,m1,d1,e1,q1,l1⟩:=q89 W (i:=0) (j:=i) (Nat.zero_le _) (by omega);obtain⟨A2,n2,c2,B2,m2,d2,e2,q2,l2⟩:=q89 W (i:=j) (j:=N.size) (by omega) (qau W G (Nat.le_refl _));have f:=λu=>q3n N.lvl A n c B m J 0 i (Nat.zero_le _) (by omega) ⟨hn.2.1,hn.2.2⟩ ⟨hm.2.1,hm.2.2⟩ u
  have Z:=λu=>q3n N.lvl A n c B m J j N.size (by omega) (qau W G (Nat.le_refl _)) ⟨hn.2.1,hn.2.2⟩ ⟨hm.2.1,hm.2.2⟩ u
  have HS:=λu=>q1z N.lvl A n c B m J (by omega) (by omega) u
  rw[e1] at f;rw[show ((0:Nat):Int)=0 from rfl] at f;rw[e2] at Z;rw[<-E] at HS;unfold Xo at f Z HS;have f:=Lib.hid f;have Z:=Lib.hid Z;have HS:=Lib.hid HS;have a6:n+m<=20:=by omega
  clear e1 e2 U E;go_enter Tryz.func185,Tryz.ntmps185
  have x6:=y.cell 6 rfl;go_wp2_with fail
  generalize ((w.alloc (.cells #[.pointer (some ⟨p,0,none⟩)] 173)).alloc (.cells #[.int .i64 N.lvl,.slice A n c,.slice B m J,.int .i64 ad,.int .i64 (nx:Int),.bool hd,.bool true] 180))=O at T1 y I ⊢;have z1:=y.lt;have z0:=I.size;have hF:∀u,Below O.1.size O u->u.cell? ⟨w.1.size,0,none⟩=some (.pointer (some ⟨p,0,none⟩))/\u.cell? ⟨w.1.size+1,0,none⟩=some (.int .i64 N.lvl)/\u.cell? ⟨w.1.size+1,1,none⟩=some (.slice A n c)/\u.cell? ⟨w.1.size+1,2,none⟩=some (.slice B m J):=λu K=>
   ⟨(T1.below K T1.lt).cell 0 rfl,(y.below K y.lt).cell 0 rfl,(y.below K y.lt).cell 1 rfl,(y.below K y.lt).cell 2 rfl⟩
  have hT:∀u,Below O.1.size O u->∀v,Turn S u v->v.cell? ⟨w.1.size,0,none⟩=some (.pointer (some ⟨p,0,none⟩))/\v.cell? ⟨w.1.size+1,0,none⟩=some (.int .i64 N.lvl)/\v.cell? ⟨w.1.size+1,1,none⟩=some (.slice A n c)/\v.cell? ⟨w.1.size+1,2,none⟩=some (.slice B m J):=λu K v hv=>
   have t1:=(T1.below K T1.lt).turned hv (λh=>by have:=hS _ h;omega);have x1:=(y.below K y.lt).turned hv (λh=>by have:=hS _ h;omega);⟨t1.cell 0 rfl,x1.cell 0 rfl,x1.cell 1 rfl,x1.cell 2 rfl⟩
  have F:Below O.1.size O O.drew:=(Below.refl _ _).drew;have a7:Zq ⟨N,ad,nx,hd,true⟩ i j=Zz N.lvl [N.cut 0 i,N.cut j N.size]:=rfl;have Hj:=(λ(u:World) (K:Below O.1.size O u) (X:Option Addr) (R:G5 (Turn S w) u X 2 2 [N.cut 0 i,N.cut j N.size])=>q4a (S:=S) (w:=u) (λk hk=>by have:=hS k hk;have:=K.size;omega) [N.cut 0 i,N.cut j N.size] N.lvl l1 X 2 2 (by
    obtain⟨a5,r1,r2,r3⟩:=R;exact⟨a5,r1,r2,λj r M hr hM=>by
     obtain⟨A',n',c',B',m',d',e',hq⟩:=r3 j r M hr hM;exact⟨A',n',c',B',m',d',e',hq.mono λv hv=>(Qu (S:=S) (I.trans (K.mono I.size))).trans hv λk hk=>.inl hk⟩⟩) (by omega) (by omega)
    (by have h1:=q2d N 0 i;have h2:=q2d N j N.size;have h3:=W.ln;simp only[List.flatMap_cons,List.flatMap_nil,List.length_append,List.length_nil];omega)
    (by have h1:=q2d N 0 i;have h2:=q2d N j N.size;have h3:=W.lm;simp only[List.flatMap_cons,List.flatMap_nil,List.length_append,List.length_nil];omega))
  unfold Xo at Hj;replace Hj:=Lib.hid Hj;have Hr:∀(u:World) (_:Below O.1.size O u) (A':Option Addr) (n' c':Nat) (B':Option Addr) (m' d':Nat) (_:Jg (Turn S u) (Zz N.lvl [N.cut 0 i,N.cut j N.size]) A' n' c' B' m' d'),Calls Tryz.prog 229 #[.agg #[.pointer (some ⟨p,0,none⟩)],.agg #[.int .i64 N.lvl,.slice A' n' c',.slice B' m' d']] u λe w'=>e=.returned (.int .i64 0)/\Qe b w' d p S0 S T D P'/\Turn S u w'/\Tab w':=
   (λu K A' n' c' B' m' d' hq=>qq8 (H.below (I.trans (K.mono I.size))) hb (ht.below (I.trans (K.mono I.size)) ht.1) (Zq ⟨N,ad,nx,hd,true⟩ i j) a3 A' n' c' B' m' d' hq HP.out)
  replace Hr:=Lib.hid Hr;clear x6;have R:=Lib.hid (λu=>qii (Q:=Turn S w) u 178 q1 q2);rw[l1,l2] at R;go_region_held3 (λw'=>w'.cell? ⟨w.1.size,0,none⟩=some (.pointer (some ⟨p,0,none⟩))/\w'.cell? ⟨w.1.size+1,0,none⟩=some (.int .i64 N.lvl)/\w'.cell? ⟨w.1.size+1,1,none⟩=some (.slice A n c)/\w'.cell? ⟨w.1.size+1,2,none⟩=some (.slice B m J))
   (first|(with_reducible assumption)|(with_reducible exact hF _ F)|(with_reducible exact hF _ (F.alloc F.size _))|(with_reducible exact a1.out))
   (first
    |(go_at_call 187;(with_reducible refine (f.out _).mono ?_);rintro e wX ⟨rfl,R⟩;replace F:=F.trans (R.mono F.size);clear R)
    |(go_at_call 187;(with_reducible refine (Z.out _).mono ?_);rintro e wX ⟨rfl,R⟩;replace F:=F.trans (R.mono F.size);clear R)
    |(go_at_call 188;(with_reducible refine (HS.out _).mono ?_);rintro e wX ⟨rfl,R⟩;replace F:=F.trans (R.mono F.size);clear R)
    |(go_at_call 186;refine (Hj.out _ (F.alloc F.size _) _ (R.out _)).mono ?_;rintro e wX ⟨A3,n3,c3,B3,m3,d3,rfl,a2,a0⟩;replace F:=(F.alloc F.size _).trans (a0.mono (F.alloc F.size _).size);clear a0)
    |(go_at_call 229;refine (Hr.out _ F _ _ _ _ _ _ a2).mono ?_;rintro e w5 ⟨rfl,H5,X5,t5⟩;have XX:Turn S w w5:=(Qu (S:=S) (I.trans (F.mono I.size))).trans X5 λk hk=>.inl hk;have a1:=Lib.hid (hT _ F _ X5);replace H5:=Lib.hid H5)
    |fail)
  all_goals (go_wp2_with fail;go_ret;exact⟨rfl,H5.out,XX,t5⟩)
 |false=>
  rw[if_neg Bool.false_ne_true] at Y;by_cases hl:0<N.lvl
  ·rw[if_pos hl] at Y;obtain rfl:=Option.some.inj Y;clear Y;have H1:=H.below I;have t1:=ht.below I ht.1;have x6:=y.cell 6 rfl;have x0:=y.cell 0 rfl;clear U E;go_enter Tryz.func185,Tryz.ntmps185
   go_wp2;go_ret;exact⟨rfl,H1,Qu I,t1⟩
  ·rw[if_neg hl] at Y;have HP:=Lib.hid Y;clear Y;obtain⟨A1,n1,c1,B1,m1,d1,e1,q1,l1⟩:=q89 W hi U;have f:=λu=>q3n N.lvl A n c B m J i j hi U ⟨hn.2.1,hn.2.2⟩ ⟨hm.2.1,hm.2.2⟩ u
   rw[e1] at f;unfold Xo at f;replace f:=Lib.hid f;have Hr:∀(u:World) (_:Below w.1.size w u),Calls Tryz.prog 230 #[.agg #[.pointer (some ⟨p,0,none⟩)],.agg #[.int .i64 N.lvl,.slice A1 n1 c1,.slice B1 m1 d1]] u λe w'=>e=.returned (.int .i64 0)/\Qe b w' d p S0 S T D P'/\Turn S u w'/\Tab w':=λu K=>by
    have:=qif (H.below K) hb (ht.below K ht.1) (N.cut i j) (q8c G i j) A1 n1 c1 B1 m1 d1 (q1.mono λv hv=>(Qu (S:=S) K).trans hv λk hk=>.inl hk) HP.out;rw[l1] at this;exact this
   replace Hr:=Lib.hid Hr;have x6:=y.cell 6 rfl;have x0:=y.cell 0 rfl;clear e1 U E;go_enter Tryz.func185,Tryz.ntmps185
   go_wp2_with fail
   generalize ((w.alloc (.cells #[.pointer (some ⟨p,0,none⟩)] 173)).alloc (.cells #[.int .i64 N.lvl,.slice A n c,.slice B m J,.int .i64 ad,.int .i64 (nx:Int),.bool hd,.bool false] 180))=O at T1 y I x6 x0 ⊢;have g0:∀u:Grown O,u.to.cell? ⟨w.1.size,0,none⟩=some (.pointer (some ⟨p,0,none⟩)):=Grown.cell (T1.cell 0 rfl) T1.lt;have g1:∀u:Grown O,u.to.cell? ⟨w.1.size+1,0,none⟩=some (.int .i64 N.lvl):=Grown.cell (y.cell 0 rfl) y.lt;have g2:∀u:Grown O,u.to.cell? ⟨w.1.size+1,1,none⟩=some (.slice A n c):=Grown.cell (y.cell 1 rfl) y.lt;have g3:∀u:Grown O,u.to.cell? ⟨w.1.size+1,2,none⟩=some (.slice B m J):=Grown.cell (y.cell 2 rfl) y.lt;refine q25 6 (by kernel_rfl) (by kernel_rfl) ?_;simp only[List.take_succ_cons,List.take_zero,List.drop_succ_cons,List.drop_zero];repeat (go_big_quiet_step (first|(go_at_call 187;exact Calls.grown (f.out _))|fail))
   refine wpQuiet_nil ?_;rintro _ ⟨u,rfl⟩;have BB:=I.trans (u.ok.mono I.size);go_wp2_with fail
   refine (Hr.out _ BB).mono ?_;rintro e w5 ⟨rfl,H5,X5,t5⟩;go_wp2;go_ret;exact⟨rfl,H5,(Qu (S:=S) BB).trans X5 λk hk=>.inl hk,t5⟩
end
section
attribute [local go_sem ↓] qe5
section
variable {b:Nat}{w w':World}{d p:Nat}{S0 S T:Nat->Prop}{D:DM}{P P':Pl}
theorem qgb (H:Qe b w d p S0 S T D P)(hb:1<b)(ht:Tab w)(a6:∀a b,P.L a=some b->b.kindOk)(s:Qs)(A:Option Addr)(n c:Nat)(B:Option Addr)(m I:Nat)(hB:Ry (Turn S w) B m I s.N.kids)(hl:1<=s.N.lvl/\s.N.lvl<8)(i:Nat)(f:P.Wi D s i=true)(G:(P.Jf D s i).N.may=true)(hP:P.Qv (P.Jf D s i) 0 0=some P') :
  Calls Tryz.prog 234 #[tv p,Vb s A n c B m I,.int .i64 (i:Int)] w λe w'=>∃A n c B m I,e=.returned (.tuple #[Vb (P.Jf D s i) A n c B m I,.int .i64 0])/\Jg (Turn (λk=>k<w.1.size) w') (P.Jf D s i).N A n c B m I/\Qe b w' d p S0 S T D P'/\Turn S w w'/\Tab w':=by
 have hS:=H.low;have Hk:=λ(u:World) (hu:Below w.1.size w u)=>qkm (H.below hu) (ht.below hu ht.1) a6 s A n c B m I (λv hv=>hB v ((Qu (S:=S) hu).trans hv λk f=>.inl f)) hl i f
 obtain⟨o,ho⟩:∃o,P.Jf D s i=o:=⟨_,rfl⟩;rw[ho] at Hk G hP ⊢;clear f ho hl hB;obtain⟨N,O,R,hd,U⟩:=s;obtain⟨M,oa,ox,oh,os⟩:=o;dsimp only at G;have J:=q1n G;have a8:M.size<=12:=by
  unfold Nd.size;by_cases h0:M.lvl=0
  ·obtain⟨e1,_,_,h6⟩:=q16 G h0;have h7:=J.1 h0;rw[h7];simp;omega
  ·have h6:=(Fe G h0).2.2.2.2.1;have h7:=J.2 h0;rw[h7];simp;omega
 unfold tv Vb at Hk;dsimp only at Hk;have T1:RB (((w.alloc (.cells #[.pointer (some ⟨p,0,none⟩)] 173)).alloc (.cells (Jc N.lvl A n c B m I O (R:Int) hd U).toArray 180)).alloc Ud) w.1.size [.pointer (some ⟨p,0,none⟩)]:=(RB.new w [.pointer (some ⟨p,0,none⟩)] 173).below ((Qn).alloc (by simp) _) (by simp);have X1:RB (((w.alloc (.cells #[.pointer (some ⟨p,0,none⟩)] 173)).alloc (.cells (Jc N.lvl A n c B m I O (R:Int) hd U).toArray 180)).alloc Ud) (w.1.size+1) (Jc N.lvl A n c B m I O (R:Int) hd U):=by
  have:=RB.new (w.alloc (.cells #[.pointer (some ⟨p,0,none⟩)] 173)) (Jc N.lvl A n c B m I O (R:Int) hd U) 180;rw[World.size_alloc] at this;exact this.below (Qn) (by simp)
 have R1:RB (((w.alloc (.cells #[.pointer (some ⟨p,0,none⟩)] 173)).alloc (.cells (Jc N.lvl A n c B m I O (R:Int) hd U).toArray 180)).alloc Ud) (w.1.size+2) (Jc 0 none 0 0 none 0 0 0 0 false false):=by
  have:=Ig ((w.alloc (.cells #[.pointer (some ⟨p,0,none⟩)] 173)).alloc (.cells (Jc N.lvl A n c B m I O (R:Int) hd U).toArray 180));rwa [World.size_alloc,World.size_alloc] at this
 have b1:Below w.1.size w (((w.alloc (.cells #[.pointer (some ⟨p,0,none⟩)] 173)).alloc (.cells (Jc N.lvl A n c B m I O (R:Int) hd U).toArray 180)).alloc Ud):=((Qn).alloc (by simp) _).alloc (by simp;omega) _;replace Hk:=Lib.hid Hk;have HP:=Lib.hid hP;clear hP;have y0:=T1.cell 0 rfl;have y:∀(j:Nat) v,(Jc N.lvl A n c B m I O (R:Int) hd U)[j]?=some v->(((w.alloc (.cells #[.pointer (some ⟨p,0,none⟩)] 173)).alloc (.cells (Jc N.lvl A n c B m I O (R:Int) hd U).toArray 180)).alloc Ud).cell? ⟨w.1.size+1,j,none⟩=some v:=λj v hv=>X1.cell j hv
 have x0:=y 0 _ rfl;have x1:=y 1 _ rfl;have x2:=y 2 _ rfl;have x3:=y 3 _ rfl;have x4:=y 4 _ rfl;have x5:=y 5 _ rfl;have x6:=y 6 _ rfl;clear y;unfold tv Vb;dsimp only;unfold Jc at T1 X1 R1 b1 y0 x0 x1 x2 x3 x4 x5 x6;go_enter Tryz.func234,Tryz.ntmps234
 go_wp2_with fail
 generalize (((w.alloc (.cells #[.pointer (some ⟨p,0,none⟩)] 173)).alloc (.cells #[.int .i64 N.lvl,.slice A n c,.slice B m I,.int .i64 O,.int .i64 (R:Int),.bool hd,.bool U] 180)).alloc Ud)=K at T1 X1 R1 b1 y0 x0 x1 x2 x3 x4 x5 x6 ⊢;refine (Hk.out K b1).mono ?_;rintro e E ⟨X,n3,c3,Y,m3,Z,rfl,a2,b2⟩;have z1:=R1.lt;have z0:=b1.size;have z2:=b2.size;have T2:=T1.below b2 T1.lt;have R2:=R1.below b2 R1.lt;clear y0 x0 x1 x2 x3 x4 x5 x6;go_wp2_with (first
  |(refine Og rfl (.tmp 8) _ rfl E.1.size rfl M.lvl X n3 c3 Y m3 Z oa (ox:Int) oh os rfl (Ig E) rfl ?_;intro W Q3 TQ)
  |fail)
 have bz:Below E.1.size E (E.alloc Ud):=Qn;have b3:Below E.1.size E W:=bz.trans (TQ.below (λk f=>by have:k=E.1.size:=f;omega) bz.size);have T3:=T2.below b3 T2.lt;have R3:=R2.below b3 R2.lt;have BB:=b1.trans ((b2.trans (b3.mono b2.size)).mono b1.size);clear T1 X1 R1 T2 R2 TQ bz;have z3:=b3.size;have zQ:=Q3.lt;have F:=λ(u:World) (hu:Qe b u d p S0 S (grow T w K) D P) (a7:Tab u) (hx:Turn (λk=>k<K.1.size) E u)=>q94 hu hb a7 ⟨M,oa,ox,oh,os⟩ J X n3 c3 Y m3 Z (a2.mono λv hv=>hx.trans hv λk f=>.inl (by have:=hS k f;show k<K.1.size;omega)) 0 0 (Nat.le_refl _) (Nat.zero_le _) (by show M.size<=20;omega) HP.out
 unfold tv Vb at F;dsimp only at F;rw[show ((0:Nat):Int)=0 from rfl] at F;replace F:=Lib.hid F;have bD:Below W.1.size W W.drew:=(Below.refl _ _).drew;have HD:Qe b W.drew d p S0 S (grow T w K) D P:=(H.more b1).below ((b2.trans (b3.mono b2.size)).trans (bD.mono (by omega)));have tD:Tab W.drew:=ht.below (BB.trans (bD.mono BB.size)) ht.1;have cells:∀u,Turn (λk=>S k\/k=w.1.size+2) W u->u.cell? ⟨w.1.size,0,none⟩=some (.pointer (some ⟨p,0,none⟩))/\u.cell? ⟨E.1.size,0,none⟩=some (.int .i64 M.lvl)/\u.cell? ⟨E.1.size,1,none⟩=some (.slice X n3 c3)/\u.cell? ⟨E.1.size,2,none⟩=some (.slice Y m3 Z)/\u.cell? ⟨E.1.size,3,none⟩=some (.int .i64 oa)/\u.cell? ⟨E.1.size,4,none⟩=some (.int .i64 (ox:Int))/\u.cell? ⟨E.1.size,5,none⟩=some (.bool oh)/\u.cell? ⟨E.1.size,6,none⟩=some (.bool os):=λu hu=>
  have t1:=T3.turned hu (λh=>h.elim (λh=>by have:=hS _ h;omega) λh=>by omega);have q1:=Q3.turned hu (λh=>h.elim (λh=>by have:=hS _ h;omega) λh=>by omega);⟨t1.cell 0 rfl,q1.cell 0 rfl,q1.cell 1 rfl,q1.cell 2 rfl,q1.cell 3 rfl,q1.cell 4 rfl,q1.cell 5 rfl,q1.cell 6 rfl⟩
 have c1:=cells W.drew (Qu bD);go_region_held3 (λu=>u.cell? ⟨w.1.size,0,none⟩=some (.pointer (some ⟨p,0,none⟩))/\u.cell? ⟨E.1.size,0,none⟩=some (.int .i64 M.lvl)/\u.cell? ⟨E.1.size,1,none⟩=some (.slice X n3 c3)/\u.cell? ⟨E.1.size,2,none⟩=some (.slice Y m3 Z)/\u.cell? ⟨E.1.size,3,none⟩=some (.int .i64 oa)/\u.cell? ⟨E.1.size,4,none⟩=some (.int .i64 (ox:Int))/\u.cell? ⟨E.1.size,5,none⟩=some (.bool oh)/\u.cell? ⟨E.1.size,6,none⟩=some (.bool os))
  (first|(with_reducible assumption)|(with_reducible exact a4.out)|(with_reducible exact a5.out))
  (first
   |(go_at_call 185;(with_reducible refine (F.out W.drew HD tD ((Qu (S:=λk=>k<K.1.size) b3).trans (Qu (S:=λk=>k<K.1.size) bD) λk f=>.inl f)).mono ?_);rintro e w5 ⟨rfl,H5,X5,t5⟩;have XX:Turn S W w5:=(Qu (S:=S) bD).trans X5 λk f=>.inl f;have a4:=Lib.hid (cells w5 (XX.mono λk f=>.inl f));have T6:Turn (λk=>k=w.1.size+2) w5 (w5.setCells (w.1.size+2) 0 (Jc M.lvl X n3 c3 Y m3 Z oa (ox:Int) oh os)):=Um (S:=λk=>k=w.1.size+2) rfl _ 0 w5;have a5:=Lib.hid (cells _ ((XX.mono (S':=λk=>S k\/k=w.1.size+2) λk f=>.inl f).trans T6 λk f=>.inl (.inr f)));replace H5:=Lib.hid H5;have R5:=R3.turned XX (λh=>by have:=hS _ h;omega);have a9:=qig R5 rfl M.lvl X n3 c3 Y m3 Z oa (ox:Int) oh os;have R6:=Lib.hid (R5.stored (Jc M.lvl X n3 c3 Y m3 Z oa (ox:Int) oh os) rfl))
   |fail)
 go_wp2_with fail
 have b0:=X5.size;refine bodyPost_ret (Gi Tryz.results234 rfl (q5n R6.out)) rfl ?_;have a3:∀k,S k->k<K.1.size:=λk f=>by have:=hS k f;omega
 have zX:=XX.size;refine⟨X,n3,c3,Y,m3,Z,rfl,qe7 a2 (((Qu (S:=λk=>k<K.1.size) b3).trans XX λk f=>.inl (a3 k f)).trans T6 λk f=>.inl (by have:k=w.1.size+2:=f;show k<K.1.size;omega)) z0,?_,?_,?_⟩
 ·have a0:=H.sub;have a1:=H.Dv;have h2:grow T w K (w.1.size+2):=⟨.inr (by omega),by omega⟩;have Ho:=H5.out.own T6 (λk f=>by have:k=w.1.size+2:=f;rw[this];exact h2) (λk f h=>by have:k=w.1.size+2:=f;have:=(H.tight k (a0 k h)).2;omega) (λk f h=>by have:k=w.1.size+2:=f;have:=hS k h;omega);exact Ho.less (λk f=>⟨.inl f,by have:=(H.tight k f).2;omega⟩) a0 a1
 ·exact ((Qu (S:=S) BB).trans XX λk f=>.inl f).trans T6 λk f=>.inr (by have:k=w.1.size+2:=f;omega)
 ·exact t5.turned T6 (λh=>by have h:1=w.1.size+2:=h;have:=ht.1;omega)
end
end
theorem TBn:Aa Tryz.prog 315 178 3 56 (.agg #[.int .i64 0,.slice none 0 0,.slice none 0 0]):=⟨Tryz.underlying315,by kernel_rfl,rfl,by omega⟩
def U7 (Q:World->Prop)(w:World)(base:Nat)(A:Option Addr)(n c:Nat)(Ns:List Nd):Prop:=
 ∃e,Qo w base 178 3 A n c e/\e.length=Ns.length/\∀(j:Nat) r N,e[j]?=some r->Ns[j]?=some N->∃A n c B m d,r=Vj N.lvl A n c B m d/\Jg Q N A n c B m d
section
variable {Q:World->Prop}{w w':World}{base n c:Nat}{A:Option Addr}{Ns:List Nd}
theorem quc (Q:World->Prop)(w:World)(base:Nat):U7 Q w base none 0 0 []:=⟨[],Ir _ _ _ _,rfl,λj r x e=>by simp at e⟩
theorem U7.below (h:U7 Q w base A n c Ns)(hb:Below w.1.size w w'):U7 Q w' base A n c Ns:=by
 obtain⟨e,h1,h2⟩:=h;exact⟨e,h1.below hb,h2⟩
theorem U7.bnl (h:U7 Q w base A n c Ns):G5 Q w A n c Ns:=by
 obtain⟨e,h1,h2⟩:=h;exact⟨e,h1.Kt (by omega),h2⟩
theorem U7.Qc (h:U7 Q w base A n c Ns):∀k,q01 A=some k->base<=k/\k<w.1.size:=by
 obtain⟨e,h1,_⟩:=h;exact h1.Qc
theorem qec (ty:TypeId)(y:U7 Q w base A n c Ns){B:Option Addr}{d:Nat}{N:Nd}{J:Option Addr}{R c1:Nat}{K:Option Addr}{O M:Nat}
  (e:Js w 3 B 1 d [Vj N.lvl J R c1 K O M]) (Y:Jg Q N J R c1 K O M) (hn:n<=1000) (f:base<=w.1.size) :
  ∃H I w',(Builtin.append_ #[315,315] ty #[.slice A n c,.slice B 1 d]).run Tryz.prog w=.ok (.slice H (n+1) I) w'/\U7 Q w' base H (n+1) I (Ns++[N])/\Below base w w':=by
 obtain⟨m,h1,h2,U⟩:=y;obtain⟨H,I,w',E,G,W⟩:=q4z (P:=Tryz.prog) w TBn ty base A n c m h1 B 1 d _ e (by omega) (qsy _ _ _ _ _ _ _) (by omega) (by omega) f;refine⟨H,I,w',E,⟨_,G,by simp[h2],λj Z x e F=>?_⟩,W⟩;by_cases X:j<m.length
 ·rw[List.getElem?_append_left X] at e;rw[List.getElem?_append_left (by omega)] at F;exact U j Z x e F
 ·rw[List.getElem?_append_right (by omega)] at e F;have u:j-m.length=0:=by
   have:=(List.getElem?_eq_some_iff.1 e).1;simp at this;omega
  rw[u] at e;rw[<-h2,u] at F;obtain rfl:=Option.some.inj e;obtain rfl:=Option.some.inj F;exact⟨_,_,_,_,_,_,rfl,Y⟩
theorem qbu {o:Oper}{a:Act}{K:Act->World->Prop}{M:Exit->Act->World->Prop}(J x:Operand)
  (R:o.op=.call { callee:=.builtin .append,args:=#[J,x],argTypes:=#[315,315] })
  (X:a.eval J=.slice A n c) (f:U7 Q w base A n c Ns) {B:Option Addr} {d:Nat} (Y:a.eval x=.slice B 1 d) {N:Nd} {E:Option Addr} {I c1:Nat} {F:Option Addr} {H G:Nat}
  (W:Js w 3 B 1 d [Vj N.lvl E I c1 F H G]) (U:Jg Q N E I c1 F H G) (hn:n<=1000) (e:base<=w.1.size)
  (h:∀u y w',U7 Q w' base u (n+1) y (Ns++[N])->Below base w w'->K (a.put o.dst (.slice u (n+1) y)) w') :
  Oper.wp Tryz.prog o a w K M:=by
 obtain⟨u,y,w',m,h2,O⟩:=qec (ty:=o.type) f W U hn e;unfold Oper.wp execOp;simp only[R,resolve,invoke,builtin,Sem.run_bind,Sem.run_pure,Result.andThen_ok,List.map_toArray,List.map_cons,List.map_nil,X,Y,m];exact h u y w' h2 O
end
theorem qxi (w:World)(l:Int)(A:Option Addr)(n c:Nat)(B:Option Addr)(m d:Nat):Js (w.alloc (.cells #[.int .i64 l,.slice A n c,.slice B m d] 178)) 3 (some ⟨w.1.size,0,none⟩) 1 1 [Vj l A n c B m d]:=(q1q w 178 3 (Vj l A n c B m d) _ rfl rfl).Kt (by omega)
theorem qio {N:Nd}{j:Nat}(h:j<parts N):(pieces N).take (j+1)=(pieces N).take j++[N.cut (N.size*j / parts N) (N.size*(j+1) / parts N)]:=by
 have e:(pieces N).length=parts N:=by unfold pieces;simp
 rw[List.take_succ_eq_append_getElem (by omega)];congr 2
 unfold pieces;simp
theorem qip {Q:World->Prop}{N:Nd}{A B:Option Addr}{n c m d:Nat}(hB:Jg Q N A n c B m d)(a1:N.fit)(d4:N.size<=60)(w:World) :
  Calls Tryz.prog 235 #[Xo N.lvl A n c B m d] w λe w'=>∃X k Z,e=.returned (.slice X k Z)/\U7 Q w' w.1.size X k Z (pieces N)/\Below w.1.size w w':=by
 have I:=hB.size;have hn:=hB.hn;have hm:=hB.hm;obtain⟨z,hz⟩:∃z,N.size=z:=⟨_,rfl⟩;obtain⟨P,hP⟩:∃P,parts N=P:=⟨_,rfl⟩;obtain⟨f,K⟩:∃f,Qq N.lvl=f:=⟨_,rfl⟩;have c7:6<=f/\f<=12:=by rw[<-K];unfold Qq;split<;>omega
 have W:(z+f-1) / f=P:=by rw[<-hP,<-hz,<-K];rfl
 have b6:P<=100:=by rw[<-W];exact Nat.le_trans (Nat.div_le_self _ _) (by omega)
 have U:NB (w.alloc (.cells #[.int .i64 N.lvl,.slice A n c,.slice B m d] 178)) w.1.size N.lvl A n c B m d:=NB.new w _ _ _ _ _ _ _ _;have b1:Below w.1.size w (w.alloc (.cells #[.int .i64 N.lvl,.slice A n c,.slice B m d] 178)):=Qn;have HL:=λu=>q37 N.lvl A n c B m d u
 have HS:=λu=>q1z N.lvl A n c B m d (by omega) (by omega) u
 rw[K] at HL;rw[<-I,hz] at HS;have c0:=U.c0;have c1:=U.c1;have c2:=U.c2;unfold Xo at HL HS ⊢;replace HL:=Lib.hid HL;replace HS:=Lib.hid HS;have d5:IntKind.i64.wrap ((z:Int)+(f:Int))=((z+f:Nat):Int):=by rw[show (z:Int)+(f:Int)=((z+f:Nat):Int) by omega];exact IntWalk.i64_in _ (by omega)
 have d6:IntKind.i64.wrap (((z+f:Nat):Int)-1)=((z+f-1:Nat):Int):=by rw[show ((z+f:Nat):Int)-1=((z+f-1:Nat):Int) by omega];exact IntWalk.i64_in _ (by omega)
 have hq:((z:Int)+(f:Int)-1) / (f:Int)=(P:Int):=by
  rw[<-W,show (z:Int)+(f:Int)-1=((z+f-1:Nat):Int) by omega];exact (Int.natCast_ediv _ _).symm
 have c6:((f:Int)==0)=false:=by simp;omega
 go_enter Tryz.func235,Tryz.ntmps235
 go_wp2_with fail
 generalize w.alloc (.cells #[.int .i64 N.lvl,.slice A n c,.slice B m d] 178)=w1 at U b1 c0 c1 c2 ⊢;refine (HL.out w1).mono ?_;rintro e w2 ⟨rfl,b2⟩;have N2:=U.below b2 U.lt;have c0:=N2.c0;have c1:=N2.c1;have c2:=N2.c2;go_wp2_with fail
 refine (HS.out w2).mono ?_;rintro e w3 ⟨rfl,b3⟩;have N3:=N2.below b3 N2.lt;have BB:=b1.trans ((b2.trans (b3.mono b2.size)).mono b1.size);have z1:=N3.lt;clear c0 c1 c2 U N2 b1 b2 b3;go_wp2_with fail
 simp only[hq];clear hq;go_loopw [6,21] (λl i wr=>∃(j:Nat) (X:Option Addr) (Z:Nat),j<=P/\i=.int .i64 (j:Int)/\l=.slice X j Z/\U7 Q wr (w.1.size+1) X j Z ((pieces N).take j)/\NB wr w.1.size N.lvl A n c B m d/\Below w.1.size w wr) (λ_ i _=>P-(intOf i).toNat)
 case atStart=>exact⟨0,none,0,Nat.zero_le _,rfl,rfl,quc _ _ _,N3,BB⟩
 case round=>
  obtain⟨j,X,Z,hj,rfl,rfl,own,NN,hb⟩:=hrel;have zN:=NN.lt;have zb:=hb.size;have a0:w.1.size+1<=wr.1.size:=zN;by_cases b0:j<P
  ·have HT:=Lib.hid (qio (N:=N) (j:=j) (by rw[hP];exact b0));obtain⟨lo,H⟩:∃lo,z*j / P=lo:=⟨_,rfl⟩;obtain⟨F,E⟩:∃F,z*(j+1) / P=F:=⟨_,rfl⟩;have a2:lo<=F:=by rw[<-H,<-E];exact Nat.div_le_div_right (Nat.mul_le_mul_left _ (by omega))
   have d2:F<=z:=by
    rw[<-E];exact Nat.le_trans (Nat.div_le_div_right (Nat.mul_le_mul_left z (show j+1<=P by omega))) (by rw[Nat.mul_div_cancel _ (by omega)];exact Nat.le_refl _)
   have Y:=qau hB a1 (j:=F) (by omega);obtain⟨A1,n1,c1,B1,m1,d1,e1,q1,l1⟩:=q89 hB a2 Y;have HC:=λu=>q3n N.lvl A n c B m d lo F a2 Y ⟨hn.2.1,hn.2.2⟩ ⟨hm.2.1,hm.2.2⟩ u
   rw[e1] at HC;unfold Xo at HC;replace HC:=Lib.hid HC;have b4:z*j<=6000:=by have:=Nat.mul_le_mul (show z<=60 by omega) (show j<=100 by omega);omega
   have a4:z*(j+1)<=6060:=by have:=Nat.mul_le_mul (show z<=60 by omega) (show j+1<=101 by omega);omega
   have b8:((P:Int)==0)=false:=by simp;omega
   obtain⟨p1,M⟩:∃p1,z*j=p1:=⟨_,rfl⟩;obtain⟨p2,O⟩:∃p2,z*(j+1)=p2:=⟨_,rfl⟩;rw[M] at b4 H;rw[O] at a4 E;have v1:IntKind.i64.wrap ((z:Int)*(j:Int))=(p1:Int):=by rw[<-M,<-Int.natCast_mul];exact IntWalk.i64_in _ (by omega)
   have v2:IntKind.i64.wrap ((z:Int)*((j:Int)+1))=(p2:Int):=by rw[show (z:Int)*((j:Int)+1)=((z*(j+1):Nat):Int) by rw[Int.natCast_mul];rfl,O];exact IntWalk.i64_in _ (by omega)
   have v3:(p1:Int) / (P:Int)=(lo:Int):=by rw[<-H];exact (Int.natCast_ediv _ _).symm
   have v4:(p2:Int) / (P:Int)=(F:Int):=by rw[<-E];exact (Int.natCast_ediv _ _).symm
   have a9:lo<=60:=by omega
   have a8:F<=60:=by omega
   have v5:IntKind.i64.wrap (F:Int)=(F:Int):=IntWalk.i64_in _ (by omega);have v6:IntKind.i64.wrap (lo:Int)=(lo:Int):=IntWalk.i64_in _ (by omega);obtain⟨J,hJ⟩:∃J,j+1=J:=⟨_,rfl⟩;have e0:IntKind.i64.wrap ((j:Int)+1)=(J:Int):=by rw[<-hJ];exact IntWalk.i64_in _ (by omega)
   have e2:IntKind.i64.wrap ((z:Int)*(J:Int))=(p2:Int):=by rw[<-hJ];exact v2
   have e3:(p1:Int).tdiv (P:Int)=(lo:Int):=by rw[<-v3];exact Int.tdiv_eq_ediv_of_nonneg (by omega)
   have e4:(p2:Int).tdiv (P:Int)=(F:Int):=by rw[<-v4];exact Int.tdiv_eq_ediv_of_nonneg (by omega)
   replace hJ:=Lib.hid hJ;have a5:¬(P:Int)=0:=by omega
   have b7:¬P=0:=by omega
   have c9:decide ((P:Int)=0)=false:=decide_eq_false a5;have c8:z<=60:=by omega
   have a7:=Lib.hid (show (pieces N).take (j+1)=(pieces N).take j++[N.cut lo F] by rw[HT.out,hP,hz,M,O,H,E]);have a3:=Lib.hid (λ(u:World)=>(l1.symm▸qxi u N.lvl A1 n1 c1 B1 m1 d1:Js (u.alloc (.cells #[.int .i64 N.lvl,.slice A1 n1 c1,.slice B1 m1 d1] 178)) 3 (some ⟨u.1.size,0,none⟩) 1 1 [Vj (N.cut lo F).lvl A1 n1 c1 B1 m1 d1]));clear e1 Y hz hP I M O H E HT K W l1;have cells:∀u,Below (w.1.size+1) wr u->u.cell? ⟨w.1.size,0,none⟩=some (.int .i64 N.lvl)/\u.cell? ⟨w.1.size,1,none⟩=some (.slice A n c)/\u.cell? ⟨w.1.size,2,none⟩=some (.slice B m d):=λu hu=>
    have N':=NN.below hu (by omega);⟨N'.c0,N'.c1,N'.c2⟩
   have y:Below wr.1.size wr wr.drew:=(Below.refl _ _).drew;go_wp2_with fail
   go_region_held3 (λu=>u.cell? ⟨w.1.size,0,none⟩=some (.int .i64 N.lvl)/\u.cell? ⟨w.1.size,1,none⟩=some (.slice A n c)/\u.cell? ⟨w.1.size,2,none⟩=some (.slice B m d))
    (first|(with_reducible assumption)|(with_reducible exact cells _ (y.mono a0))|(with_reducible exact cells _ ((y.alloc y.size _).mono a0))|(with_reducible exact a6.out))
    (first
     |(go_at_call 188;(with_reducible refine (HS.out _).mono ?_);rintro e wX ⟨rfl,hX⟩;replace y:=y.trans (hX.mono y.size);clear hX)
     |(go_at_call 187;(with_reducible refine (HC.out _).mono ?_);rintro e wX ⟨rfl,hX⟩;replace y:=y.trans (hX.mono y.size);clear hX)
     |(rw[if_pos (by rfl)];refine qbu (Q:=Q) (base:=w.1.size+1) (.tmp 24) (.tmp 40) (by rfl) (by rfl) (own.below (y.alloc y.size (.cells #[.int .i64 N.lvl,.slice A1 n1 c1,.slice B1 m1 d1] 178))) (by rfl) (a3.out _) q1 (by omega) (by have:=(y.alloc y.size (.cells #[.int .i64 N.lvl,.slice A1 n1 c1,.slice B1 m1 d1] 178)).size;omega) ?_;intro X' b5 w6 R G;have bA:=y.alloc y.size (.cells #[.int .i64 N.lvl,.slice A1 n1 c1,.slice B1 m1 d1] 178);have G:=(bA.mono a0).trans G;have a6:=Lib.hid (cells w6 G))
     |fail)
   all_goals (
    go_wp2_with fail
    rw[<-a7.out] at R;exact⟨⟨j+1,X',b5,by omega,by rw[<-hJ.out],rfl,R,NN.below G (by omega),hb.trans (G.mono (by omega))⟩,by simp[intOf];have:=hJ.out;omega⟩)
  ·have d3:P<=j:=by omega
   have d0:¬(j:Int)<(P:Int):=by omega
   have b9:(pieces N).length=P:=by rw[<-hP];unfold pieces;simp
   rw[List.take_of_length_le (by omega)] at own;go_wp2;go_ret;exact⟨X,j,Z,rfl,⟨own.choose,own.choose_spec.1.less (by omega),own.choose_spec.2⟩,hb⟩
