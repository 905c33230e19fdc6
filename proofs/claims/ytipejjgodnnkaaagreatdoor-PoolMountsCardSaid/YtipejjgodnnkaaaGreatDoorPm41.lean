/- Laws of the pool: a call of both, kind 0 -/
import Derived.Test.YtipejjgodnnkaaaGreatDoorPm40
namespace Go.Proofs.YtipejjgodnnkaaaGreatDoor
open Go Go.RowKit Go.Proofs
set_option maxHeartbeats 8000000
set_option maxRecDepth 100000
theorem qqd {b i w0 w xb d y p q S0 S S1 S2 T D P}(o:OpV)(Z:DIn b i w0 w xb d y p q S0 S S1 S2 T D P o)(kd:Nat)(kz:Int)(hkk:(md o.K 16:Int)=kz)(hk2:kz=0∨kz=1) :
  Calls Tryz.prog 12 #[.pointer (some ⟨xb,0,none⟩),.agg o.vs.toArray] w fun e w'=>q35 b i xb kd w e w':=by
 obtain⟨H,I,_hi,hb,ht,ho,hi20,hk20,hb300,hw0,B0⟩:=Z
 obtain⟨K,A,V,⟨lv,its,kds⟩,ia,i0,ic,ka,k0,kc,B,ba,b0,bc,⟨nm,ro,rt,nx⟩,keep,pa,p0,pc⟩:=o
 obtain⟨iK,iA,iV,hIt,hKt,hBy,hNm,hKe⟩:=ho
 dsimp only at iK iA iV hIt hKt hBy hNm hKe hi20 hk20 hb300 hkk
 rcases hk2 with rfl|rfl
 all_goals (
  obtain⟨w1,hw1⟩:∃w1,w1=w.alloc (.cells #[.int .i64 K,.int .i64 A,.int .i64 V,.int .i64 lv,.slice ia i0 ic,.slice ka k0 kc,.slice ba b0 bc,.string nm,.bool ro,.int .i64 rt,.int .i64 nx,.slice pa p0 pc] 35):=⟨_,rfl⟩
  obtain⟨O1,b1,H1,z1a,t1,hT1',B1,hbo,b1',hfin,hbs,hxl,htt,hT1,hT0,hG,hST,hS2T,hok⟩:=q2l H hb ht hw0 B0 hw1
  have c2:=H1.ref.c2
  have c3:=H1.ref.c3
  rw[hw1] at c2 c3
  have Hkd:=q66 iK hkk
  clear hkk iK
  show Calls Tryz.prog 12 #[.pointer (some ⟨xb,0,none⟩),.agg #[.int .i64 K,.int .i64 A,.int .i64 V,.int .i64 lv,.slice ia i0 ic,.slice ka k0 kc,.slice ba b0 bc,.string nm,.bool ro,.int .i64 rt,.int .i64 nx,.slice pa p0 pc]] w _
  go_enter Tryz.func12,Tryz.ntmps12
  go_wp2_with fail
  rw[←hw1] at c2 c3 ⊢
  clear hw1
  refine (Hkd.out w1).mono ?_
  rintro e w1' ⟨rfl,rfl⟩
  have o3:=O1.cell (j:=3) rfl
  have o4:=O1.cell (j:=4) rfl
  have o5:=O1.cell (j:=5) rfl
  obtain⟨V1,hV1⟩:∃X,P.putNV ⟨lv,its,kds⟩=X:=⟨_,rfl⟩
  obtain⟨E1,hE1⟩:∃X,P.putNE ⟨lv,its,kds⟩=X:=⟨_,rfl⟩
  have hc:=qdr H1.code.pool hT1' hG B1 (fun k hk=>hT0 k (hST k hk)) ⟨lv,its,kds⟩ ia i0 ic ka k0 kc hIt hKt (by omega) (by omega) t1
  have hr:=fun (w2:World) (R:RPool w2 q y S2 T P) (hz:w1.heap.size≤w2.heap.size) (bb:Below w0.heap.size w0 w2)=>q1o R (fun k hk=>by have:=hT1' k hk;omega) ⟨lv,its,kds⟩ ia i0 ic ka k0 kc bb hT0 hIt hKt (by omega) (by omega)
  rw[hV1,hE1] at hc
  simp only[hV1,hE1] at hr
  have Hc:=Lib.hid hc
  have Hr:=Lib.hid hr
  clear hc hr hV1 hE1
  go_wp2_with fail
  refine Hc.out.mono ?_
  rintro e w2 ⟨rfl,R2,X2,t2⟩
  have O2:=O1.keep (X2.block w.heap.size (by omega) fun h=>hbo (hST _ h))
  have o3':=O2.cell (j:=3) rfl
  have o4':=O2.cell (j:=4) rfl
  have o5':=O2.cell (j:=5) rfl
  have B2:Below w0.heap.size w0 w2:=B1.trans (X2.below (fun k hk=>hT0 k (hST k hk)) B1.size)
  clear o3 o4 o5
  go_wp2_with fail
  refine (Hr.out w2 (H1.refOther X2).pool X2.size B2).mono ?_
  rintro e w3 ⟨rfl,R3,X3⟩
  have nV:(V1==V1)=true:=by simp
  have nE:(E1==E1)=true:=by simp
  obtain⟨F1,F2⟩:=H1.pools (H1.code.turned R2 X2) X2 R3 X3
  have F3:=hfin w3 F2
  clear O2 o3' o4' o5' O1 R2 R3 X2 X3
  go_wp2
  go_ret
  exact⟨rfl,F3.1,F3.2,.inl ⟨_,_,_,_,_,_,_,_,_,_,_,F1,I.next (qov I.inv _) (qq9 _).1 (by rw[(qq9 _).2])⟩⟩)
theorem qtm {b i w0 w xb d y p q S0 S S1 S2 T D P}(o:OpV)(Z:DIn b i w0 w xb d y p q S0 S S1 S2 T D P o)(hkk:(md o.K 16:Int)=4) :
  Calls Tryz.prog 12 #[.pointer (some ⟨xb,0,none⟩),.agg o.vs.toArray] w fun e w'=>q35 b i xb 4 w e w':=by
 obtain⟨H,I,_hi,hb,ht,ho,hi20,hk20,hb300,hw0,B0⟩:=Z
 obtain⟨K,A,V,⟨lv,its,kds⟩,ia,i0,ic,ka,k0,kc,B,ba,b0,bc,⟨nm,ro,rt,nx⟩,keep,pa,p0,pc⟩:=o
 obtain⟨iK,iA,iV,hIt,hKt,hBy,hNm,hKe⟩:=ho
 dsimp only at iK iA iV hIt hKt hBy hNm hKe hi20 hk20 hb300 hkk
 obtain⟨w1,hw1⟩:∃w1,w1=w.alloc (.cells #[.int .i64 K,.int .i64 A,.int .i64 V,.int .i64 lv,.slice ia i0 ic,.slice ka k0 kc,.slice ba b0 bc,.string nm,.bool ro,.int .i64 rt,.int .i64 nx,.slice pa p0 pc] 35):=⟨_,rfl⟩
 obtain⟨O1,b1,H1,z1a,t1,hT1',B1,hbo,b1',hfin,hbs,hxl,htt,hT1,hT0,hG,hST,hS2T,hok⟩:=q2l H hb ht hw0 B0 hw1
 have c2:=H1.ref.c2
 have c3:=H1.ref.c3
 rw[hw1] at c2 c3
 have Hkd:=q66 iK hkk
 clear hkk iK
 show Calls Tryz.prog 12 #[.pointer (some ⟨xb,0,none⟩),.agg #[.int .i64 K,.int .i64 A,.int .i64 V,.int .i64 lv,.slice ia i0 ic,.slice ka k0 kc,.slice ba b0 bc,.string nm,.bool ro,.int .i64 rt,.int .i64 nx,.slice pa p0 pc]] w _
 go_enter Tryz.func12,Tryz.ntmps12
 go_wp2_with fail
 rw[←hw1] at c2 c3 ⊢
 clear hw1
 refine (Hkd.out w1).mono ?_
 rintro e w1' ⟨rfl,rfl⟩
 have hO:∀w':World,w'.heap[w.heap.size]?=w1.heap[w.heap.size]?→w'.cell? ⟨w.heap.size,1,none⟩=some (.int .i64 A)∧w'.cell? ⟨w.heap.size,3,none⟩=some (.int .i64 lv)∧w'.cell? ⟨w.heap.size,4,none⟩=some (.slice ia i0 ic)∧w'.cell? ⟨w.heap.size,5,none⟩=some (.slice ka k0 kc):=fun w' h=>⟨(O1.keep h).cell (j:=1) rfl,(O1.keep h).cell (j:=3) rfl,(O1.keep h).cell (j:=4) rfl,(O1.keep h).cell (j:=5) rfl⟩
 obtain⟨E1,hE1⟩:∃X,P.setNE A ⟨lv,its,kds⟩=X:=⟨_,rfl⟩
 have BD:Below w1.heap.size w1 w1.drew:=(Below.refl _ _).drew
 have HD:=H1.below BD
 have td:=t1.below BD t1.1
 have BBD:=B1.trans (BD.mono B1.size)
 have hc:=qdu HD.code.drv HD.code.pool I.inv.kind I.inv.fresh (fun k hk=>hT1' k hk) hG BBD (fun k hk=>hT0 k (hST k hk)) A ⟨lv,its,kds⟩ ia i0 ic ka k0 kc hIt hKt (by omega) (by omega) td
 have hr:=fun (w2:World) (R:RPool w2 q y S2 T P) (hz:w1.heap.size≤w2.heap.size) (bb:Below w0.heap.size w0 w2)=>qdv R I.inv.kind A ⟨lv,its,kds⟩ ia i0 ic ka k0 kc bb (fun k hk=>by have:=hT1' k hk;omega) hT0 hIt hKt (by omega) (by omega)
 rw[hE1] at hc
 simp only[hE1] at hr
 have Hc:=Lib.hid hc
 have Hr:=Lib.hid hr
 have nE:(E1==E1)=true:=by simp
 have zD:w1.drew.heap.size=w1.heap.size:=rfl
 have ZD:=Lib.hid zD
 clear hc hr hE1 zD
 go_wp2_with fail
 go_region_held3 (fun w'=>w'.cell? ⟨w.heap.size,1,none⟩=some (.int .i64 A)∧w'.cell? ⟨w.heap.size,3,none⟩=some (.int .i64 lv)∧w'.cell? ⟨w.heap.size,4,none⟩=some (.slice ia i0 ic)∧w'.cell? ⟨w.heap.size,5,none⟩=some (.slice ka k0 kc))
  (first|assumption|exact hO _ rfl|exact hO _ h2|exact hO _ h3)
  (first
   |(go_at_call 48;have hh:=X2;refine (Hr.out w2 (HD.refOther X2).pool (by have h1:=X2.size;have h2:=ZD.out;omega) (BBD.trans (X2.below (fun k hk=>hT0 k (hST k hk)) BBD.size))).mono ?_;rintro e w3 ⟨rfl,R3,X3⟩;have h3:w3.heap[w.heap.size]?=w1.heap[w.heap.size]?:=(X3.block w.heap.size (by have h1:=X2.size;have h2:=ZD.out;omega) fun h=>hbo (hS2T _ h)).trans h2)
   |(go_at_call 47;refine Hc.out.mono ?_;rintro e w2 ⟨rfl,R2,X2⟩;have h2:w2.heap[w.heap.size]?=w1.heap[w.heap.size]?:=X2.block w.heap.size (by have h2:=ZD.out;omega) fun h=>hbo (hST _ h))
   |fail)
 obtain⟨F1,F2⟩:=HD.pools (HD.code.turned R2 X2) X2 R3 X3
 have F3:=hfin w3 ((q00 BD).trans F2 fun k hk=>.inl hk)
 clear R2 R3 X2 X3 O1 hO
 go_wp2
 go_ret
 exact⟨rfl,F3.1,F3.2,.inl ⟨_,_,_,_,_,_,_,_,_,_,_,F1,I.next (qow I.inv _ _) (qqa _ _).1 (by rw[(qqa _ _).2])⟩⟩
theorem qtn {b i w0 w xb d y p q S0 S S1 S2 T D P}(o:OpV)(Z:DIn b i w0 w xb d y p q S0 S S1 S2 T D P o)(hkk:(md o.K 16:Int)=5) :
  Calls Tryz.prog 12 #[.pointer (some ⟨xb,0,none⟩),.agg o.vs.toArray] w fun e w'=>q35 b i xb 5 w e w':=by
 obtain⟨H,I,_hi,hb,ht,ho,hi20,hk20,hb300,hw0,B0⟩:=Z
 obtain⟨K,A,V,⟨lv,its,kds⟩,ia,i0,ic,ka,k0,kc,B,ba,b0,bc,⟨nm,ro,rt,nx⟩,keep,pa,p0,pc⟩:=o
 obtain⟨iK,iA,iV,hIt,hKt,hBy,hNm,hKe⟩:=ho
 dsimp only at iK iA iV hIt hKt hBy hNm hKe hi20 hk20 hb300 hkk
 obtain⟨w1,hw1⟩:∃w1,w1=w.alloc (.cells #[.int .i64 K,.int .i64 A,.int .i64 V,.int .i64 lv,.slice ia i0 ic,.slice ka k0 kc,.slice ba b0 bc,.string nm,.bool ro,.int .i64 rt,.int .i64 nx,.slice pa p0 pc] 35):=⟨_,rfl⟩
 obtain⟨O1,b1,H1,z1a,t1,hT1',B1,hbo,b1',hfin,hbs,hxl,htt,hT1,hT0,hG,hST,hS2T,hok⟩:=q2l H hb ht hw0 B0 hw1
 have c2:=H1.ref.c2
 have c3:=H1.ref.c3
 rw[hw1] at c2 c3
 have Hkd:=q66 iK hkk
 clear hkk iK
 show Calls Tryz.prog 12 #[.pointer (some ⟨xb,0,none⟩),.agg #[.int .i64 K,.int .i64 A,.int .i64 V,.int .i64 lv,.slice ia i0 ic,.slice ka k0 kc,.slice ba b0 bc,.string nm,.bool ro,.int .i64 rt,.int .i64 nx,.slice pa p0 pc]] w _
 go_enter Tryz.func12,Tryz.ntmps12
 go_wp2_with fail
 rw[←hw1] at c2 c3 ⊢
 clear hw1
 refine (Hkd.out w1).mono ?_
 rintro e w1' ⟨rfl,rfl⟩
 have o1:=O1.cell (j:=1) rfl
 obtain⟨M,hM⟩:∃X,P.nodeN D A=X:=⟨_,rfl⟩
 obtain⟨E1,hE1⟩:∃X,P.nodeE D A=X:=⟨_,rfl⟩
 have hc:=q96 H1.code.drv H1.code.pool I.inv.kind t1 A
 have hr:=fun (w2:World) (bb:Below w1.heap.size w1 w2)=>qdw (H1.ref.drv.below bb) (H1.ref.pool.below bb) I.inv.kind I.inv.good A
 rw[hM,hE1] at hc
 simp only[hM,hE1] at hr
 have Hc:=Lib.hid hc
 have Hr:=Lib.hid hr
 have nE:(E1==E1)=true:=by simp
 clear hc hr hM hE1
 go_wp2_with fail
 refine Hc.out.mono ?_
 rintro e w2 ⟨A2,n2,q2,B2,m2,d2,rfl,_,_,hI2,hK2,bb2⟩
 have z2:=bb2.size
 have X2a:NB (w2.alloc (.cells #[.int .i64 0,.slice none 0 0,.slice none 0 0] 29)) w2.heap.size 0 none 0 0 none 0 0:=NB.new w2 _ _ _ _ _ _ _ _
 have b2a:Below w2.heap.size w2 (w2.alloc (.cells #[.int .i64 0,.slice none 0 0,.slice none 0 0] 29)):=blA
 have z2a:=b2a.size
 go_wp2_with (first
  |(refine q07 rfl _ _ rfl w2.heap.size rfl M.lvl A2 n2 q2 B2 m2 d2 rfl X2a ?_;intro w3 X3 T3;have bb3:Below w1.heap.size w1 w3:=(bb2.trans (b2a.mono z2)).trans (T3.below (fun k hk=>by omega) (by omega));have O3:=O1.keep (bb3.block w.heap.size (by omega));have o1':=O3.cell (j:=1) rfl;have hI3:=q2v X2a T3 (hI2.below b2a);have hK3:=q32 X2a T3 (hK2.below b2a))
  |fail)
 refine (Hr.out w3 bb3).mono ?_
 rintro e w4 ⟨A4,n4,q4,B4,m4,d4,rfl,_,_,hI4,hK4,bb4⟩
 have z3:=T3.size
 have z4:=bb4.size
 have X4:=X3.below bb4 X3.lt
 have X4a:NB (w4.alloc (.cells #[.int .i64 0,.slice none 0 0,.slice none 0 0] 29)) w4.heap.size 0 none 0 0 none 0 0:=NB.new w4 _ _ _ _ _ _ _ _
 have b4a:Below w4.heap.size w4 (w4.alloc (.cells #[.int .i64 0,.slice none 0 0,.slice none 0 0] 29)):=blA
 have z4a:=b4a.size
 have X4':=X4.below b4a X4.lt
 have hl4:=X4.lt
 clear o1
 go_wp2_with (first
  |(refine q07 rfl _ _ rfl w4.heap.size rfl M.lvl A4 n4 q4 B4 m4 d4 rfl X4a ?_;intro w5 X5 T5;have X35:NB w5 w2.heap.size M.lvl A2 n2 q2 B2 m2 d2:=X4'.keep (T5.block _ X4'.lt (by omega));have hI5:=q2v X4a T5 (hI4.below b4a);have hK5:=q32 X4a T5 (hK4.below b4a);have hI35:=q2v X4a T5 ((hI3.below bb4).below b4a);have hK35:=q32 X4a T5 ((Kidl.below hK3 bb4).below b4a);have e0:=X35.c0;have e1:=X35.c1;have e2:=X35.c2;have e3:=X5.c0;have e4:=X5.c1;have e5:=X5.c2)
  |fail)
 have hn1:=hI35.len
 have hn2:=hI5.len
 have hm1:=Kidl.len hK35
 have hm2:=Kidl.len hK5
 obtain rfl:n4=n2:=by omega
 obtain rfl:m4=m2:=by omega
 refine (q8f M A2 n4 q2 B2 m4 d2 A4 q4 B4 d4 w5 hI35 hK35 hI5 hK5).mono ?_
 rintro e w6 ⟨rfl,bb6⟩
 have z5:=T5.size
 have bb5:Below w1.heap.size w1 w5:=(bb3.trans ((bb4.trans (b4a.mono z4)).mono (by omega))).trans (T5.below (fun k hk=>by omega) (by omega))
 have bbb:=bb5.trans (bb6.mono bb5.size)
 have F3:=hfin w6 (q00 bbb)
 have F1:=H1.below bbb
 go_wp2
 go_ret
 exact⟨rfl,F3.1,F3.2,.inl ⟨_,_,_,_,_,_,_,_,_,_,_,F1,I.up⟩⟩
theorem qqe {b i w0 w xb d y p q S0 S S1 S2 T D P}(o:OpV)(Z:DIn b i w0 w xb d y p q S0 S S1 S2 T D P o)(kd:Nat)(kz:Int)(hkk:(md o.K 16:Int)=kz)(hk2:kz=6∨kz=7) :
  Calls Tryz.prog 12 #[.pointer (some ⟨xb,0,none⟩),.agg o.vs.toArray] w fun e w'=>q35 b i xb kd w e w':=by
 obtain⟨H,I,_hi,hb,ht,ho,hi20,hk20,hb300,hw0,B0⟩:=Z
 obtain⟨K,A,V,⟨lv,its,kds⟩,ia,i0,ic,ka,k0,kc,B,ba,b0,bc,⟨nm,ro,rt,nx⟩,keep,pa,p0,pc⟩:=o
 obtain⟨iK,iA,iV,hIt,hKt,hBy,hNm,hKe⟩:=ho
 dsimp only at iK iA iV hIt hKt hBy hNm hKe hi20 hk20 hb300 hkk
 rcases hk2 with rfl|rfl
 all_goals (
  obtain⟨w1,hw1⟩:∃w1,w1=w.alloc (.cells #[.int .i64 K,.int .i64 A,.int .i64 V,.int .i64 lv,.slice ia i0 ic,.slice ka k0 kc,.slice ba b0 bc,.string nm,.bool ro,.int .i64 rt,.int .i64 nx,.slice pa p0 pc] 35):=⟨_,rfl⟩
  obtain⟨O1,b1,H1,z1a,t1,hT1',B1,hbo,b1',hfin,hbs,hxl,htt,hT1,hT0,hG,hST,hS2T,hok⟩:=q2l H hb ht hw0 B0 hw1
  have c2:=H1.ref.c2
  have c3:=H1.ref.c3
  rw[hw1] at c2 c3
  have Hkd:=q66 iK hkk
  clear hkk iK
  show Calls Tryz.prog 12 #[.pointer (some ⟨xb,0,none⟩),.agg #[.int .i64 K,.int .i64 A,.int .i64 V,.int .i64 lv,.slice ia i0 ic,.slice ka k0 kc,.slice ba b0 bc,.string nm,.bool ro,.int .i64 rt,.int .i64 nx,.slice pa p0 pc]] w _
  go_enter Tryz.func12,Tryz.ntmps12
  go_wp2_with fail
  rw[←hw1] at c2 c3 ⊢
  clear hw1
  refine (Hkd.out w1).mono ?_
  rintro e w1' ⟨rfl,rfl⟩
  have o1:=O1.cell (j:=1) rfl
  have o2:=O1.cell (j:=2) rfl
  obtain⟨M,hM⟩:∃X,P.bytesL D A V=X:=⟨_,rfl⟩
  obtain⟨E1,hE1⟩:∃X,P.bytesE D A V=X:=⟨_,rfl⟩
  have hc:=q6x H1.code.drv H1.code.pool t1 A V
  unfold q28 at hc
  have hr:=fun (w2:World) (bb:Below w1.heap.size w1 w2)=>qab (H1.ref.drv.below bb) (H1.ref.pool.below bb) I.inv.kind I.inv.good A V
  rw[hM,hE1] at hc
  simp only[hM,hE1] at hr
  have Hc:=Lib.hid hc
  have Hr:=Lib.hid hr
  have nE:(E1==E1)=true:=by simp
  clear hc hr hM hE1
  go_wp2_with fail
  refine Hc.out.mono ?_
  rintro e w2 ⟨A2,n2,q2,rfl,s2,bb2,_⟩
  have z2:=bb2.size
  have O2:=O1.keep (bb2.block w.heap.size (by omega))
  have o1':=O2.cell (j:=1) rfl
  have o2':=O2.cell (j:=2) rfl
  clear o1 o2
  go_wp2_with fail
  refine (Hr.out w2 bb2).mono ?_
  rintro e w3 ⟨A3,n3,q3,rfl,s3,bb3⟩
  have k2:=q2c (s2.below bb3)
  have k3:=q2c s3
  have bbb:=bb2.trans (bb3.mono z2)
  have F3:=hfin w3 (q00 bbb)
  have F1:=H1.below bbb
  clear o1' o2' O2 s2 s3
  go_wp2
  go_ret
  exact⟨rfl,F3.1,F3.2,.inl ⟨_,_,_,_,_,_,_,_,_,_,_,F1,I.up⟩⟩)
theorem qs8 {b i w0 w xb d y p q S0 S S1 S2 T D P}(o:OpV)(Z:DIn b i w0 w xb d y p q S0 S S1 S2 T D P o)(hkk:(md o.K 16:Int)=10) :
  Calls Tryz.prog 12 #[.pointer (some ⟨xb,0,none⟩),.agg o.vs.toArray] w fun e w'=>q35 b i xb 10 w e w':=by
 obtain⟨H,I,_hi,hb,ht,ho,hi20,hk20,hb300,hw0,B0⟩:=Z
 obtain⟨K,A,V,⟨lv,its,kds⟩,ia,i0,ic,ka,k0,kc,B,ba,b0,bc,⟨nm,ro,rt,nx⟩,keep,pa,p0,pc⟩:=o
 obtain⟨iK,iA,iV,hIt,hKt,hBy,hNm,hKe⟩:=ho
 dsimp only at iK iA iV hIt hKt hBy hNm hKe hi20 hk20 hb300 hkk
 obtain⟨w1,hw1⟩:∃w1,w1=w.alloc (.cells #[.int .i64 K,.int .i64 A,.int .i64 V,.int .i64 lv,.slice ia i0 ic,.slice ka k0 kc,.slice ba b0 bc,.string nm,.bool ro,.int .i64 rt,.int .i64 nx,.slice pa p0 pc] 35):=⟨_,rfl⟩
 obtain⟨O1,b1,H1,z1a,t1,hT1',B1,hbo,b1',hfin,hbs,hxl,htt,hT1,hT0,hG,hST,hS2T,hok⟩:=q2l H hb ht hw0 B0 hw1
 have c2:=H1.ref.c2
 have c3:=H1.ref.c3
 rw[hw1] at c2 c3
 have Hkd:=q66 iK hkk
 clear hkk iK
 show Calls Tryz.prog 12 #[.pointer (some ⟨xb,0,none⟩),.agg #[.int .i64 K,.int .i64 A,.int .i64 V,.int .i64 lv,.slice ia i0 ic,.slice ka k0 kc,.slice ba b0 bc,.string nm,.bool ro,.int .i64 rt,.int .i64 nx,.slice pa p0 pc]] w _
 go_enter Tryz.func12,Tryz.ntmps12
 go_wp2_with fail
 rw[←hw1] at c2 c3 ⊢
 clear hw1
 refine (Hkd.out w1).mono ?_
 rintro e w1' ⟨rfl,rfl⟩
 have hO:∀w':World,w'.heap[w.heap.size]?=w1.heap[w.heap.size]?→w'.cell? ⟨w.heap.size,1,none⟩=some (.int .i64 A)∧w'.cell? ⟨w.heap.size,7,none⟩=some (.string nm)∧w'.cell? ⟨w.heap.size,8,none⟩=some (.bool ro)∧w'.cell? ⟨w.heap.size,9,none⟩=some (.int .i64 rt)∧w'.cell? ⟨w.heap.size,10,none⟩=some (.int .i64 nx):=fun w' h=>⟨(O1.keep h).cell (j:=1) rfl,(O1.keep h).cell (j:=7) rfl,(O1.keep h).cell (j:=8) rfl,(O1.keep h).cell (j:=9) rfl,(O1.keep h).cell (j:=10) rfl⟩
 obtain⟨E1,hE1⟩:∃X,P.volE A ⟨nm,ro,rt,nx⟩=X:=⟨_,rfl⟩
 have BD:Below w1.heap.size w1 w1.drew:=(Below.refl _ _).drew
 have HD:=H1.below BD
 have hc:=qfc HD.code.pool A ⟨nm,ro,rt,nx⟩ hNm
 have hr:=fun (w2:World) (R:RPool w2 q y S2 T P)=>qfe R A ⟨nm,ro,rt,nx⟩ hNm
 rw[hE1] at hc
 simp only[hE1] at hr
 have Hc:=Lib.hid hc
 have Hr:=Lib.hid hr
 have nE:(E1==E1)=true:=by simp
 have zD:w1.drew.heap.size=w1.heap.size:=rfl
 have ZD:=Lib.hid zD
 clear hc hr hE1 zD
 go_wp2_with fail
 go_region_held3 (fun w'=>w'.cell? ⟨w.heap.size,1,none⟩=some (.int .i64 A)∧w'.cell? ⟨w.heap.size,7,none⟩=some (.string nm)∧w'.cell? ⟨w.heap.size,8,none⟩=some (.bool ro)∧w'.cell? ⟨w.heap.size,9,none⟩=some (.int .i64 rt)∧w'.cell? ⟨w.heap.size,10,none⟩=some (.int .i64 nx))
  (first|assumption|exact hO _ rfl|exact hO _ h2|exact hO _ h3)
  (first
   |(go_at_call 53;have hh:=X2;refine (Hr.out w2 (HD.refOther X2).pool).mono ?_;rintro e w3 ⟨rfl,R3,X3⟩;have h3:w3.heap[w.heap.size]?=w1.heap[w.heap.size]?:=(X3.block w.heap.size (by have h1:=X2.size;have h2:=ZD.out;omega) fun h=>hbo (hS2T _ h)).trans h2)
   |(go_at_call 52;refine Hc.out.mono ?_;rintro e w2 ⟨rfl,R2,X2⟩;have h2:w2.heap[w.heap.size]?=w1.heap[w.heap.size]?:=X2.block w.heap.size (by have h2:=ZD.out;omega) fun h=>hbo (hST _ h))
   |fail)
 obtain⟨F1,F2⟩:=HD.pools (HD.code.turned R2 X2) X2 R3 X3
 have F3:=hfin w3 ((q00 BD).trans F2 fun k hk=>.inl hk)
 clear R2 R3 X2 X3 O1 hO
 go_wp2
 go_ret
 exact⟨rfl,F3.1,F3.2,.inl ⟨_,_,_,_,_,_,_,_,_,_,_,F1,I.next (qox I.inv _ _) (qqb _ _).1 (qqb _ _).2⟩⟩
theorem qs9 {b i w0 w xb d y p q S0 S S1 S2 T D P}(o:OpV)(Z:DIn b i w0 w xb d y p q S0 S S1 S2 T D P o)(hkk:(md o.K 16:Int)=11) :
  Calls Tryz.prog 12 #[.pointer (some ⟨xb,0,none⟩),.agg o.vs.toArray] w fun e w'=>q35 b i xb 11 w e w':=by
 obtain⟨H,I,_hi,hb,ht,ho,hi20,hk20,hb300,hw0,B0⟩:=Z
 obtain⟨K,A,V,⟨lv,its,kds⟩,ia,i0,ic,ka,k0,kc,B,ba,b0,bc,⟨nm,ro,rt,nx⟩,keep,pa,p0,pc⟩:=o
 obtain⟨iK,iA,iV,hIt,hKt,hBy,hNm,hKe⟩:=ho
 dsimp only at iK iA iV hIt hKt hBy hNm hKe hi20 hk20 hb300 hkk
 obtain⟨w1,hw1⟩:∃w1,w1=w.alloc (.cells #[.int .i64 K,.int .i64 A,.int .i64 V,.int .i64 lv,.slice ia i0 ic,.slice ka k0 kc,.slice ba b0 bc,.string nm,.bool ro,.int .i64 rt,.int .i64 nx,.slice pa p0 pc] 35):=⟨_,rfl⟩
 obtain⟨O1,b1,H1,z1a,t1,hT1',B1,hbo,b1',hfin,hbs,hxl,htt,hT1,hT0,hG,hST,hS2T,hok⟩:=q2l H hb ht hw0 B0 hw1
 have c2:=H1.ref.c2
 have c3:=H1.ref.c3
 rw[hw1] at c2 c3
 have Hkd:=q66 iK hkk
 clear hkk iK
 show Calls Tryz.prog 12 #[.pointer (some ⟨xb,0,none⟩),.agg #[.int .i64 K,.int .i64 A,.int .i64 V,.int .i64 lv,.slice ia i0 ic,.slice ka k0 kc,.slice ba b0 bc,.string nm,.bool ro,.int .i64 rt,.int .i64 nx,.slice pa p0 pc]] w _
 go_enter Tryz.func12,Tryz.ntmps12
 go_wp2_with fail
 rw[←hw1] at c2 c3 ⊢
 clear hw1
 refine (Hkd.out w1).mono ?_
 rintro e w1' ⟨rfl,rfl⟩
 have hO:∀w':World,w'.heap[w.heap.size]?=w1.heap[w.heap.size]?→w'.cell? ⟨w.heap.size,1,none⟩=some (.int .i64 A):=fun w' h=>(O1.keep h).cell (j:=1) rfl
 obtain⟨E1,hE1⟩:∃X,P.logE A=X:=⟨_,rfl⟩
 have BD:Below w1.heap.size w1 w1.drew:=(Below.refl _ _).drew
 have HD:=H1.below BD
 have hc:=qfb HD.code.pool A
 have hr:=fun (w2:World) (R:RPool w2 q y S2 T P)=>qfd R A
 rw[hE1] at hc
 simp only[hE1] at hr
 have Hc:=Lib.hid hc
 have Hr:=Lib.hid hr
 have nE:(E1==E1)=true:=by simp
 have zD:w1.drew.heap.size=w1.heap.size:=rfl
 have ZD:=Lib.hid zD
 clear hc hr hE1 zD
 go_wp2_with fail
 go_region_held3 (fun w'=>w'.cell? ⟨w.heap.size,1,none⟩=some (.int .i64 A))
  (first|assumption|exact hO _ rfl|exact hO _ h2|exact hO _ h3)
  (first
   |(go_at_call 55;have hh:=X2;refine (Hr.out w2 (HD.refOther X2).pool).mono ?_;rintro e w3 ⟨rfl,R3,X3⟩;have h3:w3.heap[w.heap.size]?=w1.heap[w.heap.size]?:=(X3.block w.heap.size (by have h1:=X2.size;have h2:=ZD.out;omega) fun h=>hbo (hS2T _ h)).trans h2)
   |(go_at_call 54;refine Hc.out.mono ?_;rintro e w2 ⟨rfl,R2,X2⟩;have h2:w2.heap[w.heap.size]?=w1.heap[w.heap.size]?:=X2.block w.heap.size (by have h2:=ZD.out;omega) fun h=>hbo (hST _ h))
   |fail)
 obtain⟨F1,F2⟩:=HD.pools (HD.code.turned R2 X2) X2 R3 X3
 have F3:=hfin w3 ((q00 BD).trans F2 fun k hk=>.inl hk)
 clear R2 R3 X2 X3 O1 hO
 go_wp2
 go_ret
 exact⟨rfl,F3.1,F3.2,.inl ⟨_,_,_,_,_,_,_,_,_,_,_,F1,I.next (qhb I.inv _) (qmk (P:=P) (P.S.setLog A) rfl).1 (qmk (P:=P) (P.S.setLog A) rfl).2⟩⟩
end Go.Proofs.YtipejjgodnnkaaaGreatDoor
