/- Laws of the pool: a call of both, kind 8 -/
import Derived.Test.YtipejjgodnnkaaaGreatDoorPz37
namespace Go.Proofs.YtipejjgodnnkaaaGreatDoor
open Go Go.RowKit Go.Proofs
set_option maxHeartbeats 8000000
set_option maxRecDepth 100000
theorem qva {b i w0 w xb d y p q S0 S S1 S2 T D P}(o:OpV)(Z:DIn b i w0 w xb d y p q S0 S S1 S2 T D P o)(hkk:(md o.K 16:Int)=8) :
  Calls Tryz.prog 12 #[.pointer (some ⟨xb,0,none⟩),.agg o.vs.toArray] w fun e w'=>q1r b i xb 8 w e w':=by
 obtain⟨H,I,_hi,hb,ht,ho,hi20,hk20,hb300,hw0,B0⟩:=Z
 obtain⟨K,A,V,⟨lv,its,kds⟩,ia,i0,ic,ka,k0,kc,B,ba,b0,bc,⟨nm,ro,rt,nx⟩,keep,pa,p0,pc⟩:=o
 obtain⟨iK,iA,iV,hIt,hKt,hBy,hNm,hKe⟩:=ho
 dsimp only at iK iA iV hIt hKt hBy hNm hKe hi20 hk20 hb300 hkk
 obtain⟨w1,hw1⟩:∃w1,w1=w.alloc (.cells #[.int .i64 K,.int .i64 A,.int .i64 V,.int .i64 lv,.slice ia i0 ic,.slice ka k0 kc,.slice ba b0 bc,.string nm,.bool ro,.int .i64 rt,.int .i64 nx,.slice pa p0 pc] 35):=⟨_,rfl⟩
 obtain⟨O1,b1,H1,z1a,t1,hT1',B1,hbo,b1',hfin,hbs,hxl,htt,hT1,hT0,hG,hST,hS2T,hok⟩:=q1j H hb ht hw0 B0 hw1
 have c2:=H1.ref.c2
 have c3:=H1.ref.c3
 rw[hw1] at c2 c3
 have Hkd:=q3h iK hkk
 clear hkk iK
 show Calls Tryz.prog 12 #[.pointer (some ⟨xb,0,none⟩),.agg #[.int .i64 K,.int .i64 A,.int .i64 V,.int .i64 lv,.slice ia i0 ic,.slice ka k0 kc,.slice ba b0 bc,.string nm,.bool ro,.int .i64 rt,.int .i64 nx,.slice pa p0 pc]] w _
 go_enter Tryz.func12,Tryz.ntmps12
 go_wp2_with fail
 rw[←hw1] at c2 c3 ⊢
 clear hw1
 refine (Hkd.out w1).mono ?_
 rintro e w1' ⟨rfl,rfl⟩
 obtain⟨cc,g,Sc,L⟩:=H1.ref.pool
 have hql:=L.qlt
 have hqS:¬S q:=fun h=>(H.sep q (.inr h)).2.1 L.inS.1
 have q36:=L.c36
 have hO:∀w':World,w'.heap[w.heap.size]?=w1.heap[w.heap.size]?∧w'.heap[q]?=w1.heap[q]?→w'.cell? ⟨w.heap.size,1,none⟩=some (.int .i64 A)∧w'.cell? ⟨q,36,none⟩=some (.pointer (some ⟨cc,0,none⟩)):=fun w' h=>⟨(O1.keep h.1).cell (j:=1) rfl,(World.cell?_of_block (a:=⟨q,36,none⟩) h.2).trans q36⟩
 obtain⟨E1,hE1⟩:∃X,P.C.refE A=X:=⟨_,rfl⟩
 have BD:Below w1.heap.size w1 w1.drew:=(Below.refl _ _).drew
 have HD:=H1.below BD
 have hc:=qq5 HD.code.pool A
 have hr:=fun (w2:World) (R:RQ w2 q y cc g Sc S2 T P)=>qgq R.ct A
 rw[hE1] at hc
 simp only[hE1] at hr
 have Hc:=Lib.hid hc
 have Hr:=Lib.hid hr
 have nE:(E1==E1)=true:=by simp
 have zD:w1.drew.heap.size=w1.heap.size:=rfl
 have ZD:=Lib.hid zD
 have LD:=L.below BD
 have HLO:=Lib.hid (fun (w2:World) (X2:Turn S w1.drew w2)=>LD.other X2 hST (fun k h=>(H.sep k (.inr h)).2.1))
 clear hc hr hE1 zD
 go_wp2_with fail
 go_region_held3 (fun w'=>w'.cell? ⟨w.heap.size,1,none⟩=some (.int .i64 A)∧w'.cell? ⟨q,36,none⟩=some (.pointer (some ⟨cc,0,none⟩)))
  (first|assumption|exact hO _ ⟨rfl,rfl⟩|exact hO _ h2|exact hO _ h3)
  (first
   |(go_at_call 50;have hh:=X2;refine (Hr.out w2 (HLO.out w2 X2)).mono ?_;rintro e w3 ⟨rfl,C3,X3⟩;have h3:w3.heap[w.heap.size]?=w1.heap[w.heap.size]?∧w3.heap[q]?=w1.heap[q]?:=⟨(X3.block w.heap.size (by have h1:=X2.size;have h2:=ZD.out;omega) fun h=>hbo (hS2T _ (L.inS.2.2 _ h))).trans h2.1,(X3.block q (by have h1:=X2.size;have h2:=ZD.out;omega) fun h=>(L.ne.2 q h).1 rfl).trans h2.2⟩)
   |(go_at_call 49;refine Hc.out.mono ?_;rintro e w2 ⟨rfl,R2,X2⟩;have h2:w2.heap[w.heap.size]?=w1.heap[w.heap.size]?∧w2.heap[q]?=w1.heap[q]?:=⟨X2.block w.heap.size (by have h2:=ZD.out;omega) fun h=>hbo (hST _ h),X2.block q (by have h2:=ZD.out;omega) hqS⟩)
   |fail)
 have R3:RPool w3 q y S2 T ⟨P.S,P.C.ref A,P.L⟩:=⟨cc,g,Sc,(HLO.out w2 X2).setC X3 C3 (Ct.ref_n _ _)⟩
 obtain⟨F1,F2⟩:=HD.pools (HD.code.turned R2 X2) X2 R3 (X3.mono L.inS.2.2)
 have F3:=hfin w3 ((q00 BD).trans F2 fun k hk=>.inl hk)
 clear R2 R3 X2 X3 O1 hO
 go_wp2
 go_ret
 exact⟨rfl,F3.1,F3.2,.inl ⟨_,_,_,_,_,_,_,_,_,_,_,F1,I.next (qtf I.inv hok.c _) (Ct.ref_n _ _) rfl⟩⟩
theorem qvb {b i w0 w xb d y p q S0 S S1 S2 T D P}(o:OpV)(Z:DIn b i w0 w xb d y p q S0 S S1 S2 T D P o)(hkk:(md o.K 16:Int)=9) :
  Calls Tryz.prog 12 #[.pointer (some ⟨xb,0,none⟩),.agg o.vs.toArray] w fun e w'=>q1r b i xb 9 w e w':=by
 obtain⟨H,I,_hi,hb,ht,ho,hi20,hk20,hb300,hw0,B0⟩:=Z
 obtain⟨K,A,V,⟨lv,its,kds⟩,ia,i0,ic,ka,k0,kc,B,ba,b0,bc,⟨nm,ro,rt,nx⟩,keep,pa,p0,pc⟩:=o
 obtain⟨iK,iA,iV,hIt,hKt,hBy,hNm,hKe⟩:=ho
 dsimp only at iK iA iV hIt hKt hBy hNm hKe hi20 hk20 hb300 hkk
 obtain⟨w1,hw1⟩:∃w1,w1=w.alloc (.cells #[.int .i64 K,.int .i64 A,.int .i64 V,.int .i64 lv,.slice ia i0 ic,.slice ka k0 kc,.slice ba b0 bc,.string nm,.bool ro,.int .i64 rt,.int .i64 nx,.slice pa p0 pc] 35):=⟨_,rfl⟩
 obtain⟨O1,b1,H1,z1a,t1,hT1',B1,hbo,b1',hfin,hbs,hxl,htt,hT1,hT0,hG,hST,hS2T,hok⟩:=q1j H hb ht hw0 B0 hw1
 have c2:=H1.ref.c2
 have c3:=H1.ref.c3
 rw[hw1] at c2 c3
 have Hkd:=q3h iK hkk
 clear hkk iK
 show Calls Tryz.prog 12 #[.pointer (some ⟨xb,0,none⟩),.agg #[.int .i64 K,.int .i64 A,.int .i64 V,.int .i64 lv,.slice ia i0 ic,.slice ka k0 kc,.slice ba b0 bc,.string nm,.bool ro,.int .i64 rt,.int .i64 nx,.slice pa p0 pc]] w _
 go_enter Tryz.func12,Tryz.ntmps12
 go_wp2_with fail
 rw[←hw1] at c2 c3 ⊢
 clear hw1
 refine (Hkd.out w1).mono ?_
 rintro e w1' ⟨rfl,rfl⟩
 have o1:=O1.cell (j:=1) rfl
 obtain⟨cc,g,Sc,L⟩:=H1.ref.pool
 have hql:=L.qlt
 obtain⟨V1,hV1⟩:∃X,P.C.unrefV A=X:=⟨_,rfl⟩
 obtain⟨E1,hE1⟩:∃X,P.C.unrefE A=X:=⟨_,rfl⟩
 have hc:=q79 H1.code.pool A
 have hr:=fun (w2:World) (R:RQ w2 q y cc g Sc S2 T P)=>qcr R.ct A
 rw[hE1,hV1] at hc
 simp only[hE1,hV1] at hr
 have Hc:=Lib.hid hc
 have Hr:=Lib.hid hr
 have nV:(V1==V1)=true:=by simp
 have nE:(E1==E1)=true:=by simp
 clear hc hr hE1 hV1
 go_wp2_with fail
 refine Hc.out.mono ?_
 rintro e w2 ⟨rfl,R2,X2⟩
 have z2:=X2.size
 have O2:=O1.keep (X2.block w.heap.size (by omega) fun h=>hbo (hST _ h))
 have L2:=L.other X2 hST (fun k h=>(H.sep k (.inr h)).2.1)
 have o1':=O2.cell (j:=1) rfl
 have q36:=L2.c36
 have BD:Below w2.heap.size w2 w2.drew:=(Below.refl _ _).drew
 have hO:∀w':World,w'.heap[w.heap.size]?=w2.heap[w.heap.size]?∧w'.heap[q]?=w2.heap[q]?→w'.cell? ⟨w.heap.size,1,none⟩=some (.int .i64 A)∧w'.cell? ⟨q,36,none⟩=some (.pointer (some ⟨cc,0,none⟩)):=fun w' h=>⟨(O2.keep h.1).cell (j:=1) rfl,(World.cell?_of_block (a:=⟨q,36,none⟩) h.2).trans q36⟩
 have L2D:=L2.below BD
 have zD:w2.drew.heap.size=w2.heap.size:=rfl
 have ZD:=Lib.hid zD
 have hq2:=L2.qlt
 clear o1 zD
 go_wp2_with fail
 go_region_held3 (fun w'=>w'.cell? ⟨w.heap.size,1,none⟩=some (.int .i64 A)∧w'.cell? ⟨q,36,none⟩=some (.pointer (some ⟨cc,0,none⟩)))
  (first|assumption|exact hO _ ⟨rfl,rfl⟩|exact hO _ h3)
  (first
   |(go_at_call 51;refine (Hr.out _ L2D).mono ?_;rintro e w3 ⟨rfl,C3,X3⟩;have h3:w3.heap[w.heap.size]?=w2.heap[w.heap.size]?∧w3.heap[q]?=w2.heap[q]?:=⟨X3.block w.heap.size (by have h2:=ZD.out;omega) fun h=>hbo (hS2T _ (L.inS.2.2 _ h)),X3.block q (by have h2:=ZD.out;omega) fun h=>(L.ne.2 q h).1 rfl⟩)
   |fail)
 have R3:RPool w3 q y S2 T ⟨P.S,P.C.unref A,P.L⟩:=⟨cc,g,Sc,L2D.setC X3 C3 (Ct.unref_n _ _)⟩
 obtain⟨F1,F2⟩:=H1.pools (H1.code.turned R2 X2) X2 R3 (((q00 (S:=S2) BD)).trans (X3.mono L.inS.2.2) fun k hk=>.inl hk)
 have F3:=hfin w3 F2
 clear R2 R3 X2 X3 O1 hO O2 o1'
 go_wp2
 go_ret
 exact⟨rfl,F3.1,F3.2,.inl ⟨_,_,_,_,_,_,_,_,_,_,_,F1,I.next (qnl I.inv _) (Ct.unref_n _ _) rfl⟩⟩
theorem qtr {b i w0 w xb d y p q S0 S S1 S2 T D P}(o:OpV)(Z:DIn b i w0 w xb d y p q S0 S S1 S2 T D P o)(hkk:(md o.K 16:Int)=12) :
  Calls Tryz.prog 12 #[.pointer (some ⟨xb,0,none⟩),.agg o.vs.toArray] w fun e w'=>q1r b i xb 12 w e w':=by
 obtain⟨H,I,_hi,hb,ht,ho,hi20,hk20,hb300,hw0,B0⟩:=Z
 obtain⟨K,A,V,⟨lv,its,kds⟩,ia,i0,ic,ka,k0,kc,B,ba,b0,bc,⟨nm,ro,rt,nx⟩,keep,pa,p0,pc⟩:=o
 obtain⟨iK,iA,iV,hIt,hKt,hBy,hNm,hKe⟩:=ho
 dsimp only at iK iA iV hIt hKt hBy hNm hKe hi20 hk20 hb300 hkk
 obtain⟨w1,hw1⟩:∃w1,w1=w.alloc (.cells #[.int .i64 K,.int .i64 A,.int .i64 V,.int .i64 lv,.slice ia i0 ic,.slice ka k0 kc,.slice ba b0 bc,.string nm,.bool ro,.int .i64 rt,.int .i64 nx,.slice pa p0 pc] 35):=⟨_,rfl⟩
 obtain⟨O1,b1,H1,z1a,t1,hT1',B1,hbo,b1',hfin,hbs,hxl,htt,hT1,hT0,hG,hST,hS2T,hok⟩:=q1j H hb ht hw0 B0 hw1
 have c2:=H1.ref.c2
 have c3:=H1.ref.c3
 rw[hw1] at c2 c3
 have Hkd:=q3h iK hkk
 clear hkk iK
 show Calls Tryz.prog 12 #[.pointer (some ⟨xb,0,none⟩),.agg #[.int .i64 K,.int .i64 A,.int .i64 V,.int .i64 lv,.slice ia i0 ic,.slice ka k0 kc,.slice ba b0 bc,.string nm,.bool ro,.int .i64 rt,.int .i64 nx,.slice pa p0 pc]] w _
 go_enter Tryz.func12,Tryz.ntmps12
 go_wp2_with fail
 rw[←hw1] at c2 c3 ⊢
 clear hw1
 refine (Hkd.out w1).mono ?_
 rintro e w1' ⟨rfl,rfl⟩
 have hgen:P.g<1099511627775:=by have h1:=I.gen;have h2:P.g=P.S.gen+1:=rfl;omega
 have hc:=qex H1.code hb t1 I.tame (by omega) hgen
 have I':=I.commit hok
 obtain⟨E1,hE1⟩:∃X,D.cmtE P=X:=⟨_,rfl⟩
 obtain⟨D',hD'⟩:∃X,D.runD P.steps=X:=⟨_,rfl⟩
 obtain⟨P',hP'⟩:∃X,D.cmtP P=X:=⟨_,rfl⟩
 have hr:=fun (w2:World) (X2:Turn (fun k=>S0 k∨S k) w1 w2)=>
  have R:=H1.ref.otherGrow X2 (fun k h=>h.elim (H.code.sub k) (hST k)) (fun k h=>(H.sep k h).1) (fun k h=>(H.sep k h).2.1) (fun h=>(H.sep xb h).2.2 rfl)
  q9p R.drv R.pool R.sub1 R.apart (fun k hk=>(R.tight k hk).2) hok I.inv.kind I.inv.good (q9q I.tame) (by omega) I.n
 rw[hE1,hD',hP'] at hc
 simp only[hE1,hD',hP'] at hr
 rw[hD',hP'] at I'
 have Hc:=Lib.hid hc
 have Hr:=Lib.hid hr
 have nE:(E1 != E1)=false:=by simp
 clear hc hr hE1 hD' hP'
 go_wp2_with fail
 refine Hc.out.mono ?_
 rintro e w2 ⟨rfl,C2,X2,t2⟩
 go_wp2_with fail
 refine (Hr.out w2 X2).mono ?_
 rintro e w3 ⟨rfl,bb0,hb0,hb1,R1,R2,X3⟩
 obtain⟨⟨T0,T1,T2,T3,T4,F1,hT4⟩,F2⟩:=H1.commits C2 X2 hb0 hb1 R1 R2 X3
 have F3:=hfin w3 F2
 have O3:=O1.keep (F2.block w.heap.size (by omega) hbo)
 have B3:Below w0.heap.size w0 w3:=B1.trans (F2.below hT0 B1.size)
 clear C2 X2 R1 R2 X3
 by_cases hz:E1=0
 ·have n0:(E1 != 0)=false:=by simpa using hz
  go_wp2
  go_ret
  exact⟨rfl,F3.1,F3.2,.inl ⟨_,_,_,_,_,_,_,_,_,_,_,F1,I'⟩⟩
 ·have n0:(E1 != 0)=true:=by simpa using hz
  have hboK:¬T4 w.heap.size:=fun h=>(hT4 _ h).elim hbo fun h=>by omega
  have tK:=F3.1
  have bK:=F3.2
  have xk0:=F1.ref.c0
  have xlk:=F1.ref.xlt
  have zk:=F2.size
  have hTk:∀k,T4 k→b≤k∧k<w3.heap.size:=F1.code.tight
  have hOk:∀w':World,w'.heap[w.heap.size]?=w3.heap[w.heap.size]?∧w'.heap[xb]?=w3.heap[xb]?→w'.cell? ⟨xb,0,none⟩=some (.pointer (some ⟨d,0,none⟩))∧w'.cell? ⟨w.heap.size,11,none⟩=some (.slice pa p0 pc):=fun w' h=>⟨(World.cell?_of_block (a:=⟨xb,0,none⟩) h.2).trans xk0,(O3.keep h.1).cell (j:=11) rfl⟩
  have hout:0<p0→∀ad,pa=some ad→ad.block<w0.heap.size:=fun hp ad e=>by
   obtain⟨ad2,z,e2,_,hc,_⟩:=hKe.at hp
   rw[e] at e2
   injection e2 with e2
   subst e2
   have:=World.block_lt_of_cell? w0 _ hc
   rwa [q0l] at this
  have hout1:0<p0→∀ad,pa=some ad→¬T0 ad.block:=fun hp ad e h=>by have h1:=hout hp ad e;have h2:=(hTk _ (F1.code.sub _ h)).1;omega
  have hout2:∀ad,pa=some ad→0<p0→¬T2 ad.block:=fun ad e hp h=>by have h1:=hout hp ad e;have h2:=(hTk _ (F1.ref.sub1 _ h)).1;omega
  have BDk:Below w3.heap.size w3 w3.drew:=(Below.refl _ _).drew
  have HDk:=F1.below BDk
  have hnS0:∀k,T0 k→k≠xb:=fun k h=>(F1.sep k (.inl h)).2.2
  have hc:=qia HDk.code pa p0 pc keep (hKe.lower (B3.trans (BDk.mono B3.size))) hout1 I'.tame (by omega)
  have hboT:¬T4 w.heap.size:=hboK
  have hr:=fun (w2:World) (R:RDrv w2 y T2 D') (bb:Below w0.heap.size w0 w2)=>qan R pa p0 pc keep (hKe.lower bb) hout2 (fun k=>by have:=(q9q I'.tame).2 k;omega)
  have Hc:=Lib.hid hc
  have Hr:=Lib.hid hr
  have ZD:=Lib.hid (show w3.drew.heap.size=w3.heap.size from rfl)
  clear hc hr xk0
  go_wp2_with fail
  go_region_held3 (fun w'=>w'.cell? ⟨xb,0,none⟩=some (.pointer (some ⟨d,0,none⟩))∧w'.cell? ⟨w.heap.size,11,none⟩=some (.slice pa p0 pc))
   (first|assumption|exact hOk _ ⟨rfl,rfl⟩|exact hOk _ hk2)
   (first
    |(go_at_call 29;refine Hc.out.mono ?_;rintro e wk2 ⟨rfl,Ck2,Xk2⟩;have hk2:wk2.heap[w.heap.size]?=w3.heap[w.heap.size]?∧wk2.heap[xb]?=w3.heap[xb]?:=⟨Xk2.block w.heap.size (by have h2:=ZD.out;omega) fun h=>hboT (F1.code.sub _ h),Xk2.block xb (by have h2:=ZD.out;omega) fun h=>hnS0 _ h rfl⟩)
    |fail)
  have Rk2:=HDk.ref.other Xk2 F1.code.sub (fun k h=>(F1.sep k (.inl h)).1) (fun k h=>(F1.sep k (.inl h)).2.1) fun h=>hnS0 _ h rfl
  have Ok2:=O3.keep hk2.1
  have zk2:=Xk2.size
  have xk1:=Rk2.c1
  have xlk2:=Rk2.xlt
  have BDk2:Below wk2.heap.size wk2 wk2.drew:=(Below.refl _ _).drew
  have hOk2:∀w':World,w'.heap[w.heap.size]?=wk2.heap[w.heap.size]?∧w'.heap[xb]?=wk2.heap[xb]?→w'.cell? ⟨xb,1,none⟩=some (.pointer (some ⟨y,0,none⟩))∧w'.cell? ⟨w.heap.size,11,none⟩=some (.slice pa p0 pc):=fun w' h=>⟨(World.cell?_of_block (a:=⟨xb,1,none⟩) h.2).trans xk1,(Ok2.keep h.1).cell (j:=11) rfl⟩
  have Bk2:Below w0.heap.size w0 wk2:=(B3.trans (BDk.mono B3.size)).trans (Xk2.below (fun k hk=>by have h1:=(hTk _ (F1.code.sub _ hk)).1;omega) (by have h1:=B3.size;have h2:=ZD.out;omega))
  have ZD2:=Lib.hid (show wk2.drew.heap.size=wk2.heap.size from rfl)
  clear xk1
  go_wp2_with fail
  go_region_held3 (fun w'=>w'.cell? ⟨xb,1,none⟩=some (.pointer (some ⟨y,0,none⟩))∧w'.cell? ⟨w.heap.size,11,none⟩=some (.slice pa p0 pc))
   (first|assumption|exact hOk2 _ ⟨rfl,rfl⟩|exact hOk2 _ hk3)
   (first
    |(go_at_call 56;refine (Hr.out _ (Rk2.drv.below BDk2) (Bk2.trans (BDk2.mono Bk2.size))).mono ?_;rintro e wk3 ⟨rfl,Dk3,Xk3⟩;have hk3:wk3.heap[w.heap.size]?=wk2.heap[w.heap.size]?∧wk3.heap[xb]?=wk2.heap[xb]?:=⟨Xk3.block w.heap.size (by have h2:=ZD2.out;have h3:=ZD.out;omega) fun h=>hboT (F1.ref.sub1 _ h),Xk3.block xb (by have h2:=ZD2.out;omega) F1.ref.x1⟩)
    |fail)
  obtain⟨G1,G2⟩:=HDk.drives (w':=wk2.drew) (Ck2.below BDk2) (Xk2.then (q00 BDk2)) Dk3 Xk3
  have F2':Turn T4 w3 wk3:=(q00 (S:=T4) BDk).trans G2 fun k hk=>.inl hk
  have Ik:=I'.crash keep
  have tk3:Tab wk3:=tK.turned F2' fun h=>by have:=(hTk _ h).1;omega
  have hgn:(mtS (D'.crash keep).newest).gen<1099511627775:=by have:=qnr Ik.low;omega
  have hmo:=q9r G1 hb tk3 hgn
  have Bk3:Below b w wk3:=bK.trans (F1.bel F2')
  have hxb:∀k,k=xb→b≤k:=fun k hk=>by rw[hk];exact (hTk _ F1.ref.xT).1
  have Hmo:=Lib.hid hmo
  clear hmo hOk hOk2 Ck2 Xk2 Rk2 Dk3 Xk3 HDk
  go_wp2_with fail
  refine Hmo.out.mono ?_
  rintro e wk4 ⟨rfl,tk4,Xk4,hend⟩
  have Bk4:Below b w wk4:=Bk3.trans (Xk4.below hxb (Nat.le_trans hbs Bk3.size))
  go_wp2
  go_ret
  rcases hend with⟨_,p',q',S',S2',T',F5⟩|⟨_,hg⟩
  ·exact⟨rfl,tk4,Bk4,.inl ⟨_,_,_,_,_,_,_,_,_,_,_,F5,Ik.mounted⟩⟩
  ·exact⟨rfl,tk4,Bk4,.inr ⟨by omega,hg⟩⟩
section
theorem qnw {cur:Array Value}(h:∀(i:Nat) (v:Value),cur[i]?=some v→v.oneCell'=true):cur.all (·.oneCell')=true:=by
 rw[Array.all_eq_true]
 intro i hi
 exact h i _ (Array.getElem?_eq_getElem hi)
theorem qqn {w:World}{p d m clock:Nat}{cur:Array Value}{l:List MapEntry}{v:Nat→Value}{Sc S T:Nat→Prop}{P:Pl}(L:PL w p d m cur l clock v Sc S T P):cur.all (·.oneCell')=true:=by
 refine qnw fun i x hx=>?_
 obtain⟨a,ca,b,cb,t,cur2,h1,⟨o0,o1,o2,o3⟩,_⟩:=L.ct
 rw[L.me] at h1
 injection h1 with h1
 injection h1 with h1
 subst h1
 have hi:i<41:=by have:=(Array.getElem?_eq_some_iff.1 hx).1;have:=L.ph.size;omega
 by_cases h0:i=0
 ·subst h0
  rw[L.ph.disk] at hx
  injection hx with hx
  subst hx
  rfl
 ·by_cases h36:i<36
  ·have hs:P.S.vs[i-1]?=some (P.S.vs[i-1]'(by rw[P.S.vs_len];omega)):=List.getElem?_eq_getElem _
   have:=L.ph.sup (i-1) _ hs
   rw[show 1+(i-1)=i by omega,hx] at this
   injection this with this
   rw[this]
   exact P.S.one _ (List.getElem_mem _)
  ·have:i=36∨i=37∨i=38∨i=39∨i=40:=by omega
   rcases this with rfl|rfl|rfl|rfl|rfl
   ·rw[o0] at hx;injection hx with hx;subst hx;rfl
   ·rw[show 36+1=37 from rfl] at o1;rw[o1] at hx;injection hx with hx;subst hx;rfl
   ·rw[show 36+2=38 from rfl] at o2;rw[o2] at hx;injection hx with hx;subst hx;rfl
   ·rw[show 36+3=39 from rfl] at o3;rw[o3] at hx;injection hx with hx;subst hx;rfl
   ·rw[L.ph.fresh] at hx;injection hx with hx;subst hx;rfl
theorem q61 (b:Nat):∀(vs:List Value) (o:Nat) (w:World),(w.setCells b o vs).heap.size=w.heap.size
 |[],_,_=>rfl
 |v::r,o,w=>(q61 b r (o+1) (w.setCell ⟨b,o,none⟩ v)).trans (World.size_setCell ..)
theorem qnx {α:Type}{L vs:List α}{o i:Nat}(hi:i<o)(ho:o≤L.length):(splice L o vs)[i]?=L[i]?:=by
 unfold splice
 rw[List.getElem?_append_left (by simp;omega),List.getElem?_take_of_lt hi]
theorem qny {α:Type}{L vs:List α}{o j:Nat}(hj:j<vs.length)(ho:o≤L.length):(splice L o vs)[o+j]?=vs[j]?:=by
 unfold splice
 have hl:(L.take o).length=o:=by simp;omega
 rw[List.getElem?_append_right (by omega),hl,Nat.add_sub_cancel_left,List.getElem?_append_left hj]
theorem qnz {α:Type}{L vs:List α}{o j:Nat}(ho:o≤L.length):(splice L o vs)[o+(vs.length+j)]?=L[o+(vs.length+j)]?:=by
 unfold splice
 have hl:(L.take o).length=o:=by simp;omega
 rw[List.getElem?_append_right (by omega),hl,Nat.add_sub_cancel_left,List.getElem?_append_right (by omega),Nat.add_sub_cancel_left,List.getElem?_drop,Nat.add_assoc]
def ldP (p:Value):Sem Value:=Instr.loadAt 110 p
theorem qqo (p:Value):Instr.loadAt 110 p=ldP p:=rfl
def alP (h:Bool)(old:Value):Sem Value:=Instr.alloc 110 h old
theorem qqp (h:Bool)(old:Value):Instr.alloc 110 h old=alP h old:=rfl
def zeroP:List Value:=.pointer none::(Sp.zero.vs++[.slice none 0 0,.slice none 0 0,.int .i64 0,.int .i64 0,.map none])
theorem q9t:zeroP.length=41:=by decide
theorem qts (h:Bool)(w:World):(alP h (.tuple #[])).run Tryz.prog w=.ok (.pointer (some ⟨w.heap.size,0,none⟩)) (w.alloc (.cells zeroP.toArray 110)):=by
 cases h
 ·show (Instr.alloc 110 false (.tuple #[])).run Tryz.prog w=_;kernel_rfl
 ·show (Instr.alloc 110 true (.tuple #[])).run Tryz.prog w=_;kernel_rfl
theorem PL.ldp {w:World}{p d m clock:Nat}{cur:Array Value}{l:List MapEntry}{v:Nat→Value}{Sc S T:Nat→Prop}{P:Pl}(L:PL w p d m cur l clock v Sc S T P):(ldP (.pointer (some ⟨p,0,none⟩))).run Tryz.prog w=.ok (.agg cur) w:=by
 have hr:w.rangeAt p 0 cur.toList:=fun j x hx=>by
  rw[Nat.zero_add]
  exact q18 L.me (by simpa using hx)
 show (Instr.loadAt 110 (.pointer (some ⟨p,0,none⟩))).run Tryz.prog w=_
 have:=run_loadAt_mid (P:=Tryz.prog) w p 0 110 cur.toList _ hr Tryz.underlying110 rfl (by rw[Array.length_toList,L.ph.size];kernel_rfl)
 simpa using this
attribute [local go_sem ↓] qqo qqp qhy
theorem qkg {b:Nat}{w:World}{d p:Nat}{S0 S T:Nat→Prop}{D:DM}{P:Pl}(H:SysAt b w d p S0 S T D P) :
  Calls Tryz.prog 34 #[.pointer (some ⟨p,0,none⟩)] w fun e w'=>∃q,e=.returned (.pointer (some ⟨q,0,none⟩))∧Below w.heap.size w w'∧SysAt b w' d p S0 S (grow T w w') D P∧SysAt b w' d q S0 (fun k=>w.heap.size≤k∧k<w'.heap.size) (grow T w w') D P:=by
 have H0:=H
 obtain⟨m,cur,l,clock,v,Sc,L⟩:=H.pool
 have hld:=L.ldp
 have hone:=qqn L
 have hal:=qts
 have hpl:=L.plt
 have hml:=L.mlt
 have c40:=L.c40
 have hsz:=L.ph.size
 have bz:Below w.heap.size w (w.alloc (.cells zeroP.toArray 110)):=blA
 have hz1:(w.alloc (.cells zeroP.toArray 110)).heap[w.heap.size]?=some (.cells zeroP.toArray 110 (0,0)):=heap_alloc_new w _
 have hld1:=(L.below bz).ldp
 go_enter Tryz.func34,Tryz.ntmps34
 have hth:(w.alloc (.cells zeroP.toArray 110)).there w.heap.size 0 cur.size:=fun j hj=>by
  refine⟨?_,by unfold World.frozen?;rw[hz1];simp⟩
  rw[cell_of_row _ _ _ _ _ _ hz1,Array.getElem?_eq_getElem (by rw[List.size_toArray,q9t];omega)]
  rfl
 have h2:=q0g w.heap.size 110 cur.toList 0 _ zeroP hz1 (by rw[Array.length_toList,q9t];omega)
 rw[q1p zeroP cur.toList (by rw[q9t,Array.length_toList,hsz])] at h2
 have T2:=q0e (S:=fun k=>k=w.heap.size) rfl cur.toList 0 (w.alloc (.cells zeroP.toArray 110))
 have b2:Below w.heap.size w ((w.alloc (.cells zeroP.toArray 110)).setCells w.heap.size 0 cur.toList):=bz.trans (T2.below (fun k hk=>by omega) (by simp))
 have zz:((w.alloc (.cells zeroP.toArray 110)).setCells w.heap.size 0 cur.toList).heap.size=w.heap.size+1:=by
  rw[q61];simp
 go_wp2_with (first
  |(refine wpList_store_mid rfl 110 _ _ rfl w.heap.size 0 cur rfl rfl hth (by rw[hsz];kernel_rfl) hone ?_)
  |fail)
 generalize (w.alloc (.cells zeroP.toArray 110)).setCells w.heap.size 0 cur.toList=w2 at h2 b2 zz ⊢
 obtain⟨q,hq⟩:∃k,w.heap.size=k:=⟨_,rfl⟩
 have Hq:=Lib.hid hq
 rw[hq] at h2 zz
 simp only[hq]
 have L2:=L.below b2
 have hC2:=L2.ct
 clear hld hld1 hal hth hz1 bz T2
 refine (qj8 hC2).mono ?_
 rintro e w3 ⟨pc,rfl,C3,hpc,b3⟩
 have L3:=L2.below b3
 have h3:=(b3.block q (by omega)).trans h2
 have c340:=L3.c40
 have hC:=C3
 obtain⟨a0,ca0,a1,ca1,ty,cu,k1,⟨k2,k3,k4,k5⟩,k6,k7,k8,k9,k10⟩:=C3
 obtain⟨x0',hx0'⟩:∃x:Value,Value.slice (some ⟨a0,0,none⟩) P.C.n ca0=x:=⟨_,rfl⟩
 obtain⟨x1',hx1'⟩:∃x:Value,Value.slice (some ⟨a1,0,none⟩) P.C.n ca1=x:=⟨_,rfl⟩
 obtain⟨x2',hx2'⟩:∃x:Value,Value.int .i64 (areaN P.C.n:Int)=x:=⟨_,rfl⟩
 obtain⟨x3',hx3'⟩:∃x:Value,Value.int .i64 (P.C.first:Int)=x:=⟨_,rfl⟩
 have o4:(#[x0',x1',x2',x3']:Array Value).all (·.oneCell')=true:=by
  refine qnw fun i v hv=>?_
  match i,hv with
  |0,hv=>injection hv with hv;rw[←hv,←hx0'];rfl
  |1,hv=>injection hv with hv;rw[←hv,←hx1'];rfl
  |2,hv=>injection hv with hv;rw[←hv,←hx2'];rfl
  |3,hv=>injection hv with hv;rw[←hv,←hx3'];rfl
  |i+4,hv=>simp at hv
 have hldc:(ldC (.pointer (some ⟨pc,0,none⟩))).run Tryz.prog w3=.ok (.agg #[x0',x1',x2',x3']) w3:=by
  have r:w3.rangeAt pc 0 [x0',x1',x2',x3']:=fun j v hv=>by
   rw[Nat.zero_add]
   refine q18 k1 ?_
   rw[hx0'] at k2
   rw[hx1'] at k3
   rw[hx2'] at k4
   rw[hx3'] at k5
   match j with
   |0=>rw[k2];exact hv
   |1=>exact k3.trans hv
   |2=>exact k4.trans hv
   |3=>exact k5.trans hv
   |j+4=>simp at hv
  exact run_loadAt_mid w3 pc 0 107 _ _ r Tryz.underlying107 rfl (by kernel_rfl)
 have hth4:w3.there q 36 4:=fun j hj=>by
  refine⟨?_,by unfold World.frozen?;rw[h3];simp⟩
  rw[cell_of_row _ _ _ _ _ _ h3,Array.getElem?_eq_getElem (by simp;omega)]
  rfl
 have hcl:cur.toList.length=41:=by rw[Array.length_toList,hsz]
 have h4:=q0g q 110 [x0',x1',x2',x3'] 36 w3 cur.toList h3 (by rw[hcl];show 36+4≤41;omega)
 have T4:=q0e (S:=fun k=>k=q) rfl [x0',x1',x2',x3'] 36 w3
 have hpq:p≠q:=by omega
 have hmq:m≠q:=by omega
 have z3:=b3.size
 have z4:(w3.setCells q 36 [x0',x1',x2',x3']).heap.size=w3.heap.size:=q61 ..
 have c440:(w3.setCells q 36 [x0',x1',x2',x3']).cell? ⟨p,40,none⟩=some (.map (some m)):=by
  rw[World.cell?_of_block (a:=⟨p,40,none⟩) (T4.block p (by have:=L3.plt;omega) (fun h=>hpq h))]
  exact c340
 have m4:(w3.setCells q 36 [x0',x1',x2',x3']).heap[m]?=some (.map l.toArray clock):=(T4.block m L3.mlt (fun h=>hmq h)).trans L3.map
 go_wp2_with (first
  |(refine wpList_store_mid rfl 107 _ _ rfl q 36 #[x0',x1',x2',x3'] rfl rfl hth4 (by kernel_rfl) o4 ?_)
  |fail)
 have BD:=b3
 generalize w3.setCells q 36 [x0',x1',x2',x3']=w4 at h4 T4 z4 c440 m4 ⊢
 refine (qfe m4).mono ?_
 rintro e w5 ⟨rfl,rfl⟩
 have b5:Below w4.heap.size w4 (w4.alloc (.map l.toArray clock)):=blA
 have m5:(w4.alloc (.map l.toArray clock)).heap[w4.heap.size]?=some (.map l.toArray clock):=heap_alloc_new w4 _
 have h5:=(b5.block q (by omega)).trans h4
 have z5:(w4.alloc (.map l.toArray clock)).heap.size=w4.heap.size+1:=by simp
 have c5:(splice cur.toList 36 [x0',x1',x2',x3'])[40]?=some (.map (some m)):=by
  have h:=qnz (L:=cur.toList) (vs:=[x0',x1',x2',x3']) (o:=36) (j:=0) (by omega)
  have h40:36+([x0',x1',x2',x3'].length+0)=40:=rfl
  rw[h40] at h
  rw[h,Array.getElem?_toList]
  exact L.ph.fresh
 have d5:(w4.alloc (.map l.toArray clock)).cell? ⟨q,40,none⟩=some (.map (some m)):=by
  rw[cell_of_row _ _ _ _ _ _ h5,List.getElem?_toArray];exact c5
 have f5:(w4.alloc (.map l.toArray clock)).frozen? ⟨q,40,none⟩=false:=by unfold World.frozen?;rw[h5];simp
 generalize w4.alloc (.map l.toArray clock)=w5 at b5 m5 h5 z5 d5 f5 ⊢
 go_wp2_with fail
 have hq:=Hq.out
 obtain⟨m',hm'⟩:∃k,w3.heap.size=k:=⟨_,rfl⟩
 rw[z4,hm'] at m5
 simp only[hm']
 have h6:=heap_setCell_same w5 q 40 _ _ (.map (some m')) h5
 have X6:Turn (fun k=>k=q) w5 (w5.setCell ⟨q,40,none⟩ (.map (some m'))):=q0o _ _ _
 have z6:(w5.setCell ⟨q,40,none⟩ (.map (some m'))).heap.size=w5.heap.size:=World.size_setCell ..
 generalize w5.setCell ⟨q,40,none⟩ (.map (some m'))=w6 at h6 X6 z6 ⊢
 have B4:Below w.heap.size w w4:=(b2.trans (b3.mono (by omega))).trans (T4.below (fun k hk=>by omega) (by omega))
 have B6:Below w.heap.size w w6:=(B4.trans (b5.mono (by omega))).trans (X6.below (fun k hk=>by omega) (by omega))
 have m6:w6.heap[m']?=some (.map l.toArray clock):=(X6.block m' (by omega) (by omega)).trans m5
 have hST:=H0.subS
 have L7:=(L.mono (S':=S) (T':=grow T w w6) (fun k _ h=>h) (fun k hk h=>h.1.elim id fun h2=>by omega) (fun k h=>⟨.inl (hST k h),by have:=(H0.tight k (hST k h)).2;omega⟩)).below B6
 have hcur:∀i,i<36→((splice cur.toList 36 [x0',x1',x2',x3']).toArray.setIfInBounds 40 (.map (some m')))[i]?=cur[i]?:=fun i hi=>by
  rw[Array.getElem?_setIfInBounds_ne (by omega),List.getElem?_toArray,qnx hi (by omega),Array.getElem?_toList]
 have hlen:(splice cur.toList 36 [x0',x1',x2',x3']).length=41:=by
  unfold splice
  simp only[List.length_append,List.length_take,List.length_drop,List.length_cons,List.length_nil,hcl]
  omega
 have C6:CCo w6 q 36 (fun k=>w2.heap.size≤k∧k<w3.heap.size) P.C:=by
  refine CCo.around (p:=pc) (o:=0) hC.shrink k1 h6 (fun j hj=>?_) (fun k hk=>by omega) fun k hk hs=>?_
  ·rw[Array.getElem?_setIfInBounds_ne (by omega),List.getElem?_toArray,qny (by simpa using hj) (by omega)]
   rw[hx0'] at k2
   rw[hx1'] at k3
   rw[hx2'] at k4
   rw[hx3'] at k5
   match j,hj with
   |0,_=>exact k2.symm
   |1,_=>exact k3.symm
   |2,_=>exact k4.symm
   |3,_=>exact k5.symm
  ·have hkq:k≠q:=by omega
   exact (X6.block k (by omega) hkq).trans ((b5.block k (by omega)).trans (T4.block k hk hkq))
 go_ret
 refine⟨q,rfl,B6,H0.more B6,H0.drv.below B6,⟨m',_,l,clock,v,_,⟨h6,⟨?_,?_,fun j x hx=>?_,?_⟩,C6,m6,L7.ents,L7.look,L7.keys,L7.row,L7.good,⟨⟨by omega,by omega⟩,⟨by omega,by omega⟩,fun k hk=>⟨by omega,by omega⟩⟩,fun k hk=>⟨by omega,by omega⟩,fun k hk=>⟨.inr hk.1,hk.2⟩,L7.ok,L7.fineS⟩⟩,fun k hk=>⟨.inl (H0.sub k hk),by have:=(H0.tight k (H0.sub k hk)).2;omega⟩,fun k hk h=>by have:=(H0.tight k (H0.sub k hk)).2;omega,fun k hk=>⟨hk.1.elim (fun h=>(H0.tight k h).1) fun h=>by have:=H0.base;omega,hk.2⟩⟩
 ·rw[Array.size_setIfInBounds,List.size_toArray,hlen]
 ·rw[hcur 0 (by omega)];exact L.ph.disk
 ·have hj:j<35:=by have:=(List.getElem?_eq_some_iff.1 hx).1;rw[P.S.vs_len] at this;exact this
  rw[hcur (1+j) (by omega)]
  exact L.ph.sup j x hx
 ·rw[Array.getElem?_setIfInBounds_self_of_lt (by rw[List.size_toArray,hlen];omega)]
end
theorem qtt {b i w0 w xb d y p q S0 S S1 S2 T D P}(o:OpV)(Z:DIn b i w0 w xb d y p q S0 S S1 S2 T D P o)(hkk:(md o.K 16:Int)=15) :
  Calls Tryz.prog 12 #[.pointer (some ⟨xb,0,none⟩),.agg o.vs.toArray] w fun e w'=>q1r b i xb 15 w e w':=by
 obtain⟨H,I,_hi,hb,ht,ho,hi20,hk20,hb300,hw0,B0⟩:=Z
 obtain⟨K,A,V,⟨lv,its,kds⟩,ia,i0,ic,ka,k0,kc,B,ba,b0,bc,⟨nm,ro,rt,nx⟩,keep,pa,p0,pc⟩:=o
 obtain⟨iK,iA,iV,hIt,hKt,hBy,hNm,hKe⟩:=ho
 dsimp only at iK iA iV hIt hKt hBy hNm hKe hi20 hk20 hb300 hkk
 obtain⟨w1,hw1⟩:∃w1,w1=w.alloc (.cells #[.int .i64 K,.int .i64 A,.int .i64 V,.int .i64 lv,.slice ia i0 ic,.slice ka k0 kc,.slice ba b0 bc,.string nm,.bool ro,.int .i64 rt,.int .i64 nx,.slice pa p0 pc] 35):=⟨_,rfl⟩
 obtain⟨O1,b1,H1,z1a,t1,hT1',B1,hbo,b1',hfin,hbs,hxl,htt,hT1,hT0,hG,hST,hS2T,hok⟩:=q1j H hb ht hw0 B0 hw1
 have c2:=H1.ref.c2
 have c3:=H1.ref.c3
 rw[hw1] at c2 c3
 have Hkd:=q3h iK hkk
 clear hkk iK
 show Calls Tryz.prog 12 #[.pointer (some ⟨xb,0,none⟩),.agg #[.int .i64 K,.int .i64 A,.int .i64 V,.int .i64 lv,.slice ia i0 ic,.slice ka k0 kc,.slice ba b0 bc,.string nm,.bool ro,.int .i64 rt,.int .i64 nx,.slice pa p0 pc]] w _
 go_enter Tryz.func12,Tryz.ntmps12
 go_wp2_with fail
 rw[←hw1] at c2 c3 ⊢
 clear hw1
 refine (Hkd.out w1).mono ?_
 rintro e w1' ⟨rfl,rfl⟩
 have o1:=O1.cell (j:=1) rfl
 have Hc:=Lib.hid (qkg H1.code)
 have x0:=H1.ref.xlt
 go_wp2_with fail
 refine Hc.out.mono ?_
 rintro e w2 ⟨pn,rfl,b2,C2,N2⟩
 have z2:=b2.size
 have R2:=H1.ref.otherGrow (q00 (S:=fun _=>False) b2) (fun _ h=>h.elim) (fun _ h=>h.elim) (fun _ h=>h.elim) (fun h=>h)
 have x2:=R2.c2
 have f2:=R2.fz 2
 have Tx:Turn (fun k=>k=xb) w2 (w2.setCell ⟨xb,2,none⟩ (.pointer (some ⟨pn,0,none⟩))):=q0o (bp:=xb) w2 2 _
 have hm3:=heap_setCell_same w2 xb 2 _ _ (.pointer (some ⟨pn,0,none⟩)) R2.me
 have x32:(w2.setCell ⟨xb,2,none⟩ (.pointer (some ⟨pn,0,none⟩))).cell? ⟨xb,2,none⟩=some (.pointer (some ⟨pn,0,none⟩)):=by rw[cell_of_row _ _ _ _ _ _ hm3];rfl
 have zTx:=Tx.size
 have O2:=O1.keep (b2.block w.heap.size (by omega))
 have O3:=O2.keep (Tx.block w.heap.size (by omega) (by omega))
 have hgx:∀k,k=xb→grow T w1 w2 k:=fun k hk=>hk▸R2.xT
 have C3:=C2.own Tx hgx (fun k hk h=>(H.sep k (.inl h)).2.2 hk) (fun k hk h=>(H.sep k (.inr h)).2.2 hk)
 have N3:=N2.own Tx hgx (fun k hk h=>(H.sep k (.inl h)).2.2 hk) (fun k hk h=>by omega)
 have R3:RSys b (w2.setCell ⟨xb,2,none⟩ (.pointer (some ⟨pn,0,none⟩))) xb d y pn q S1 S2 (grow T w1 w2) D P:=⟨hm3,R2.drv.keep fun k hk hs=>Tx.block k hk fun h=>R2.x1 (h▸hs),R2.pool.other Tx hgx (fun k hk h=>R2.x2 (hk▸h)),R2.sub1,R2.sub2,R2.apart,fun k hk=>⟨(R2.tight k hk).1,by have:=(R2.tight k hk).2;omega⟩,R2.xT,R2.x1,R2.x2⟩
 have t2:=t1.below b2 t1.1
 have t3:Tab (w2.setCell ⟨xb,2,none⟩ (.pointer (some ⟨pn,0,none⟩))):=t2.turned Tx fun h=>hG (h▸H.ref.xT)
 have BB3:Below b w (w2.setCell ⟨xb,2,none⟩ (.pointer (some ⟨pn,0,none⟩))):=(b1'.trans (b2.mono (by omega))).trans (Tx.below (fun k hk=>by rw[hk];exact (htt _ H.ref.xT).1) (by omega))
 have hgT:∀k,grow T w1 w2 k→k<w2.heap.size:=fun k hk=>hk.2
 have hSg:∀k,S k→grow T w1 w2 k:=fun k hk=>⟨.inl (hST k hk),by have:=hT1 k (hST k hk);omega⟩
 have hgG:¬grow T w1 w2 1:=fun h=>h.1.elim hG fun h=>by omega
 have kc:=fun (C:Array Value) (n c:Nat)=>Lib.run_convert_bytes_const (P:=Tryz.prog) (w2.setCell ⟨xb,2,none⟩ (.pointer (some ⟨pn,0,none⟩))) 30 5 C n c Tryz.underlying30 Tryz.underlying5
 simp only[World.size_setCell] at kc
 have hput:=(fun (mk:Nat × Nat)=>
  have Ba:Below (w2.setCell ⟨xb,2,none⟩ (.pointer (some ⟨pn,0,none⟩))).heap.size (w2.setCell ⟨xb,2,none⟩ (.pointer (some ⟨pn,0,none⟩))) ((w2.setCell ⟨xb,2,none⟩ (.pointer (some ⟨pn,0,none⟩))).alloc (.cells #[.int .u8 103,.int .u8 111,.int .u8 110,.int .u8 101] 5 mk)):=blA
  qv6 (C3.below Ba) hb 5 _ _ _ _ (qlx (w2.setCell ⟨xb,2,none⟩ (.pointer (some ⟨pn,0,none⟩))) 5 mk [103,111,110,101] #[.int .u8 103,.int .u8 111,.int .u8 110,.int .u8 101] rfl (by simp)) (fun _ ad e h=>by injection e with e;subst e;have:=hgT _ h;dsimp only at this;omega) (t3.below Ba t3.1))
 simp only[World.size_setCell] at hput
 have Hput:=Lib.hid hput
 clear hput
 have hal:=fun (mk:Nat × Nat)=>show Below (w2.setCell ⟨xb,2,none⟩ (.pointer (some ⟨pn,0,none⟩))).heap.size (w2.setCell ⟨xb,2,none⟩ (.pointer (some ⟨pn,0,none⟩))) ((w2.setCell ⟨xb,2,none⟩ (.pointer (some ⟨pn,0,none⟩))).alloc (.cells #[.int .u8 103,.int .u8 111,.int .u8 110,.int .u8 101] 5 mk)) from blA
 have Hal:=Lib.hid hal
 have bow:w.heap.size<(w2.setCell ⟨xb,2,none⟩ (.pointer (some ⟨pn,0,none⟩))).heap.size:=by omega
 clear o1 hal
 have HH:=Lib.hid (fun (mk:Nat × Nat) (w4:World) (X4:Turn S ((w2.setCell ⟨xb,2,none⟩ (.pointer (some ⟨pn,0,none⟩))).alloc (.cells #[.int .u8 103,.int .u8 111,.int .u8 110,.int .u8 101] 5 mk)) w4)=>
  show OB w4 w.heap.size _∧SysAt b w4 d pn S0 _ (grow T w1 w2) D P∧RSys b w4 xb d y pn q S1 S2 (grow T w1 w2) D P∧Below b w w4 from
  have hz:=(Hal.out mk).size
  ⟨(O3.keep ((Hal.out mk).block w.heap.size bow)).keep (X4.block w.heap.size (by omega) fun h=>hbo (hST _ h)),
   (N3.below (Hal.out mk)).own X4 hSg (fun k hk h=>H.code.apart k h hk) (fun k hk h=>by have:=hT1' k (hST k hk);have:=h.1;omega),
   (R3.below (Hal.out mk)).other X4 hSg (fun k h=>(H.sep k (.inr h)).1) (fun k h=>(H.sep k (.inr h)).2.1) (fun h=>(H.sep xb (.inr h)).2.2 rfl),
   (BB3.trans ((Hal.out mk).mono BB3.size |>.mono hbs)).trans (X4.below (fun k hk=>(htt k (hST k hk)).1) (by have:=BB3.size;omega))⟩)
 go_wp2_with (first
  |(go_at_call 27;refine (Hput.out _).mono ?_;rintro e w4 ⟨rfl,C4,X4,t4⟩;obtain⟨O4,N4,R4,B4⟩:=HH.out _ w4 X4;have o1':=O4.cell (j:=1) rfl)
  |fail)
 have z4:=B4.size
 have Hun:=Lib.hid (q79 C4.pool A)
 have hbo4:=O4.lt
 clear Hput HH Hal X4
 go_wp2_with fail
 refine Hun.out.mono ?_
 rintro e w5 ⟨rfl,R5,X5⟩
 have C5:=C4.turned R5 X5
 have t5:=C4.tab hb t4 X5 hSg
 have N5:=N4.own X5 hSg (fun k hk h=>H.code.apart k h hk) (fun k hk h=>by have:=hT1' k (hST k hk);have:=h.1;omega)
 have RR5:=R4.other X5 hSg (fun k h=>(H.sep k (.inr h)).1) (fun k h=>(H.sep k (.inr h)).2.1) (fun h=>(H.sep xb (.inr h)).2.2 rfl)
 have B5:=B4.trans (X5.below (fun k hk=>(htt k (hST k hk)).1) (by omega))
 have Hlg:=Lib.hid (q9i C5.pool 5)
 clear Hun o1' C4 R5 N4 R4
 go_wp2_with fail
 refine Hlg.out.mono ?_
 rintro e w6 ⟨rfl,R6,X6⟩
 have t6:=C5.tab hb t5 X6 hSg
 have N6:=N5.own X6 hSg (fun k hk h=>H.code.apart k h hk) (fun k hk h=>by have:=hT1' k (hST k hk);have:=h.1;omega)
 have RR6:=RR5.other X6 hSg (fun k h=>(H.sep k (.inr h)).1) (fun k h=>(H.sep k (.inr h)).2.1) (fun h=>(H.sep xb (.inr h)).2.2 rfl)
 have B6:=B5.trans (X6.below (fun k hk=>(htt k (hST k hk)).1) (by have:=B5.size;omega))
 clear Hlg C5 R6 N5 RR5
 go_wp2
 go_ret
 refine⟨rfl,t6,B6,.inl ⟨_,_,_,_,_,_,_,_,_,_,_,⟨N6,RR6,fun k hk=>?_⟩,I.up⟩⟩
 rcases hk with hk|hk
 ·exact H.sep k (.inl hk)
 ·exact⟨fun h=>by have:=hT1' k (H.ref.sub1 k h);have:=hk.1;omega,fun h=>by have:=hT1' k (hS2T k h);have:=hk.1;omega,by have:=hk.1;omega⟩
end Go.Proofs.YtipejjgodnnkaaaGreatDoor
