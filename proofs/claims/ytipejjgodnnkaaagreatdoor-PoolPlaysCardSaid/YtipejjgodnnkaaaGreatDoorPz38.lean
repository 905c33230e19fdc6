/- Laws of the pool: a call of both, kind 0 -/
import Derived.Test.YtipejjgodnnkaaaGreatDoorPz37
namespace Go.Proofs.YtipejjgodnnkaaaGreatDoor
open Go Go.RowKit Go.Proofs
set_option maxHeartbeats 8000000
set_option maxRecDepth 100000
theorem qrr {b i w0 w xb d y p q S0 S S1 S2 T D P}(o:OpV)(Z:DIn b i w0 w xb d y p q S0 S S1 S2 T D P o)(kd:Nat)(kz:Int)(hkk:(md o.K 16:Int)=kz)(hk2:kz=0∨kz=1) :
  Calls Tryz.prog 12 #[.pointer (some ⟨xb,0,none⟩),.agg o.vs.toArray] w fun e w'=>q1r b i xb kd w e w':=by
 obtain⟨H,I,_hi,hb,ht,ho,hi20,hk20,hb300,hw0,B0⟩:=Z
 obtain⟨K,A,V,⟨lv,its,kds⟩,ia,i0,ic,ka,k0,kc,B,ba,b0,bc,⟨nm,ro,rt,nx⟩,keep,pa,p0,pc⟩:=o
 obtain⟨iK,iA,iV,hIt,hKt,hBy,hNm,hKe⟩:=ho
 dsimp only at iK iA iV hIt hKt hBy hNm hKe hi20 hk20 hb300 hkk
 rcases hk2 with rfl|rfl
 all_goals (
  obtain⟨w1,hw1⟩:∃w1,w1=w.alloc (.cells #[.int .i64 K,.int .i64 A,.int .i64 V,.int .i64 lv,.slice ia i0 ic,.slice ka k0 kc,.slice ba b0 bc,.string nm,.bool ro,.int .i64 rt,.int .i64 nx,.slice pa p0 pc] 35):=⟨_,rfl⟩
  obtain⟨O1,b1,H1,z1a,t1,hT1',B1,hbo,b1',hfin,hbs,hxl,htt,hT1,hT0,hG,hST,hS2T,hok⟩:=q1j H hb ht hw0 B0 hw1
  have c2:=H1.ref.c2
  have c3:=H1.ref.c3
  rw[hw1] at c2 c3
  have Hkd:=q3h iK hkk
  clear hkk iK
  show Calls Tryz.prog 12 #[.pointer (some ⟨xb,0,none⟩),.agg #[.int .i64 K,.int .i64 A,.int .i64 V,.int .i64 lv,.slice ia i0 ic,.slice ka k0 kc,.slice ba b0 bc,.string nm,.bool ro,.int .i64 rt,.int .i64 nx,.slice pa p0 pc]] w _
  go_enter Tryz.func12,Tryz.ntmps12
  go_wp2_with fail
  rw[←hw1] at c2 c3 ⊢
  clear hw1
  refine (Hkd.out w1).mono ?_
  rintro e w1' ⟨rfl,rfl⟩
  have o3:=O1.cell (j:=3) rfl
  have o4:=O1.cell (j:=4) rfl
  have o5:=O1.cell (j:=5) rfl
  obtain⟨V1,hV1⟩:∃X,P.putNV ⟨lv,its,kds⟩=X:=⟨_,rfl⟩
  obtain⟨E1,hE1⟩:∃X,P.putNE ⟨lv,its,kds⟩=X:=⟨_,rfl⟩
  have hc:=qer H1.code.pool hT1' hG B1 (fun k hk=>hT0 k (hST k hk)) ⟨lv,its,kds⟩ ia i0 ic ka k0 kc hIt hKt (by omega) (by omega) t1
  have hr:=fun (w2:World) (R:RPool w2 q y S2 T P) (hz:w1.heap.size≤w2.heap.size) (bb:Below w0.heap.size w0 w2)=>q1t R (fun k hk=>by have:=hT1' k hk;omega) ⟨lv,its,kds⟩ ia i0 ic ka k0 kc bb hT0 hIt hKt (by omega) (by omega)
  rw[hV1,hE1] at hc
  simp only[hV1,hE1] at hr
  have Hc:=Lib.hid hc
  have Hr:=Lib.hid hr
  clear hc hr hV1 hE1
  go_wp2_with fail
  refine Hc.out.mono ?_
  rintro e w2 ⟨rfl,R2,X2,t2⟩
  have O2:=O1.keep (X2.block w.heap.size (by omega) fun h=>hbo (hST _ h))
  have o3':=O2.cell (j:=3) rfl
  have o4':=O2.cell (j:=4) rfl
  have o5':=O2.cell (j:=5) rfl
  have B2:Below w0.heap.size w0 w2:=B1.trans (X2.below (fun k hk=>hT0 k (hST k hk)) B1.size)
  clear o3 o4 o5
  go_wp2_with fail
  refine (Hr.out w2 (H1.refOther X2).pool X2.size B2).mono ?_
  rintro e w3 ⟨rfl,R3,X3⟩
  have nV:(V1==V1)=true:=by simp
  have nE:(E1==E1)=true:=by simp
  obtain⟨F1,F2⟩:=H1.pools (H1.code.turned R2 X2) X2 R3 X3
  have F3:=hfin w3 F2
  clear O2 o3' o4' o5' O1 R2 R3 X2 X3
  go_wp2
  go_ret
  exact⟨rfl,F3.1,F3.2,.inl ⟨_,_,_,_,_,_,_,_,_,_,_,F1,I.next (qqf I.inv _) (qrn _).1 (by rw[(qrn _).2])⟩⟩)
theorem qrs {b i w0 w xb d y p q S0 S S1 S2 T D P}(o:OpV)(Z:DIn b i w0 w xb d y p q S0 S S1 S2 T D P o)(kd:Nat)(kz:Int)(hkk:(md o.K 16:Int)=kz)(hk2:kz=2∨kz=3) :
  Calls Tryz.prog 12 #[.pointer (some ⟨xb,0,none⟩),.agg o.vs.toArray] w fun e w'=>q1r b i xb kd w e w':=by
 obtain⟨H,I,_hi,hb,ht,ho,hi20,hk20,hb300,hw0,B0⟩:=Z
 obtain⟨K,A,V,⟨lv,its,kds⟩,ia,i0,ic,ka,k0,kc,B,ba,b0,bc,⟨nm,ro,rt,nx⟩,keep,pa,p0,pc⟩:=o
 obtain⟨iK,iA,iV,hIt,hKt,hBy,hNm,hKe⟩:=ho
 dsimp only at iK iA iV hIt hKt hBy hNm hKe hi20 hk20 hb300 hkk
 rcases hk2 with rfl|rfl
 all_goals (
  obtain⟨w1,hw1⟩:∃w1,w1=w.alloc (.cells #[.int .i64 K,.int .i64 A,.int .i64 V,.int .i64 lv,.slice ia i0 ic,.slice ka k0 kc,.slice ba b0 bc,.string nm,.bool ro,.int .i64 rt,.int .i64 nx,.slice pa p0 pc] 35):=⟨_,rfl⟩
  obtain⟨O1,b1,H1,z1a,t1,hT1',B1,hbo,b1',hfin,hbs,hxl,htt,hT1,hT0,hG,hST,hS2T,hok⟩:=q1j H hb ht hw0 B0 hw1
  have c2:=H1.ref.c2
  have c3:=H1.ref.c3
  rw[hw1] at c2 c3
  have Hkd:=q3h iK hkk
  clear hkk iK
  show Calls Tryz.prog 12 #[.pointer (some ⟨xb,0,none⟩),.agg #[.int .i64 K,.int .i64 A,.int .i64 V,.int .i64 lv,.slice ia i0 ic,.slice ka k0 kc,.slice ba b0 bc,.string nm,.bool ro,.int .i64 rt,.int .i64 nx,.slice pa p0 pc]] w _
  go_enter Tryz.func12,Tryz.ntmps12
  go_wp2_with fail
  rw[←hw1] at c2 c3 ⊢
  clear hw1
  refine (Hkd.out w1).mono ?_
  rintro e w1' ⟨rfl,rfl⟩
  have o2:=O1.cell (j:=2) rfl
  obtain⟨kv,hkv⟩:∃k:Nat,md V 2=k:=⟨_,rfl⟩
  have hkv2:=fun w=>q31 V 2 iV (by omega) (by omega) w
  have cz2:((2:Nat):Int)=2:=rfl
  simp only[cz2,hkv] at hkv2
  have hkvl:kv<2:=by rw[←hkv];exact qa8 V (by omega)
  have Hkv:=Lib.hid hkv2
  obtain⟨kk,hkk2⟩:∃k:Int,5+(kv:Int)=k:=⟨_,rfl⟩
  have hkb:5≤kk∧kk≤6:=by omega
  have o6:=O1.cell (j:=6) rfl
  have hBl:=hBy.len
  have bl:Below w1.heap.size w1 (w1.alloc (.cells #[] 5)):=blA
  have own0:Own (w1.alloc (.cells #[] 5)) w1.heap.size 5 (some ⟨w1.heap.size,0,none⟩) 0 0 []:=q15 w1 _
  have zl:=bl.size
  have s1:=(hBy.below B1).below bl
  have O1l:=O1.keep (bl.block w.heap.size (by omega))
  have o6':=O1l.cell (j:=6) rfl
  have H1l:=H1.below bl
  obtain⟨V1,hV1⟩:∃X,P.putV kk B.length=X:=⟨_,rfl⟩
  obtain⟨E1,hE1⟩:∃X,P.putE kk B.length=X:=⟨_,rfl⟩
  have hc:=fun (w2:World) (bb:Below w1.heap.size w1 w2) (A':Option Addr) (c':Nat) (own:Own w2 w1.heap.size 5 A' b0 c' B)=>q3x (H1.code.pool.below bb) (fun k hk=>by have h1:=hT1' k hk;have h2:=bb.size;omega) hG kk A' b0 c' B own.sl (fun _ ad e h=>by have h1:=(own.block ad e).1;have h2:=hT1' _ (hST _ h);omega) (t1.below bb t1.1)
  have hr:=fun (w2:World) (R:RPool w2 q y S2 T P) (hz:w1.heap.size≤w2.heap.size) (bb:Below w0.heap.size w0 w2)=>qcm R (fun k hk=>by have:=hT1' k hk;omega) kk ba b0 bc B (hBy.below bb)
  simp only[hV1,hE1] at hc hr
  have Hc:=Lib.hid hc
  have Hr:=Lib.hid hr
  clear hc hr hV1 hE1 hkv hkv2 cz2 hkvl
  go_wp2_with fail
  refine (Hkv.out w1).mono ?_
  rintro e w1' ⟨rfl,rfl⟩
  go_wp2_with (first
   |(at_builtin;refine q1w _ T22 rfl _ _ rfl w1.heap.size w1.heap.size rfl own0 ba b0 bc B rfl s1 (by omega) zl ?_;intro A' c' w2 own2 b2)
   |fail)
  have bb2:=bl.trans (b2.mono bl.size)
  refine (Hc.out w2 bb2 A' c' own2).mono ?_
  rintro e w3 ⟨rfl,R3,X3⟩
  have H2:=H1.below bb2
  have z2:=bb2.size
  have O2:=O1.keep (bb2.block w.heap.size (by omega))
  have O3:=O2.keep (X3.block w.heap.size (by omega) fun h=>hbo (hST _ h))
  have o6'':=O3.cell (j:=6) rfl
  have B3:Below w0.heap.size w0 w3:=(B1.trans (bb2.mono B1.size)).trans (X3.below (fun k hk=>hT0 k (hST k hk)) (by have:=B1.size;omega))
  clear o6 o6' o2
  go_wp2_with fail
  refine (Hr.out w3 (H2.refOther X3).pool (by have:=X3.size;omega) B3).mono ?_
  rintro e w4 ⟨rfl,R4,X4⟩
  have nV:(V1==V1)=true:=by simp
  have nE:(E1==E1)=true:=by simp
  obtain⟨F1,F2⟩:=H2.pools (H2.code.turned R3 X3) X3 R4 X4
  have F3:=hfin w4 ((q00 bb2).trans F2 fun k hk=>.inl hk)
  clear O2 O3 o6'' O1 O1l R3 R4 X3 X4 own2 own0 s1
  go_wp2
  go_ret
  exact⟨rfl,F3.1,F3.2,.inl ⟨_,_,_,_,_,_,_,_,_,_,_,F1,I.next (qte I.inv _ _) (put_n _ _).1 (by rw[(put_n _ _).2])⟩⟩)
theorem qto {b i w0 w xb d y p q S0 S S1 S2 T D P}(o:OpV)(Z:DIn b i w0 w xb d y p q S0 S S1 S2 T D P o)(hkk:(md o.K 16:Int)=10) :
  Calls Tryz.prog 12 #[.pointer (some ⟨xb,0,none⟩),.agg o.vs.toArray] w fun e w'=>q1r b i xb 10 w e w':=by
 obtain⟨H,I,_hi,hb,ht,ho,hi20,hk20,hb300,hw0,B0⟩:=Z
 obtain⟨K,A,V,⟨lv,its,kds⟩,ia,i0,ic,ka,k0,kc,B,ba,b0,bc,⟨nm,ro,rt,nx⟩,keep,pa,p0,pc⟩:=o
 obtain⟨iK,iA,iV,hIt,hKt,hBy,hNm,hKe⟩:=ho
 dsimp only at iK iA iV hIt hKt hBy hNm hKe hi20 hk20 hb300 hkk
 obtain⟨w1,hw1⟩:∃w1,w1=w.alloc (.cells #[.int .i64 K,.int .i64 A,.int .i64 V,.int .i64 lv,.slice ia i0 ic,.slice ka k0 kc,.slice ba b0 bc,.string nm,.bool ro,.int .i64 rt,.int .i64 nx,.slice pa p0 pc] 35):=⟨_,rfl⟩
 obtain⟨O1,b1,H1,z1a,t1,hT1',B1,hbo,b1',hfin,hbs,hxl,htt,hT1,hT0,hG,hST,hS2T,hok⟩:=q1j H hb ht hw0 B0 hw1
 have c2:=H1.ref.c2
 have c3:=H1.ref.c3
 rw[hw1] at c2 c3
 have Hkd:=q3h iK hkk
 clear hkk iK
 show Calls Tryz.prog 12 #[.pointer (some ⟨xb,0,none⟩),.agg #[.int .i64 K,.int .i64 A,.int .i64 V,.int .i64 lv,.slice ia i0 ic,.slice ka k0 kc,.slice ba b0 bc,.string nm,.bool ro,.int .i64 rt,.int .i64 nx,.slice pa p0 pc]] w _
 go_enter Tryz.func12,Tryz.ntmps12
 go_wp2_with fail
 rw[←hw1] at c2 c3 ⊢
 clear hw1
 refine (Hkd.out w1).mono ?_
 rintro e w1' ⟨rfl,rfl⟩
 have hO:∀w':World,w'.heap[w.heap.size]?=w1.heap[w.heap.size]?→w'.cell? ⟨w.heap.size,1,none⟩=some (.int .i64 A)∧w'.cell? ⟨w.heap.size,7,none⟩=some (.string nm)∧w'.cell? ⟨w.heap.size,8,none⟩=some (.bool ro)∧w'.cell? ⟨w.heap.size,9,none⟩=some (.int .i64 rt)∧w'.cell? ⟨w.heap.size,10,none⟩=some (.int .i64 nx):=fun w' h=>⟨(O1.keep h).cell (j:=1) rfl,(O1.keep h).cell (j:=7) rfl,(O1.keep h).cell (j:=8) rfl,(O1.keep h).cell (j:=9) rfl,(O1.keep h).cell (j:=10) rfl⟩
 obtain⟨E1,hE1⟩:∃X,P.volE A ⟨nm,ro,rt,nx⟩=X:=⟨_,rfl⟩
 have BD:Below w1.heap.size w1 w1.drew:=(Below.refl _ _).drew
 have HD:=H1.below BD
 have hc:=qgb HD.code.pool A ⟨nm,ro,rt,nx⟩ hNm
 have hr:=fun (w2:World) (R:RPool w2 q y S2 T P)=>qgd R A ⟨nm,ro,rt,nx⟩ hNm
 rw[hE1] at hc
 simp only[hE1] at hr
 have Hc:=Lib.hid hc
 have Hr:=Lib.hid hr
 have nE:(E1==E1)=true:=by simp
 have zD:w1.drew.heap.size=w1.heap.size:=rfl
 have ZD:=Lib.hid zD
 clear hc hr hE1 zD
 go_wp2_with fail
 go_region_held3 (fun w'=>w'.cell? ⟨w.heap.size,1,none⟩=some (.int .i64 A)∧w'.cell? ⟨w.heap.size,7,none⟩=some (.string nm)∧w'.cell? ⟨w.heap.size,8,none⟩=some (.bool ro)∧w'.cell? ⟨w.heap.size,9,none⟩=some (.int .i64 rt)∧w'.cell? ⟨w.heap.size,10,none⟩=some (.int .i64 nx))
  (first|assumption|exact hO _ rfl|exact hO _ h2|exact hO _ h3)
  (first
   |(go_at_call 53;have hh:=X2;refine (Hr.out w2 (HD.refOther X2).pool).mono ?_;rintro e w3 ⟨rfl,R3,X3⟩;have h3:w3.heap[w.heap.size]?=w1.heap[w.heap.size]?:=(X3.block w.heap.size (by have h1:=X2.size;have h2:=ZD.out;omega) fun h=>hbo (hS2T _ h)).trans h2)
   |(go_at_call 52;refine Hc.out.mono ?_;rintro e w2 ⟨rfl,R2,X2⟩;have h2:w2.heap[w.heap.size]?=w1.heap[w.heap.size]?:=X2.block w.heap.size (by have h2:=ZD.out;omega) fun h=>hbo (hST _ h))
   |fail)
 obtain⟨F1,F2⟩:=HD.pools (HD.code.turned R2 X2) X2 R3 X3
 have F3:=hfin w3 ((q00 BD).trans F2 fun k hk=>.inl hk)
 clear R2 R3 X2 X3 O1 hO
 go_wp2
 go_ret
 exact⟨rfl,F3.1,F3.2,.inl ⟨_,_,_,_,_,_,_,_,_,_,_,F1,I.next (qqh I.inv _ _) (qrp _ _).1 (qrp _ _).2⟩⟩
theorem qtp {b i w0 w xb d y p q S0 S S1 S2 T D P}(o:OpV)(Z:DIn b i w0 w xb d y p q S0 S S1 S2 T D P o)(hkk:(md o.K 16:Int)=13) :
  Calls Tryz.prog 12 #[.pointer (some ⟨xb,0,none⟩),.agg o.vs.toArray] w fun e w'=>q1r b i xb 13 w e w':=by
 obtain⟨H,I,_hi,hb,ht,ho,hi20,hk20,hb300,hw0,B0⟩:=Z
 obtain⟨K,A,V,⟨lv,its,kds⟩,ia,i0,ic,ka,k0,kc,B,ba,b0,bc,⟨nm,ro,rt,nx⟩,keep,pa,p0,pc⟩:=o
 obtain⟨iK,iA,iV,hIt,hKt,hBy,hNm,hKe⟩:=ho
 dsimp only at iK iA iV hIt hKt hBy hNm hKe hi20 hk20 hb300 hkk
 obtain⟨w1,hw1⟩:∃w1,w1=w.alloc (.cells #[.int .i64 K,.int .i64 A,.int .i64 V,.int .i64 lv,.slice ia i0 ic,.slice ka k0 kc,.slice ba b0 bc,.string nm,.bool ro,.int .i64 rt,.int .i64 nx,.slice pa p0 pc] 35):=⟨_,rfl⟩
 obtain⟨O1,b1,H1,z1a,t1,hT1',B1,hbo,b1',hfin,hbs,hxl,htt,hT1,hT0,hG,hST,hS2T,hok⟩:=q1j H hb ht hw0 B0 hw1
 have c2:=H1.ref.c2
 have c3:=H1.ref.c3
 rw[hw1] at c2 c3
 have Hkd:=q3h iK hkk
 clear hkk iK
 show Calls Tryz.prog 12 #[.pointer (some ⟨xb,0,none⟩),.agg #[.int .i64 K,.int .i64 A,.int .i64 V,.int .i64 lv,.slice ia i0 ic,.slice ka k0 kc,.slice ba b0 bc,.string nm,.bool ro,.int .i64 rt,.int .i64 nx,.slice pa p0 pc]] w _
 go_enter Tryz.func12,Tryz.ntmps12
 go_wp2_with fail
 rw[←hw1] at c2 c3 ⊢
 clear hw1
 refine (Hkd.out w1).mono ?_
 rintro e w1' ⟨rfl,rfl⟩
 have I':=I.up
 have hboK:=hbo
 have tK:=t1
 have bK:=b1'
 have X11:Turn T w1 w1:=Turn.refl _ _
 have xk0:=H1.ref.c0
 have xlk:=H1.ref.xlt
 have zk:=X11.size
 have hTk:∀k,T k→b≤k∧k<w1.heap.size:=H1.code.tight
 have hOk:∀w':World,w'.heap[w.heap.size]?=w1.heap[w.heap.size]?∧w'.heap[xb]?=w1.heap[xb]?→w'.cell? ⟨xb,0,none⟩=some (.pointer (some ⟨d,0,none⟩))∧w'.cell? ⟨w.heap.size,11,none⟩=some (.slice pa p0 pc):=fun w' h=>⟨(World.cell?_of_block (a:=⟨xb,0,none⟩) h.2).trans xk0,(O1.keep h.1).cell (j:=11) rfl⟩
 have hout:0<p0→∀ad,pa=some ad→ad.block<w0.heap.size:=fun hp ad e=>by
  obtain⟨ad2,z,e2,_,hc,_⟩:=hKe.at hp
  rw[e] at e2
  injection e2 with e2
  subst e2
  have:=World.block_lt_of_cell? w0 _ hc
  rwa [q0l] at this
 have hout1:0<p0→∀ad,pa=some ad→¬S0 ad.block:=fun hp ad e h=>by have h1:=hout hp ad e;have h2:=(hTk _ (H1.code.sub _ h)).1;omega
 have hout2:∀ad,pa=some ad→0<p0→¬S1 ad.block:=fun ad e hp h=>by have h1:=hout hp ad e;have h2:=(hTk _ (H1.ref.sub1 _ h)).1;omega
 have BDk:Below w1.heap.size w1 w1.drew:=(Below.refl _ _).drew
 have HDk:=H1.below BDk
 have hnS0:∀k,S0 k→k≠xb:=fun k h=>(H1.sep k (.inl h)).2.2
 have hc:=qia HDk.code pa p0 pc keep (hKe.lower (B1.trans (BDk.mono B1.size))) hout1 I'.tame (by omega)
 have hboT:¬T w.heap.size:=hboK
 have hr:=fun (w2:World) (R:RDrv w2 y S1 D) (bb:Below w0.heap.size w0 w2)=>qan R pa p0 pc keep (hKe.lower bb) hout2 (fun k=>by have:=(q9q I'.tame).2 k;omega)
 have Hc:=Lib.hid hc
 have Hr:=Lib.hid hr
 have ZD:=Lib.hid (show w1.drew.heap.size=w1.heap.size from rfl)
 clear hc hr xk0
 go_wp2_with fail
 go_region_held3 (fun w'=>w'.cell? ⟨xb,0,none⟩=some (.pointer (some ⟨d,0,none⟩))∧w'.cell? ⟨w.heap.size,11,none⟩=some (.slice pa p0 pc))
  (first|assumption|exact hOk _ ⟨rfl,rfl⟩|exact hOk _ hk2)
  (first
   |(go_at_call 29;refine Hc.out.mono ?_;rintro e wk2 ⟨rfl,Ck2,Xk2⟩;have hk2:wk2.heap[w.heap.size]?=w1.heap[w.heap.size]?∧wk2.heap[xb]?=w1.heap[xb]?:=⟨Xk2.block w.heap.size (by have h2:=ZD.out;omega) fun h=>hboT (H1.code.sub _ h),Xk2.block xb (by have h2:=ZD.out;omega) fun h=>hnS0 _ h rfl⟩)
   |fail)
 have Rk2:=HDk.ref.other Xk2 H1.code.sub (fun k h=>(H1.sep k (.inl h)).1) (fun k h=>(H1.sep k (.inl h)).2.1) fun h=>hnS0 _ h rfl
 have Ok2:=O1.keep hk2.1
 have zk2:=Xk2.size
 have xk1:=Rk2.c1
 have xlk2:=Rk2.xlt
 have BDk2:Below wk2.heap.size wk2 wk2.drew:=(Below.refl _ _).drew
 have hOk2:∀w':World,w'.heap[w.heap.size]?=wk2.heap[w.heap.size]?∧w'.heap[xb]?=wk2.heap[xb]?→w'.cell? ⟨xb,1,none⟩=some (.pointer (some ⟨y,0,none⟩))∧w'.cell? ⟨w.heap.size,11,none⟩=some (.slice pa p0 pc):=fun w' h=>⟨(World.cell?_of_block (a:=⟨xb,1,none⟩) h.2).trans xk1,(Ok2.keep h.1).cell (j:=11) rfl⟩
 have Bk2:Below w0.heap.size w0 wk2:=(B1.trans (BDk.mono B1.size)).trans (Xk2.below (fun k hk=>by have h1:=(hTk _ (H1.code.sub _ hk)).1;omega) (by have h1:=B1.size;have h2:=ZD.out;omega))
 have ZD2:=Lib.hid (show wk2.drew.heap.size=wk2.heap.size from rfl)
 clear xk1
 go_wp2_with fail
 go_region_held3 (fun w'=>w'.cell? ⟨xb,1,none⟩=some (.pointer (some ⟨y,0,none⟩))∧w'.cell? ⟨w.heap.size,11,none⟩=some (.slice pa p0 pc))
  (first|assumption|exact hOk2 _ ⟨rfl,rfl⟩|exact hOk2 _ hk3)
  (first
   |(go_at_call 56;refine (Hr.out _ (Rk2.drv.below BDk2) (Bk2.trans (BDk2.mono Bk2.size))).mono ?_;rintro e wk3 ⟨rfl,Dk3,Xk3⟩;have hk3:wk3.heap[w.heap.size]?=wk2.heap[w.heap.size]?∧wk3.heap[xb]?=wk2.heap[xb]?:=⟨Xk3.block w.heap.size (by have h2:=ZD2.out;have h3:=ZD.out;omega) fun h=>hboT (H1.ref.sub1 _ h),Xk3.block xb (by have h2:=ZD2.out;omega) H1.ref.x1⟩)
   |fail)
 obtain⟨F1,F2⟩:=HDk.drives (w':=wk2.drew) (Ck2.below BDk2) (Xk2.then (q00 BDk2)) Dk3 Xk3
 have F2':Turn T w1 wk3:=(q00 (S:=T) BDk).trans F2 fun k hk=>.inl hk
 have Ik:=I'.crash keep
 have tk3:Tab wk3:=tK.turned F2' fun h=>by have:=(hTk _ h).1;omega
 have hgn:(mtS (D.crash keep).newest).gen<1099511627775:=by have:=qnr Ik.low;omega
 have hmo:=q9r F1 hb tk3 hgn
 have Bk3:Below b w wk3:=bK.trans (H1.bel F2')
 have hxb:∀k,k=xb→b≤k:=fun k hk=>by rw[hk];exact (hTk _ H1.ref.xT).1
 have Hmo:=Lib.hid hmo
 clear hmo hOk hOk2 Ck2 Xk2 Rk2 Dk3 Xk3 HDk
 go_wp2_with fail
 refine Hmo.out.mono ?_
 rintro e wk4 ⟨rfl,tk4,Xk4,hend⟩
 have Bk4:Below b w wk4:=Bk3.trans (Xk4.below hxb (Nat.le_trans hbs Bk3.size))
 go_wp2
 go_ret
 rcases hend with⟨_,p',q',S',S2',T',F5⟩|⟨_,hg⟩
 ·exact⟨rfl,tk4,Bk4,.inl ⟨_,_,_,_,_,_,_,_,_,_,_,F5,Ik.mounted⟩⟩
 ·exact⟨rfl,tk4,Bk4,.inr ⟨by omega,hg⟩⟩
theorem qqm {w:World}{y:Nat}{S:Nat→Prop}{D:DM}(h:RDrv w y S D)(n:Int)(hn:n≤9223372036854775807) :
  Calls Tryz.prog 57 #[.pointer (some ⟨y,0,none⟩),.int .i64 n] w fun e w'=>e=.returned (.tuple #[])∧RDrv w' y (fun k=>S k∨w.heap.size≤k) (D.fuse n)∧Turn S w w':=by
 obtain⟨ro,oc,iv,vs,L⟩:=h
 have hy:S y:=L.inS.1
 refine (qlz L n hn).mono ?_
 rintro e w' ⟨rfl,L2,X⟩
 exact⟨rfl,⟨ro,oc,iv,vs,L2.mono fun k _ h=>.inl h⟩,X.mono fun k hk=>by rw[hk];exact hy⟩
theorem qtq {b i w0 w xb d y p q S0 S S1 S2 T D P}(o:OpV)(Z:DIn b i w0 w xb d y p q S0 S S1 S2 T D P o)(hkk:(md o.K 16:Int)=14) :
  Calls Tryz.prog 12 #[.pointer (some ⟨xb,0,none⟩),.agg o.vs.toArray] w fun e w'=>q1r b i xb 14 w e w':=by
 obtain⟨H,I,_hi,hb,ht,ho,hi20,hk20,hb300,hw0,B0⟩:=Z
 obtain⟨K,A,V,⟨lv,its,kds⟩,ia,i0,ic,ka,k0,kc,B,ba,b0,bc,⟨nm,ro,rt,nx⟩,keep,pa,p0,pc⟩:=o
 obtain⟨iK,iA,iV,hIt,hKt,hBy,hNm,hKe⟩:=ho
 dsimp only at iK iA iV hIt hKt hBy hNm hKe hi20 hk20 hb300 hkk
 obtain⟨w1,hw1⟩:∃w1,w1=w.alloc (.cells #[.int .i64 K,.int .i64 A,.int .i64 V,.int .i64 lv,.slice ia i0 ic,.slice ka k0 kc,.slice ba b0 bc,.string nm,.bool ro,.int .i64 rt,.int .i64 nx,.slice pa p0 pc] 35):=⟨_,rfl⟩
 obtain⟨O1,b1,H1,z1a,t1,hT1',B1,hbo,b1',hfin,hbs,hxl,htt,hT1,hT0,hG,hST,hS2T,hok⟩:=q1j H hb ht hw0 B0 hw1
 have c2:=H1.ref.c2
 have c3:=H1.ref.c3
 rw[hw1] at c2 c3
 have Hkd:=q3h iK hkk
 clear hkk iK
 show Calls Tryz.prog 12 #[.pointer (some ⟨xb,0,none⟩),.agg #[.int .i64 K,.int .i64 A,.int .i64 V,.int .i64 lv,.slice ia i0 ic,.slice ka k0 kc,.slice ba b0 bc,.string nm,.bool ro,.int .i64 rt,.int .i64 nx,.slice pa p0 pc]] w _
 go_enter Tryz.func12,Tryz.ntmps12
 go_wp2_with fail
 rw[←hw1] at c2 c3 ⊢
 clear hw1
 refine (Hkd.out w1).mono ?_
 rintro e w1' ⟨rfl,rfl⟩
 have xk0:=H1.ref.c0
 have xlk:=H1.ref.xlt
 obtain⟨kv,hkv⟩:∃k:Nat,md A 20=k:=⟨_,rfl⟩
 have hkv2:=fun w=>q31 A 20 iA (by omega) (by omega) w
 have cz20:((20:Nat):Int)=20:=rfl
 simp only[cz20,hkv] at hkv2
 have hkvl:kv<20:=by rw[←hkv];exact qa8 A (by omega)
 have Hkv:=Lib.hid hkv2
 have hnS0:∀k,S0 k→k≠xb:=fun k h=>(H.sep k (.inl h)).2.2
 have hOk:∀w':World,w'.heap[w.heap.size]?=w1.heap[w.heap.size]?∧w'.heap[xb]?=w1.heap[xb]?→w'.cell? ⟨xb,0,none⟩=some (.pointer (some ⟨d,0,none⟩))∧w'.cell? ⟨w.heap.size,1,none⟩=some (.int .i64 A):=fun w' h=>⟨(World.cell?_of_block (a:=⟨xb,0,none⟩) h.2).trans xk0,(O1.keep h.1).cell (j:=1) rfl⟩
 have BDk:Below w1.heap.size w1 w1.drew:=(Below.refl _ _).drew
 have HDk:=H1.below BDk
 have Hc:=Lib.hid (qta HDk.code (kv:Int) (by omega))
 have ZD:=Lib.hid (show w1.drew.heap.size=w1.heap.size from rfl)
 have Hr:=Lib.hid (fun (w2:World) (R:RDrv w2 y S1 D)=>qqm R (kv:Int) (by omega))
 clear xk0 hkv hkv2 cz20
 go_wp2_with fail
 go_region_held3 (fun w'=>w'.cell? ⟨xb,0,none⟩=some (.pointer (some ⟨d,0,none⟩))∧w'.cell? ⟨w.heap.size,1,none⟩=some (.int .i64 A))
  (first|assumption|exact hOk _ ⟨rfl,rfl⟩|exact hOk _ hk2)
  (first
   |(go_at_call 14;refine (Hkv.out _).mono ?_;rintro e wq ⟨rfl,rfl⟩)
   |(go_at_call 28;refine Hc.out.mono ?_;rintro e wk2 ⟨rfl,Ck2,Xk2⟩;have hk2:wk2.heap[w.heap.size]?=w1.heap[w.heap.size]?∧wk2.heap[xb]?=w1.heap[xb]?:=⟨Xk2.block w.heap.size (by have h2:=ZD.out;omega) fun h=>hbo (H.code.sub _ h),Xk2.block xb (by have h2:=ZD.out;omega) fun h=>hnS0 _ h rfl⟩)
   |fail)
 have Rk2:=HDk.ref.other Xk2 H.code.sub (fun k h=>(H.sep k (.inl h)).1) (fun k h=>(H.sep k (.inl h)).2.1) fun h=>hnS0 _ h rfl
 have Ok2:=O1.keep hk2.1
 have zk2:=Xk2.size
 have xk1:=Rk2.c1
 have xlk2:=Rk2.xlt
 have BDk2:Below wk2.heap.size wk2 wk2.drew:=(Below.refl _ _).drew
 have hOk2:∀w':World,w'.heap[w.heap.size]?=wk2.heap[w.heap.size]?∧w'.heap[xb]?=wk2.heap[xb]?→w'.cell? ⟨xb,1,none⟩=some (.pointer (some ⟨y,0,none⟩))∧w'.cell? ⟨w.heap.size,1,none⟩=some (.int .i64 A):=fun w' h=>⟨(World.cell?_of_block (a:=⟨xb,1,none⟩) h.2).trans xk1,(Ok2.keep h.1).cell (j:=1) rfl⟩
 have ZD2:=Lib.hid (show wk2.drew.heap.size=wk2.heap.size from rfl)
 clear xk1
 go_wp2_with fail
 go_region_held3 (fun w'=>w'.cell? ⟨xb,1,none⟩=some (.pointer (some ⟨y,0,none⟩))∧w'.cell? ⟨w.heap.size,1,none⟩=some (.int .i64 A))
  (first|assumption|exact hOk2 _ ⟨rfl,rfl⟩|exact hOk2 _ hk3)
  (first
   |(go_at_call 14;refine (Hkv.out _).mono ?_;rintro e wq ⟨rfl,rfl⟩)
   |(go_at_call 57;refine (Hr.out _ (Rk2.drv.below BDk2)).mono ?_;rintro e wk3 ⟨rfl,Dk3,Xk3⟩;have hk3:wk3.heap[w.heap.size]?=wk2.heap[w.heap.size]?∧wk3.heap[xb]?=wk2.heap[xb]?:=⟨Xk3.block w.heap.size (by have h2:=ZD2.out;have h3:=ZD.out;omega) fun h=>hbo (H.ref.sub1 _ h),Xk3.block xb (by have h2:=ZD2.out;omega) H.ref.x1⟩)
   |fail)
 obtain⟨F1,F2⟩:=HDk.drives (w':=wk2.drew) (Ck2.below BDk2) (Xk2.then (q00 BDk2)) Dk3 Xk3
 have F3:=hfin wk3 ((q00 (S:=T) BDk).trans F2 fun k hk=>.inl hk)
 clear hOk hOk2 Ck2 Xk2 Rk2 Dk3 Xk3 HDk
 go_wp2
 go_ret
 exact⟨rfl,F3.1,F3.2,.inl ⟨_,_,_,_,_,_,_,_,_,_,_,F1,(I.fuse _).up⟩⟩
end Go.Proofs.YtipejjgodnnkaaaGreatDoor
