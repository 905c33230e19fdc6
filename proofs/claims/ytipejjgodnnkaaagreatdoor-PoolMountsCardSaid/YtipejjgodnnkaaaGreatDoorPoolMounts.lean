/- PoolMounts's walk. -/
import Derived.Test.YtipejjgodnnkaaaGreatDoorPqHl
import Derived.Test.YtipejjgodnnkaaaGreatDoorPqI
import Derived.Test.YtipejjgodnnkaaaGreatDoorPqJ
import Derived.Test.YtipejjgodnnkaaaGreatDoorPqK
namespace Go.Proofs.YtipejjgodnnkaaaGreatDoor
open Go Go.RowKit Go.Proofs
set_option maxHeartbeats 16000000
set_option maxRecDepth 100000
theorem poolMounts_walk (x:Int)(A:Option Addr)(n c:Nat)(os:List OpV)(A2:Option Addr)(n2 c2:Nat)(ts:List (Int × Int × Int))(w:World)(hx:i64 x)(hp0:OpL w A n c os)(hq0:Trips w A2 n2 c2 ts)(ht:Tab w) :
  Calls Tryz.prog 4 #[.int .i64 x,.slice A n c,.slice A2 n2 c2] w fun e w'=>e=.returned (.bool true)∧Below w.heap.size w w':=by
 have hnc:=hp0.1.cap
 have hcm:=hp0.1.max
 unfold maxLen at hcm
 have hnc2:=hq0.1.cap
 have hcm2:=hq0.1.max
 unfold maxLen at hcm2
 have hG:=ht.1
 have Hmd:=Lib.hid (fun (w:World) (ht:Tab w)=>qpn x w hx ht)
 go_enter Tryz.func4,Tryz.ntmps4
 go_wp2_with fail
 refine (qj4 w ht).mono ?_
 rintro e w1 ⟨rfl,b1⟩
 have t1:=ht.below b1 hG
 have z1:=b1.size
 go_wp2_with fail
 refine (Hmd.out w1 t1).mono ?_
 rintro e w2 ⟨xb,d0,y0,p0,q0,S00,S01,S02,S03,T0,D0,P0,rfl,H0,I0,b2,t2⟩
 have z2:=b2.size
 have hb:1<w1.heap.size:=by omega
 have B2:=b1.trans (b2.mono z1)
 go_wp2_with fail
 go_loopw [9,10,11] (fun i _ _ wr=>∃(j:Nat) (d y p q:Nat) (S0 S S1 S2 T:Nat→Prop) (D:DM) (P:Pl),j≤n∧j≤30∧i=.int .i64 (j:Int)∧Two w1.heap.size wr xb d y p q S0 S S1 S2 T D P∧PInv j D P∧Below w.heap.size w wr∧Tab wr) (fun i _ _ _=>30-(intOf i).toNat)
 case atStart=>exact⟨0,_,_,_,_,_,_,_,_,_,_,_,Nat.zero_le _,by omega,rfl,H0,I0,B2,t2⟩
 case round=>
  clear H0 I0 t2 B2 b2 z2 Hmd
  obtain⟨j,d,y,p,q,S0,S,S1,S2,T,D,P,hjn,hj50,rfl,H,I,B,t⟩:=hrel
  by_cases hgo:j<n∧j<30
  ·obtain⟨hlt,hlt2⟩:=hgo
   obtain⟨g,o,X,rfl,hg,hX,hr⟩:=hp0.get hlt
   have hr':wr.rangeAt g (o+j*12) X.vs:=fun k v h=>(B.cell (p:=⟨g,_,none⟩) hg).trans (hr k v h)
   have hXw:=hX.below B
   have hix:=fun w=>qn7 w g o n c j hlt
   have hfew:=qs7 X wr hXw
   have e1:(j:Int)<(n:Int):=by omega
   have e2:(j:Int)<30:=by omega
   have e0:(0:Int)≤(j:Int):=by omega
   have hXl:=X.len
   obtain⟨ky,hky⟩:∃ky,md X.K 12=ky:=⟨_,rfl⟩
   have hkyl:ky<12:=by rw[←hky];exact qqn X.K (by omega)
   have hkd:=fun w=>q3a X.K 12 hX.iK (by omega) (by omega) w
   have cz12:((12:Nat):Int)=12:=rfl
   simp only[cz12,hky] at hkd
   obtain⟨Y,hY⟩:∃Y:OpV,{ X.few with K:=(ky:Int) }=Y:=⟨_,rfl⟩
   have hYh:Y.here w:=by
    have h:=OpV.few_here hX
    rw[←hY]
    exact⟨⟨by show (_:Int)≤(ky:Int);omega,by show (ky:Int)≤_;omega⟩,h.iA,h.iV,h.items,h.kids,h.bytes,h.name,h.keeps⟩
   have hYs:Y.i≤20∧Y.k≤20∧Y.b≤300:=by rw[←hY];exact qn8 X
   have hYk:md Y.K 16=ky:=by
    rw[←hY]
    show md (ky:Int) 16=ky
    have h:=qpr 16 (show 0≤(ky:Int) by omega) (by omega)
    rw[Int.tmod_eq_emod_of_nonneg (by omega)] at h
    omega
   have hdo:=fun (w3:World) (b3:Below wr.heap.size wr w3)=>qpm Y ⟨H.below b3,I,by omega,hb,t.below b3 t.1,hYh,hYs.1,hYs.2.1,hYs.2.2,z1,B.trans (b3.mono B.size)⟩ (by rw[hYk];exact hkyl)
   rw[hYk] at hdo
   have hfl:=X.few.len
   have hone:=X.few.one
   have hK0:X.few.vs[0]?=some (.int .i64 X.K):=rfl
   have hYv:X.few.vs.set 0 (.int .i64 (ky:Int))=Y.vs:=by rw[←hY];rfl
   obtain⟨vs,hvs⟩:∃vs,X.vs=vs:=⟨_,rfl⟩
   obtain⟨fv,hfv⟩:∃fv,X.few.vs=fv:=⟨_,rfl⟩
   obtain⟨yv,hyv⟩:∃yv,Y.vs=yv:=⟨_,rfl⟩
   have hyl:=Y.len
   rw[hyv] at hyl hYv
   rw[hvs] at hr' hXl
   rw[hvs,hfv] at hfew
   rw[hfv] at hfl hone hK0 hYv
   simp only[hyv] at hdo
   obtain⟨xk,hxk⟩:∃xk,X.K=xk:=⟨_,rfl⟩
   rw[hxk] at hkd hK0
   have Hfew:=Lib.hid hfew
   have Hdo:=Lib.hid hdo
   have Hkd:=Lib.hid hkd
   clear hr hX hXw hfew hdo hvs hfv hyv hxk hky hkd cz12 hY hYh hYs hYk
   go_wp2_with (first
    |(refine qai rfl _ rfl g (o+j*12) rfl vs hXl hr' ?_)
    |fail)
   refine Hfew.out.mono ?_
   rintro e w3 ⟨rfl,b3⟩
   have z3:=b3.size
   have OZ:OB (w3.alloc (.cells zeroOp.toArray 35)) w3.heap.size zeroOp:=⟨35,heap_alloc_new w3 _⟩
   have ba:Below w3.heap.size w3 (w3.alloc (.cells zeroOp.toArray 35)):=blA
   have za:=ba.size
   clear Hfew hr'
   go_wp2_with (first
    |(refine qfq rfl _ _ rfl w3.heap.size rfl fv zeroOp hfl hone rfl OZ rfl ?_;intro w3b O3 T3;have b3b:Below wr.heap.size wr w3b:=(b3.trans (ba.mono z3)).trans (T3.below (fun k hk=>by omega) (Nat.le_trans z3 za));have o0:=O3.cell hK0)
    |fail)
   refine (Hkd.out w3b).mono ?_
   rintro e w3c ⟨rfl,rfl⟩
   have f0:=OB.fz O3 0
   have O4:=OB.set O3 0 (.int .i64 (ky:Int))
   rw[hYv] at O4
   have b4:Below wr.heap.size wr (w3b.setCell ⟨w3.heap.size,0,none⟩ (.int .i64 (ky:Int))):=b3b.trans ((q19 (bp:=w3.heap.size) w3b 0 (.int .i64 (ky:Int))).below (fun k hk=>by omega) b3b.size)
   have Hd:=Lib.hid (Hdo.out _ b4)
   have b4':=b4
   clear Hdo Hkd OZ
   go_wp2_with (first
    |(refine qai rfl _ rfl w3.heap.size 0 rfl yv hyl (OB.range O4) ?_)
    |fail)
   refine Hd.out.mono ?_
   rintro e w4 ⟨rfl,t4,B4,hend⟩
   have B5:Below w.heap.size w w4:=(B.trans (b4.mono B.size)).trans (B4.mono z1)
   clear Hd
   rcases hend with⟨d',y',p',q',S0',S',S1',S2',T',D',P',H4,I4⟩|⟨h12,_⟩
   ·go_wp2_with fail
    exact⟨⟨j+1,_,_,_,_,_,_,_,_,_,_,_,by omega,by omega,by go_num,H4,I4,B5,t4⟩,by simp[intOf];omega⟩
   ·omega
  ·have hfin:¬((j:Int)<(n:Int)∧(j:Int)<30):=fun h=>hgo ⟨by omega,by omega⟩
   clear hgo
   have c2:=H.ref.c2
   have c3:=H.ref.c3
   have hxl:=H.ref.xlt
   have hST:=H.code.subS
   have hok:=H.code.pool.ok
   have hgen:P.g<1099511627775:=by have h1:=I.gen;have h2:P.g=P.S.gen+1:=rfl;omega
   have BD:Below wr.heap.size wr wr.drew:=(Below.refl _ _).drew
   have HD:=H.below BD
   have hO:∀w':World,w'.heap[xb]?=wr.heap[xb]?→w'.cell? ⟨xb,2,none⟩=some (.pointer (some ⟨p,0,none⟩))∧w'.cell? ⟨xb,3,none⟩=some (.pointer (some ⟨q,0,none⟩)):=fun w' h=>⟨(World.cell?_of_block (a:=⟨xb,2,none⟩) h).trans c2,(World.cell?_of_block (a:=⟨xb,3,none⟩) h).trans c3⟩
   have hc:=qm1 HD.code hb (t.below BD t.1) I.tame (by omega) hgen
   have I':=I.commit hok
   obtain⟨E1,hE1⟩:∃X,D.cmtE P=X:=⟨_,rfl⟩
   obtain⟨D',hD'⟩:∃X,D.runD P.steps=X:=⟨_,rfl⟩
   obtain⟨P',hP'⟩:∃X,D.cmtP P=X:=⟨_,rfl⟩
   have hr:=fun (w2:World) (X2:Turn (fun k=>S0 k∨S k) wr.drew w2)=>
    have R:=HD.ref.otherGrow X2 (fun k h=>h.elim (H.code.sub k) (hST k)) (fun k h=>(H.sep k h).1) (fun k h=>(H.sep k h).2.1) (fun h=>(H.sep xb h).2.2 rfl)
    qfo R.drv R.pool R.sub1 R.apart (fun k hk=>(R.tight k hk).2) hok I.inv.kind I.inv.good (qmh I.tame) (by omega) I.n
   rw[hE1,hD',hP'] at hc
   simp only[hE1,hD',hP'] at hr
   rw[hD',hP'] at I'
   have Hc:=Lib.hid hc
   have Hr:=Lib.hid hr
   have nE:(E1 != E1)=false:=by simp
   have ZD:=Lib.hid (show wr.drew.heap.size=wr.heap.size from rfl)
   have hne:∀k,S0 k∨S k→k≠xb:=fun k h=>(H.sep k h).2.2
   have hne2:¬(S1 xb∨S2 xb):=fun h=>h.elim H.ref.x1 H.ref.x2
   clear hc hr hE1 hD' hP'
   by_cases h1:(j:Int)<(n:Int)
   all_goals (
    have h2:¬((j:Int)<(n:Int)∧(j:Int)<30):=hfin
    first
     |(have h3:¬(j:Int)<30:=fun h=>h2 ⟨h1,h⟩
       clear h2 hfin
       go_wp2_with fail)
     |(clear h2 hfin
       go_wp2_with fail)
    go_region_held3 (fun w'=>w'.cell? ⟨xb,2,none⟩=some (.pointer (some ⟨p,0,none⟩))∧w'.cell? ⟨xb,3,none⟩=some (.pointer (some ⟨q,0,none⟩)))
     (first|assumption|exact hO _ rfl|exact hO _ hh2|exact hO _ hh3)
     (first
      |(go_at_call 16;have hh:=X2;refine (Hr.out w2 X2).mono ?_;rintro e w3 ⟨rfl,bb0,hb0,hb1,R1,R2,X3⟩;have hh3:w3.heap[xb]?=wr.heap[xb]?:=(X3.block xb (by have h1:=X2.size;have h2:=ZD.out;omega) hne2).trans hh2)
      |(go_at_call 15;refine Hc.out.mono ?_;rintro e w2 ⟨rfl,C2,X2,t2⟩;have hh2:w2.heap[xb]?=wr.heap[xb]?:=X2.block xb (by have h2:=ZD.out;omega) fun h=>hne xb h rfl)
      |fail)
    obtain⟨⟨T0,T1,T2,T3,T4,F1,hT4⟩,F2⟩:=HD.commits C2 X2 hb0 hb1 R1 R2 X3
    have F3:Turn T wr w3:=(q00 (S:=T) BD).trans F2 fun k hk=>.inl hk
    have t3:Tab w3:=t.turned F3 fun h=>by have:=(H.code.tight _ h).1;omega
    have B3:Below w.heap.size w w3:=B.trans ((H.bel F3).mono z1)
    have hcap:=qjk I'.low (by omega)
    have hrow:∀k,(D'.cac k).length≤1000000:=fun k=>by have:=I'.tame.rows k;omega
    have hDn:=I'.n
    have hsm:=I'.small
    obtain⟨N,hN⟩:∃N,P'.C.n=N:=⟨_,rfl⟩
    rw[hN] at hDn hsm
    clear C2 X2 hb0 hb1 R1 R2 X3 hh2 hh3 Hc Hr H HD I I' hN hO c2 c3 hne hne2 hok F2 F3
    go_wp2_with fail
    go_loopw [12,13,14] (fun i _ _ wq=>∃(k:Nat) (S0 S S1 S2 T:Nat→Prop) (D:DM),k≤n2∧k≤4∧i=.int .i64 (k:Int)∧Two w1.heap.size wq xb d y p q S0 S S1 S2 T D P'∧D.all2 (capQ k)∧(∀s,(D.cac s).length≤1000000)∧D.n=N∧Below w.heap.size w wq∧Tab wq) (fun i _ _ _=>4-(intOf i).toNat)
    case atStart=>exact⟨0,_,_,_,_,_,_,Nat.zero_le _,by omega,rfl,F1,hcap,hrow,hDn,B3,t3⟩
    case round=>
     clear F1 hcap hrow hDn B3 t3 hT4
     obtain⟨k,S0,S,S1,S2,T,D,hkn,hk4,rfl,H,hcap,hrow,hDn,B,t⟩:=hrel
     by_cases hgo:k<n2∧k<4
     ·obtain⟨hlt,hlt2⟩:=hgo
      obtain⟨g2,o2,x1,x2,x3,rfl,hg2,i1,i2,i3,hr2⟩:=hq0.get hlt
      have hr3:wr.rangeAt g2 (o2+k*3) [.int .i64 x1,.int .i64 x2,.int .i64 x3]:=fun i v h=>(B.cell (p:=⟨g2,_,none⟩) hg2).trans (hr2 i v h)
      have hix:=fun w=>qfx w g2 o2 n2 c2 k hlt
      have e1:(k:Int)<(n2:Int):=by omega
      have e2:(k:Int)<4:=by omega
      have e0:(0:Int)≤(k:Int):=by omega
      obtain⟨tv,htv⟩:∃tv,[Value.int .i64 x1,.int .i64 x2,.int .i64 x3]=tv:=⟨_,rfl⟩
      have htl:tv.length=3:=by rw[←htv];rfl
      have hone:∀x∈tv,x.oneCell'=true:=fun x hx=>by rw[←htv] at hx;simp only[List.mem_cons,List.not_mem_nil,or_false] at hx;rcases hx with rfl|rfl|rfl<;>rfl
      have k0:tv[0]?=some (.int .i64 x1):=by rw[←htv];rfl
      have k1:tv[1]?=some (.int .i64 x2):=by rw[←htv];rfl
      have k2:tv[2]?=some (.int .i64 x3):=by rw[←htv];rfl
      rw[htv] at hr3
      obtain⟨s,hs⟩:∃s,md x1 N=s:=⟨_,rfl⟩
      have hks:=fun w=>q3a x1 N i1 (by omega) (by omega) w
      rw[hs] at hks
      have hk2:=fun (z:Int) (hz:i64 z) (w:World)=>q3a z 256 hz (by omega) (by omega) w
      have cz256:((256:Nat):Int)=256:=rfl
      simp only[cz256] at hk2
      have Hks:=Lib.hid hks
      have Hk2:=Lib.hid hk2
      obtain⟨ro,oc,iv,vs3,R⟩:=H.ref.drv
      have y0:=R.c0
      have hyl:=q01 R.me
      rw[hDn] at y0
      have xk1:=H.ref.c1
      have hbs:=H.code.base
      have htt:=H.code.tight
      have hbo:¬T wr.heap.size:=fun h=>by have:=(htt _ h).2;omega
      have hsub1:=H.ref.sub1
      have OZ:OB (wr.alloc (.cells #[.int .i64 0,.int .i64 0,.int .i64 0] 49)) wr.heap.size [.int .i64 0,.int .i64 0,.int .i64 0]:=⟨49,heap_alloc_new wr _⟩
      have ba:Below wr.heap.size wr (wr.alloc (.cells #[.int .i64 0,.int .i64 0,.int .i64 0] 49)):=blA
      have za:=ba.size
      clear hr2 htv hks hk2 cz256 R hs
      go_wp2_with (first
       |(refine qjj rfl _ rfl g2 (o2+k*3) rfl tv htl hr3 ?_)
       |(refine qfy rfl _ _ rfl wr.heap.size rfl tv _ htl hone rfl OZ rfl ?_;intro w5 O5 T5;have b5:Below wr.heap.size wr w5:=ba.trans (T5.below (fun k hk=>by omega) za);have q0:=OB.cell O5 k0;have xk1b:=(b5.cell (p:=⟨xb,1,none⟩) H.ref.xlt).trans xk1;have y0b:=(b5.cell (p:=⟨y,0,none⟩) hyl).trans y0)
       |fail)
      have O5':OB w5 wr.heap.size tv:=O5
      clear O5
      have hO3:∀w':World,w'.heap[wr.heap.size]?=w5.heap[wr.heap.size]?∧w'.heap[xb]?=w5.heap[xb]?∧w'.heap[y]?=w5.heap[y]?→w'.cell? ⟨wr.heap.size,0,none⟩=some (.int .i64 x1)∧w'.cell? ⟨xb,1,none⟩=some (.pointer (some ⟨y,0,none⟩))∧w'.cell? ⟨y,0,none⟩=some (.slice (some ⟨ro,0,none⟩) N oc):=fun w' h=>⟨OB.cell (OB.keep O5' h.1) k0,(World.cell?_of_block (a:=⟨xb,1,none⟩) h.2.1).trans xk1b,(World.cell?_of_block (a:=⟨y,0,none⟩) h.2.2).trans y0b⟩
      have b5d:Below wr.heap.size wr w5.drew:=b5.drew
      have O5d:OB w5.drew wr.heap.size tv:=OB.keep O5' rfl
      have hl5:wr.heap.size<w5.heap.size:=OB.lt O5'
      have hxl5:xb<w5.heap.size:=by have:=H.ref.xlt;omega
      have hyl5:y<w5.heap.size:=by omega
      go_region_held3 (fun w'=>w'.cell? ⟨wr.heap.size,0,none⟩=some (.int .i64 x1)∧w'.cell? ⟨xb,1,none⟩=some (.pointer (some ⟨y,0,none⟩))∧w'.cell? ⟨y,0,none⟩=some (.slice (some ⟨ro,0,none⟩) N oc))
       (first|assumption|exact hO3 _ ⟨rfl,rfl,rfl⟩)
       (first
        |(go_at_call 14;refine (Hks.out _).mono ?_;rintro e wq ⟨rfl,rfl⟩)
        |fail)
      obtain⟨w6,hw6⟩:∃w6,w5.drew=w6:=⟨_,rfl⟩
      rw[hw6] at b5d O5d ⊢
      clear hO3 O5' b5 xk1b y0b q0 hw6 hl5 hxl5 hyl5
      have H5:=H.below b5d
      have z5:=b5d.size
      have hl5:=OB.lt O5d
      have xk0:=H5.ref.c0
      have xlk:=H5.ref.xlt
      have hnS0:∀k,S0 k→k≠xb:=fun k h=>(H.sep k (.inl h)).2.2
      have hOk:∀w':World,w'.heap[wr.heap.size]?=w6.heap[wr.heap.size]?∧w'.heap[xb]?=w6.heap[xb]?→w'.cell? ⟨xb,0,none⟩=some (.pointer (some ⟨d,0,none⟩))∧w'.cell? ⟨wr.heap.size,1,none⟩=some (.int .i64 x2)∧w'.cell? ⟨wr.heap.size,2,none⟩=some (.int .i64 x3):=fun w' h=>⟨(World.cell?_of_block (a:=⟨xb,0,none⟩) h.2).trans xk0,OB.cell (OB.keep O5d h.1) k1,OB.cell (OB.keep O5d h.1) k2⟩
      have BDk:Below w6.heap.size w6 w6.drew:=(Below.refl _ _).drew
      have HDk:=H5.below BDk
      have Hc:=Lib.hid (qjl HDk.code (s:Int) (md x2 256:Int) (md x3 256:Int) hrow)
      have ZD:=Lib.hid (show w6.drew.heap.size=w6.heap.size from rfl)
      have Hr:=Lib.hid (fun (w2:World) (R:RDrv w2 y S1 D)=>rcorrupt_ex R (s:Int) (md x2 256:Int) (md x3 256:Int) hrow)
      clear xk0 xk1 y0 Hks OZ
      go_wp2_with fail
      go_region_held3 (fun w'=>w'.cell? ⟨xb,0,none⟩=some (.pointer (some ⟨d,0,none⟩))∧w'.cell? ⟨wr.heap.size,1,none⟩=some (.int .i64 x2)∧w'.cell? ⟨wr.heap.size,2,none⟩=some (.int .i64 x3))
       (first|assumption|exact hOk _ ⟨rfl,rfl⟩|exact hOk _ hk2)
       (first
        |(go_at_call 14;refine (Hk2.out _ (by first|exact i2|exact i3) _).mono ?_;rintro e wq ⟨rfl,rfl⟩)
        |(go_at_call 17;refine Hc.out.mono ?_;rintro e wk2 ⟨⟨r,rfl⟩,Ck2,Xk2⟩;have hk2:wk2.heap[wr.heap.size]?=w6.heap[wr.heap.size]?∧wk2.heap[xb]?=w6.heap[xb]?:=⟨Xk2.block wr.heap.size (by have h2:=ZD.out;omega) fun h=>hbo (H.code.sub _ h),Xk2.block xb (by have h2:=ZD.out;omega) fun h=>hnS0 _ h rfl⟩)
        |fail)
      have Rk2:=HDk.ref.other Xk2 H.code.sub (fun k h=>(H.sep k (.inl h)).1) (fun k h=>(H.sep k (.inl h)).2.1) fun h=>hnS0 _ h rfl
      have Ok2:=OB.keep O5d hk2.1
      have zk2:=Xk2.size
      have xk1c:=Rk2.c1
      have xlk2:=Rk2.xlt
      have BDk2:Below wk2.heap.size wk2 wk2.drew:=(Below.refl _ _).drew
      have hOk2:∀w':World,w'.heap[wr.heap.size]?=wk2.heap[wr.heap.size]?∧w'.heap[xb]?=wk2.heap[xb]?→w'.cell? ⟨xb,1,none⟩=some (.pointer (some ⟨y,0,none⟩))∧w'.cell? ⟨wr.heap.size,1,none⟩=some (.int .i64 x2)∧w'.cell? ⟨wr.heap.size,2,none⟩=some (.int .i64 x3):=fun w' h=>⟨(World.cell?_of_block (a:=⟨xb,1,none⟩) h.2).trans xk1c,OB.cell (OB.keep Ok2 h.1) k1,OB.cell (OB.keep Ok2 h.1) k2⟩
      have ZD2:=Lib.hid (show wk2.drew.heap.size=wk2.heap.size from rfl)
      clear xk1c
      go_wp2_with fail
      go_region_held3 (fun w'=>w'.cell? ⟨xb,1,none⟩=some (.pointer (some ⟨y,0,none⟩))∧w'.cell? ⟨wr.heap.size,1,none⟩=some (.int .i64 x2)∧w'.cell? ⟨wr.heap.size,2,none⟩=some (.int .i64 x3))
       (first|assumption|exact hOk2 _ ⟨rfl,rfl⟩|exact hOk2 _ hk3)
       (first
        |(go_at_call 14;refine (Hk2.out _ (by first|exact i2|exact i3) _).mono ?_;rintro e wq ⟨rfl,rfl⟩)
        |(go_at_call 18;refine (Hr.out _ (Rk2.drv.below BDk2)).mono ?_;rintro e wk3 ⟨⟨r2,rfl⟩,Dk3,Xk3⟩;have hk3:wk3.heap[wr.heap.size]?=wk2.heap[wr.heap.size]?∧wk3.heap[xb]?=wk2.heap[xb]?:=⟨Xk3.block wr.heap.size (by have h2:=ZD2.out;have h3:=ZD.out;omega) fun h=>hbo (hsub1 _ h),Xk3.block xb (by have h2:=ZD2.out;omega) H.ref.x1⟩)
        |fail)
      obtain⟨F1,F2⟩:=HDk.drives (w':=wk2.drew) (Ck2.below BDk2) (Xk2.then (q00 BDk2)) (Dk3.mono fun k _ h=>.inl h) Xk3
      have F3:Turn T wr wk3:=(q00 (S:=T) b5d).trans ((q00 (S:=T) BDk).trans F2 fun k hk=>.inl hk) fun k hk=>.inl hk
      have t3:Tab wk3:=t.turned F3 fun h=>by have:=(htt _ h).1;omega
      have B3:Below w.heap.size w wk3:=B.trans ((H.bel F3).mono z1)
      clear hOk hOk2 Ck2 Xk2 Rk2 Dk3 Xk3 HDk Hc Hr Hk2
      go_wp2
      exact⟨⟨k+1,_,_,_,_,_,_,by omega,by omega,by go_num,F1,qpo hcap _ _ _,qef hrow _ _ _,(qna _ _ _ _).trans hDn,B3,t3⟩,by simp[intOf];omega⟩
     ·have hfin2:¬((k:Int)<(n2:Int)∧(k:Int)<4):=fun h=>hgo ⟨by omega,by omega⟩
      clear hgo
      have Hmo:=Lib.hid (qmi H hb t (qtu hcap hk4))
      have hxb1:w.heap.size≤xb:=by have:=(H.code.tight xb H.ref.xT).1;omega
      have hinv:=q97 D.newest D.n
      have hPn:(Pl.mounted D.newest D.n).C.n=N:=(q6t _ _).trans hDn
      obtain⟨Pm,hPm⟩:∃X,Pl.mounted D.newest D.n=X:=⟨_,rfl⟩
      rw[hPm] at Hmo hinv hPn
      clear hPm
      by_cases h1':(k:Int)<(n2:Int)
      all_goals (
       have h2':¬((k:Int)<(n2:Int)∧(k:Int)<4):=hfin2
       first
        |(have h3':¬(k:Int)<4:=fun h=>h2' ⟨h1',h⟩
          clear h2' hfin2
          go_wp2_with fail)
        |(clear h2' hfin2
          go_wp2_with fail)
       refine Hmo.out.mono ?_
       rintro e w4 ⟨rfl,t4,X4,hend⟩
       have B4:Below w.heap.size w w4:=B.trans (X4.below (fun k hk=>by rw[hk];exact hxb1) B.size)
       clear Hmo X4 H t hcap hrow
       rcases hend with⟨_,p',q',S',S2',T',F5⟩|⟨_,hgone⟩
       ·obtain⟨cc,gg,Sc,L⟩:=F5.ref.pool
        have hql:=L.qlt
        have c37:=L.c37
        rw[hPn] at c37
        clear L
        go_wp2_with fail
        go_loopw [16,17,18,19,20,21,22,23,24,25] (fun a _ _ _ _ _ _ _ _ _ wl=>∃m:Nat,m≤N∧a=.int .i64 (m:Int)∧Below w4.heap.size w4 wl) (fun a _ _ _ _ _ _ _ _ _ _=>N-(intOf a).toNat)
        case atStart=>exact⟨0,Nat.zero_le _,rfl,Below.refl _ _⟩
        case round=>
         obtain⟨m,hm,rfl,Bl⟩:=hrel
         have zl:=Bl.size
         have Hl:=F5.below Bl
         have tl:=t4.below Bl t4.1
         have BBl:=B4.trans (Bl.mono B4.size)
         have Hx:=Lib.hid (fun (w2:World) (bb:Below wr.heap.size wr w2)=>show w2.cell? ⟨xb,2,none⟩=some (.pointer (some ⟨p',0,none⟩))∧w2.cell? ⟨xb,3,none⟩=some (.pointer (some ⟨q',0,none⟩)) from ⟨(Hl.below bb).ref.c2,(Hl.below bb).ref.c3⟩)
         obtain⟨x2,x3⟩:=Hx.out wr (Below.refl _ _)
         have x37:=(Bl.cell (p:=⟨q',37,none⟩) hql).trans c37
         by_cases hlt:m<N
         ·have e3:(m:Int)<(N:Int):=by omega
          obtain⟨M1,hM1⟩:∃X,Pm.bytesL D (m:Int) 5=X:=⟨_,rfl⟩
          obtain⟨E1,hE1⟩:∃X,Pm.bytesE D (m:Int) 5=X:=⟨_,rfl⟩
          obtain⟨M2,hM2⟩:∃X,Pm.nodeN D (m:Int)=X:=⟨_,rfl⟩
          obtain⟨E2,hE2⟩:∃X,Pm.nodeE D (m:Int)=X:=⟨_,rfl⟩
          have hc1:=q6x Hl.code.drv Hl.code.pool tl (m:Int) 5
          unfold q28 at hc1
          have hr1:=fun (w2:World) (bb:Below wr.heap.size wr w2)=>qab (Hl.ref.drv.below bb) (Hl.ref.pool.below bb) hinv.kind hinv.good (m:Int) 5
          have hc2:=fun (w2:World) (bb:Below wr.heap.size wr w2)=>q96 (Hl.below bb).code.drv (Hl.below bb).code.pool hinv.kind (tl.below bb tl.1) (m:Int)
          have hr2:=fun (w2:World) (bb:Below wr.heap.size wr w2)=>qdw (Hl.ref.drv.below bb) (Hl.ref.pool.below bb) hinv.kind hinv.good (m:Int)
          rw[hM1,hE1] at hc1
          simp only[hM1,hE1] at hr1
          simp only[hM2,hE2] at hc2 hr2
          have Hc1:=Lib.hid hc1
          have Hr1:=Lib.hid hr1
          have Hc2:=Lib.hid hc2
          have Hr2:=Lib.hid hr2
          have nE1:(E1 != E1)=false:=by simp
          have nE2:(E2 != E2)=false:=by simp
          clear hc1 hr1 hc2 hr2 hM1 hE1 hM2 hE2 Hl tl
          go_wp2_with fail
          refine Hc1.out.mono ?_
          rintro e w2 ⟨Aa,na,qa,rfl,sa,bb2,-⟩
          have z2:=bb2.size
          have x3b:=(Hx.out w2 bb2).2
          clear x2 x3 x37
          go_wp2_with fail
          refine (Hr1.out w2 bb2).mono ?_
          rintro e w3 ⟨Ab,nb,qb,rfl,sb,bb23⟩
          have bb3:=bb2.trans (bb23.mono z2)
          have z3:=bb3.size
          have sa3:=sa.below bb23
          have x2c:=(Hx.out w3 bb3).1
          clear x3b sa bb23
          go_wp2_with fail
          refine (Hc2.out w3 bb3).mono ?_
          rintro e w5 ⟨Ac,nc,qc,Bc,mc,dc,rfl,-,-,hI5,hK5,bb35⟩
          have bb5:=bb3.trans (bb35.mono z3)
          have z5:=bb5.size
          have sa5:=sa3.below bb35
          have sb5:=sb.below bb35
          have X5a:NB (w5.alloc (.cells #[.int .i64 0,.slice none 0 0,.slice none 0 0] 29)) w5.heap.size 0 none 0 0 none 0 0:=NB.new w5 _ _ _ _ _ _ _ _
          have b5a:Below w5.heap.size w5 (w5.alloc (.cells #[.int .i64 0,.slice none 0 0,.slice none 0 0] 29)):=blA
          have z5a:=b5a.size
          clear sa3 sb bb35 x2c
          go_wp2_with (first
           |(refine q07 rfl _ _ rfl w5.heap.size rfl M2.lvl Ac nc qc Bc mc dc rfl X5a ?_;intro w6 X6 T6;have b56:Below w5.heap.size w5 w6:=b5a.trans (T6.below (fun k hk=>by omega) (by omega));have bb6:=bb5.trans (b56.mono z5);have hI6:=hI5.below b56;have hK6:=Kidl.below hK5 b56;have sa6:=sa5.below b56;have sb6:=sb5.below b56;have x3d:=(Hx.out w6 bb6).2)
           |fail)
          refine (Hr2.out w6 bb6).mono ?_
          rintro e w7 ⟨Ad,nd,qd,Bd,md',dd,rfl,-,-,hI7,hK7,bb67⟩
          have z6:=bb6.size
          have bb7:=bb6.trans (bb67.mono z6)
          have z7:=bb7.size
          have X7:=X6.below bb67 X6.lt
          have hI67:=hI6.below bb67
          have hK67:=Kidl.below hK6 bb67
          have sa7:=sa6.below bb67
          have sb7:=sb6.below bb67
          have X7a:NB (w7.alloc (.cells #[.int .i64 0,.slice none 0 0,.slice none 0 0] 29)) w7.heap.size 0 none 0 0 none 0 0:=NB.new w7 _ _ _ _ _ _ _ _
          have b7a:Below w7.heap.size w7 (w7.alloc (.cells #[.int .i64 0,.slice none 0 0,.slice none 0 0] 29)):=blA
          have z7a:=b7a.size
          have hl7:=X7.lt
          clear sa6 sb6 hI6 hK6 bb67 x3d
          go_wp2_with (first
           |(refine q07 rfl _ _ rfl w7.heap.size rfl M2.lvl Ad nd qd Bd md' dd rfl X7a ?_;intro w8 X8 T8;have b78:Below w7.heap.size w7 w8:=b7a.trans (T8.below (fun k hk=>by omega) (by omega));have X78:=X7.below b78 hl7;have hI8:=hI7.below b78;have hK8:=Kidl.below hK7 b78;have hI68:=hI67.below b78;have hK68:=Kidl.below hK67 b78;have sa8:=sa7.below b78;have sb8:=sb7.below b78;have bb8:=bb7.trans (b78.mono z7);have e0:=X78.c0;have e1:=X78.c1;have e2:=X78.c2;have e3:=X8.c0;have e4:=X8.c1;have e5:=X8.c2)
           |fail)
          have hn1:=hI68.len
          have hn2:=hI8.len
          have hm1:=Kidl.len hK68
          have hm2:=Kidl.len hK8
          obtain rfl:nd=nc:=by omega
          obtain rfl:md'=mc:=by omega
          refine (q8f M2 Ac nd qc Bc md' dc Ad qd Bd dd w8 hI68 hK68 hI8 hK8).mono ?_
          rintro e w9 ⟨rfl,bb89⟩
          have z8:=bb8.size
          have bb9:=bb8.trans (bb89.mono z8)
          have ka:=q2c (sa8.below bb89)
          have kb:=q2c (sb8.below bb89)
          clear sa8 sb8
          go_wp2
          exact⟨⟨m+1,by omega,by go_num,Bl.trans (bb9.mono zl)⟩,by simp[intOf];omega⟩
         ·have e3:¬(m:Int)<(N:Int):=by omega
          clear Hx
          go_wp2_with fail
          go_ret
          exact⟨rfl,BBl⟩
       ·have c2:=hgone.2
        go_wp2_with fail
        go_loopw [16,17,18,19,20,21,22,23,24,25] (fun a _ _ _ _ _ _ _ _ _ wl=>a=.int .i64 0∧wl=w4) (fun _ _ _ _ _ _ _ _ _ _ _=>0)
        case atStart=>exact⟨rfl,rfl⟩
        case round=>
         obtain⟨rfl,rfl⟩:=hrel
         go_wp2_with fail
         go_ret
         exact⟨rfl,B4⟩))
end Go.Proofs.YtipejjgodnnkaaaGreatDoor
