/- Laws of the pool: both are alike. -/
import Derived.Test.YtipejjgodnnkaaaGreatDoorPz36
namespace Go.Proofs.YtipejjgodnnkaaaGreatDoor
open Go Go.RowKit Go.Proofs
set_option maxHeartbeats 8000000
set_option maxRecDepth 100000
attribute [local go_sem ↓] q14
theorem qks {b:Nat}{w:World}{xb d y p q:Nat}{S0 S S1 S2 T:Nat→Prop}{D:DM}{P:Pl}(H:Two b w xb d y p q S0 S S1 S2 T D P) :
  Calls Tryz.prog 13 #[.pointer (some ⟨xb,0,none⟩)] w fun e w'=>e=.returned (.bool true)∧Below w.heap.size w w':=by
 have hxl:=H.ref.xlt
 have hcn:=H.code.pool.ok.c.1
 obtain⟨bd,bm,l,clock,v,Ly⟩:=H.code.drv
 obtain⟨ro,oc,iv,vs,R⟩:=H.ref.drv
 obtain⟨c,g,Sc,L⟩:=H.ref.pool
 have hyl:y<w.heap.size:=q01 R.me
 have HP:=H.code.pool
 have g0:∀u:Grown w,u.to.cell? ⟨xb,0,none⟩=some (.pointer (some ⟨d,0,none⟩)):=Grown.cell H.ref.c0 hxl
 have g1:∀u:Grown w,u.to.cell? ⟨xb,1,none⟩=some (.pointer (some ⟨y,0,none⟩)):=Grown.cell H.ref.c1 hxl
 have g2:∀u:Grown w,u.to.cell? ⟨xb,2,none⟩=some (.pointer (some ⟨p,0,none⟩)):=Grown.cell H.ref.c2 hxl
 have g3:∀u:Grown w,u.to.cell? ⟨xb,3,none⟩=some (.pointer (some ⟨q,0,none⟩)):=Grown.cell H.ref.c3 hxl
 have g36:∀u:Grown w,u.to.cell? ⟨q,36,none⟩=some (.pointer (some ⟨c,0,none⟩)):=Grown.cell L.c36 L.qlt
 have gl:∀u:Grown w,(ldS (.pointer (some ⟨q,1,none⟩))).run Tryz.prog u.to=.ok (.agg P.S.vs.toArray) u.to:=fun u=>(L.below u.ok).ld
 have gy4:∀u:Grown w,u.to.cell? ⟨y,4,none⟩=some (.int .i64 (D.steps:Int)):=Grown.cell R.c4 hyl
 have gy1:∀u:Grown w,u.to.cell? ⟨y,1,none⟩=some (.bool D.off):=Grown.cell R.c1 hyl
 obtain⟨fr,hfr⟩:∃n,P.C.free=n:=⟨_,rfl⟩
 have hsup:=Lib.hid (fun u:Grown w=>qav (HP.below u.ok))
 have hfree:=Lib.hid (fun u:Grown w=>qek (HP.below u.ok) fr hfr)
 have hrfree:=Lib.hid (fun u:Grown w=>qf7 (L.ct.below u.ok) fr hfr)
 have hst:=Lib.hid (fun u:Grown w=>qoa (Ly.keep fun k hk _=>u.ok.block k hk))
 have hon:=Lib.hid (fun u:Grown w=>qrt (Ly.keep fun k hk _=>u.ok.block k hk))
 obtain⟨st,hst2⟩:∃n,D.steps=n:=⟨_,rfl⟩
 obtain⟨off,hoff⟩:∃n,D.off=n:=⟨_,rfl⟩
 rw[hst2] at hst gy4
 rw[hoff] at hon gy1
 have hne:=quk P.S
 have hgd:=qum
 have nf:((fr:Int)!=(fr:Int))=false:=by simp
 have ns:((st:Int)!=(st:Int))=false:=by simp
 have no:((!off)==off)=false:=by cases off<;>rfl
 have d37:=L.c37
 have hql:=L.qlt
 have hcount:=Lib.hid (fun (wr:World) (B:Below w.heap.size w wr) (a:Nat) (u:Grown wr)=>q5a ((HP.below B).below u.ok) (a:Int) _ rfl)
 have hget:=Lib.hid (fun (wr:World) (B:Below w.heap.size w wr) (a:Nat) (u:Grown wr)=>q0v ((L.ct.below B).below u.ok) (a:Int) _ rfl)
 have hfresh:=Lib.hid (fun (wr:World) (B:Below w.heap.size w wr) (a:Nat) (u:Grown wr)=>qaz ((HP.below B).below u.ok) (a:Int) _ rfl)
 have hrfresh:=Lib.hid (fun (wr:World) (B:Below w.heap.size w wr) (a:Nat) (u:Grown wr)=>q6r ((L.ct.below B).below u.ok) (a:Int) _ rfl)
 have c2:=H.ref.c2
 have c3:=H.ref.c3
 have c36:=L.c36
 have HL:=Lib.hid c36
 clear HP Ly R L hfr hst2 hoff H
 go_enter Tryz.func13,Tryz.ntmps13
 go_wp2_with fail
 refine q0a (by kernel_rfl) (by kernel_rfl) ?_
 repeat (go_big_quiet_step (first
  |(go_at_call 31;exact Calls.grown (hsup.out _))
  |(go_at_call 35;exact Calls.grown_same (hfree.out _))
  |(go_at_call 58;exact Calls.grown_same (hrfree.out _))
  |(go_at_call 40;exact Calls.grown_same (hst.out _))
  |(go_at_call 59;exact Calls.grown_same (hon.out _))
  |fail))
 refine wpQuiet_nil ?_
 rintro _ ⟨u,rfl⟩
 have B1:=u.ok
 generalize u.to=w1 at B1 ⊢
 clear g0 g1 g2 g3 g36 gl gy4 gy1 hsup hfree hrfree hst hon hne hgd
 go_wp2_with fail
 go_loopw [3] (fun av wr=>∃a:Nat,a≤P.C.n∧av=.int .i64 (a:Int)∧Below w.heap.size w wr) (fun av _=>P.C.n-(intOf av).toNat)
 case atStart=>exact⟨0,Nat.zero_le _,rfl,B1⟩
 case round=>
  obtain⟨a,ha,rfl,B⟩:=hrel
  have hz:=B.size
  have r3:=(B.cell (p:=⟨xb,3,none⟩) hxl).trans c3
  have r2:=(B.cell (p:=⟨xb,2,none⟩) hxl).trans c2
  have r37:=(B.cell (p:=⟨q,37,none⟩) hql).trans d37
  have r36:=(B.cell (p:=⟨q,36,none⟩) hql).trans c36
  by_cases hlt:a<P.C.n
  ·have e3:(a:Int)<(P.C.n:Int):=by omega
   have q2:∀u:Grown wr,u.to.cell? ⟨xb,2,none⟩=some (.pointer (some ⟨p,0,none⟩)):=Grown.cell r2 (Nat.lt_of_lt_of_le hxl hz)
   have q3:∀u:Grown wr,u.to.cell? ⟨xb,3,none⟩=some (.pointer (some ⟨q,0,none⟩)):=Grown.cell r3 (Nat.lt_of_lt_of_le hxl hz)
   have q36:∀u:Grown wr,u.to.cell? ⟨q,36,none⟩=some (.pointer (some ⟨c,0,none⟩)):=Grown.cell r36 (Nat.lt_of_lt_of_le hql hz)
   have k1:=Lib.hid (hcount.out wr B a)
   have k2:=Lib.hid (hget.out wr B a)
   have k3:=Lib.hid (hfresh.out wr B a)
   have k4:=Lib.hid (hrfresh.out wr B a)
   obtain⟨G,hG⟩:∃G,P.C.get (a:Int)=G:=⟨_,rfl⟩
   obtain⟨f,hf⟩:∃f,P.C.fresh (a:Int)=f:=⟨_,rfl⟩
   rw[hG] at k1 k2
   rw[hf] at k3 k4
   have nG:(G != G)=false:=by simp
   have nf2:(f != f)=false:=by simp
   clear hG hf r2 r36
   go_wp2_with fail
   refine q0a (by kernel_rfl) (by kernel_rfl) ?_
   repeat (go_big_quiet_step (first
    |(go_at_call 32;exact Calls.grown_same (k1.out _))
    |(go_at_call 60;exact Calls.grown_same (k2.out _))
    |(go_at_call 61;exact Calls.grown_same (k3.out _))
    |(go_at_call 62;exact Calls.grown_same (k4.out _))
    |fail))
   refine wpQuiet_nil ?_
   rintro _ ⟨u,rfl⟩
   have B2:=B.trans (u.ok.mono hz)
   generalize u.to=w2 at B2 ⊢
   go_wp2_with fail
   exact⟨⟨a+1,by omega,by go_num,B2⟩,by simp[intOf];omega⟩
  ·have e3:¬(a:Int)<(P.C.n:Int):=by omega
   go_wp2_with fail
   go_ret
   exact⟨rfl,B⟩
end Go.Proofs.YtipejjgodnnkaaaGreatDoor
