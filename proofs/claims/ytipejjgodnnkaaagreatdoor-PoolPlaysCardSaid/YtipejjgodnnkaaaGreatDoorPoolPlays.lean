/- PoolPlays's walk. -/
import Derived.Test.YtipejjgodnnkaaaGreatDoorPqH
import Derived.Test.YtipejjgodnnkaaaGreatDoorPqE
import Derived.Test.YtipejjgodnnkaaaGreatDoorPqI
import Derived.Test.YtipejjgodnnkaaaGreatDoorPqJ
namespace Go.Proofs.YtipejjgodnnkaaaGreatDoor
open Go Go.RowKit Go.Proofs
set_option maxHeartbeats 16000000
set_option maxRecDepth 100000
theorem poolPlays_walk (x:Int)(A:Option Addr)(n c:Nat)(os:List OpV)(w:World)(hx:i64 x)(hp0:OpL w A n c os)(ht:Tab w) :
  Calls Tryz.prog 3 #[.int .i64 x,.slice A n c] w fun e w'=>e=.returned (.bool true)∧Below w.heap.size w w':=by
 have hnc:=hp0.1.cap
 have hcm:=hp0.1.max
 unfold maxLen at hcm
 have hG:=ht.1
 have Hmd:=Lib.hid (fun (w:World) (ht:Tab w)=>qgy x w hx ht)
 go_enter Tryz.func3,Tryz.ntmps3
 go_wp2_with fail
 refine (qb0 w ht).mono ?_
 rintro e w1 ⟨rfl,b1⟩
 have t1:=ht.below b1 hG
 have z1:=b1.size
 go_wp2_with fail
 refine (Hmd.out w1 t1).mono ?_
 rintro e w2 ⟨xb,d0,y0,p0,q0,S00,S01,S02,S03,T0,D0,P0,rfl,H0,I0,b2,t2⟩
 have z2:=b2.size
 have hb:1<w1.heap.size:=by omega
 have B2:=b1.trans (b2.mono z1)
 go_wp2_with fail
 go_loopw [7,8,9,10] (fun i _ _ _ wr=>∃(j:Nat) (d y p q:Nat) (S0 S S1 S2 T:Nat→Prop) (D:DM) (P:Pl),j≤n∧j≤50∧i=.int .i64 (j:Int)∧Two w1.heap.size wr xb d y p q S0 S S1 S2 T D P∧PInv j D P∧Below w.heap.size w wr∧Tab wr) (fun i _ _ _ _=>50-(intOf i).toNat)
 case atStart=>exact⟨0,_,_,_,_,_,_,_,_,_,_,_,Nat.zero_le _,by omega,rfl,H0,I0,B2,t2⟩
 case round=>
  clear H0 I0 t2 B2 b2 z2 Hmd
  obtain⟨j,d,y,p,q,S0,S,S1,S2,T,D,P,hjn,hj50,rfl,H,I,B,t⟩:=hrel
  by_cases hgo:j<n∧j<50
  ·obtain⟨hlt,hlt2⟩:=hgo
   obtain⟨g,o,X,rfl,hg,hX,hr⟩:=hp0.get hlt
   have hr':wr.rangeAt g (o+j*12) X.vs:=fun k v h=>(B.cell (p:=⟨g,_,none⟩) hg).trans (hr k v h)
   have hXw:=hX.below B
   have hix:=fun w=>qcz w g o n c j hlt
   have hfew:=qnu X wr hXw
   have e1:(j:Int)<(n:Int):=by omega
   have e2:(j:Int)<50:=by omega
   have e0:(0:Int)≤(j:Int):=by omega
   have hXl:=X.len
   obtain⟨vs,hvs⟩:∃vs,X.vs=vs:=⟨_,rfl⟩
   have hfl:=X.few.len
   have hone:=X.few.one
   obtain⟨fv,hfv⟩:∃fv,X.few.vs=fv:=⟨_,rfl⟩
   rw[hfv] at hfl hone
   have hdo:=fun (w3:World) (b3:Below wr.heap.size wr w3)=>qop X.few ⟨H.below b3,I,by omega,hb,t.below b3 t.1,OpV.few_here hX,(q63 X).1,(q63 X).2.1,(q63 X).2.2,z1,B.trans (b3.mono B.size)⟩
   rw[hvs] at hr' hXl
   rw[hvs,hfv] at hfew
   simp only[hfv] at hdo
   have Hfew:=Lib.hid hfew
   have Hdo:=Lib.hid hdo
   clear hr hX hXw hfew hdo hvs hfv
   go_wp2_with (first
    |(refine q5b rfl _ rfl g (o+j*12) rfl vs hXl hr' ?_)
    |fail)
   refine Hfew.out.mono ?_
   rintro e w3 ⟨rfl,b3⟩
   have z3:=b3.size
   have OZ:OB (w3.alloc (.cells zeroOp.toArray 35)) w3.heap.size zeroOp:=⟨35,heap_alloc_new w3 _⟩
   have ba:Below w3.heap.size w3 (w3.alloc (.cells zeroOp.toArray 35)):=blA
   have za:=ba.size
   clear Hfew hr'
   go_wp2_with (first
    |(refine q9s rfl _ _ rfl w3.heap.size rfl fv zeroOp hfl hone rfl OZ rfl ?_;intro w3b O3 T3;have b3b:Below wr.heap.size wr w3b:=(b3.trans (ba.mono z3)).trans (T3.below (fun k hk=>by omega) (Nat.le_trans z3 za));have Hd:=Lib.hid (Hdo.out w3b b3b))
    |(refine q5b rfl _ rfl w3.heap.size 0 rfl fv hfl O3.range ?_)
    |fail)
   refine Hd.out.mono ?_
   rintro e w4 ⟨rfl,t4,B4,hend⟩
   have B5:Below w.heap.size w w4:=(B.trans (b3b.mono B.size)).trans (B4.mono z1)
   clear Hdo Hd
   rcases hend with⟨d',y',p',q',S0',S',S1',S2',T',D',P',H4,I4⟩|⟨_,hgone⟩
   ·have c3:=H4.ref.c3
    have hal:=qks H4
    go_wp2_with fail
    refine hal.mono ?_
    rintro e w5 ⟨rfl,b5⟩
    clear c3 hal
    go_wp2_with fail
    exact⟨⟨j+1,_,_,_,_,_,_,_,_,_,_,_,by omega,by omega,by go_num,H4.below b5,I4,B5.trans (b5.mono B5.size),t4.below b5 t4.1⟩,by simp[intOf];omega⟩
   ·have c3:=hgone.1
    go_wp2_with fail
    go_ret
    exact⟨rfl,B5⟩
  ·have hfin:¬((j:Int)<(n:Int)∧(j:Int)<50):=fun h=>hgo ⟨by omega,by omega⟩
   clear hgo
   by_cases h1:(j:Int)<(n:Int)
   all_goals (
    have h2:¬((j:Int)<(n:Int)∧(j:Int)<50):=hfin
    first
     |(have h3:¬(j:Int)<50:=fun h=>h2 ⟨h1,h⟩
       clear h2 hfin
       go_wp2_with fail)
     |(clear h2 hfin
       go_wp2_with fail)
    go_ret
    exact⟨rfl,B⟩)
end Go.Proofs.YtipejjgodnnkaaaGreatDoor
