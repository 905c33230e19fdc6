/- Laws of the pool: both are made. -/
import Derived.Test.YtipejjgodnnkaaaGreatDoorPm39
namespace Go.Proofs.YtipejjgodnnkaaaGreatDoor
open Go Go.RowKit Go.Proofs
set_option maxHeartbeats 8000000
set_option maxRecDepth 100000
theorem qn3 {n:Nat}(h:32≤n∧n≤63):PInv 0 ((DM.mk0 n).runD (fmtL n)) (Pl.fresh n):=by
 have hn:(Pl.fresh n).C.n=n:=Ct.zero_n n
 refine⟨qm7 n,by rw[qdj,hn];rfl,by rw[hn];exact h,(q2k (fmtL n) (q5u n)).mono (by have:=qq6 (n:=n) (by omega);omega),qfh (fmtL n) (qrz n (0+1)) (qry n (by omega)),?_⟩
 show (1:Int)≤((0:Nat):Int)+1
 omega
theorem qpn (x:Int)(w:World)(hx:i64 x)(ht:Tab w) :
  Calls Tryz.prog 10 #[.int .i64 x] w fun e w'=>∃xb d y p q S0 S S1 S2 T D P,e=.returned (.pointer (some ⟨xb,0,none⟩))∧Two w.heap.size w' xb d y p q S0 S S1 S2 T D P∧PInv 0 D P∧Below w.heap.size w w'∧Tab w':=by
 have hG:=ht.1
 have hk:=q3a x 32 hx (by omega) (by omega)
 have hkm:=qqn x (m:=32) (by omega)
 obtain⟨y0,hy⟩:∃y,md x 32=y:=⟨_,rfl⟩
 rw[hy] at hk hkm
 obtain⟨kn,hkn⟩:∃k,32+y0=k:=⟨_,rfl⟩
 have hkn2:(32:Int)+(y0:Int)=(kn:Int):=by omega
 have hkn3:32≤kn∧kn≤63:=by omega
 have cz:((32:Nat):Int)=32:=rfl
 simp only[cz] at hk
 have Hk:=Lib.hid hk
 have Inv:=Lib.hid (qn3 hkn3)
 clear hy hk cz hkn
 go_enter Tryz.func10,Tryz.ntmps10
 go_wp2_with fail
 refine (Hk.out w).mono ?_
 rintro e w0 ⟨rfl,rfl⟩
 clear Hk
 go_wp2_with fail
 refine (qjv kn ⟨hkn3.1,by omega⟩ w).mono ?_
 rintro e w1 ⟨d,rfl,L1,b1⟩
 have z1:=b1.size
 have L1t:=L1.tight
 go_wp2_with fail
 refine (qo9 kn ⟨hkn3.1,by omega⟩ w1).mono ?_
 rintro e w2 ⟨y,rfl,R2,b2⟩
 have z2:=b2.size
 have L2:=L1t.below b2
 have t2:=(ht.below b1 hG).below b2 (by omega)
 have R2t:=R2.tight
 have hfm:=q8x L2 ⟨rfl,rfl⟩ (fun h=>by have:=h.1;omega) t2 (q5u kn) (by omega)
 have hDn:(DM.mk0 kn).n=kn:=rfl
 rw[hDn] at hfm
 have Hfm:=Lib.hid hfm
 clear hfm L1 L1t hDn
 go_wp2_with fail
 refine Hfm.out.mono ?_
 rintro e w3 ⟨p,q1,rfl,O3⟩
 have z3:=O3.turn.size
 have g3:=O3.ge
 have R3:=R2t.keep fun k hk hs=>O3.turn.block k hk fun h=>by have h1:=hs.1;have h2:=h.2;omega
 have hrf:=qfl R3 (fun k hk=>by have:=hk.2;omega) ⟨rfl,rfl⟩ (qmh (q5u kn)) (by omega)
 have hDn:(DM.mk0 kn).n=kn:=rfl
 rw[hDn] at hrf
 have Hrf:=Lib.hid hrf
 clear hrf R2 R2t hDn Hfm
 go_wp2_with fail
 refine Hrf.out.mono ?_
 rintro e w4 ⟨q,q2,rfl,O4⟩
 have z4:=O4.turn.size
 have g4:=O4.ge
 clear Hrf R3
 go_wp2_with fail
 go_ret
 have b5:∀o,Below w4.heap.size w4 (w4.alloc o):=fun o=>blA
 have b5:=b5 (.cells #[.pointer (some ⟨d,0,none⟩),.pointer (some ⟨y,0,none⟩),.pointer (some ⟨p,0,none⟩),.pointer (some ⟨q,0,none⟩)] 43)
 have z5:(w4.alloc (.cells #[.pointer (some ⟨d,0,none⟩),.pointer (some ⟨y,0,none⟩),.pointer (some ⟨p,0,none⟩),.pointer (some ⟨q,0,none⟩)] 43)).heap.size=w4.heap.size+1:=World.size_alloc ..
 have hme:(w4.alloc (.cells #[.pointer (some ⟨d,0,none⟩),.pointer (some ⟨y,0,none⟩),.pointer (some ⟨p,0,none⟩),.pointer (some ⟨q,0,none⟩)] 43)).heap[w4.heap.size]?=_:=heap_alloc_new w4 _
 have BB:Below w.heap.size w w4:=((b1.trans (b2.mono z1)).trans (O3.turn.below (fun k hk=>hk.1) (by omega))).trans (O4.turn.below (fun k hk=>by have:=hk.1;omega) (by omega))
 have t4:Tab w4:=(t2.turned O3.turn fun h=>by have:=h.1;omega).turned O4.turn fun h=>by have:=h.1;omega
 have Pc:=((O3.pool (fun k=>w.heap.size≤k) (fun k hk=>by omega)).mono (S':=fun k=>q1≤k∧k<w3.heap.size) (T':=fun k=>w.heap.size≤k∧k<w4.heap.size+1) (fun k hk h=>⟨h,hk⟩) (fun k hk h=>h.1) (fun k hk=>⟨by omega,by omega⟩)).other O4.turn (fun k hk=>by have h1:=hk.1;have h2:=hk.2;exact⟨by omega,by omega⟩) (fun k hk h=>by have h1:=hk.2;have h2:=h.1;omega)
 have Pr:=(O4.pool (fun k=>w.heap.size≤k) (fun k hk=>by omega)).mono (S':=fun k=>q2≤k∧k<w4.heap.size) (T':=fun k=>w.heap.size≤k∧k<w4.heap.size+1) (fun k hk h=>⟨h,hk⟩) (fun k hk h=>h.1) (fun k hk=>⟨by omega,by omega⟩)
 refine⟨w4.heap.size,d,y,p,q,fun k=>((w.heap.size≤k∧k<w1.heap.size)∨w2.heap.size≤k)∧k<q1,fun k=>q1≤k∧k<w3.heap.size,fun k=>((w1.heap.size≤k∧k<w2.heap.size)∨w3.heap.size≤k)∧k<q2,fun k=>q2≤k∧k<w4.heap.size,fun k=>w.heap.size≤k∧k<w4.heap.size+1,_,_,rfl,⟨⟨?_,Pc.below b5,?_,?_,?_⟩,⟨hme,?_,Pr.below b5,?_,?_,?_,?_,⟨by omega,by omega⟩,?_,?_⟩,?_⟩,Inv.out,BB.trans (b5.mono BB.size),t4.below b5 (by have:=t4.1;omega)⟩
 ·exact O3.drv.keep fun k hk hs=>(b5.block k (by omega)).trans (O4.turn.block k hk fun h=>by
   have h1:=h.1;have h2:=h.2
   rcases hs.1 with h3|h3
   ·have:=h3.2;omega
   ·omega)
 ·intro k hk
  have h2:=hk.2
  rcases hk.1 with h3|h3
  ·exact⟨h3.1,by omega⟩
  ·exact⟨by omega,by omega⟩
 ·intro k hk h
  have h1:=hk.2;have h2:=h.1;omega
 ·intro k hk
  have h1:=hk.1;have h2:=hk.2
  exact⟨h1,by omega⟩
 ·exact O4.drv.keep fun k hk hs=>b5.block k hk
 ·intro k hk
  have h2:=hk.2
  rcases hk.1 with h3|h3
  ·have h4:=h3.1;have h5:=h3.2
   exact⟨by omega,by omega⟩
  ·exact⟨by omega,by omega⟩
 ·intro k hk
  have h1:=hk.1;have h2:=hk.2
  exact⟨by omega,by omega⟩
 ·intro k hk h
  have h1:=hk.2;have h2:=h.1;omega
 ·intro k hk
  have h1:=hk.1;have h2:=hk.2
  exact⟨h1,by omega⟩
 ·intro h
  have:=h.2;omega
 ·intro h
  have:=h.2;omega
 ·intro k hk
  rcases hk with hk|hk
  ·have h1:=hk.2
   refine⟨fun h=>?_,fun h=>?_,by omega⟩
   ·rcases h.1 with h3|h3
    ·have h4:=h3.1;have h5:=h3.2
     rcases hk.1 with h6|h6
     ·have:=h6.2;omega
     ·omega
    ·omega
   ·have h2:=h.1;omega
  ·have h1:=hk.1;have h2:=hk.2
   refine⟨fun h=>?_,fun h=>?_,by omega⟩
   ·rcases h.1 with h3|h3
    ·have h5:=h3.2;omega
    ·omega
   ·have h3:=h.1;omega
end Go.Proofs.YtipejjgodnnkaaaGreatDoor
