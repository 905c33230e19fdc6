/- The code's pool: Ref, Fresh; the superblock is set -/
import Derived.Test.YtipejjgodnnkaaaGreatDoorPm32
namespace Go.Proofs.YtipejjgodnnkaaaGreatDoor
open Go Go.RowKit Go.Proofs
set_option maxHeartbeats 4000000
set_option maxRecDepth 100000
section
theorem qh6 (C:Ct)(a:Int)(c:Nat)(hok:C.ok):(C.ref a).get (c:Int)=0↔C.get (c:Int)=0:=by
 by_cases h:C.refE a=0
 ·have e1:C.ref a=C.put a.toNat (C.get a+1):=by unfold Ct.ref;rw[if_pos h]
  have h0:C.get a≠0:=fun e=>by unfold Ct.refE at h;rw[if_pos e] at h;omega
  have hin:0≤a∧a<(C.n:Int):=Classical.byContradiction fun h2=>h0 (by unfold Ct.get;rw[if_neg h2])
  have hb:=C.get_bounds hok a
  obtain⟨V,hV⟩:∃V,C.get a+1=V:=⟨_,rfl⟩
  rw[e1,hV]
  by_cases hc:c<C.n
  ·have h1:(C.put a.toNat V).get (c:Int)=nm (C.put a.toNat V).now c:=by unfold Ct.get;rw[C.put_n,if_pos (by omega),Int.toNat_natCast]
   have h2:C.get (c:Int)=nm C.now c:=by unfold Ct.get;rw[if_pos (by omega),Int.toNat_natCast]
   rw[h1,q8j _ _ _ _ hc]
   by_cases e:c=a.toNat
   ·have e2:(c:Int)=a:=by omega
    rw[if_pos e,e2]
    constructor
    ·intro h3;omega
    ·intro h3;exact absurd h3 h0
   ·rw[if_neg e,h2]
  ·have h1:(C.put a.toNat V).get (c:Int)=0:=by unfold Ct.get;rw[C.put_n,if_neg (by omega)]
   have h2:C.get (c:Int)=0:=by unfold Ct.get;rw[if_neg (by omega)]
   rw[h1,h2]
 ·have e1:C.ref a=C:=by unfold Ct.ref;rw[if_neg h]
  rw[e1]
theorem qte {P:Pl}(h:P.ok)(a:Int):Pl.ok ⟨P.S,P.C.ref a,P.L⟩:=
 ⟨Ct.ref_ok' h.c a,Ct.ref_res h.res a,h.may,by show P.S.sectors=((P.C.ref a).n:Int);rw[Ct.ref_n];exact h.sec,h.gen,h.fine⟩
theorem qop {w:World}{p d:Nat}{S T:Nat→Prop}{P:Pl}(H:Pool w p d S T P)(a:Int) :
  Calls Tryz.prog 49 #[.pointer (some ⟨p,0,none⟩),.int .i64 a] w fun e w'=>e=.returned (.int .i64 (P.C.refE a))∧Pool w' p d S T ⟨P.S,P.C.ref a,P.L⟩∧Turn S w w':=by
 have hok:=H.ok
 obtain⟨m,cur,l,clock,v,Sc,L⟩:=H
 have hrf:=qny L.ct a
 have hpl:=L.plt
 have Hko:=Lib.hid (qte hok a)
 have Hg:=Lib.hid (fun c=>qh6 P.C a c hok.c)
 obtain⟨E,hE⟩:∃E,P.C.refE a=E:=⟨_,rfl⟩
 rw[hE] at hrf ⊢
 have Hrf:=Lib.hid hrf
 clear hrf hE hok
 go_enter Tryz.func49,Tryz.ntmps49
 go_wp2_with fail
 refine Hrf.out.mono ?_
 rintro e w1 ⟨rfl,C1,T1⟩
 have R:=L.setC T1 C1 (Ct.ref_n _ _) (fun c=>Hg.out c) Hko.out
 go_wp2
 go_ret
 exact⟨rfl,⟨m,cur,l,clock,v,Sc,R⟩,T1.mono L.inS.2.2⟩
theorem qj0 {w:World}{p d:Nat}{S T:Nat→Prop}{P:Pl}(H:Pool w p d S T P)(a:Int)(r:Bool)(hr:P.C.fresh a=r) :
  Calls Tryz.prog 61 #[.pointer (some ⟨p,0,none⟩),.int .i64 a] w fun e w'=>e=.returned (.bool r)∧w=w':=by
 obtain⟨m,cur,l,clock,v,Sc,L⟩:=H
 have hrf:=qi9 L.ct a r hr
 go_enter Tryz.func61,Tryz.ntmps61
 go_wp2_with fail
 refine hrf.mono ?_
 rintro e w1 ⟨rfl,rfl⟩
 go_wp2
 go_ret
 exact⟨rfl,rfl⟩
def Pl.setS (P:Pl)(S':Sp):Pl:=if S'.may=true then ⟨S',P.C,P.L⟩ else P
def setE (S':Sp):Int:=if S'.may=true then 0 else 1
attribute [local go_sem ↓] q12
theorem qh7 {w:World}{p d:Nat}{S T:Nat→Prop}{P:Pl}(H:Pool w p d S T P)(S':Sp)(hf:S'.fine)(hg:S'.gen=P.S.gen)(hs:S'.sectors=P.S.sectors) :
  Calls Tryz.prog 108 #[.pointer (some ⟨p,0,none⟩),.agg S'.vs.toArray] w fun e w'=>e=.returned (.int .i64 (setE S'))∧Pool w' p d S T (P.setS S')∧Turn S w w':=by
 have hok:=H.ok
 have hm:=fun r hr=>qbz S' r hr hf
 have b1:Below w.heap.size w (w.alloc (.cells S'.vs.toArray 56)):=blA
 have X1:SB (w.alloc (.cells S'.vs.toArray 56)) w.heap.size S':=SB.new w S' 56
 have z1:(w.alloc (.cells S'.vs.toArray 56)).heap.size=w.heap.size+1:=by simp
 have hl1:=X1.ld
 cases hmay:S'.may with
 |false=>
  have e1:setE S'=1:=by unfold setE;rw[hmay];rfl
  have e2:P.setS S'=P:=by unfold Pl.setS;rw[hmay];rfl
  rw[e1,e2]
  have hm:=hm false hmay
  clear hmay e1 e2
  go_enter Tryz.func108,Tryz.ntmps108
  go_wp2_with fail
  generalize w.alloc (.cells S'.vs.toArray 56)=w1 at b1 X1 z1 hl1 ⊢
  refine (hm w1).mono ?_
  rintro e w2 ⟨rfl,b2⟩
  go_wp2
  go_ret
  have B:=b1.trans (b2.mono (by omega))
  exact⟨rfl,H.below B,q00 B⟩
 |true=>
  have e1:setE S'=0:=by unfold setE;rw[hmay];rfl
  have e2:P.setS S'=⟨S',P.C,P.L⟩:=by unfold Pl.setS;rw[hmay];rfl
  rw[e1,e2]
  have hko:Pl.ok ⟨S',P.C,P.L⟩:=⟨hok.c,hok.res,hmay,hs.trans hok.sec,by rw[show (⟨S',P.C,P.L⟩:Pl).S.gen=P.S.gen from hg];exact hok.gen,hok.fine⟩
  have Hko:=Lib.hid hko
  have hm:=hm true hmay
  clear hmay e1 e2 hko hok hg hs
  obtain⟨m,cur,l,clock,v,Sc,L⟩:=H
  have hpl:=L.plt
  go_enter Tryz.func108,Tryz.ntmps108
  go_wp2_with fail
  have L1:=L.below b1
  generalize w.alloc (.cells S'.vs.toArray 56)=w1 at b1 X1 z1 hl1 L1 ⊢
  refine (hm w1).mono ?_
  rintro e w2 ⟨rfl,b2⟩
  have L2:=L1.below b2
  have X2:=X1.below b2 (by omega)
  have hl2:=X2.ld
  go_wp2_with (first
   |(refine q90 rfl _ _ rfl L2 rfl S' rfl ?_)
   |fail)
  intro w7 cur7 me7 ph7 ct7 T7
  have C7:CCo w7 p 36 Sc P.C:=L2.ct.around L2.me me7 (fun j _=>ct7 j) (fun k hk e=>(L2.ne k hk).1 e.symm) fun k hk hs=>T7.block k hk fun e=>(L2.ne k hs).1 e
  go_wp2
  go_ret
  have B:=b1.trans (b2.mono (by omega))
  have z7:=T7.size
  have hmp:m≠p:=fun e=>L2.p_m e.symm
  refine⟨rfl,⟨m,cur7,l,clock,v,Sc,me7,ph7,C7,(T7.block m L2.mlt hmp).trans L2.map,L2.ents,L2.look,L2.keys,fun a b h=>?_,L2.good,L2.inS,L2.ne,L2.sub,Hko.out,hf⟩,(q00 B).trans (T7.mono fun k hk=>by rw[hk];exact L2.inS.1) fun k hk=>.inl hk⟩
  obtain⟨g,c,e,hsl,hT⟩:=L2.row a b h
  exact⟨g,c,e,PL.keep.stay_slice hsl z7 fun hg=>T7.block g hg fun h=>hT (h▸L2.sub p L2.inS.1),hT⟩
end
section
def Sp.setLog (S:Sp)(a:Int):Sp:=⟨S.gen,S.sectors,a,S.vols,S.len⟩
theorem q93 {S:Sp}(h:S.fine)(a:Int):(S.setLog a).fine:=h
theorem qdo {S:Sp}(h:S.fine){k:Nat}(_hk:k<8){v:Vl}(hv:v.name.size≤maxLen):(S.setV k v).fine:=fun j hj=>by
 have hl:=S.len
 by_cases e:j=k
 ·subst e;rw[ql0 S hj];exact hv
 ·have:(S.setV k v).at_ j=S.at_ j:=by
   unfold Sp.at_ Sp.setV
   show (S.vols.set k v).getD j Vl.zero=S.vols.getD j Vl.zero
   rw[List.getD_eq_getElem?_getD,List.getD_eq_getElem?_getD,List.getElem?_set_ne (by omega)]
  rw[this];exact h j hj
theorem SB.setL {w:World}{b:Nat}{S:Sp}(H:SB w b S)(x:Int):SB (w.setCell ⟨b,2,none⟩ (.int .i64 x)) b (S.setLog x):=by
 obtain⟨t,H⟩:=H
 exact⟨t,heap_setCell_same w b 2 _ t _ H⟩
def Pl.logE (P:Pl)(a:Int):Int:=setE (P.S.setLog a)
def Pl.volE (P:Pl)(i:Int)(v:Vl):Int:=if 0≤i∧i<8 then setE (P.S.setV i.toNat v) else 1
def Pl.volP (P:Pl)(i:Int)(v:Vl):Pl:=if 0≤i∧i<8 then P.setS (P.S.setV i.toNat v) else P
attribute [local go_sem ↓] q12 q1s
theorem qfb {w:World}{p d:Nat}{S T:Nat→Prop}{P:Pl}(H:Pool w p d S T P)(a:Int) :
  Calls Tryz.prog 54 #[.pointer (some ⟨p,0,none⟩),.int .i64 a] w fun e w'=>e=.returned (.int .i64 (P.logE a))∧Pool w' p d S T (P.setS (P.S.setLog a))∧Turn S w w':=by
 have hF:=fun (w:World) (H:Pool w p d S T P) (hf:P.S.fine)=>qh7 H (P.S.setLog a) (q93 hf a) rfl rfl
 have HF:=Lib.hid hF
 have H0:=H
 obtain⟨m,cur,l,clock,v,Sc,L⟩:=H
 have hfine:=L.fineS
 have hpl:=L.plt
 have hal:=q1t
 have b1:Below w.heap.size w (w.alloc (.cells Sp.zero.vs.toArray 56)):=blA
 have hl:=L.ld
 have X1:=SB.new w Sp.zero 56
 clear hF
 go_enter Tryz.func54,Tryz.ntmps54
 go_wp2_with (first
  |(refine q03 rfl _ _ rfl w.heap.size rfl P.S Sp.zero rfl X1 ?_;intro w2 X2 hb2 T2;have q2:=X2.c2;have f2:=X2.fz 2;have X3:=X2.setL a;have hl3:=X3.ld)
  |fail)
 have b3:Below w.heap.size w (w2.setCell ⟨w.heap.size,2,none⟩ (.int .i64 a)):=(b1.trans (hb2 _ (Nat.le_refl _))).trans ((q19 (bp:=w.heap.size) w2 2 (.int .i64 a)).below (fun k hk=>by omega) (by have h1:=T2.size;have h2:=b1.size;omega))
 generalize w2.setCell ⟨w.heap.size,2,none⟩ (.int .i64 a)=w3 at b3 X3 hl3 ⊢
 refine (HF.out w3 (H0.below b3) hfine).mono ?_
 rintro e w4 ⟨rfl,H4,X4⟩
 go_wp2
 go_ret
 exact⟨rfl,H4,(q00 b3).trans X4 fun k hk=>.inl hk⟩
theorem qfc {w:World}{p d:Nat}{S T:Nat→Prop}{P:Pl}(H:Pool w p d S T P)(i:Int)(v:Vl)(hv:v.name.size≤maxLen) :
  Calls Tryz.prog 52 #[.pointer (some ⟨p,0,none⟩),.int .i64 i,v.v] w fun e w'=>e=.returned (.int .i64 (P.volE i v))∧Pool w' p d S T (P.volP i v)∧Turn S w w':=by
 have b1:Below w.heap.size w (w.alloc (.cells v.vs.toArray 32)):=blA
 have z1:(w.alloc (.cells v.vs.toArray 32)).heap.size=w.heap.size+1:=by simp
 have V1:VB (w.alloc (.cells v.vs.toArray 32)) w.heap.size v:=VB.new w v 32
 have H1:=H.below b1
 have H0:=H
 by_cases hi:0≤i∧i<8
 ·have e1:P.volE i v=setE (P.S.setV i.toNat v):=by unfold Pl.volE;rw[if_pos hi]
  have e2:P.volP i v=P.setS (P.S.setV i.toNat v):=by unfold Pl.volP;rw[if_pos hi]
  rw[e1,e2]
  obtain⟨k,rfl⟩:=Int.eq_ofNat_of_zero_le hi.1
  rw[Int.toNat_natCast]
  have hk:k<8:=by omega
  have hF:=fun (w:World) (H:Pool w p d S T P) (hf:P.S.fine)=>qh7 H (P.S.setV k v) (qdo hf hk hv) rfl rfl
  have HF:=Lib.hid hF
  have i0:¬(k:Int)<0:=by omega
  have i1:¬(8:Int)≤(k:Int):=by omega
  have i2:(k:Int)<8:=by omega
  have i3:(0:Int)≤(k:Int):=by omega
  have H10:=H1
  obtain⟨m,cur,l,clock,v',Sc,L⟩:=H1
  have hfine:=L.fineS
  have hal:=q1t
  have hl:=L.ld
  have b2:Below (w.alloc (.cells v.vs.toArray 32)).heap.size (w.alloc (.cells v.vs.toArray 32)) ((w.alloc (.cells v.vs.toArray 32)).alloc (.cells Sp.zero.vs.toArray 56)):=blA
  have X2:SB ((w.alloc (.cells v.vs.toArray 32)).alloc (.cells Sp.zero.vs.toArray 56)) (w.heap.size+1) Sp.zero:=by rw[←z1];exact SB.new _ Sp.zero 56
  rw[z1] at b2
  clear hF e1 e2 hi
  obtain⟨nm,ro,rt,nx⟩:=v
  have hvs:(⟨nm,ro,rt,nx⟩:Vl).vs.toArray=#[.string nm,.bool ro,.int .i64 rt,.int .i64 nx]:=rfl
  simp only[hvs] at V1 H10 L hl b1 b2 z1 X2
  show Calls Tryz.prog 52 #[.pointer (some ⟨p,0,none⟩),.int .i64 (k:Int),.agg #[.string nm,.bool ro,.int .i64 rt,.int .i64 nx]] w _
  clear hvs hv
  go_enter Tryz.func52,Tryz.ntmps52
  go_wp2_with (first
   |(refine q03 rfl _ _ rfl (w.heap.size+1) rfl P.S Sp.zero rfl X2 ?_;intro w3 X3 hb3 T3;have V3:=(V1.below b2 (by omega)).below (hb3 _ (Nat.le_refl _)) (by omega);have y0:w3.cell? ⟨w.heap.size,0,none⟩=some (.string nm):=V3.range 0 _ rfl;have y1:w3.cell? ⟨w.heap.size,1,none⟩=some (.bool ro):=V3.range 1 _ rfl;have y2:w3.cell? ⟨w.heap.size,2,none⟩=some (.int .i64 rt):=V3.range 2 _ rfl;have y3:w3.cell? ⟨w.heap.size,3,none⟩=some (.int .i64 nx):=V3.range 3 _ rfl)
   |(refine q3k rfl _ _ rfl (w.heap.size+1) k hk rfl ⟨nm,ro,rt,nx⟩ P.S rfl X3 ?_;intro w4 X4 hb4 T4;have hl4:=X4.ld)
   |fail)
  have b3:Below w.heap.size w w3:=(b1.trans (b2.mono (by omega))).trans (hb3 _ (by omega))
  have b4:Below w.heap.size w w4:=b3.trans (hb4 _ (by omega))
  refine (HF.out w4 (H0.below b4) hfine).mono ?_
  rintro e w5 ⟨rfl,H5,X5⟩
  go_wp2
  go_ret
  exact⟨rfl,H5,(q00 b4).trans X5 fun k hk=>.inl hk⟩
 ·have e1:P.volE i v=1:=by unfold Pl.volE;rw[if_neg hi]
  have e2:P.volP i v=P:=by unfold Pl.volP;rw[if_neg hi]
  rw[e1,e2]
  have hi2:i<0∨(0≤i∧8≤i):=by omega
  obtain⟨nm,ro,rt,nx⟩:=v
  have hvs:(⟨nm,ro,rt,nx⟩:Vl).vs.toArray=#[.string nm,.bool ro,.int .i64 rt,.int .i64 nx]:=rfl
  simp only[hvs] at b1
  show Calls Tryz.prog 52 #[.pointer (some ⟨p,0,none⟩),.int .i64 i,.agg #[.string nm,.bool ro,.int .i64 rt,.int .i64 nx]] w _
  clear hvs hv e1 e2 hi
  rcases hi2 with i0|⟨i0,i1⟩
  ·go_enter Tryz.func52,Tryz.ntmps52
   go_wp2_with fail
   go_ret
   exact⟨rfl,H.below b1,q00 b1⟩
  ·have i2:¬i<0:=by omega
   go_enter Tryz.func52,Tryz.ntmps52
   go_wp2_with fail
   go_ret
   exact⟨rfl,H.below b1,q00 b1⟩
end
section
attribute [local go_sem ↓] q12 q1s
theorem qfd {w:World}{q y:Nat}{S T:Nat→Prop}{P:Pl}(H:RPool w q y S T P)(a:Int) :
  Calls Tryz.prog 55 #[.pointer (some ⟨q,0,none⟩),.int .i64 a] w fun e w'=>e=.returned (.int .i64 (P.logE a))∧RPool w' q y S T (P.setS (P.S.setLog a))∧Turn S w w':=by
 obtain⟨c,g,Sc,L⟩:=H
 have hfine:=L.fineS
 have hql:=L.qlt
 have hal:=q1t
 have b1:Below w.heap.size w (w.alloc (.cells Sp.zero.vs.toArray 56)):=blA
 have hl:=L.ld
 have X1:=SB.new w Sp.zero 56
 have hff:=q93 hfine a
 obtain⟨r,hr⟩:∃r,(P.S.setLog a).may=r:=⟨_,rfl⟩
 have Hmay:=Lib.hid (fun w=>q5f (P.S.setLog a) r hr hff w)
 have e0:P.logE a=if r=true then 0 else 1:=by unfold Pl.logE setE;rw[hr]
 have e2:P.setS (P.S.setLog a)=if r=true then ⟨P.S.setLog a,P.C,P.L⟩ else P:=by unfold Pl.setS;rw[hr]
 rw[e0,e2]
 clear e0 e2 hr
 cases r with
 |false=>
  go_enter Tryz.func55,Tryz.ntmps55
  go_wp2_with (first
   |(refine q03 rfl _ _ rfl w.heap.size rfl P.S Sp.zero rfl X1 ?_;intro w2 X2 hb2 T2;have q2:=X2.c2;have f2:=X2.fz 2;have X3:=X2.setL a;have hl3:=X3.ld)
   |fail)
  have b3:Below w.heap.size w (w2.setCell ⟨w.heap.size,2,none⟩ (.int .i64 a)):=(b1.trans (hb2 _ (Nat.le_refl _))).trans ((q19 (bp:=w.heap.size) w2 2 (.int .i64 a)).below (fun k hk=>by omega) (by have h1:=T2.size;have h2:=b1.size;omega))
  generalize w2.setCell ⟨w.heap.size,2,none⟩ (.int .i64 a)=w3 at b3 X3 hl3 ⊢
  refine (Hmay.out w3).mono ?_
  rintro e w4 ⟨rfl,b4⟩
  go_wp2
  go_ret
  have B4:=b3.trans (b4.mono b3.size)
  exact⟨rfl,⟨c,g,Sc,L.below B4⟩,q00 B4⟩
 |true=>
  go_enter Tryz.func55,Tryz.ntmps55
  go_wp2_with (first
   |(refine q03 rfl _ _ rfl w.heap.size rfl P.S Sp.zero rfl X1 ?_;intro w2 X2 hb2 T2;have q2:=X2.c2;have f2:=X2.fz 2;have X3:=X2.setL a;have hl3:=X3.ld)
   |fail)
  have b3:Below w.heap.size w (w2.setCell ⟨w.heap.size,2,none⟩ (.int .i64 a)):=(b1.trans (hb2 _ (Nat.le_refl _))).trans ((q19 (bp:=w.heap.size) w2 2 (.int .i64 a)).below (fun k hk=>by omega) (by have h1:=T2.size;have h2:=b1.size;omega))
  generalize w2.setCell ⟨w.heap.size,2,none⟩ (.int .i64 a)=w3 at b3 X3 hl3 ⊢
  refine (Hmay.out w3).mono ?_
  rintro e w4 ⟨rfl,b4⟩
  have B4:=b3.trans (b4.mono b3.size)
  have X4:=X3.below b4 X3.lt
  have hl4:=X4.ld
  have L4:=L.below B4
  go_wp2_with (first
   |(refine q5i rfl _ _ rfl L4 rfl (P.S.setLog a) hff rfl ?_;intro w5 L5 T5)
   |fail)
  go_ret
  exact⟨rfl,⟨c,g,Sc,L5⟩,(q00 B4).trans T5 fun k hk=>.inl (hk▸L.inS.1)⟩
theorem qfe {w:World}{q y:Nat}{S T:Nat→Prop}{P:Pl}(H:RPool w q y S T P)(i:Int)(v:Vl)(hv:v.name.size≤maxLen) :
  Calls Tryz.prog 53 #[.pointer (some ⟨q,0,none⟩),.int .i64 i,v.v] w fun e w'=>e=.returned (.int .i64 (P.volE i v))∧RPool w' q y S T (P.volP i v)∧Turn S w w':=by
 have b1:Below w.heap.size w (w.alloc (.cells v.vs.toArray 32)):=blA
 have z1:(w.alloc (.cells v.vs.toArray 32)).heap.size=w.heap.size+1:=by simp
 have V1:VB (w.alloc (.cells v.vs.toArray 32)) w.heap.size v:=VB.new w v 32
 by_cases hi:0≤i∧i<8
 ·have e1:P.volE i v=setE (P.S.setV i.toNat v):=by unfold Pl.volE;rw[if_pos hi]
  have e2:P.volP i v=P.setS (P.S.setV i.toNat v):=by unfold Pl.volP;rw[if_pos hi]
  rw[e1,e2]
  obtain⟨k,rfl⟩:=Int.eq_ofNat_of_zero_le hi.1
  rw[Int.toNat_natCast]
  have hk:k<8:=by omega
  obtain⟨c,g,Sc,L⟩:=H
  have hfine:=L.fineS
  have hff:=qdo hfine hk hv
  have i0:¬(k:Int)<0:=by omega
  have i1:¬(8:Int)≤(k:Int):=by omega
  have i2:(k:Int)<8:=by omega
  have i3:(0:Int)≤(k:Int):=by omega
  have hal:=q1t
  have L1:=L.below b1
  have hl:=L1.ld
  have b2:Below (w.alloc (.cells v.vs.toArray 32)).heap.size (w.alloc (.cells v.vs.toArray 32)) ((w.alloc (.cells v.vs.toArray 32)).alloc (.cells Sp.zero.vs.toArray 56)):=blA
  have X2:SB ((w.alloc (.cells v.vs.toArray 32)).alloc (.cells Sp.zero.vs.toArray 56)) (w.heap.size+1) Sp.zero:=by rw[←z1];exact SB.new _ Sp.zero 56
  rw[z1] at b2
  obtain⟨r,hr⟩:∃r,(P.S.setV k v).may=r:=⟨_,rfl⟩
  have Hmay:=Lib.hid (fun w=>q5f (P.S.setV k v) r hr hff w)
  have e3:setE (P.S.setV k v)=if r=true then 0 else 1:=by unfold setE;rw[hr]
  have e4:P.setS (P.S.setV k v)=if r=true then ⟨P.S.setV k v,P.C,P.L⟩ else P:=by unfold Pl.setS;rw[hr]
  rw[e3,e4]
  clear e1 e2 e3 e4 hi hr
  obtain⟨nm,ro,rt,nx⟩:=v
  have hvs:(⟨nm,ro,rt,nx⟩:Vl).vs.toArray=#[.string nm,.bool ro,.int .i64 rt,.int .i64 nx]:=rfl
  simp only[hvs] at V1 L1 hl b1 b2 z1 X2
  show Calls Tryz.prog 53 #[.pointer (some ⟨q,0,none⟩),.int .i64 (k:Int),.agg #[.string nm,.bool ro,.int .i64 rt,.int .i64 nx]] w _
  clear hvs hv
  cases r with
  |false=>
   go_enter Tryz.func53,Tryz.ntmps53
   go_wp2_with (first
    |(refine q03 rfl _ _ rfl (w.heap.size+1) rfl P.S Sp.zero rfl X2 ?_;intro w3 X3 hb3 T3;have V3:=(V1.below b2 (by omega)).below (hb3 _ (Nat.le_refl _)) (by omega);have y0:w3.cell? ⟨w.heap.size,0,none⟩=some (.string nm):=V3.range 0 _ rfl;have y1:w3.cell? ⟨w.heap.size,1,none⟩=some (.bool ro):=V3.range 1 _ rfl;have y2:w3.cell? ⟨w.heap.size,2,none⟩=some (.int .i64 rt):=V3.range 2 _ rfl;have y3:w3.cell? ⟨w.heap.size,3,none⟩=some (.int .i64 nx):=V3.range 3 _ rfl)
    |(refine q3k rfl _ _ rfl (w.heap.size+1) k hk rfl ⟨nm,ro,rt,nx⟩ P.S rfl X3 ?_;intro w4 X4 hb4 T4;have hl4:=X4.ld)
    |fail)
   have b3:Below w.heap.size w w3:=(b1.trans (b2.mono (by omega))).trans (hb3 _ (by omega))
   have b4:Below w.heap.size w w4:=b3.trans (hb4 _ (by omega))
   refine (Hmay.out w4).mono ?_
   rintro e w5 ⟨rfl,b5⟩
   go_wp2
   go_ret
   have B5:=b4.trans (b5.mono b4.size)
   exact⟨rfl,⟨c,g,Sc,L.below B5⟩,q00 B5⟩
  |true=>
   go_enter Tryz.func53,Tryz.ntmps53
   go_wp2_with (first
    |(refine q03 rfl _ _ rfl (w.heap.size+1) rfl P.S Sp.zero rfl X2 ?_;intro w3 X3 hb3 T3;have V3:=(V1.below b2 (by omega)).below (hb3 _ (Nat.le_refl _)) (by omega);have y0:w3.cell? ⟨w.heap.size,0,none⟩=some (.string nm):=V3.range 0 _ rfl;have y1:w3.cell? ⟨w.heap.size,1,none⟩=some (.bool ro):=V3.range 1 _ rfl;have y2:w3.cell? ⟨w.heap.size,2,none⟩=some (.int .i64 rt):=V3.range 2 _ rfl;have y3:w3.cell? ⟨w.heap.size,3,none⟩=some (.int .i64 nx):=V3.range 3 _ rfl)
    |(refine q3k rfl _ _ rfl (w.heap.size+1) k hk rfl ⟨nm,ro,rt,nx⟩ P.S rfl X3 ?_;intro w4 X4 hb4 T4;have hl4:=X4.ld)
    |fail)
   have b3:Below w.heap.size w w3:=(b1.trans (b2.mono (by omega))).trans (hb3 _ (by omega))
   have b4:Below w.heap.size w w4:=b3.trans (hb4 _ (by omega))
   refine (Hmay.out w4).mono ?_
   rintro e w5 ⟨rfl,b5⟩
   have B5:=b4.trans (b5.mono b4.size)
   have X5:=X4.below b5 X4.lt
   have hl5:=X5.ld
   have L5:=L.below B5
   go_wp2_with (first
    |(refine q5i rfl _ _ rfl L5 rfl (P.S.setV k ⟨nm,ro,rt,nx⟩) hff rfl ?_;intro w6 L6 T6)
    |fail)
   go_ret
   exact⟨rfl,⟨c,g,Sc,L6⟩,(q00 B5).trans T6 fun k hk=>.inl (hk▸L.inS.1)⟩
 ·have e1:P.volE i v=1:=by unfold Pl.volE;rw[if_neg hi]
  have e2:P.volP i v=P:=by unfold Pl.volP;rw[if_neg hi]
  rw[e1,e2]
  have hi2:i<0∨(0≤i∧8≤i):=by omega
  obtain⟨nm,ro,rt,nx⟩:=v
  have hvs:(⟨nm,ro,rt,nx⟩:Vl).vs.toArray=#[.string nm,.bool ro,.int .i64 rt,.int .i64 nx]:=rfl
  simp only[hvs] at b1
  show Calls Tryz.prog 53 #[.pointer (some ⟨q,0,none⟩),.int .i64 i,.agg #[.string nm,.bool ro,.int .i64 rt,.int .i64 nx]] w _
  clear hvs hv e1 e2 hi
  rcases hi2 with i0|⟨i0,i1⟩
  ·go_enter Tryz.func53,Tryz.ntmps53
   go_wp2_with fail
   go_ret
   exact⟨rfl,H.below b1,q00 b1⟩
  ·have i2:¬i<0:=by omega
   go_enter Tryz.func53,Tryz.ntmps53
   go_wp2_with fail
   go_ret
   exact⟨rfl,H.below b1,q00 b1⟩
end
end Go.Proofs.YtipejjgodnnkaaaGreatDoor
