/- The code's pool: PutBytes, Unref -/
import Derived.Test.YtipejjgodnnkaaaGreatDoorPm30
namespace Go.Proofs.YtipejjgodnnkaaaGreatDoor
open Go Go.RowKit Go.Proofs
set_option maxHeartbeats 8000000
set_option maxRecDepth 100000
section
open Go.ChangeMaps (setBlock)
def Pl.may5 (k:Int)(n:Nat):Bool:=match mostK k with|some m=>decide (n≤m)|none=>false
def Pl.putV (P:Pl)(k:Int)(n:Nat):Int:=if Pl.may5 k n=true then P.C.allocV else 0
def Pl.putE (P:Pl)(k:Int)(n:Nat):Int:=if (mostK k).isSome=true then if Pl.may5 k n=true then P.C.allocE else 7 else 1
def Pl.put (P:Pl)(k:Int)(l:List UInt8):Pl:=if Pl.may5 k l.length=true then P.lay (.bytes k l) else P
theorem q7q {P:Pl}(h:P.C.pick=none)(b:Bk):P.lay b=P:=by unfold Pl.lay;rw[h]
theorem qh3 {P:Pl}{b:Bk}(hb:b.good)(h:∀c x,P.L c=some x→x.good):∀c x,(P.lay b).L c=some x→x.good:=fun c x hx=>by
 cases hp:P.C.pick with
 |none=>rw[q7q hp] at hx;exact h c x hx
 |some a=>
  rw[qt6 hp] at hx
  split at hx
  ·injection hx with hx;exact hx▸hb
  ·exact h c x hx
theorem qol {w w':World}{S:Nat→Prop}{A:Option Addr}{n c:Nat}{l:List UInt8}(h:Sl w A n c l)(X:Turn S w w')(hA:0<n→∀ad,A=some ad→¬S ad.block):Sl w' A n c l:=by
 by_cases hn:0<n
 ·exact q4k h X (hA hn)
 ·have hl:l=[]:=List.eq_nil_of_length_eq_zero (by rw[h.len];omega)
  subst hl
  exact⟨h.1,h.2.1,h.2.2.1,fun j u hu=>by simp at hu⟩
theorem q61 {w:World}{p d:Nat}{S T:Nat→Prop}{P:Pl}(H:Pool w p d S T P)(hT:∀k,T k→k<w.heap.size)(hG:¬T 1)(k:Int)(A:Option Addr)(n c:Nat)(x:List UInt8)(hs:Sl w A n c x)(hA:0<n→∀ad,A=some ad→¬S ad.block)(ht:Tab w) :
  Calls Tryz.prog 27 #[.pointer (some ⟨p,0,none⟩),.int .i64 k,.slice A n c] w fun e w'=>e=.returned (.tuple #[.int .i64 (P.putV k x.length),.int .i64 (P.putE k x.length)])∧Pool w' p d S T (P.put k x)∧Turn S w w':=by
 have hlen:=hs.len
 have hok:=H.ok
 have hlo:=q31 k
 unfold mostV at hlo
 cases hk:mostK k with
 |none=>
  rw[hk] at hlo
  have h5:Pl.may5 k x.length=false:=by unfold Pl.may5;rw[hk]
  have hV:=Lib.hid (show P.putV k x.length=0 by unfold Pl.putV;rw[h5];rfl)
  have hE:=Lib.hid (show P.putE k x.length=1 by unfold Pl.putE;rw[hk];rfl)
  have hP:=Lib.hid (show P.put k x=P by unfold Pl.put;rw[h5];rfl)
  clear h5 hk
  go_enter Tryz.func27,Tryz.ntmps27
  go_wp2_with (first
   |(go_at_call 77;refine (hlo w).mono ?_;rintro e w1 ⟨rfl,rfl⟩)
   |fail)
  go_ret2
  rw[hV.out,hE.out,hP.out]
  exact⟨rfl,H,Turn.refl _ _⟩
 |some most=>
  rw[hk] at hlo
  obtain⟨hk56,hm236⟩:=q0p hk
  by_cases hnm:n≤most
  ·have h5:Pl.may5 k x.length=true:=by unfold Pl.may5;rw[hk,hlen];exact decide_eq_true hnm
   have hV:=Lib.hid (show P.putV k x.length=P.C.allocV by unfold Pl.putV;rw[h5];rfl)
   have hE:=Lib.hid (show P.putE k x.length=P.C.allocE by unfold Pl.putE;rw[hk,h5];rfl)
   have hP:=Lib.hid (show P.put k x=P.lay (.bytes k x) by unfold Pl.put;rw[h5];rfl)
   have e1:¬(most:Int)<(n:Int):=by omega
   have hgd:(Bk.bytes k x).good:=q6s hk56 (by omega)
   obtain⟨m,cur,l,clock,v,Sc,L⟩:=H
   have hal:=q6o L.ct
   clear h5 hk
   cases hp:P.C.pick with
   |none=>
    obtain⟨a1,a2,a3⟩:=Ct.alloc_none hp
    rw[a1,a2,a3] at hal
    rw[a1] at hE
    rw[a2] at hV
    rw[q7q hp] at hP
    have hal:=Lib.hid hal
    clear a1 a2 a3 hp
    go_enter Tryz.func27,Tryz.ntmps27
    go_wp2_with (first
     |(go_at_call 77;refine (hlo w).mono ?_;rintro e w1 ⟨rfl,rfl⟩)
     |(go_at_call 89;refine hal.out.mono ?_;rintro e w2 ⟨rfl,C2,T2⟩)
     |fail)
    go_ret2
    rw[hV.out,hE.out,hP.out]
    exact⟨rfl,⟨m,cur,l,clock,v,Sc,L.setC T2 C2 rfl (fun _=>Iff.rfl) hok⟩,T2.mono L.inS.2.2⟩
   |some a=>
    obtain⟨a1,a2,a3⟩:=Ct.alloc_some hp
    have han:=(Ct.pick_in hp).1
    have hget0:P.C.get (a:Int)=0:=by unfold Ct.get;rw[if_pos (by omega),Int.toNat_natCast];exact (Ct.pick_in hp).2.2.1
    have hnone:getE (a:Int) l=none:=by rw[L.look a];unfold Pl.live;rw[if_pos hget0];rfl
    have Hnone:=Lib.hid hnone
    have hcn:=hok.c.1
    have hS:=ql8 (P:=P) (.bytes k x)
    have hn:=qim (P:=P) (.bytes k x)
    have hlok:=ql7 hok hgd.fine
    have hCl:P.C.alloc=(P.lay (.bytes k x)).C:=by rw[q3s hp]
    have hlv:=qbo hp (.bytes k x)
    have hgl:=qh3 hgd L.good
    rw[a1,a2,hCl] at hal
    rw[a1] at hE
    rw[a2] at hV
    have hsl:(datH k a x.length 0).ok=true:=hgd.hd a 0 (by omega) q15
    have hbl:x.length≤236:=hgd.body
    have hs1:sealE (datH k a x.length 0) x=0:=by unfold sealE;rw[if_pos hsl,if_pos hbl]
    have hs2:sealB (datH k a x.length 0) x=(Bk.bytes k x).out a 0:=by unfold sealB;rw[if_pos hsl,if_pos hbl];rfl
    have Hs1:=Lib.hid hs1
    have Hs2:=Lib.hid hs2
    have hal:=Lib.hid hal
    have Hlv:=Lib.hid hlv
    have Hgl:=Lib.hid hgl
    have Hlok:=Lib.hid hlok
    have HS:=Lib.hid hS
    have Hn:=Lib.hid hn
    have Hlen:=Lib.hid hlen
    clear a1 a2 a3 hp hCl hS hn hlok hlv hgl hsl hs1 hs2 hlen hnone hget0
    go_enter Tryz.func27,Tryz.ntmps27
    go_wp2_with (first
     |(go_at_call 77;refine (hlo w).mono ?_;rintro e w1 ⟨rfl,rfl⟩)
     |(go_at_call 89;refine hal.out.mono ?_;rintro e w2 ⟨rfl,C2,T2⟩)
     |fail)
    have hp2:=T2.block p L.plt fun h=>(L.ne p h).1 rfl
    have hm2:=T2.block m L.mlt fun h=>(L.ne m h).2 rfl
    have z2:=T2.size
    have hpl:=L.plt
    have hml:=L.mlt
    have q40:w2.cell? ⟨p,40,none⟩=some (.map (some m)):=(World.cell?_of_block (a:=⟨p,40,none⟩) hp2).trans L.c40
    have s2:Sl w2 A n c x:=qol hs T2 fun hn ad e h=>hA hn ad e (L.inS.2.2 _ h)
    have t2:Tab w2:=ht.turned T2 fun h=>hG (L.sub _ (L.inS.2.2 _ h))
    have hF:∀w',Below w2.heap.size w2 w'→w'.cell? ⟨p,40,none⟩=some (.map (some m))∧Below w2.heap.size w2 w':=fun w' hb=>⟨(hb.cell (p:=⟨p,40,none⟩) (by show p<_;omega)).trans q40,hb⟩
    have BD:Below w2.heap.size w2 w2.drew:=(Below.refl _ _).drew
    have Hup:=Lib.hid (fun (w':World) (hb:Below w2.heap.size w2 w') (v':Value)=>(congrArg (fun z:Nat=>Result.ok () (setBlock w' m (.map (putE (a:Int) v' clock l).toArray z))) (if_pos Hnone.out)).subst (motive:=fun r=>(Instr.mapUpdate 108 (.map (some m)) (.int .i64 (a:Int)) v').run Tryz.prog w'=r) <| q1r (P:=Tryz.prog) (t:=108) (k:=3) (e:=30) L.ents Tryz.underlying108 Tryz.underlying3 ((hb.block m (by omega)).trans (hm2.trans L.map)) (a:Int) v')
    go_region_held3 (fun w'=>w'.cell? ⟨p,40,none⟩=some (.map (some m)))
     (first|assumption|exact (hF _ BD).1|exact (hF _ bb3).1|exact (World.cell?_of_block (a:=⟨p,40,none⟩) ((q0o (S:=fun k=>k=m) _ rfl).block p (by have:=Below.size bb3;omega) L.p_m)).trans (hF _ bb3).1)
     (first
      |(go_at_call 90;refine (q3w (datH k a n 0) A n c x _ s2.drew (t2.below BD t2.1)).mono ?_;rw[←Hlen.out,Hs1.out,Hs2.out];rintro e w3 ⟨A3,n3,c3,rfl,own3',hg3,hb3⟩;have bb3:Below w2.heap.size w2 w3:=BD.trans hb3;have hup:=Hup.out w3 bb3)
      |fail)
    obtain⟨q,rfl,rfl,rfl⟩:=hg3 (by first|trivial|rfl)
    have hq:=(own3'.block ⟨q,0,none⟩ rfl).1
    obtain⟨R1,R2⟩:=L.store (P':=P.lay (.bytes k x)) (b:=.bytes k x) T2 C2 bb3 Hn.out HS.out han Hlv.out Hgl.out Hlok.out own3'.sl (fun h=>by have h1:=hT q h;have h2:w2.drew.heap.size=w2.heap.size:=rfl;have h3:w2.drew.heap.size≤q:=hq;omega)
    rw[if_pos Hnone.out] at R1 R2
    go_wp2
    go_ret2
    rw[hV.out,hE.out,hP.out]
    exact⟨rfl,R1,R2⟩
  ·have h5:Pl.may5 k x.length=false:=by unfold Pl.may5;rw[hk,hlen];exact decide_eq_false hnm
   have hV:=Lib.hid (show P.putV k x.length=0 by unfold Pl.putV;rw[h5];rfl)
   have hE:=Lib.hid (show P.putE k x.length=7 by unfold Pl.putE;rw[hk,h5];rfl)
   have hP:=Lib.hid (show P.put k x=P by unfold Pl.put;rw[h5];rfl)
   have e1:(most:Int)<(n:Int):=by omega
   clear h5 hk
   go_enter Tryz.func27,Tryz.ntmps27
   go_wp2_with (first
    |(go_at_call 77;refine (hlo w).mono ?_;rintro e w1 ⟨rfl,rfl⟩)
    |fail)
   go_ret2
   rw[hV.out,hE.out,hP.out]
   exact⟨rfl,H,Turn.refl _ _⟩
theorem q8y (C:Ct)(a:Int)(c:Nat):(C.unref a).get (c:Int)=if (c:Int)=a then C.unrefV a else C.get (c:Int):=by
 by_cases h0:C.get a=0
 ·have e1:C.unref a=C:=by unfold Ct.unref;rw[if_pos h0]
  have e2:C.unrefV a=0:=by unfold Ct.unrefV;rw[if_pos h0]
  rw[e1,e2]
  by_cases e:(c:Int)=a
  ·rw[if_pos e,e,h0]
  ·rw[if_neg e]
 ·have e1:C.unref a=C.put a.toNat (C.get a-1):=by unfold Ct.unref;rw[if_neg h0]
  have e2:C.unrefV a=C.get a-1:=by unfold Ct.unrefV;rw[if_neg h0]
  have hin:0≤a∧a<(C.n:Int):=Classical.byContradiction fun h=>h0 (by unfold Ct.get;rw[if_neg h])
  obtain⟨V,hV⟩:∃V,C.get a-1=V:=⟨_,rfl⟩
  rw[e1,e2,hV]
  by_cases hc:c<C.n
  ·have h1:(C.put a.toNat V).get (c:Int)=nm (C.put a.toNat V).now c:=by unfold Ct.get;rw[C.put_n,if_pos (by omega),Int.toNat_natCast]
   have h2:C.get (c:Int)=nm C.now c:=by unfold Ct.get;rw[if_pos (by omega),Int.toNat_natCast]
   rw[h1,h2,q8j _ _ _ _ hc]
   by_cases e:c=a.toNat
   ·rw[if_pos e,if_pos (by omega)]
   ·rw[if_neg e,if_neg (by omega)]
  ·have h1:(C.put a.toNat V).get (c:Int)=0:=by unfold Ct.get;rw[C.put_n,if_neg (by omega)]
   have h2:C.get (c:Int)=0:=by unfold Ct.get;rw[if_neg (by omega)]
   rw[h1,h2,if_neg (by omega)]
theorem qa6 {C:Ct}{a:Int}(h:C.unrefV a≠0):C.get a≠0:=fun h0=>h (by unfold Ct.unrefV;rw[if_pos h0])
theorem qiz (P:Pl)(a:Int)(c:Nat):Pl.live ⟨P.S,P.C.unref a,P.L⟩ c=if (c:Int)=a∧P.C.unrefV a=0 then none else P.live c:=by
 show (if (P.C.unref a).get (c:Int)=0 then none else P.L c)=if (c:Int)=a∧P.C.unrefV a=0 then none else (if P.C.get (c:Int)=0 then none else P.L c)
 rw[q8y]
 by_cases e:(c:Int)=a
 ·rw[if_pos e]
  by_cases h:P.C.unrefV a=0
  ·rw[if_pos h,if_pos ⟨e,h⟩]
  ·rw[if_neg h,if_neg fun h2=>h h2.2,e,if_neg (qa6 h)]
 ·have h3:¬((c:Int)=a∧P.C.unrefV a=0):=fun h2=>e h2.1
  rw[if_neg e,if_neg h3]
theorem qom {P:Pl}(h:P.ok)(a:Int):Pl.ok ⟨P.S,P.C.unref a,P.L⟩:=
 ⟨Ct.unref_ok' h.c a,Ct.unref_res h.res a,h.may,by show P.S.sectors=((P.C.unref a).n:Int);rw[Ct.unref_n];exact h.sec,h.gen,h.fine⟩
theorem qa7 {w:World}{p d:Nat}{S T:Nat→Prop}{P:Pl}(H:Pool w p d S T P)(a:Int) :
  Calls Tryz.prog 39 #[.pointer (some ⟨p,0,none⟩),.int .i64 a] w fun e w'=>e=.returned (.tuple #[.int .i64 (P.C.unrefV a),.int .i64 (P.C.unrefE a)])∧Pool w' p d S T ⟨P.S,P.C.unref a,P.L⟩∧Turn S w w':=by
 have hok:=H.ok
 obtain⟨m,cur,l,clock,v,Sc,L⟩:=H
 have hun:=qi8 L.ct a
 have hlv:=qiz P a
 have hug:=q8y P.C a
 have hvg:=qa6 (C:=P.C) (a:=a)
 have hko:=qom hok a
 obtain⟨V,hV⟩:∃V,P.C.unrefV a=V:=⟨_,rfl⟩
 obtain⟨E,hE⟩:∃E,P.C.unrefE a=E:=⟨_,rfl⟩
 rw[hV] at hun hlv hvg ⊢
 simp only[hV] at hug
 rw[hE] at hun ⊢
 have Hun:=Lib.hid hun
 have Hlv:=Lib.hid hlv
 have Hko:=Lib.hid hko
 have Hug:=Lib.hid hug
 have Hvg:=Lib.hid hvg
 have hpl:=L.plt
 have hml:=L.mlt
 clear hun hlv hko hV hE hug hvg
 by_cases h0:V=0
 ·have nb:(V==0)=true:=by simpa using h0
  have H0:=Lib.hid h0
  clear h0
  go_enter Tryz.func39,Tryz.ntmps39
  go_wp2_with fail
  refine Hun.out.mono ?_
  rintro e w1 ⟨rfl,C1,T1⟩
  have hp1:=T1.block p L.plt fun h=>(L.ne p h).1 rfl
  have hm1:=T1.block m L.mlt fun h=>(L.ne m h).2 rfl
  have q40:w1.cell? ⟨p,40,none⟩=some (.map (some m)):=(World.cell?_of_block (a:=⟨p,40,none⟩) hp1).trans L.c40
  have hdl:=fun u ty=>q48 (P:=Tryz.prog) (t:=108) (k:=3) (e:=30) L.ents Tryz.underlying108 Tryz.underlying3 (hm1.trans L.map) a u ty
  obtain⟨R1,R2⟩:=L.drop (P':=⟨P.S,P.C.unref a,P.L⟩) (z:=a) T1 C1 (Ct.unref_n _ _) rfl (fun c=>by rw[Hlv.out c];simp only[H0.out,and_true]) L.good Hko.out
  go_wp2
  go_ret2
  exact⟨rfl,R1,R2⟩
 ·have nb:(V==0)=false:=by simpa using h0
  have H0:=Lib.hid h0
  clear h0
  go_enter Tryz.func39,Tryz.ntmps39
  go_wp2_with fail
  refine Hun.out.mono ?_
  rintro e w1 ⟨rfl,C1,T1⟩
  have R:=L.setC T1 C1 (Ct.unref_n _ _) (fun c=>?_) Hko.out
  ·go_wp2
   go_ret2
   exact⟨rfl,⟨m,cur,l,clock,v,Sc,R⟩,T1.mono L.inS.2.2⟩
  ·rw[Hug.out c]
   by_cases e:(c:Int)=a
   ·rw[if_pos e,e]
    exact⟨fun h=>absurd h H0.out,fun h=>absurd h (Hvg.out H0.out)⟩
   ·rw[if_neg e]
end
section
variable {w:World}{p d:Nat}{S T:Nat→Prop}{P:Pl}
theorem qh4 (H:Pool w p d S T P)(a:Int)(h0:P.C.get a=0) :
  Calls Tryz.prog 78 #[.pointer (some ⟨p,0,none⟩),.int .i64 a] w fun e w'=>e=.returned (.tuple #[.slice none 0 0,.int .i64 0,.int .i64 1])∧w=w':=by
 have hc:=q6v H a 0 h0
 go_enter Tryz.func78,Tryz.ntmps78
 go_wp2_with (first
  |(go_at_call 32;refine hc.mono ?_;rintro e w1 ⟨rfl,rfl⟩)
  |fail)
 go_ret3
 exact⟨rfl,rfl⟩
theorem qa8 (H:Pool w p d S T P)(a:Nat)(b:Bk)(hb:P.live a=some b) :
  Calls Tryz.prog 78 #[.pointer (some ⟨p,0,none⟩),.int .i64 (a:Int)] w fun e w'=>∃A n c,e=.returned (.tuple #[.slice A n c,.int .i64 1,.int .i64 0])∧Sl w' A n c (b.out a 0)∧Below w.heap.size w w':=by
 obtain⟨x,hx⟩:∃x,P.C.get (a:Int)=x:=⟨_,rfl⟩
 have hx0:x≠0:=fun h=>by unfold Pl.live at hb;rw[if_pos (hx.trans h)] at hb;cases hb
 have hc:=q6v H (a:Int) x hx
 have nb:(x==0)=false:=by simpa using hx0
 obtain⟨m,cur,l,clock,v,Sc,L⟩:=H
 obtain⟨g,c,hv,hs,_⟩:=L.row a b hb
 have q40:=L.c40
 have hlk:=q45 L.ents Tryz.underlying108 Tryz.underlying3 (Tryz.zeroValue30 w) L.map (a:Int)
 rw[L.look a,hb,hv] at hlk
 replace hlk:(Instr.lookup 108 (.map (some m)) (.int .i64 (a:Int)) true).run Tryz.prog w=.ok (.tuple #[.slice (some ⟨g,0,none⟩) 256 c,.bool true]) w:=hlk
 clear hx hx0 hb
 go_enter Tryz.func78,Tryz.ntmps78
 go_wp2_with (first
  |(go_at_call 32;refine hc.mono ?_;rintro e w1 ⟨rfl,rfl⟩)
  |fail)
 go_ret3
 exact⟨_,_,_,rfl,hs,Below.refl _ _⟩
theorem q5j {S0:Nat→Prop}{D:DM}(L0:Drv w d S0 D)(H:Pool w p d S T P)(a:Nat)(h0:P.C.get (a:Int)≠0)(hb:P.live a=none) :
  Calls Tryz.prog 78 #[.pointer (some ⟨p,0,none⟩),.int .i64 (a:Int)] w fun e w'=>∃A n c,e=.returned (.tuple #[.slice A n c,.int .i64 5,.int .i64 (D.readE (a:Int))])∧Sl w' A n c (D.readL (a:Int))∧Below w.heap.size w w':=by
 obtain⟨x,hx⟩:∃x,P.C.get (a:Int)=x:=⟨_,rfl⟩
 rw[hx] at h0
 have hc:=q6v H (a:Int) x hx
 have nb:(x==0)=false:=by simpa using h0
 obtain⟨m,cur,l,clock,v,Sc,L⟩:=H
 have q40:=L.c40
 have q0:=L.c0
 have hlk:=q45 L.ents Tryz.underlying108 Tryz.underlying3 (Tryz.zeroValue30 w) L.map (a:Int)
 rw[L.look a,hb] at hlk
 replace hlk:(Instr.lookup 108 (.map (some m)) (.int .i64 (a:Int)) true).run Tryz.prog w=.ok (.tuple #[.slice none 0 0,.bool false]) w:=hlk
 obtain⟨_,_,_,_,_,Ly⟩:=L0
 have hrd:=q7k Ly (a:Int)
 clear hx h0 hb
 go_enter Tryz.func78,Tryz.ntmps78
 go_wp2_with (first
  |(go_at_call 32;refine hc.mono ?_;rintro e w1 ⟨rfl,rfl⟩)
  |(go_at_call 93;refine hrd.mono ?_;rintro e w2 ⟨A,n,rfl,s2,_,b2,_⟩)
  |fail)
 go_ret3
 exact⟨_,_,_,rfl,s2,b2⟩
end
theorem q7r {x:List UInt8}{k:Int}{a most:Nat}(h:ckOk x k (a:Int)=false):datOk x k a most=false:=by unfold datOk;rw[h,Bool.false_and]
def datE (x:List UInt8)(k:Int)(a most:Nat)(ow:Int):Int:=if datOk x k a most=true then 0 else ow
def datB (x:List UInt8)(k:Int)(a most:Nat):List UInt8:=if datOk x k a most=true then datL x else []
theorem q58 {x:List UInt8}{k:Int}{a most:Nat}(ow:Int)(h:datOk x k a most=false):datE x k a most ow=ow∧datB x k a most=[]:=by unfold datE datB;rw[h];exact⟨rfl,rfl⟩
theorem q5k {x:List UInt8}{k:Int}{a most:Nat}(ow:Int)(h:datOk x k a most=true):datE x k a most ow=0∧datB x k a most=datL x:=by unfold datE datB;rw[h];exact⟨rfl,rfl⟩
theorem qdn {w:World}{p:Nat}(k:Int)(most:Nat)(hk:mostK k=some most)(a:Nat)(x:List UInt8)(ow:Int)
  (hB:Calls Tryz.prog 78 #[.pointer (some ⟨p,0,none⟩),.int .i64 (a:Int)] w fun e w'=>∃A n c,e=.returned (.tuple #[.slice A n c,.int .i64 ow,.int .i64 0])∧Sl w' A n c x∧Below w.heap.size w w') (ht:Tab w) :
  Calls Tryz.prog 20 #[.pointer (some ⟨p,0,none⟩),.int .i64 (a:Int),.int .i64 k] w fun e w'=>∃A n c,e=.returned (.tuple #[.slice A n c,.int .i64 (datE x k a most ow)])∧Sl w' A n c (datB x k a most)∧Below w.heap.size w w'∧∀ad,A=some ad→w.heap.size≤ad.block:=by
 have hlo:=q31 k
 unfold mostV at hlo
 rw[hk] at hlo
 replace hlo:∀w:World,Calls Tryz.prog 77 #[.int .i64 k] w fun e w'=>e=.returned (.tuple #[.int .i64 (most:Int),.bool true])∧w=w':=hlo
 obtain⟨hk56,hm236⟩:=q0p hk
 have hBl:=Lib.hid hB
 clear hB hk
 have hCk:=fun (w4:World) (A:Option Addr) (n c:Nat) (s4:Sl w4 A n c x) (t4:Tab w4)=>qmw A n c x k (a:Int) w4 s4 t4
 unfold q9h at hCk
 cases hck:ckOk x k (a:Int)
 ·obtain⟨c1,c2,c3⟩:=qbw hck
  rw[c1,c2,c3] at hCk
  have HCk:=Lib.hid hCk
  obtain⟨d1,d2⟩:=q58 ow (q7r (most:=most) hck)
  have D1:=Lib.hid d1
  have D2:=Lib.hid d2
  clear hCk d1 d2 c1 c2 c3 hck
  go_enter Tryz.func20,Tryz.ntmps20
  go_wp2_with (first
   |(go_at_call 77;refine (hlo w).mono ?_;rintro e w1 ⟨rfl,rfl⟩)
   |(go_at_call 78;refine hBl.out.mono ?_;rintro e w4 ⟨A4,n4,q4,rfl,s4,b4⟩;have t4:=ht.below b4 ht.1)
   |(go_at_call 79;refine (HCk.out w4 A4 n4 q4 s4 t4).mono ?_;rintro e w5 ⟨A5,n5,q5,rfl,own5,b5⟩)
   |(refine q0j rfl (.tmp 13) (.tmp 37) rfl w5.heap.size rfl Hd.zero _ rfl (HB.zero w5 _) (by simp) ?_;intro w6 H6 hb6 T6;have b56:Below w5.heap.size w5 w6:=(blA).trans (hb6 _ (Nat.le_refl _)))
   |fail)
  go_ret2
  rw[D1.out,D2.out]
  exact⟨_,_,_,rfl,q0k _,b4.trans ((b5.trans (b56.mono b5.size)).mono b4.size),fun ad h=>(by cases h)⟩
 ·obtain⟨c1,c2,c3⟩:=qao hck
  rw[c1,c2,c3] at hCk
  have hokB:okB x=true:=by unfold ckOk at hck;rw[Bool.and_eq_true] at hck;exact hck.1
  have hxl:=qgp hokB
  have hokH:=(of_decide_eq_true hokB).2.2.1
  obtain⟨H,hH⟩:∃H,opH x=H:=⟨_,rfl⟩
  have hHok:H.ok=true:=by rw[←hH];unfold opH;rw[if_pos hokB];exact hokH
  rw[hH] at hCk
  have hcnt:0≤H.count:=(of_decide_eq_true hHok).2.2.2.1.1
  have HCk:=Lib.hid hCk
  have hdat:datOk x k a most=(decide (H.level=0∧H.count≤(most:Int))&&allZ ((x.drop 20).drop H.count.toNat)):=by unfold datOk;rw[hck,hH,Bool.true_and]
  have hdl:datL x=(x.drop 20).take H.count.toNat:=by unfold datL;rw[hH]
  have Hdat:=Lib.hid hdat
  have Hdl:=Lib.hid hdl
  have hbl:(x.drop 20).length=236:=by rw[List.length_drop,hxl]
  clear hCk c1 c2 c3 hck hokH hH hHok hdat hdl hokB
  by_cases h1:H.level=0
  ·have nl:(H.level != 0)=false:=by simpa using h1
   by_cases h2:H.count≤(most:Int)
   ·obtain⟨cn,hcn⟩:=Int.eq_ofNat_of_zero_le hcnt
    have hcm:cn≤most:=by omega
    have hH2:∃ki ad le ge,H=⟨ki,ad,(cn:Int),le,ge⟩:=⟨H.kind,H.addr,H.level,H.gen,by cases H;simp_all⟩
    obtain⟨ki,ad,le,ge,rfl⟩:=hH2
    obtain⟨r,hr⟩:∃r,allZ ((x.drop 20).drop cn)=r:=⟨_,rfl⟩
    have hdd:datOk x k a most=r:=by rw[Hdat.out,decide_eq_true ⟨h1,h2⟩,Bool.true_and];simpa using hr
    have Hr:=Lib.hid hr
    have Hdd:=Lib.hid hdd
    have e4:¬(most:Int)<(cn:Int):=by omega
    clear hr hdd h1 h2 hcn hcnt
    have Hbl:=Lib.hid hbl
    clear hbl
    cases r
    ·obtain⟨d1,d2⟩:=q58 ow Hdd.out
     have D1:=Lib.hid d1
     have D2:=Lib.hid d2
     clear d1 d2
     go_enter Tryz.func20,Tryz.ntmps20
     go_wp2_with (first
      |(go_at_call 77;refine (hlo w).mono ?_;rintro e w1 ⟨rfl,rfl⟩)
      |(go_at_call 78;refine hBl.out.mono ?_;rintro e w4 ⟨A4,n4,q4,rfl,s4,b4⟩;have t4:=ht.below b4 ht.1)
      |(go_at_call 79;refine (HCk.out w4 A4 n4 q4 s4 t4).mono ?_;rintro e w5 ⟨A5,n5,q5,rfl,own5,b5⟩;have hn5:n5=236:=(own5.sl.len.symm.trans Hbl.out);subst hn5;have hcap5:=own5.sl.cap;have hmx5:=own5.sl.max;unfold maxLen at hmx5;obtain⟨A2,hA2⟩:∃A2,(if q5=cn then A5 else Option.map (fun x=>x.add cn) A5)=A2:=⟨_,rfl⟩)
      |(refine q0j rfl (.tmp 13) (.tmp 37) rfl w5.heap.size rfl ⟨ki,ad,(cn:Int),le,ge⟩ _ rfl (HB.zero w5 _) (by simp) ?_;intro w6 H6 hb6 T6;have b56:Below w5.heap.size w5 w6:=(blA).trans (hb6 _ (Nat.le_refl _));have qc2:=H6.at_ 3;have qc3:=H6.at_ 1;simp only[foff,Hd.fld] at qc2 qc3;have s7:=(own5.sl.below b56).drop (k:=cn) (by omega);rw[hA2] at s7)
      |(go_at_call 80;refine (q7a _ _ _ _ false Hr.out w6 s7).mono ?_;rintro e w7 ⟨rfl,b7⟩;have qc27:=(b7.cell (p:=⟨w5.heap.size,2,none⟩) (by obtain⟨_,h⟩:=H6;exact q01 h)).trans qc2)
      |fail)
     go_ret2
     rw[D1.out,D2.out]
     exact⟨_,_,_,rfl,q0k _,b4.trans ((b5.trans ((b56.trans (b7.mono b56.size)).mono b5.size)).mono b4.size),fun ad h=>(by cases h)⟩
    ·obtain⟨d1,d2⟩:=q5k ow Hdd.out
     have D1:=Lib.hid d1
     have D2:=Lib.hid (d2.trans Hdl.out)
     clear d1 d2
     go_enter Tryz.func20,Tryz.ntmps20
     go_wp2_with (first
      |(go_at_call 77;refine (hlo w).mono ?_;rintro e w1 ⟨rfl,rfl⟩)
      |(go_at_call 78;refine hBl.out.mono ?_;rintro e w4 ⟨A4,n4,q4,rfl,s4,b4⟩;have t4:=ht.below b4 ht.1)
      |(go_at_call 79;refine (HCk.out w4 A4 n4 q4 s4 t4).mono ?_;rintro e w5 ⟨A5,n5,q5,rfl,own5,b5⟩;have hn5:n5=236:=(own5.sl.len.symm.trans Hbl.out);subst hn5;have hcap5:=own5.sl.cap;have hmx5:=own5.sl.max;unfold maxLen at hmx5;obtain⟨A2,hA2⟩:∃A2,(if q5=cn then A5 else Option.map (fun x=>x.add cn) A5)=A2:=⟨_,rfl⟩)
      |(refine q0j rfl (.tmp 13) (.tmp 37) rfl w5.heap.size rfl ⟨ki,ad,(cn:Int),le,ge⟩ _ rfl (HB.zero w5 _) (by simp) ?_;intro w6 H6 hb6 T6;have b56:Below w5.heap.size w5 w6:=(blA).trans (hb6 _ (Nat.le_refl _));have qc2:=H6.at_ 3;have qc3:=H6.at_ 1;simp only[foff,Hd.fld] at qc2 qc3;have s7:=(own5.sl.below b56).drop (k:=cn) (by omega);rw[hA2] at s7)
      |(go_at_call 80;refine (q7a _ _ _ _ true Hr.out w6 s7).mono ?_;rintro e w7 ⟨rfl,b7⟩;have qc27:=(b7.cell (p:=⟨w5.heap.size,2,none⟩) (by obtain⟨_,h⟩:=H6;exact q01 h)).trans qc2)
      |fail)
     go_ret2
     rw[D1.out,D2.out]
     have s8:=((own5.sl.below b56).below b7).take (k:=cn) (by omega)
     exact⟨_,_,_,rfl,by simpa using s8,b4.trans ((b5.trans ((b56.trans (b7.mono b56.size)).mono b5.size)).mono b4.size),fun ad h=>Nat.le_trans b4.size (own5.block ad h).1⟩
   ·have e4:(most:Int)<H.count:=by omega
    have hdd:datOk x k a most=false:=by rw[Hdat.out,decide_eq_false (fun h=>h2 h.2),Bool.false_and]
    obtain⟨d1,d2⟩:=q58 ow hdd
    have D1:=Lib.hid d1
    have D2:=Lib.hid d2
    clear d1 d2 hdd h2 h1
    go_enter Tryz.func20,Tryz.ntmps20
    go_wp2_with (first
     |(go_at_call 77;refine (hlo w).mono ?_;rintro e w1 ⟨rfl,rfl⟩)
     |(go_at_call 78;refine hBl.out.mono ?_;rintro e w4 ⟨A4,n4,q4,rfl,s4,b4⟩;have t4:=ht.below b4 ht.1)
     |(go_at_call 79;refine (HCk.out w4 A4 n4 q4 s4 t4).mono ?_;rintro e w5 ⟨A5,n5,q5,rfl,own5,b5⟩)
     |(refine q0j rfl (.tmp 13) (.tmp 37) rfl w5.heap.size rfl H _ rfl (HB.zero w5 _) (by simp) ?_;intro w6 H6 hb6 T6;have b56:Below w5.heap.size w5 w6:=(blA).trans (hb6 _ (Nat.le_refl _));have qc2:=H6.at_ 3;have qc3:=H6.at_ 1;simp only[foff,Hd.fld] at qc2 qc3)
     |fail)
    go_ret2
    rw[D1.out,D2.out]
    exact⟨_,_,_,rfl,q0k _,b4.trans ((b5.trans (b56.mono b5.size)).mono b4.size),fun ad h=>(by cases h)⟩
  ·have nl:(H.level != 0)=true:=by simpa using h1
   have hdd:datOk x k a most=false:=by rw[Hdat.out,decide_eq_false (fun h=>h1 h.1),Bool.false_and]
   obtain⟨d1,d2⟩:=q58 ow hdd
   have D1:=Lib.hid d1
   have D2:=Lib.hid d2
   clear d1 d2 hdd h1
   go_enter Tryz.func20,Tryz.ntmps20
   go_wp2_with (first
    |(go_at_call 77;refine (hlo w).mono ?_;rintro e w1 ⟨rfl,rfl⟩)
    |(go_at_call 78;refine hBl.out.mono ?_;rintro e w4 ⟨A4,n4,q4,rfl,s4,b4⟩;have t4:=ht.below b4 ht.1)
    |(go_at_call 79;refine (HCk.out w4 A4 n4 q4 s4 t4).mono ?_;rintro e w5 ⟨A5,n5,q5,rfl,own5,b5⟩)
    |(refine q0j rfl (.tmp 13) (.tmp 37) rfl w5.heap.size rfl H _ rfl (HB.zero w5 _) (by simp) ?_;intro w6 H6 hb6 T6;have b56:Below w5.heap.size w5 w6:=(blA).trans (hb6 _ (Nat.le_refl _));have qc2:=H6.at_ 3;have qc3:=H6.at_ 1;simp only[foff,Hd.fld] at qc2 qc3)
    |fail)
   go_ret2
   rw[D1.out,D2.out]
   exact⟨_,_,_,rfl,q0k _,b4.trans ((b5.trans (b56.mono b5.size)).mono b4.size),fun ad h=>(by cases h)⟩
end Go.Proofs.YtipejjgodnnkaaaGreatDoor
