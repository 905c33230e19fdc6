/- The code's pool: Bytes of anything; Clone -/
import Derived.Test.YtipejjgodnnkaaaGreatDoorPm32
namespace Go.Proofs.YtipejjgodnnkaaaGreatDoor
open Go Go.RowKit Go.Proofs
set_option maxHeartbeats 8000000
set_option maxRecDepth 100000
section
open Go.ChangeMaps (setBlock)
def Pl.bytesE (P:Pl)(D:DM)(a k:Int):Int:=match mostK k with
 |none=>1
 |some most=>if P.C.get a=0 then 1 else match P.live a.toNat with
  |some b=>datE (b.out a.toNat 0) k a.toNat most 1
  |none=>if D.readE a=0 then datE (D.readL a) k a.toNat most 5 else D.readE a
def Pl.bytesL (P:Pl)(D:DM)(a k:Int):List UInt8:=match mostK k with
 |none=>[]
 |some most=>if P.C.get a=0 then [] else match P.live a.toNat with
  |some b=>datB (b.out a.toNat 0) k a.toNat most
  |none=>if D.readE a=0 then datB (D.readL a) k a.toNat most else []
def q28 (P:Pl)(D:DM)(p:Nat)(a k:Int)(w:World):Prop:=
 Calls Tryz.prog 20 #[.pointer (some ⟨p,0,none⟩),.int .i64 a,.int .i64 k] w fun e w'=>∃A n c,e=.returned (.tuple #[.slice A n c,.int .i64 (P.bytesE D a k)])∧Sl w' A n c (P.bytesL D a k)∧Below w.heap.size w w'∧∀ad,A=some ad→w.heap.size≤ad.block
theorem q6w {C:Ct}{a:Int}(h:C.get a≠0):∃n:Nat,a=(n:Int)∧n<C.n:=by
 have hin:0≤a∧a<(C.n:Int):=Classical.byContradiction fun h2=>h (by unfold Ct.get;rw[if_neg h2])
 exact⟨a.toNat,by omega,by omega⟩
theorem q6x {w:World}{p d:Nat}{S0 S T:Nat→Prop}{D:DM}{P:Pl}(L0:Drv w d S0 D)(H:Pool w p d S T P)(ht:Tab w)(a k:Int):q28 P D p a k w:=by
 unfold q28
 cases hk:mostK k with
 |none=>
  have hE:P.bytesE D a k=1:=by unfold Pl.bytesE;rw[hk]
  have hL:P.bytesL D a k=[]:=by unfold Pl.bytesL;rw[hk]
  rw[hE,hL]
  have hlo:=q31 k
  unfold mostV at hlo
  rw[hk] at hlo
  clear hE hL hk
  go_enter Tryz.func20,Tryz.ntmps20
  go_wp2_with (first
   |(go_at_call 77;refine (hlo w).mono ?_;rintro e w1 ⟨rfl,rfl⟩)
   |fail)
  go_ret2
  exact⟨_,_,_,rfl,q0k _,Below.refl _ _,fun ad h=>(by cases h)⟩
 |some most=>
  have hlo:=q31 k
  unfold mostV at hlo
  rw[hk] at hlo
  replace hlo:∀w:World,Calls Tryz.prog 77 #[.int .i64 k] w fun e w'=>e=.returned (.tuple #[.int .i64 (most:Int),.bool true])∧w=w':=hlo
  by_cases h0:P.C.get a=0
  ·have hE:P.bytesE D a k=1:=by unfold Pl.bytesE;rw[hk];exact if_pos h0
   have hL:P.bytesL D a k=[]:=by unfold Pl.bytesL;rw[hk];exact if_pos h0
   rw[hE,hL]
   have hb:=qh4 H a h0
   clear hE hL hk h0
   go_enter Tryz.func20,Tryz.ntmps20
   go_wp2_with (first
    |(go_at_call 77;refine (hlo w).mono ?_;rintro e w1 ⟨rfl,rfl⟩)
    |(go_at_call 78;refine hb.mono ?_;rintro e w2 ⟨rfl,rfl⟩)
    |fail)
   go_ret2
   exact⟨_,_,_,rfl,q0k _,Below.refl _ _,fun ad h=>(by cases h)⟩
  ·obtain⟨n,rfl,hn⟩:=q6w h0
   cases hv:P.live n with
   |some b=>
    have hE:P.bytesE D (n:Int) k=datE (b.out n 0) k n most 1:=by unfold Pl.bytesE;rw[hk];show (if _ then _ else _)=_;rw[if_neg h0,Int.toNat_natCast,hv]
    have hL:P.bytesL D (n:Int) k=datB (b.out n 0) k n most:=by unfold Pl.bytesL;rw[hk];show (if _ then _ else _)=_;rw[if_neg h0,Int.toNat_natCast,hv]
    rw[hE,hL]
    exact qdn k most hk n _ 1 (qa8 H n b hv) ht
   |none=>
    have hb:=q5j L0 H n h0 hv
    by_cases hr:D.readE (n:Int)=0
    ·have hE:P.bytesE D (n:Int) k=datE (D.readL (n:Int)) k n most 5:=by unfold Pl.bytesE;rw[hk];show (if _ then _ else _)=_;rw[if_neg h0,Int.toNat_natCast,hv];exact if_pos hr
     have hL:P.bytesL D (n:Int) k=datB (D.readL (n:Int)) k n most:=by unfold Pl.bytesL;rw[hk];show (if _ then _ else _)=_;rw[if_neg h0,Int.toNat_natCast,hv];exact if_pos hr
     rw[hE,hL]
     rw[hr] at hb
     exact qdn k most hk n _ 5 hb ht
    ·have hE:P.bytesE D (n:Int) k=D.readE (n:Int):=by unfold Pl.bytesE;rw[hk];show (if _ then _ else _)=_;rw[if_neg h0,Int.toNat_natCast,hv];exact if_neg hr
     have hL:P.bytesL D (n:Int) k=[]:=by unfold Pl.bytesL;rw[hk];show (if _ then _ else _)=_;rw[if_neg h0,Int.toNat_natCast,hv];exact if_neg hr
     rw[hE,hL]
     obtain⟨E,hEE⟩:∃E,D.readE (n:Int)=E:=⟨_,rfl⟩
     rw[hEE] at hb hr ⊢
     have nb:(E != 0)=true:=by simpa using hr
     clear hE hL hk h0 hv hr hEE
     go_enter Tryz.func20,Tryz.ntmps20
     go_wp2_with (first
      |(go_at_call 77;refine (hlo w).mono ?_;rintro e w1 ⟨rfl,rfl⟩)
      |(go_at_call 78;refine hb.mono ?_;rintro e w2 ⟨A2,n2,c2,rfl,s2,b2⟩)
      |fail)
     go_ret2
     exact⟨_,_,_,rfl,q0k _,b2,fun ad h=>(by cases h)⟩
end
structure SysAt (b:Nat)(w:World)(d p:Nat)(S0 S T:Nat→Prop)(D:DM)(P:Pl):Prop where
 drv:Drv w d S0 D
 pool:Pool w p d S T P
 sub:∀k,S0 k→T k
 apart:∀k,S0 k→¬S k
 tight:∀k,T k→b≤k∧k<w.heap.size
def Sys (b:Nat)(w:World)(d p:Nat)(T:Nat→Prop)(D:DM)(P:Pl):Prop:=∃S0 S,SysAt b w d p S0 S T D P
def grow (T:Nat→Prop)(w w':World):Nat→Prop:=fun k=>(T k∨w.heap.size≤k)∧k<w'.heap.size
def Dr (b:Nat)(w:World)(d:Nat)(T:Nat→Prop)(D:DM):Prop:=∃S0,Drv w d S0 D∧(∀k,S0 k→T k)∧∀k,T k→b≤k∧k<w.heap.size
section
variable {b:Nat}{w w':World}{d p:Nat}{T:Nat→Prop}{D:DM}{P:Pl}
theorem SysAt.subS {S0 S:Nat→Prop}(H:SysAt b w d p S0 S T D P):∀k,S k→T k:=by
 obtain⟨m,cur,l,clock,v,Sc,L⟩:=H.pool
 exact L.sub
theorem SysAt.base {S0 S:Nat→Prop}(H:SysAt b w d p S0 S T D P):b≤w.heap.size:=by
 obtain⟨m,cur,l,clock,v,Sc,L⟩:=H.pool
 have:=(H.tight _ (L.sub _ L.inS.1)).1
 have:=L.plt
 omega
theorem Sys.below (H:Sys b w d p T D P)(hb:Below w.heap.size w w'):Sys b w' d p T D P:=by
 obtain⟨S0,S,H⟩:=H
 exact⟨S0,S,H.drv.below hb,H.pool.below hb,H.sub,H.apart,fun k hk=>⟨(H.tight k hk).1,by have:=(H.tight k hk).2;have:=hb.size;omega⟩⟩
theorem Sys.ok (H:Sys b w d p T D P):P.ok:=by
 obtain⟨S0,S,H⟩:=H
 exact H.pool.ok
theorem Sys.sectors (H:Sys b w d p T D P):sectors D.n:=by
 obtain⟨S0,S,H⟩:=H
 exact H.drv.sectors
theorem Sys.tight (H:Sys b w d p T D P):∀k,T k→b≤k∧k<w.heap.size:=by
 obtain⟨S0,S,H⟩:=H
 exact H.tight
theorem Sys.base (H:Sys b w d p T D P):b≤w.heap.size:=by
 obtain⟨S0,S,H⟩:=H
 exact H.base
theorem Sys.dr (H:Sys b w d p T D P):Dr b w d T D:=by
 obtain⟨S0,S,H⟩:=H
 exact⟨S0,H.drv,H.sub,H.tight⟩
theorem Dr.below (H:Dr b w d T D)(hb:Below w.heap.size w w'):Dr b w' d T D:=by
 obtain⟨S0,H,h1,h2⟩:=H
 exact⟨S0,H.below hb,h1,fun k hk=>⟨(h2 k hk).1,by have:=(h2 k hk).2;have:=hb.size;omega⟩⟩
theorem qtf {w0 w:World}{d p q:Nat}{S0:Nat→Prop}{D:DM}{P:Pl}(H:PoolOn w0 w p d q S0 D P)(hS0:∀k,S0 k→b≤k)(hb:b≤w0.heap.size):Sys b w d p (fun k=>b≤k∧k<w.heap.size) D P:=by
 refine⟨fun k=>(S0 k∨w0.heap.size≤k)∧k<q,fun k=>q≤k∧k<w.heap.size,H.drv,?_,fun k hk=>?_,fun k hk h=>?_,fun k hk=>hk⟩
 ·have h:=H.pool (fun k=>b≤k) (fun k hk=>by have:=H.ge.1;omega)
  exact h.mono (fun k hk h=>⟨h,hk⟩) (fun k hk h=>h.1) fun k hk=>⟨by have:=H.ge.1;omega,hk.2⟩
 ·have:=H.ge.2
  exact⟨hk.1.elim (hS0 k) fun h=>by omega,by omega⟩
 ·omega
theorem qro (H:Sys b w d p T D P)(hb:1<b)(k:Int)(A:Option Addr)(n c:Nat)(x:List UInt8)(hs:Sl w A n c x)(hA:0<n→∀ad,A=some ad→¬T ad.block)(ht:Tab w) :
  Calls Tryz.prog 27 #[.pointer (some ⟨p,0,none⟩),.int .i64 k,.slice A n c] w fun e w'=>e=.returned (.tuple #[.int .i64 (P.putV k x.length),.int .i64 (P.putE k x.length)])∧Sys b w' d p T D (P.put k x)∧Turn T w w'∧Tab w':=by
 obtain⟨S0,S,H⟩:=H
 have hST:=H.subS
 refine (q61 H.pool (fun k hk=>(H.tight k hk).2) (fun h=>by have:=(H.tight _ h).1;omega) k A n c x hs (fun hn ad e h=>hA hn ad e (hST _ h)) ht).mono ?_
 rintro e w' ⟨rfl,R,X⟩
 have hz:=X.size
 exact⟨rfl,⟨S0,S,H.drv.keep fun k hk hs=>X.block k hk (H.apart k hs),R,H.sub,H.apart,fun k hk=>⟨(H.tight k hk).1,by have:=(H.tight k hk).2;omega⟩⟩,X.mono hST,ht.turned X fun h=>by have:=(H.tight _ (hST _ h)).1;omega⟩
theorem q94 (H:Sys b w d p T D P)(ht:Tab w)(a k:Int):q28 P D p a k w:=by
 obtain⟨S0,S,H⟩:=H
 exact q6x H.drv H.pool ht a k
theorem qh8 (H:Sys b w d p T D P)(n:Nat)(hn:P.C.free=n):Calls Tryz.prog 35 #[.pointer (some ⟨p,0,none⟩)] w fun e w'=>e=.returned (.int .i64 (n:Int))∧w=w':=by
 obtain⟨S0,S,H⟩:=H
 exact qls H.pool n hn
theorem qlx (H:Sys b w d p T D P):Calls Tryz.prog 31 #[.pointer (some ⟨p,0,none⟩)] w fun e w'=>e=.returned (.agg P.S.vs.toArray)∧Below w.heap.size w w':=by
 obtain⟨S0,S,H⟩:=H
 exact qiy H.pool
theorem qly (H:Sys b w d p T D P)(hb:1<b)(ht:Tab w)(a:Int) :
  Calls Tryz.prog 39 #[.pointer (some ⟨p,0,none⟩),.int .i64 a] w fun e w'=>e=.returned (.tuple #[.int .i64 (P.C.unrefV a),.int .i64 (P.C.unrefE a)])∧Sys b w' d p T D ⟨P.S,P.C.unref a,P.L⟩∧Turn T w w'∧Tab w':=by
 obtain⟨S0,S,H⟩:=H
 have hST:=H.subS
 refine (qa7 H.pool a).mono ?_
 rintro e w' ⟨rfl,R,X⟩
 have hz:=X.size
 exact⟨rfl,⟨S0,S,H.drv.keep fun k hk hs=>X.block k hk (H.apart k hs),R,H.sub,H.apart,fun k hk=>⟨(H.tight k hk).1,by have:=(H.tight k hk).2;omega⟩⟩,X.mono hST,ht.turned X fun h=>by have:=(H.tight _ (hST _ h)).1;omega⟩
theorem qj1 (H:Sys b w d p T D P)(hb:1<b)(ht:Tab w){m0:Nat}(htm:D.tame m0)(hm0:m0≤500000)(hgen:P.g<1099511627775) :
  Calls Tryz.prog 15 #[.pointer (some ⟨p,0,none⟩)] w fun e w'=>e=.returned (.int .i64 (D.cmtE P))∧Sys b w' d p (grow T w w') (D.runD P.steps) (D.cmtP P)∧Turn T w w'∧Tab w':=by
 obtain⟨S0,S,H⟩:=H
 have hST:=H.subS
 have hbb:=H.base
 refine (q92 H.drv H.pool H.sub H.apart (fun k hk=>(H.tight k hk).2) (fun h=>by have:=(H.tight _ h).1;omega) ht htm hm0 hgen).mono ?_
 rintro e w' ⟨rfl,R,Q,X⟩
 have hz:=X.size
 have hX:∀k,S0 k∨S k→T k:=fun k hk=>hk.elim (H.sub k) (hST k)
 refine⟨rfl,⟨fun k=>(S0 k∨w.heap.size≤k)∧k<w'.heap.size,S,R.tight,?_,fun k hk=>⟨hk.1.imp (H.sub k) id,hk.2⟩,fun k hk h=>?_,fun k hk=>⟨hk.1.elim (fun h=>(H.tight k h).1) fun h=>by omega,hk.2⟩⟩,X.mono hX,ht.turned X fun h=>by have:=(H.tight _ (hX _ h)).1;omega⟩
 ·exact Q.mono (fun k _ h=>h) (fun k hk h=>h.1) fun k hk=>⟨.inl (hST k hk),by have:=(H.tight k (hST k hk)).2;omega⟩
 ·exact hk.1.elim (fun h2=>H.apart k h2 h) fun h2=>by have:=(H.tight k (hST k h)).2;omega
theorem qoq (H:Dr b w d T D)(hb:b≤w.heap.size)(ht:Tab w)(hgn:(mtS D.newest).gen<1099511627775) :
  Calls Tryz.prog 30 #[.pointer (some ⟨d,0,none⟩)] w fun e w'=>
   ((mtE D.newest D.off D.n=0∧∃p,e=.returned (.tuple #[.pointer (some ⟨p,0,none⟩),.int .i64 0])∧Sys b w' d p (grow T w w') D (Pl.mounted D.newest D.n))∨
    (mtE D.newest D.off D.n≠0∧e=.returned (.tuple #[.pointer none,.int .i64 (mtE D.newest D.off D.n)])))∧Below w.heap.size w w':=by
 obtain⟨S0,L,h1,h2⟩:=H
 refine (q6u L ht hgn).mono ?_
 rintro e w' ⟨⟨h0,p,rfl,hp,hpn⟩|⟨h0,rfl⟩,B⟩
 ·have hz:=B.size
  refine⟨.inl ⟨h0,p,rfl,S0,fun k=>w.heap.size≤k∧k<w'.heap.size,L.below B,?_,fun k hk=>⟨.inl (h1 k hk),by have:=(h2 k (h1 k hk)).2;omega⟩,fun k hk h=>by have:=(h2 k (h1 k hk)).2;omega,fun k hk=>⟨hk.1.elim (fun h=>(h2 k h).1) fun h=>by omega,hk.2⟩⟩,B⟩
  exact (hp (fun k=>T k∨w.heap.size≤k) fun k hk=>.inr hk).mono (fun k hk h=>⟨h,hk⟩) (fun k hk h=>h.1) fun k hk=>⟨.inr hk.1,hk.2⟩
 ·exact⟨.inr ⟨h0,rfl⟩,B⟩
end
theorem qbq {P:Pl}{a:Nat}{b:Bk}(h:P.live a=some b):P.C.get (a:Int)≠0∧P.L a=some b:=by
 unfold Pl.live at h
 split at h
 ·cases h
 ·rename_i h0;exact⟨h0,h⟩
theorem qlz {P:Pl}(D:DM){a:Nat}{k:Int}{x:List UInt8}{most:Nat}(h:P.live a=some (.bytes k x))(hk:mostK k=some most)(hx:x.length≤most)(ha:a≤2047):P.bytesE D (a:Int) k=0∧P.bytesL D (a:Int) k=x:=by
 obtain⟨h0,_⟩:=qbq h
 obtain⟨hk56,hm⟩:=q0p hk
 obtain⟨d1,d2⟩:=q8u k a most 0 x hk56 ha q15 hx hm
 have e:(Bk.bytes k x).out a 0=blkL (datH k a x.length 0) x:=rfl
 unfold Pl.bytesE Pl.bytesL
 rw[hk]
 show (if _ then _ else _)=(0:Int)∧(if _ then _ else _)=x
 rw[if_neg h0,if_neg h0,Int.toNat_natCast,h]
 show datE ((Bk.bytes k x).out a 0) k a most 1=0∧datB ((Bk.bytes k x).out a 0) k a most=x
 rw[e,(q5k 1 d1).1,(q5k 1 d1).2,d2]
 exact⟨rfl,rfl⟩
theorem qj2 {P:Pl}{D:DM}{a:Nat}{k g:Int}{x:List UInt8}{most:Nat}(h0:P.C.get (a:Int)≠0)(hl:P.live a=none)(hoff:D.off=false)(ha:a<D.n)(ha2:a≤2047)(hg:gen0 g)(hr:D.newest a=(Bk.bytes k x).out a g)(hk:mostK k=some most)(hx:x.length≤most) :
  P.bytesE D (a:Int) k=0∧P.bytesL D (a:Int) k=x:=by
 obtain⟨hk56,hm⟩:=q0p hk
 obtain⟨d1,d2⟩:=q8u k a most g x hk56 ha2 hg hx hm
 have e:(Bk.bytes k x).out a g=blkL (datH k a x.length g) x:=rfl
 obtain⟨r1,r2⟩:=q43 hoff ha
 unfold Pl.bytesE Pl.bytesL
 rw[hk]
 show (if _ then _ else _)=(0:Int)∧(if _ then _ else _)=x
 rw[if_neg h0,if_neg h0,Int.toNat_natCast,hl]
 show (if D.readE (a:Int)=0 then datE (D.readL (a:Int)) k a most 5 else D.readE (a:Int))=0∧(if D.readE (a:Int)=0 then datB (D.readL (a:Int)) k a most else [])=x
 rw[if_pos r2,if_pos r2,r1,hr,e,(q5k 5 d1).1,(q5k 5 d1).2,d2]
 exact⟨rfl,rfl⟩
theorem qj3 {P:Pl}{D:DM}{a k:Int}(h0:P.C.get a=0):P.bytesE D a k=1∧P.bytesL D a k=[]:=by
 unfold Pl.bytesE Pl.bytesL
 cases mostK k with
 |none=>exact⟨rfl,rfl⟩
 |some m=>exact⟨if_pos h0,if_pos h0⟩
theorem qor {P:Pl}{a:Nat}(h:P.C.pick=some a){x:List UInt8}(hx:x.length≤128):P.putV 5 x.length=(a:Int)∧P.putE 5 x.length=0∧P.put 5 x=P.lay (.bytes 5 x):=by
 have h5:Pl.may5 5 x.length=true:=decide_eq_true (show x.length≤128 from hx)
 obtain⟨a1,a2,_⟩:=Ct.alloc_some h
 unfold Pl.putV Pl.putE Pl.put
 rw[h5]
 exact⟨a2,a1,rfl⟩
theorem qrp (P:Pl):P.new.length≤P.C.n:=by
 unfold Pl.new
 have:=List.length_filterMap_le P.newA (List.range P.C.n)
 rwa [List.length_range] at this
theorem qq6 {n:Nat}(h:n≤2048):(fmtL n).length≤30:=by
 rw[qky]
 unfold areaN
 omega
theorem qrq {D:DM}{P:Pl}(h:P.ok){S0:Sp}{C0:Ct}(hs:Sound D P S0 C0):D.cmtE P=0∧D.cmtP P=P.done∧Sound (D.runD P.steps) P.done P.sup P.C∧
  mtE (D.runD P.steps).newest (D.runD P.steps).off (D.runD P.steps).n=0∧Pl.mounted (D.runD P.steps).newest (D.runD P.steps).n=P.done∧mtS (D.runD P.steps).newest=P.sup:=by
 obtain⟨e0,e1,_⟩:=qda h hs
 have hb:D.runB P.steps=true:=decide_eq_true e0
 obtain⟨m1,m2,m3⟩:=q4m e1
 refine⟨(qbp hb).1,(qbp hb).2,e1,by rw[e1.free.on];exact m1,?_,m2⟩
 unfold Pl.mounted
 rw[m2]
 have:mtC (D.runD P.steps).newest (D.runD P.steps).n P.sup.gen=P.C.commit:=m3
 rw[this]
 rfl
theorem qdp {D:DM}{P:Pl}{S0:Sp}{C0:Ct}(hs:Sound D P S0 C0)(s:Nat):D.newest s=D.dur s:=by unfold DM.newest;rw[hs.set_];rfl
def shB:List UInt8:=[97,98]
def shP:Pl:=(Pl.fresh 32).lay (.bytes 5 shB)
theorem qm0:(Pl.fresh 32).C.pick=some 4:=by decide
theorem qrr:shP.C.free=27:=by decide
theorem qdq:(Pl.mk shP.done.S (shP.done.C.unref 4) shP.done.L).C.free=27:=by decide
theorem qh9:shP.done.C.unrefV 4=0∧shP.done.C.unrefE 4=0:=by decide
theorem qrs:(shP.done.C.unref 4).get 4=0:=by decide
theorem qtg:shP.ok:=ql7 (qoc (by omega) (by omega)) (q6s (.inl rfl) (by decide)).fine
theorem sh_g:shP.g=2:=by decide
structure Lays (kn:Nat)(D:DM)(P:Pl)(S0:Sp)(C0:Ct)(j many:Nat):Prop where
 ok:P.ok
 n:P.C.n=kn
 sound:Sound D P S0 C0
 new:P.new.length=many
 free:P.C.free+j=kn-(2+2*areaN kn)
section
variable {b:Nat}{w w':World}{d p:Nat}{S0 S T S':Nat→Prop}{D:DM}{P:Pl}
theorem SysAt.below (H:SysAt b w d p S0 S T D P)(hb:Below w.heap.size w w'):SysAt b w' d p S0 S T D P:=
 ⟨H.drv.below hb,H.pool.below hb,H.sub,H.apart,fun k hk=>⟨(H.tight k hk).1,by have:=(H.tight k hk).2;have:=hb.size;omega⟩⟩
theorem SysAt.more (H:SysAt b w d p S0 S T D P)(hb:Below w.heap.size w w'):SysAt b w' d p S0 S (grow T w w') D P:=by
 have hbb:=H.base
 have hST:=H.subS
 have hz:=hb.size
 refine⟨H.drv.below hb,(H.pool.mono (S':=S) (T':=grow T w w') (fun k _ h=>h) (fun k hk h=>?_) (fun k h=>⟨.inl (hST k h),by have:=(H.tight k (hST k h)).2;omega⟩)).below hb,fun k hk=>⟨.inl (H.sub k hk),by have:=(H.tight k (H.sub k hk)).2;omega⟩,H.apart,fun k hk=>⟨hk.1.elim (fun h=>(H.tight k h).1) fun h=>by omega,hk.2⟩⟩
 exact h.1.elim id fun h=>by omega
theorem SysAt.own (H:SysAt b w d p S0 S T D P)(t:Turn S' w w')(hT:∀k,S' k→T k)(h0:∀k,S' k→¬S0 k)(h1:∀k,S' k→¬S k):SysAt b w' d p S0 S T D P:=
 ⟨H.drv.keep fun k hk hs=>t.block k hk fun h=>h0 k h hs,H.pool.other t hT h1,H.sub,H.apart,fun k hk=>⟨(H.tight k hk).1,by have:=(H.tight k hk).2;have:=t.size;omega⟩⟩
theorem qm1 (H:SysAt b w d p S0 S T D P)(hb:1<b)(ht:Tab w){m0:Nat}(htm:D.tame m0)(hm0:m0≤500000)(hgen:P.g<1099511627775) :
  Calls Tryz.prog 15 #[.pointer (some ⟨p,0,none⟩)] w fun e w'=>e=.returned (.int .i64 (D.cmtE P))∧SysAt b w' d p (grow S0 w w') S (grow T w w') (D.runD P.steps) (D.cmtP P)∧Turn (fun k=>S0 k∨S k) w w'∧Tab w':=by
 have hST:=H.subS
 have hbb:=H.base
 refine (q92 H.drv H.pool H.sub H.apart (fun k hk=>(H.tight k hk).2) (fun h=>by have:=(H.tight _ h).1;omega) ht htm hm0 hgen).mono ?_
 rintro e w' ⟨rfl,R,Q,X⟩
 have hz:=X.size
 have hX:∀k,S0 k∨S k→T k:=fun k hk=>hk.elim (H.sub k) (hST k)
 refine⟨rfl,⟨R.tight,?_,fun k hk=>⟨hk.1.imp (H.sub k) id,hk.2⟩,fun k hk h=>?_,fun k hk=>⟨hk.1.elim (fun h=>(H.tight k h).1) fun h=>by omega,hk.2⟩⟩,X,ht.turned X fun h=>by have:=(H.tight _ (hX _ h)).1;omega⟩
 ·exact Q.mono (fun k _ h=>h) (fun k hk h=>h.1) fun k hk=>⟨.inl (hST k hk),by have:=(H.tight k (hST k hk)).2;omega⟩
 ·exact hk.1.elim (fun h2=>H.apart k h2 h) fun h2=>by have:=(H.tight k (hST k h)).2;omega
end
def ARow (w:World)(base:Nat)(A:Option Addr)(n c:Nat)(an:List Nat):Prop:=OwnS w base 3 1 A n c (an.map fun (a:Nat)=>[.int .i64 (a:Int)])
section
variable {w w':World}{base:Nat}{A:Option Addr}{n c:Nat}{an:List Nat}
theorem ARow.len (h:ARow w base A n c an):an.length=n:=by
 have:=OwnS.len h (by omega)
 rw[List.length_map] at this
 omega
theorem ARow.turned (h:ARow w base A n c an){S:Nat→Prop}(T:Turn S w w')(hA:∀k,q02 A=some k→¬S k):ARow w' base A n c an:=OwnS.turned h T hA
theorem ARow.below (h:ARow w base A n c an)(hb:Below w.heap.size w w'):ARow w' base A n c an:=OwnS.below h hb
theorem ARow.lt (h:ARow w base A n c an):∀k,q02 A=some k→base≤k∧k<w.heap.size:=OwnS.blockLt h
theorem ARow.cell (h:ARow w base A n c an){i:Nat}(hi:i<n):∃ad a,A=some ad∧an[i]?=some a∧w.cell? (ad.add i)=some (.int .i64 (a:Int))∧ad.block<w.heap.size:=by
 have hl:=h.len
 have hs:=OwnS.sls h (by omega)
 obtain⟨g,o,hA,hg,_,hr⟩:=hs.2.2.2 i _ (List.getElem?_eq_getElem (by rw[List.length_map];omega))
 have h0:=hr 0 (.int .i64 ((an[i]'(by omega):Nat):Int)) (by rw[List.getElem_map];rfl)
 rw[Nat.mul_one,Nat.add_zero] at h0
 exact⟨⟨g,o,none⟩,_,hA,List.getElem?_eq_getElem (by omega),by rw[Addr.add_mid];exact h0,hg⟩
theorem ARow.cap (h:ARow w base A n c an):n≤c∧c≤maxLen:=by
 have hs:=OwnS.sls h (by omega)
 exact⟨hs.cap,hs.max⟩
end
section
theorem qrt (S:Sp)(w:World):(Instr.field 56 (.agg S.vs.toArray) 0).run Tryz.prog w=.ok (.int .i64 S.gen) w:=by
 unfold Sp.vs
 obtain⟨a,b,c,d,e,f,g,h,hl⟩:=q7y S.len
 rw[hl]
 kernel_rfl
def fldS (v:Value):Sem Value:=Instr.field 56 v 0
theorem qm2 (v:Value):Instr.field 56 v 0=fldS v:=rfl
theorem qff {w w':World}{T:Nat→Prop}{A:Option Addr}{n c:Nat}{l:List UInt8}(h:Sl w A n c l)(X:Turn T w w')(hA:∀ad,A=some ad→¬T ad.block):Sl w' A n c l:=q4k h X hA
attribute [local go_sem ↓] qm2
theorem qj4 (w:World)(ht:Tab w):Calls Tryz.prog 9 #[] w fun e w'=>e=.returned (.bool true)∧Below w.heap.size w w':=by
 have hG:=ht.1
 have hn32:sectors 32:=⟨by omega,by omega⟩
 go_enter Tryz.func9,Tryz.ntmps9
 go_wp2_with fail
 refine (qjv 32 hn32 w).mono ?_
 rintro e w1 ⟨d,rfl,L1,B1⟩
 have t1:=ht.below B1 hG
 go_wp2_with fail
 refine (q8x L1 ⟨rfl,rfl⟩ (by omega) t1 (q5u 32) (by omega)).mono ?_
 rintro e w2 ⟨p,q,rfl,X2⟩
 have hfd:=qbi (D:=DM.mk0 32) (n:=32) (by omega) (by omega) rfl ⟨rfl,rfl⟩
 have hn:(DM.mk0 32).n=32:=rfl
 rw[hn] at X2
 have S2:=hfd.2.1
 have tm2:=q2k (fmtL 32) (q5u 32)
 have fl:=qq6 (n:=32) (by omega)
 obtain⟨D1,hD1⟩:∃D,(DM.mk0 32).runD (fmtL 32)=D:=⟨_,rfl⟩
 rw[hD1] at X2 S2 tm2
 have H2:=qtf (b:=w.heap.size) X2 (fun k hk=>hk) B1.size
 have t2:=t1.turned X2.turn (by omega)
 have z1:=B1.size
 have z2:=X2.turn.size
 have BB2:Below w.heap.size w w2:=B1.trans (X2.turn.below (fun k hk=>hk) z1)
 clear hfd hD1 X2 L1 hn
 obtain⟨T2,hT2⟩:∃T:Nat→Prop,(fun k=>w.heap.size≤k∧k<w2.heap.size)=T:=⟨_,rfl⟩
 rw[hT2] at H2
 have tg2:=H2.tight
 clear hT2
 have kc:=fun (w:World) (C:Array Value) (n c:Nat)=>Lib.run_convert_bytes_const (P:=Tryz.prog) w 30 5 C n c Tryz.underlying30 Tryz.underlying5
 have sa:Sl (w2.alloc (.cells #[.int .u8 97,.int .u8 98] 5 (2,3))) (some ⟨w2.heap.size,0,none⟩) 2 2 shB:=qr3 w2 5 (2,3) [97,98] #[.int .u8 97,.int .u8 98] rfl (by simp)
 have Ba:Below w2.heap.size w2 (w2.alloc (.cells #[.int .u8 97,.int .u8 98] 5 (2,3))):=blA
 have Ha:=H2.below Ba
 have ta:=t2.below Ba t2.1
 obtain⟨p1,p2,p3⟩:=qor qm0 (x:=shB) (by decide)
 have hput:=qro Ha hG 5 _ _ _ _ sa (fun _ ad e h=>by injection e with e;subst e;have:=(tg2 _ h).2;simp at this) ta
 rw[p1,p2,p3] at hput
 have Hput:=Lib.hid hput
 clear sa Ha ta hput p1 p2 p3
 go_wp2_with fail
 refine Hput.out.mono ?_
 rintro e w4 ⟨rfl,H4,X4,t4⟩
 have H4:Sys w.heap.size w4 d p T2 D1 shP:=H4
 have z4:=X4.size
 have za:(w2.alloc (.cells #[.int .u8 97,.int .u8 98] 5 (2,3))).heap.size=w2.heap.size+1:=by simp
 have B4:=BB2.trans ((q00 (S:=T2) Ba |>.mono fun _ h=>h).trans X4 (fun k hk=>.inl hk) |>.below (fun k hk=>(tg2 k hk).1) BB2.size)
 have S4:Sound D1 shP (fmtS 32) (Ct.zero 32):=ql9 S2 (.bytes 5 shB)
 have hlv:shP.live 4=some (.bytes 5 shB):=by rw[show shP=(Pl.fresh 32).lay (.bytes 5 shB) from rfl,qbo qm0];rfl
 have hby:=q94 H4 t4 4 5
 unfold q28 at hby
 obtain⟨q1,q2⟩:=qlz D1 hlv (most:=128) rfl (by decide) (by omega)
 have q1:shP.bytesE D1 4 5=0:=q1
 have q2:shP.bytesL D1 4 5=shB:=q2
 rw[q1,q2] at hby
 have Hby:=Lib.hid hby
 clear hby q1 q2 hlv Hput Ba
 go_wp2_with fail
 refine Hby.out.mono ?_
 rintro e w5 ⟨A5,n5,c5,rfl,s5,b5,hA5⟩
 have H5:=H4.below b5
 have t5:=t4.below b5 t4.1
 have z5:=b5.size
 have B5:=B4.trans (b5.mono B4.size)
 go_wp2_with fail
 refine (qh8 H5 27 qrr).mono ?_
 rintro e w6 ⟨rfl,rfl⟩
 go_wp2_with fail
 refine (qj1 H5 hG t5 tm2 (by omega) (by rw[sh_g];omega)).mono ?_
 obtain⟨k1,k2,S7,k4,k5,k6⟩:=qrq qtg S4
 obtain⟨_,_,_,k7,_⟩:=qda qtg S4
 have hd4:(D1.runD shP.steps).newest 4=(Bk.bytes 5 shB).out 4 shP.g:=by
  rw[qdp S7]
  exact k7 4 (.bytes 5 shB) (by decide) rfl (by decide)
 have hon:(D1.runD shP.steps).off=false:=S7.free.on
 have hn7:(D1.runD shP.steps).n=32:=S7.n.trans (by decide)
 rw[k1,k2]
 obtain⟨D2,hD2⟩:∃D,D1.runD shP.steps=D:=⟨_,rfl⟩
 rw[hD2] at S7 k4 k5 k6 hd4 hon hn7 ⊢
 have K4:=Lib.hid k4
 have K5:=Lib.hid k5
 have hgn:(mtS D2.newest).gen<1099511627775:=by rw[k6];show shP.g<_;rw[sh_g];omega
 have Hgn:=Lib.hid hgn
 clear k1 k2 k4 k5 k6 k7 hD2 hgn
 rintro e w7 ⟨rfl,H7,X7,t7⟩
 have s7:=qff s5 X7 fun ad e h=>by have:=(tg2 _ h).2;have:=hA5 ad e;omega
 have z7:=X7.size
 have B7:=B5.trans (X7.below (fun k hk=>(tg2 k hk).1) B5.size)
 obtain⟨T7,hT7⟩:∃T:Nat→Prop,grow T2 w5 w7=T:=⟨_,rfl⟩
 have h7A:∀ad,A5=some ad→¬T7 ad.block:=fun ad e h=>by
  rw[←hT7] at h
  obtain⟨h1,h2⟩:=h
  have h3:=hA5 ad e
  have h4:ad.block<w5.heap.size:=by
   obtain⟨ad',e',hb,_⟩:=s5.cell (k:=0) (by rw[←s5.len];decide)
   rw[e] at e'
   injection e' with e'
   rw[e']
   exact hb
  exact h1.elim (fun h5=>by have:=(tg2 _ h5).2;omega) fun h5=>by omega
 rw[hT7] at H7
 have tg7:=H7.tight
 clear hT7
 go_wp2_with fail
 refine (qoq H7.dr H7.base t7 Hgn.out).mono ?_
 rw[K4.out,K5.out]
 rintro e w8 ⟨⟨_,p8,rfl,H8⟩|⟨h,_⟩,b8⟩
 ·have t8:=t7.below b8 t7.1
  have s8:=s7.below b8
  have z8:=b8.size
  have B8:=B7.trans (b8.mono B7.size)
  obtain⟨T8,hT8⟩:∃T:Nat→Prop,grow T7 w7 w8=T:=⟨_,rfl⟩
  have h8A:∀ad,A5=some ad→¬T8 ad.block:=fun ad e h=>by
   rw[←hT8] at h
   refine h.1.elim (h7A ad e) fun h5=>?_
   obtain⟨ad',e',hb,_⟩:=s7.cell (k:=0) (by rw[←s7.len];decide)
   rw[e] at e'
   injection e' with e'
   rw[e'] at h5
   omega
  rw[hT8] at H8
  have tg8:=H8.tight
  have hdl:=q91 shP 4
  have hg2:shP.g=2:=sh_g
  obtain⟨q1,q2⟩:=qj2 (P:=shP.done) (D:=D2) (a:=4) (k:=5) (g:=shP.g) (x:=shB) (most:=128) (by decide) hdl hon (by omega) (by omega) ⟨by omega,by omega⟩ hd4 rfl (by decide)
  have hby:=q94 H8 t8 4 5
  unfold q28 at hby
  have q1:shP.done.bytesE D2 4 5=0:=q1
  have q2:shP.done.bytesL D2 4 5=shB:=q2
  rw[q1,q2] at hby
  have Hby8:=Lib.hid hby
  clear hby q1 q2 hdl hT8 hd4 K4 K5
  go_wp2_with fail
  refine Hby8.out.mono ?_
  rintro e w9 ⟨A9,n9,c9,rfl,s9,b9,hA9⟩
  have H9:=H8.below b9
  have t9:=t8.below b9 t8.1
  have z9:=b9.size
  have B9:=B8.trans (b9.mono B8.size)
  have s59:=s8.below b9
  have hun:=qly H9 hG t9 4
  rw[qh9.1,qh9.2] at hun
  have Hun:=Lib.hid hun
  clear hun
  go_wp2_with fail
  refine Hun.out.mono ?_
  rintro e w10 ⟨rfl,H10,X10,t10⟩
  have s5z:=qff s59 X10 h8A
  have s9z:=qff s9 X10 fun ad e h=>by have:=(tg8 _ h).2;have:=hA9 ad e;omega
  have z10:=X10.size
  have B10:=B9.trans (X10.below (fun k hk=>(tg8 k hk).1) B9.size)
  have hby:=q94 H10 t10 4 5
  unfold q28 at hby
  have hgn:=qj3 (P:=⟨shP.done.S,shP.done.C.unref 4,shP.done.L⟩) (D:=D2) (a:=4) (k:=5) qrs
  rw[hgn.1,hgn.2] at hby
  have Hby10:=Lib.hid hby
  clear hby hgn
  go_wp2_with fail
  refine Hby10.out.mono ?_
  rintro e w11 ⟨A11,n11,c11,rfl,s11,b11,_⟩
  have H11:=H10.below b11
  have t11:=t10.below b11 t10.1
  have z11:=b11.size
  have B11:=B10.trans (b11.mono B10.size)
  have k5:=q2c (s5z.below b11)
  have k9:=q2c (s9z.below b11)
  have hfl:=qrt shP.done.S
  have hgg:shP.done.S.gen=2:=sh_g
  rw[hgg] at hfl
  have hfl:∀w,(fldS (.agg shP.done.S.vs.toArray)).run Tryz.prog w=.ok (.int .i64 2) w:=hfl
  have hfr:=qdq
  obtain⟨Q,hQ⟩:∃Q:Pl,(⟨shP.done.S,shP.done.C.unref 4,shP.done.L⟩:Pl)=Q:=⟨_,rfl⟩
  have hQS:Q.S=shP.done.S:=by rw[←hQ]
  rw[hQ] at H11 hfr
  rw[←hQS] at hfl
  have hsu:=qlx H11
  clear hQ hQS
  go_wp2_with (first
   |(go_at_call 31;refine hsu.mono ?_;rintro e w12 ⟨rfl,b12⟩;have H12:=H11.below b12)
   |(go_at_call 35;refine (qh8 H12 27 hfr).mono ?_;rintro e w13 ⟨rfl,rfl⟩)
   |fail)
  go_ret
  exact⟨rfl,B11.trans (b12.mono B11.size)⟩
 ·exact absurd rfl h
end
end Go.Proofs.YtipejjgodnnkaaaGreatDoor
