/- Counts as plain data; the reference's counts as they lie; its Get, Ref, Unref, Fresh, Firs -/
import Derived.Test.YtipejjgodnnkaaaGreatDoorPm3
import Derived.Test.YtipejjgodnnkaaaGreatDoorPm5
import Derived.Deep.RegionHeld3
namespace Go.Proofs.YtipejjgodnnkaaaGreatDoor
open Go Go.RowKit Go.Proofs
set_option maxHeartbeats 4000000
set_option maxRecDepth 10000
def cv (x:Int):Value:=.int .i64 x
theorem qso (l:List Int):∀u∈l.map cv,u.oneCell'=true:=by
 intro u hu
 obtain⟨_,_,rfl⟩:=List.mem_map.1 hu
 rfl
def nm (l:List Int)(k:Nat):Int:=l.getD k 0
theorem q3l (l:List Int)(k:Nat)(x:Int)(h:k<l.length):nm (l.set k x) k=x:=by simp[nm,h]
theorem q4a (l:List Int)(k j:Nat)(x:Int)(h:k≠j):nm (l.set k x) j=nm l j:=by simp[nm,h]
structure Ct where
 now:List Int
 done:List Int
 same:done.length=now.length
def Ct.n (C:Ct):Nat:=C.now.length
def Ct.first (C:Ct):Nat:=2+2*areaN C.n
def Ct.get (C:Ct)(a:Int):Int:=if 0≤a∧a<(C.n:Int) then nm C.now a.toNat else 0
def Ct.put (C:Ct)(k:Nat)(x:Int):Ct:=⟨C.now.set k x,C.done,by rw[List.length_set];exact C.same⟩
def Ct.refE (C:Ct)(a:Int):Int:=if C.get a=0 then 1 else if C.get a=65535 then 7 else 0
def Ct.ref (C:Ct)(a:Int):Ct:=if C.refE a=0 then C.put a.toNat (C.get a+1) else C
def Ct.unrefE (C:Ct)(a:Int):Int:=if C.get a=0 then 1 else 0
def Ct.unrefV (C:Ct)(a:Int):Int:=if C.get a=0 then 0 else C.get a-1
def Ct.unref (C:Ct)(a:Int):Ct:=if C.get a=0 then C else C.put a.toNat (C.get a-1)
def Ct.fresh (C:Ct)(a:Int):Bool:=if C.get a=0 then false else decide (nm C.done a.toNat=0)
def Ct.isFree (C:Ct)(k:Nat):Bool:=decide (nm C.now k=0∧nm C.done k=0)
def Ct.commit (C:Ct):Ct:=⟨C.now,C.now,rfl⟩
def Ct.ok (C:Ct):Prop:=(32≤C.n∧C.n≤2048)∧∀k,k<C.n→0≤nm C.now k∧nm C.now k≤65535
theorem Ct.get_bounds {C:Ct}(h:C.ok)(a:Int):0≤C.get a∧C.get a≤65535:=by
 unfold Ct.get
 split
 ·exact h.2 _ (by omega)
 ·omega
theorem Ct.get_in {C:Ct}{a:Int}(h:¬C.get a=0):0≤a∧a<(C.n:Int)∧C.get a=nm C.now a.toNat:=by
 unfold Ct.get at h ⊢
 split at h
 ·rename_i h2
  rw[if_pos h2]
  exact⟨h2.1,h2.2,rfl⟩
 ·exact absurd rfl h
theorem Ct.put_n (C:Ct)(k:Nat)(x:Int):(C.put k x).n=C.n:=List.length_set
theorem Ct.put_ok {C:Ct}(h:C.ok)(k:Nat)(x:Int)(h1:0≤x)(h2:x≤65535):(C.put k x).ok:=by
 refine⟨by rw[C.put_n];exact h.1,fun j hj=>?_⟩
 rw[C.put_n] at hj
 show 0≤nm (C.now.set k x) j∧nm (C.now.set k x) j≤65535
 by_cases hk:k=j
 ·subst hk
  rw[q3l _ _ _ hj]
  exact⟨h1,h2⟩
 ·rw[q4a _ _ _ _ hk]
  exact h.2 j hj
theorem Ct.commit_ok {C:Ct}(h:C.ok):C.commit.ok:=h
def NRow (w:World)(g n c:Nat)(l:List Int):Prop:=w.ownsRow 0 3 1 (.slice (some ⟨g,0,none⟩) n c) n (l.map cv)
section
variable {w w':World}{g n c:Nat}{l:List Int}
theorem NRow.len (h:NRow w g n c l):l.length=n:=by have:=h.1;simpa using this
theorem NRow.cap (h:NRow w g n c l):n≤c∧c≤maxLen:=by
 rcases h.2 with⟨hv,_⟩|⟨g',cap,cur,hv,_,_,h1,h2,_⟩
 ·injection hv with e1;cases e1
 ·injection hv with e1 e2 e3;omega
theorem NRow.lt (h:NRow w g n c l):g<w.heap.size:=by
 rcases h.2 with⟨hv,_⟩|⟨g',cap,cur,hv,_,hg,_⟩
 ·injection hv with e1;cases e1
 ·injection hv with e1
  injection e1 with e1
  injection e1 with e1
  subst e1
  exact (Array.getElem?_eq_some_iff.1 hg).1
theorem NRow.keep (h:NRow w g n c l)(hk:w'.heap[g]?=w.heap[g]?):NRow w' g n c l:=q1j h fun q hq=>by
 have:q=g:=by
  have:(Value.slice (some ⟨g,0,none⟩) n c).ownBlock=some g:=rfl
  rw[this] at hq
  exact (Option.some.inj hq).symm
 rw[this];exact hk
theorem NRow.at_ (h:NRow w g n c l){j:Nat}(hj:j<n):w.cell? ⟨g,j,none⟩=some (.int .i64 (nm l j))∧w.frozen? ⟨g,j,none⟩=false:=by
 have hl:=h.len
 refine⟨?_,World.ownsRow.frozenAt h j⟩
 rw[World.ownsRow.cellAt h j (by omega),List.getElem?_map,List.getElem?_eq_getElem (by omega)]
 unfold nm
 rw[List.getD_eq_getElem?_getD,List.getElem?_eq_getElem (by omega)];rfl
theorem NRow.set_ (h:NRow w g n c l)(j:Nat)(x:Int):NRow (w.setCell ⟨g,j,none⟩ (.int .i64 x)) g n c (l.set j x):=by
 unfold NRow
 rw[List.map_set]
 exact (World.ownsRow.stored h j (cv x)).1
end
def RC (w:World)(p:Nat)(S:Nat→Prop)(C:Ct):Prop:=∃(a ca b cb:Nat) (t:TypeId),w.heap[p]?=some (.cells #[.slice (some ⟨a,0,none⟩) C.n ca,.slice (some ⟨b,0,none⟩) C.n cb] t (0,0))∧NRow w a C.n ca C.now∧NRow w b C.n cb C.done∧(a≠b∧p≠a∧p≠b)∧(S p∧S a∧S b)∧C.ok
theorem RC.ok {w:World}{p:Nat}{S:Nat→Prop}{C:Ct}(h:RC w p S C):C.ok:=by
 obtain⟨_,_,_,_,_,_,_,_,_,_,h⟩:=h
 exact h
theorem RC.lt {w:World}{p:Nat}{S:Nat→Prop}{C:Ct}(h:RC w p S C):p<w.heap.size:=by
 obtain⟨_,_,_,_,_,h,_⟩:=h
 exact (Array.getElem?_eq_some_iff.1 h).1
theorem RC.keep {w w':World}{p:Nat}{S:Nat→Prop}{C:Ct}(h:RC w p S C)(hk:∀k,k<w.heap.size→S k→w'.heap[k]?=w.heap[k]?):RC w' p S C:=by
 obtain⟨a,ca,b,cb,t,h1,h2,h3,h4,h5,h6⟩:=h
 exact⟨a,ca,b,cb,t,(hk p (Array.getElem?_eq_some_iff.1 h1).1 h5.1).trans h1,h2.keep (hk a h2.lt h5.2.1),h3.keep (hk b h3.lt h5.2.2),h4,h5,h6⟩
theorem RC.mono {w:World}{p:Nat}{S S':Nat→Prop}{C:Ct}(h:RC w p S C)(hs:∀k,S k→S' k):RC w p S' C:=by
 obtain⟨a,ca,b,cb,t,h1,h2,h3,h4,h5,h6⟩:=h
 exact⟨a,ca,b,cb,t,h1,h2,h3,h4,⟨hs _ h5.1,hs _ h5.2.1,hs _ h5.2.2⟩,h6⟩
theorem RC.below {w w':World}{p:Nat}{S:Nat→Prop}{C:Ct}(h:RC w p S C)(hb:Below w.heap.size w w'):RC w' p S C:=h.keep fun k hk _=>hb.block k hk
theorem q0u {w:World}{p:Nat}{S:Nat→Prop}{C:Ct}(H:RC w p S C)(a x:Int)(hx:C.get a=x) :
  Calls Tryz.prog 60 #[.pointer (some ⟨p,0,none⟩),.int .i64 a] w fun e w'=>e=.returned (.int .i64 x)∧w=w':=by
 obtain⟨g,cg,b,cb,t,h1,h2,h3,h4,h5,h6⟩:=H
 have c0:w.cell? ⟨p,0,none⟩=some (.slice (some ⟨g,0,none⟩) C.n cg):=by rw[cell_of_row _ _ _ _ _ _ h1];rfl
 obtain⟨hc1,hc2⟩:=h2.cap
 unfold maxLen at hc2
 by_cases h0:0≤a
 ·obtain⟨k,rfl⟩:=Int.eq_ofNat_of_zero_le h0
  by_cases hk:k<C.n
  ·have hgt:=Lib.hid (show x=nm C.now k by rw[←hx];unfold Ct.get;rw[if_pos (by omega)];rfl)
   obtain⟨hc,_⟩:=h2.at_ hk
   have e1:¬(k:Int)<0:=by omega
   have e2:¬(C.n:Int)≤(k:Int):=by omega
   have e3:(k:Int)<(C.n:Int):=by omega
   go_enter Tryz.func60,Tryz.ntmps60
   go_wp2
   go_ret
   exact⟨by rw[hgt.out];rfl,rfl⟩
  ·have hgt:=Lib.hid (show x=0 by rw[←hx];unfold Ct.get;rw[if_neg (by omega)])
   have e1:¬(k:Int)<0:=by omega
   have e2:(C.n:Int)≤(k:Int):=by omega
   go_enter Tryz.func60,Tryz.ntmps60
   go_wp2
   go_ret
   exact⟨by rw[hgt.out];rfl,rfl⟩
 ·have hgt:=Lib.hid (show x=0 by rw[←hx];unfold Ct.get;rw[if_neg (by omega)])
  have e1:a<0:=by omega
  go_enter Tryz.func60,Tryz.ntmps60
  go_wp2
  go_ret
  exact⟨by rw[hgt.out];rfl,rfl⟩
theorem RC.open_ {w:World}{p:Nat}{S:Nat→Prop}{C:Ct}(H:RC w p S C):∃g cg b cb:Nat,w.cell? ⟨p,0,none⟩=some (.slice (some ⟨g,0,none⟩) C.n cg)∧w.cell? ⟨p,1,none⟩=some (.slice (some ⟨b,0,none⟩) C.n cb)∧
  (C.n≤cg∧cg≤9223372036854775807)∧(C.n≤cb∧cb≤9223372036854775807)∧(∀k,k<C.n→w.cell? ⟨g,k,none⟩=some (.int .i64 (nm C.now k))∧w.frozen? ⟨g,k,none⟩=false)∧(∀k,k<C.n→w.cell? ⟨b,k,none⟩=some (.int .i64 (nm C.done k)))∧
  (∀(k:Nat) (x:Int),k<C.n→0≤x→x≤65535→RC (w.setCell ⟨g,k,none⟩ (.int .i64 x)) p S (C.put k x)∧Turn S w (w.setCell ⟨g,k,none⟩ (.int .i64 x))∧(w.setCell ⟨g,k,none⟩ (.int .i64 x)).cell? ⟨p,0,none⟩=some (.slice (some ⟨g,0,none⟩) C.n cg)∧(w.setCell ⟨g,k,none⟩ (.int .i64 x)).cell? ⟨g,k,none⟩=some (.int .i64 x)):=by
 obtain⟨g,cg,b,cb,t,h1,h2,h3,h4,h5,h6⟩:=H
 have k1:=h2.cap
 have k2:=h3.cap
 unfold maxLen at k1 k2
 refine⟨g,cg,b,cb,by rw[cell_of_row _ _ _ _ _ _ h1];rfl,by rw[cell_of_row _ _ _ _ _ _ h1];rfl,⟨k1.1,by omega⟩,⟨k2.1,by omega⟩,fun k hk=>h2.at_ hk,fun k hk=>(h3.at_ hk).1,fun k x hk hx0 hx1=>?_⟩
 have e:∀j,j≠g→(w.setCell ⟨g,k,none⟩ (.int .i64 x)).heap[j]?=w.heap[j]?:=fun j hj=>Below.heap_setCell _ _ _ _ (by show j≠g;exact hj)
 have hp:=(e p h4.2.1).trans h1
 have hI:=h2.set_ k x
 refine⟨⟨g,cg,b,cb,t,?_,?_,?_,h4,h5,C.put_ok h6 k x hx0 hx1⟩,q0e (a:=⟨g,k,none⟩) _ h5.2.1,by rw[cell_of_row _ _ _ _ _ _ hp];rfl,?_⟩
 ·rw[C.put_n];exact hp
 ·rw[C.put_n];exact hI
 ·rw[C.put_n];exact h3.keep (e b (Ne.symm h4.1))
 ·have:=(hI.at_ hk).1
  rw[q3l _ _ _ (by rw[h2.len];exact hk)] at this
  exact this
theorem qem {w:World}{p:Nat}{S:Nat→Prop}{C:Ct}(H:RC w p S C)(a:Int) :
  Calls Tryz.prog 50 #[.pointer (some ⟨p,0,none⟩),.int .i64 a] w fun e w'=>e=.returned (.int .i64 (C.refE a))∧RC w' p S (C.ref a)∧Turn S w w':=by
 obtain⟨x,hx⟩:∃x,C.get a=x:=⟨_,rfl⟩
 have hb:=C.get_bounds H.ok a
 rw[hx] at hb
 by_cases h0:x=0
 ·have hE:C.refE a=1:=by unfold Ct.refE;rw[hx,if_pos h0]
  have hC:C.ref a=C:=by unfold Ct.ref;rw[hE,if_neg (by decide)]
  rw[hE,hC]
  subst h0
  go_enter Tryz.func50,Tryz.ntmps50
  go_wp2_with fail
  refine (q0u H a 0 hx).mono ?_
  rintro e w1 ⟨rfl,rfl⟩
  go_wp2
  go_ret
  exact⟨rfl,H,Turn.refl _ _⟩
 ·by_cases h1:x=65535
  ·have hE:C.refE a=7:=by unfold Ct.refE;rw[hx,if_neg h0,if_pos h1]
   have hC:C.ref a=C:=by unfold Ct.ref;rw[hE,if_neg (by decide)]
   rw[hE,hC]
   subst h1
   go_enter Tryz.func50,Tryz.ntmps50
   go_wp2_with fail
   refine (q0u H a 65535 hx).mono ?_
   rintro e w1 ⟨rfl,rfl⟩
   go_wp2
   go_ret
   exact⟨rfl,H,Turn.refl _ _⟩
  ·have hE:C.refE a=0:=by unfold Ct.refE;rw[hx,if_neg h0,if_neg h1]
   have hC:C.ref a=C.put a.toNat (x+1):=by unfold Ct.ref;rw[hE,if_pos rfl,hx]
   have hE':=Lib.hid hE
   have hC':=Lib.hid hC
   obtain⟨i0,i1,i2⟩:=Ct.get_in (C:=C) (a:=a) (by rw[hx];exact h0)
   obtain⟨k,rfl⟩:=Int.eq_ofNat_of_zero_le i0
   rw[Int.toNat_natCast] at i2
   rw[hx] at i2
   obtain⟨g,cg,b,cb,c0,c1,k1,k2,hnow,hdone,hput⟩:=H.open_
   obtain⟨hc,hfz⟩:=hnow k (by omega)
   rw[←i2] at hc
   obtain⟨H2,T2,d0,d1⟩:=hput k (x+1) (by omega) (by omega) (by omega)
   have Hx:=Lib.hid hx
   have j1:¬(C.n:Int)≤(k:Int):=by omega
   clear hE hC i2 hnow hdone hput
   go_enter Tryz.func50,Tryz.ntmps50
   go_wp2_with fail
   refine (q0u H k x Hx.out).mono ?_
   rintro e w1 ⟨rfl,rfl⟩
   go_wp2
   go_ret
   rw[hE'.out,hC'.out]
   exact⟨rfl,H2,T2⟩
theorem qax {w:World}{p:Nat}{S:Nat→Prop}{C:Ct}(H:RC w p S C)(a:Int) :
  Calls Tryz.prog 51 #[.pointer (some ⟨p,0,none⟩),.int .i64 a] w fun e w'=>e=.returned (.tuple #[.int .i64 (C.unrefV a),.int .i64 (C.unrefE a)])∧RC w' p S (C.unref a)∧Turn S w w':=by
 obtain⟨x,hx⟩:∃x,C.get a=x:=⟨_,rfl⟩
 have hb:=C.get_bounds H.ok a
 rw[hx] at hb
 by_cases h0:x=0
 ·have hE:C.unrefE a=1∧C.unrefV a=0∧C.unref a=C:=by unfold Ct.unrefE Ct.unrefV Ct.unref;rw[hx,if_pos h0,if_pos h0,if_pos h0];exact⟨rfl,rfl,rfl⟩
  rw[hE.1,hE.2.1,hE.2.2]
  subst h0
  go_enter Tryz.func51,Tryz.ntmps51
  go_wp2_with fail
  refine (q0u H a 0 hx).mono ?_
  rintro e w1 ⟨rfl,rfl⟩
  go_wp2
  go_ret2
  exact⟨rfl,H,Turn.refl _ _⟩
 ·have hE:C.unrefE a=0∧C.unrefV a=x-1∧C.unref a=C.put a.toNat (x-1):=by unfold Ct.unrefE Ct.unrefV Ct.unref;rw[hx,if_neg h0,if_neg h0,if_neg h0];exact⟨rfl,rfl,rfl⟩
  have hE':=Lib.hid hE
  obtain⟨i0,i1,i2⟩:=Ct.get_in (C:=C) (a:=a) (by rw[hx];exact h0)
  obtain⟨k,rfl⟩:=Int.eq_ofNat_of_zero_le i0
  rw[Int.toNat_natCast] at i2
  rw[hx] at i2
  obtain⟨g,cg,b,cb,c0,c1,k1,k2,hnow,hdone,hput⟩:=H.open_
  obtain⟨hc,hfz⟩:=hnow k (by omega)
  rw[←i2] at hc
  obtain⟨H2,T2,d0,d1⟩:=hput k (x-1) (by omega) (by omega) (by omega)
  have Hx:=Lib.hid hx
  have j1:¬(C.n:Int)≤(k:Int):=by omega
  clear hE i2 hnow hdone hput
  go_enter Tryz.func51,Tryz.ntmps51
  go_wp2_with fail
  refine (q0u H k x Hx.out).mono ?_
  rintro e w1 ⟨rfl,rfl⟩
  go_wp2
  go_ret2
  rw[hE'.out.1,hE'.out.2.1,hE'.out.2.2]
  exact⟨rfl,H2,T2⟩
theorem qay {w:World}{p:Nat}{S:Nat→Prop}{C:Ct}(H:RC w p S C)(a:Int)(r:Bool)(hr:C.fresh a=r) :
  Calls Tryz.prog 62 #[.pointer (some ⟨p,0,none⟩),.int .i64 a] w fun e w'=>e=.returned (.bool r)∧w=w':=by
 subst hr
 obtain⟨x,hx⟩:∃x,C.get a=x:=⟨_,rfl⟩
 by_cases h0:x=0
 ·have hE:C.fresh a=false:=by unfold Ct.fresh;rw[hx,if_pos h0]
  rw[hE]
  subst h0
  go_enter Tryz.func62,Tryz.ntmps62
  go_wp2_with fail
  refine (q0u H a 0 hx).mono ?_
  rintro e w1 ⟨rfl,rfl⟩
  go_wp2
  go_ret
  exact⟨rfl,rfl⟩
 ·have hE:=Lib.hid (show C.fresh a=decide (nm C.done a.toNat=0) by unfold Ct.fresh;rw[hx,if_neg h0])
  obtain⟨i0,i1,i2⟩:=Ct.get_in (C:=C) (a:=a) (by rw[hx];exact h0)
  obtain⟨k,rfl⟩:=Int.eq_ofNat_of_zero_le i0
  rw[Int.toNat_natCast] at hE
  obtain⟨g,cg,b,cb,c0,c1,k1,k2,hnow,hdone,hput⟩:=H.open_
  have hd:=hdone k (by omega)
  obtain⟨y,hy⟩:∃y,nm C.done k=y:=⟨_,rfl⟩
  rw[hy] at hd hE
  have Hx:=Lib.hid hx
  have j1:¬(C.n:Int)≤(k:Int):=by omega
  clear i2 hnow hdone hput hy hx
  go_enter Tryz.func62,Tryz.ntmps62
  go_wp2_with fail
  refine (q0u H k x Hx.out).mono ?_
  rintro e w1 ⟨rfl,rfl⟩
  go_wp2
  go_ret
  exact⟨by rw[hE.out];first|rfl|(refine congrArg (fun x=>Ending.returned (Value.bool x)) ?_;rw[Bool.eq_iff_iff];simp[h0]),rfl⟩
theorem qaz {w:World}{p:Nat}{S:Nat→Prop}{C:Ct}(H:RC w p S C)(f:Nat)(hf:C.first=f) :
  Calls Tryz.prog 110 #[.pointer (some ⟨p,0,none⟩)] w fun e w'=>e=.returned (.int .i64 (f:Int))∧w=w':=by
 have hok:=H.ok.1
 obtain⟨g,cg,b,cb,c0,c1,k1,k2,_,_,_⟩:=H.open_
 obtain⟨k,hk⟩:∃k,areaN C.n=k:=⟨_,rfl⟩
 have hfk:(f:Int)=2+2*(k:Int):=by rw[←hf];unfold Ct.first;rw[hk];omega
 have Hfk:=Lib.hid hfk
 clear hfk
 go_enter Tryz.func110,Tryz.ntmps110
 go_wp2_with fail
 refine (q1g _ C.n rfl (by omega) k hk w).mono ?_
 rintro e w1 ⟨rfl,rfl⟩
 go_wp2
 go_ret
 exact⟨by rw[Hfk.out];rfl,rfl⟩
def Ct.may (C:Ct)(j:Nat):Bool:=decide (C.first≤j)&&C.isFree j
def Ct.pick (C:Ct):Option Nat:=(List.range C.n).find? C.may
def Ct.allocE (C:Ct):Int:=match C.pick with|some _=>0|none=>6
def Ct.allocV (C:Ct):Int:=match C.pick with|some k=>(k:Int)|none=>0
def Ct.alloc (C:Ct):Ct:=match C.pick with|some k=>C.put k 1|none=>C
def Ct.freeTo (C:Ct)(k:Nat):Nat:=(List.range k).countP C.may
def Ct.free (C:Ct):Nat:=C.freeTo C.n
theorem Ct.pick_some {C:Ct}{k:Nat}(hk:k<C.n)(h:C.may k=true)(hall:∀j,j<k→C.may j=false):C.pick=some k:=by
 unfold Ct.pick
 rw[List.find?_range_eq_some]
 exact⟨h,List.mem_range.2 hk,fun j hj=>by rw[hall j hj];rfl⟩
theorem Ct.pick_none {C:Ct}(hall:∀j,j<C.n→C.may j=false):C.pick=none:=by
 unfold Ct.pick
 rw[List.find?_eq_none]
 intro j hj
 rw[hall j (List.mem_range.1 hj)]
 simp
theorem Ct.alloc_some {C:Ct}{k:Nat}(h:C.pick=some k):C.allocE=0∧C.allocV=(k:Int)∧C.alloc=C.put k 1:=by
 unfold Ct.allocE Ct.allocV Ct.alloc
 rw[h]
 exact⟨rfl,rfl,rfl⟩
theorem Ct.alloc_none {C:Ct}(h:C.pick=none):C.allocE=6∧C.allocV=0∧C.alloc=C:=by
 unfold Ct.allocE Ct.allocV Ct.alloc
 rw[h]
 exact⟨rfl,rfl,rfl⟩
theorem Ct.freeTo_next (C:Ct)(k:Nat):C.freeTo (k+1)=C.freeTo k+(if C.may k=true then 1 else 0):=by
 unfold Ct.freeTo
 rw[List.range_succ,List.countP_append,List.countP_singleton]
theorem Ct.freeTo_le (C:Ct)(k:Nat):C.freeTo k≤k:=by
 unfold Ct.freeTo
 have:=List.countP_le_length (p:=C.may) (l:=List.range k)
 rwa [List.length_range] at this
theorem Ct.first_le {C:Ct}(h:C.ok):C.first≤C.n:=by
 have:=h.1
 unfold Ct.first areaN
 omega
theorem q5q {w:World}{p:Nat}{S:Nat→Prop}{C:Ct}(H:RC w p S C) :
  Calls Tryz.prog 168 #[.pointer (some ⟨p,0,none⟩)] w fun e w'=>e=.returned (.tuple #[.int .i64 C.allocV,.int .i64 C.allocE])∧RC w' p S C.alloc∧Turn S w w':=by
 have hok:=H.ok.1
 have hfn:=C.first_le H.ok
 obtain⟨f,hf⟩:∃f,C.first=f:=⟨_,rfl⟩
 have Hf:=Lib.hid hf
 rw[hf] at hfn
 obtain⟨g,cg,b,cb,c0,c1,k1,k2,hnow,hdone,hput⟩:=H.open_
 have Hput:=Lib.hid hput
 have Hnow:=Lib.hid hnow
 have Hdone:=Lib.hid hdone
 clear hput hnow hdone hf
 go_enter Tryz.func168,Tryz.ntmps168
 go_wp2_with fail
 refine (qaz H f Hf.out).mono ?_
 rintro e w1 ⟨rfl,rfl⟩
 go_wp2_with fail
 go_loop [4] (fun i=>∃k:Nat,f≤k∧k≤C.n∧i=.int .i64 (k:Int)∧∀j,j<k→C.may j=false) (fun i=>C.n-(intOf i).toNat)
 case atStart=>exact⟨f,Nat.le_refl _,hfn,rfl,fun j hj=>by unfold Ct.may;rw[decide_eq_false (by rw[Hf.out];omega)];rfl⟩
 case round=>
  obtain⟨k,hfk,hk,rfl,hall⟩:=hrel
  by_cases hlt:k<C.n
  ·obtain⟨hc,hfz⟩:=Hnow.out k hlt
   have hd:=Hdone.out k hlt
   obtain⟨H2,T2,d0,d1⟩:=Hput.out k 1 hlt (by omega) (by omega)
   have hmay:=Lib.hid (show C.may k=decide (nm C.now k=0∧nm C.done k=0) by unfold Ct.may Ct.isFree;rw[decide_eq_true (by rw[Hf.out];exact hfk),Bool.true_and])
   obtain⟨x,hx⟩:∃x,nm C.now k=x:=⟨_,rfl⟩
   obtain⟨y,hy⟩:∃y,nm C.done k=y:=⟨_,rfl⟩
   rw[hx] at hc hmay
   rw[hy] at hd hmay
   have e3:(k:Int)<(C.n:Int):=by omega
   have e0:(0:Int)≤(k:Int):=by omega
   have hsome:=fun h=>Ct.alloc_some (C:=C) (k:=k) (Ct.pick_some hlt h hall)
   have Hsome:=Lib.hid hsome
   have Hall:=Lib.hid hall
   clear hx hy hsome hall
   by_cases hx0:x=0
   ·by_cases hy0:y=0
    ·subst hx0 hy0
     have hE:=Lib.hid (Hsome.out (by rw[hmay.out];rfl))
     go_wp2
     go_ret2
     rw[hE.out.1,hE.out.2.1,hE.out.2.2]
     exact⟨rfl,H2,T2⟩
    ·have hb:(y==0)=false:=by simpa using hy0
     subst hx0
     go_wp2
     refine⟨⟨k+1,by omega,by omega,by go_num,fun j hj=>?_⟩,by simp[intOf];omega⟩
     by_cases hjk:j=k
     ·rw[hjk,hmay.out];exact decide_eq_false (by omega)
     ·exact Hall.out j (by omega)
   ·have hb:(x==0)=false:=by simpa using hx0
    go_wp2
    refine⟨⟨k+1,by omega,by omega,by go_num,fun j hj=>?_⟩,by simp[intOf];omega⟩
    by_cases hjk:j=k
    ·rw[hjk,hmay.out];exact decide_eq_false (by omega)
    ·exact Hall.out j (by omega)
  ·have hkn:k=C.n:=by omega
   have e3:¬(k:Int)<(C.n:Int):=by omega
   have hE:=Lib.hid (Ct.alloc_none (Ct.pick_none (C:=C) (by rw[←hkn];exact hall)))
   clear hall hkn
   go_wp2
   go_ret2
   rw[hE.out.1,hE.out.2.1,hE.out.2.2]
   exact⟨rfl,H,Turn.refl _ _⟩
structure NumT (P:Program)(t e:TypeId):Prop where
 sl:P.underlying t=some (.slice e)
 info:(P.info? e).map (fun i=>(i.zero,i.size,i.bytes))=some (some (.int .i64 0),1,8)
theorem TN:NumT Tryz.prog 33 3:=⟨Tryz.underlying33,by kernel_rfl⟩
section
variable {P:Program}{t e:TypeId}(w:World)
theorem q7d (T:NumT P t e)(ty:TypeId)(g:Nat)(ad:Addr)(m d:Nat)(l2:List Int)(hl:l2.length=m)(hcells:∀(j:Nat) u,(l2.map cv)[j]?=some u→w.cell? (ad.add j)=some u)(h0:0<m)(hm:m≤1000000) :
  ∃c' w',(Builtin.append_ #[t,t] ty #[.slice (some ⟨g,0,none⟩) 0 0,.slice (some ad) m d]).run P w=.ok (.slice (some ⟨w.heap.size,0,none⟩) m c') w'∧w'.ownsRow w.heap.size e 1 (.slice (some ⟨w.heap.size,0,none⟩) m c') m (l2.map cv)∧Below w.heap.size w w':=by
 obtain⟨i,hi,hz0,hz1,hz2⟩:=info_parts T.info
 have hl2:(l2.map cv).length=m:=by simpa using hl
 have hrun:=run_append_grow (P:=P) w t ty e i _ T.sl hi hz0 ⟨g,0,none⟩ 0 0 [] (by simp) (by simp) ad m d (l2.map cv) (by rw[hz1,hl2];omega) hcells (by omega) (by omega) (growslice_fits (by omega) (by rw[hz2];omega))
 rw[Nat.zero_add] at hrun
 have hge:=grownCap_ge w m 0 e
 refine⟨_,_,hrun,⟨by rw[hl2];omega,.inr ⟨w.heap.size,_,_,rfl,Nat.le_refl _,heap_alloc_new w.drew _,hge,grownCap_le_maxLen w m 0 e (by unfold maxLen;omega),?_,?_⟩⟩,(Below.refl _ _).drew.alloc (Nat.le_refl _) _⟩
 ·simp only[Array.size_append,List.size_toArray,size_zeroCells,List.length_nil,hl2,show (Value.int .i64 0).cells.size=1 from rfl]
  omega
 ·simp only[Array.toList_append,List.nil_append]
  rw[List.take_append_of_le_length (by simp;omega)]
  simp[List.take_of_length_le,hl]
theorem q81 (T:NumT P t e){ops:Array Oper}{rest:List Oper}{o:Oper}{a:Act}{Q:Exit→Act→World→Prop}(hgd:o.guard=none)(s x:Operand)
  (ho:o.op=.call { callee:=.builtin .append,args:=#[s,x],argTypes:=#[t,t] }) (g:Nat) (hs:a.eval s=.slice (some ⟨g,0,none⟩) 0 0) (ad:Addr) (m d:Nat) (hx:a.eval x=.slice (some ad) m d)
  (l2:List Int) (hl:l2.length=m) (hcells:∀(j:Nat) u,(l2.map cv)[j]?=some u→w.cell? (ad.add j)=some u) (h0:0<m) (hm:m≤1000000)
  (h:∀c' w',w'.ownsRow w.heap.size e 1 (.slice (some ⟨w.heap.size,0,none⟩) m c') m (l2.map cv)→Below w.heap.size w w'→wpList P ops Q rest (a.put o.dst (.slice (some ⟨w.heap.size,0,none⟩) m c')) w'):wpList P ops Q (o::rest) a w:=
 wpList_plain hgd fun K hK=>by
  obtain⟨c',w',hrun,h2,h3⟩:=q7d (P:=P) w T o.type g ad m d l2 hl hcells h0 hm
  unfold Oper.wp execOp
  simp only[ho,resolve,invoke,builtin,Sem.run_bind,Sem.run_pure,Result.andThen_ok,List.map_toArray,List.map_cons,List.map_nil,hs,hx,hrun]
  exact hK _ _ (h c' w' h2 h3)
end
theorem NRow.cells {w:World}{g n c:Nat}{l:List Int}(h:NRow w g n c l):∀(j:Nat) u,(l.map cv)[j]?=some u→w.cell? ((⟨g,0,none⟩:Addr).add j)=some u:=fun j u hu=>by
 have hj:j<n:=by have:=(List.getElem?_eq_some_iff.1 hu).1;rw[List.length_map,h.len] at this;exact this
 rw[Addr.add_mid,Nat.zero_add,World.ownsRow.cellAt h j (by omega),hu]
theorem q55 {w:World}{p:Nat}{S:Nat→Prop}{C:Ct}(H:RC w p S C) :
  Calls Tryz.prog 73 #[.pointer (some ⟨p,0,none⟩)] w fun e w'=>e=.returned (.tuple #[])∧RC w' p (fun k=>S k∨w.heap.size≤k) C.commit∧Turn S w w':=by
 obtain⟨g,cg,b,cb,t,h1,h2,h3,h4,h5,h6⟩:=H
 have hok:=h6.1
 have hp:p<w.heap.size:=(Array.getElem?_eq_some_iff.1 h1).1
 have b1:Below w.heap.size w (w.alloc (.cells #[] 3)):=blA
 have h1':=(b1.block p hp).trans h1
 have h2':NRow (w.alloc (.cells #[] 3)) g C.n cg C.now:=h2.keep (b1.block g h2.lt)
 have c0:(w.alloc (.cells #[] 3)).cell? ⟨p,0,none⟩=some (.slice (some ⟨g,0,none⟩) C.n cg):=by rw[cell_of_row _ _ _ _ _ _ h1'];rfl
 have k1:=h2.cap
 unfold maxLen at k1
 go_enter Tryz.func73,Tryz.ntmps73
 go_wp2_with (first
  |(at_builtin;refine q81 _ TN rfl _ _ rfl w.heap.size rfl ⟨g,0,none⟩ C.n cg rfl C.now h2'.len h2'.cells (by omega) (by omega) ?_;intro c3 w3 own3 hb3;have b3:=b1.trans (hb3.mono b1.size);have h13:=(b3.block p hp).trans h1;have d0:w3.cell? ⟨p,1,none⟩=some (.slice (some ⟨b,0,none⟩) C.n cb):=(by rw[cell_of_row _ _ _ _ _ _ h13];rfl);have f0:w3.frozen? ⟨p,1,none⟩=false:=(by unfold World.frozen?;rw[h13];simp))
  |fail)
 go_end0
 have z1:(w.alloc (.cells #[] 3)).heap.size=w.heap.size+1:=by simp
 rw[z1] at own3
 have hz3:=b3.size
 have hrow:NRow w3 (w.heap.size+1) C.n c3 C.now:=qe0 own3 (Nat.zero_le _)
 have hnl:=hrow.lt
 have e4:∀j,j≠p→(w3.setCell ⟨p,1,none⟩ (.slice (some ⟨w.heap.size+1,0,none⟩) C.n c3)).heap[j]?=w3.heap[j]?:=fun j hj=>Below.heap_setCell _ _ _ _ (by show j≠p;exact hj)
 have h14:=heap_setCell_same w3 p 1 _ t (.slice (some ⟨w.heap.size+1,0,none⟩) C.n c3) h13
 refine⟨rfl,⟨g,cg,w.heap.size+1,c3,t,h14,?_,?_,⟨by have:=h2.lt;omega,h4.2.1,by omega⟩,⟨.inl h5.1,.inl h5.2.1,.inr (by omega)⟩,Ct.commit_ok h6⟩,?_⟩
 ·exact (h2.keep (b3.block g h2.lt)).keep (e4 g (Ne.symm h4.2.1))
 ·exact hrow.keep (e4 _ (by omega))
 ·exact (q00 b3).then (q0e (a:=⟨p,1,none⟩) _ h5.1)
def Ct.zero (n:Nat):Ct:=⟨List.replicate n 0,List.replicate n 0,rfl⟩
theorem Ct.zero_n (n:Nat):(Ct.zero n).n=n:=List.length_replicate
theorem Ct.zero_ok {n:Nat}(h1:32≤n)(h2:n≤2048):(Ct.zero n).ok:=by
 refine⟨by rw[Ct.zero_n];exact⟨h1,h2⟩,fun k hk=>?_⟩
 rw[Ct.zero_n] at hk
 show 0≤nm (List.replicate n 0) k∧nm (List.replicate n 0) k≤65535
 unfold nm
 simp[hk]
section
variable {P:Program}{t e:TypeId}(w:World)
theorem qnn (n:Nat):(madeCells (Value.int .i64 0).cells (n*1)).toList=(List.replicate n (0:Int)).map cv:=by
 rw[show (Value.int .i64 0).cells=#[.int .i64 0] from rfl,Nat.mul_one,toList_madeCells_one]
 simp[cv]
end
end Go.Proofs.YtipejjgodnnkaaaGreatDoor
