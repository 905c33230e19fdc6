/- The program's Take takes a number off any bytes, or refuses, as P1.1 says, for at most 2 t -/
import Derived.Test.YtipejjgodnnkaaaGreatDoorPm2
import Derived.Deep.RegionWith
import Derived.BigQuiet
import Derived.Deep.QuietTactic
import Derived.Deep.RegionLaw
namespace Go.Proofs.YtipejjgodnnkaaaGreatDoor
open Go Go.RowKit Go.Proofs
set_option maxHeartbeats 1000000
theorem q5z (A:Option Addr)(k c:Nat)(l:List UInt8)(n:Int)(w:World)(h:Sl w A k c l)(hk:k≤17592186044416)(h1:1≤n)(h7:n≤7)(hn:n≤(k:Int)) :
  Calls Tryz.prog 185 #[.slice A k c,.int .i64 n] w fun e w'=>∃A' n' c',e=.returned (.tuple #[.int .i64 (numL (l.take n.toNat)),.slice A' n' c',.int .i64 0])∧Own w' w.heap.size 5 A' n' c' (l.drop n.toNat)∧Below w.heap.size w w':=by
 obtain⟨m,rfl⟩:=Int.eq_ofNat_of_zero_le (show 0≤n by omega)
 rw[Int.toNat_natCast]
 have hc:=h.cap
 have hm:=h.max
 unfold maxLen at hm
 have hi1:(0:Int)≤(m:Int):=by omega
 have hi2:(m:Int)≤(c:Int):=by omega
 have hi3:m≤c:=by omega
 have hi4:m≤k:=by omega
 have h9:decide ((k:Int)<(m:Int))=false:=by simp;omega
 go_enter Tryz.func185,Tryz.ntmps185
 go_wp2_with fail
 have h2:=h.take (k:=m) (by omega)
 obtain⟨A2,hA2,h3⟩:∃A2,(if c=m then A else Option.map (fun x=>x.add m) A)=A2∧Sl w A2 (k-m) (c-m) (l.drop m):=⟨_,rfl,h.drop (by omega)⟩
 have hlen:=Lib.hid h3.len
 go_region_with (first
  |(go_at_call 211;go_loud (refine (q6p _ _ _ (l.take m) _ (by first|exact h2|exact h2.alloc _) (by omega)).mono ?_;rintro e w1 ⟨rfl,rfl⟩))
  |(go_at_call 201;refine (q4z _ _ _ [l.drop m] _ (by exact parts1 (w:=w.drew) 30 h3) (by rw[tot1,hlen.out];omega)).mono ?_;rintro e w1 ⟨A1,n1,c1,rfl,hown1,hb1⟩))
 all_goals
  go_wp2
  go_ret3
  rw[cat1] at hown1
  refine⟨_,_,_,rfl,hown1.less (by simp),?_⟩
  exact ((Below.refl w.heap.size w).drew.alloc (Nat.le_refl _) _).trans (hb1.mono (by simp))
theorem qiw (A:Option Addr)(k c:Nat)(n:Int)(w:World)(h1:1≤n)(h7:n≤7)(hn:(k:Int)<n) :
  Calls Tryz.prog 185 #[.slice A k c,.int .i64 n] w fun e w'=>e=.returned (.tuple #[.int .i64 0,.slice none 0 0,.int .i64 2])∧w=w':=by
 go_enter Tryz.func185,Tryz.ntmps185
 go_wp2
 go_ret3
 exact⟨rfl,rfl⟩
theorem q60 (A:Option Addr)(k c:Nat)(n:Int)(w:World)(h1:1≤n)(h7:n≤7)(hn:(k:Int)<n) :
  Calls Tryz.prog 144 #[.slice A k c,.int .i64 n] w fun e w'=>e=.returned (.tuple #[.int .i64 0,.slice none 0 0,.int .i64 2])∧w=w':=by
 go_enter Tryz.func144,Tryz.ntmps144
 go_wp2
 go_ret3
 exact⟨rfl,rfl⟩
theorem q1m (A:Option Addr)(k c:Nat)(l:List UInt8)(n:Int)(w:World)(h:Sl w A k c l)(hk:k≤17592186044416)(h1:1≤n)(h7:n≤7)(hn:n≤(k:Int)) :
  Calls Tryz.prog 144 #[.slice A k c,.int .i64 n] w fun e w'=>∃A' n' c',e=.returned (.tuple #[.int .i64 (numL (l.take n.toNat)),.slice A' n' c',.int .i64 0])∧Own w' w.heap.size 5 A' n' c' (l.drop n.toNat)∧Below w.heap.size w w':=by
 obtain⟨m,rfl⟩:=Int.eq_ofNat_of_zero_le (show 0≤n by omega)
 rw[Int.toNat_natCast]
 have hc:=h.cap
 have hm:=h.max
 unfold maxLen at hm
 have hi3:m≤c:=by omega
 go_enter Tryz.func144,Tryz.ntmps144
 go_wp2
 go_loop [7,8] (fun x i=>∃j:Nat,j≤m∧i=.int .i64 j∧x=.int .i64 (numL (l.take j))) (fun _ i=>m-(intOf i).toNat)
 case atStart=>exact⟨0,Nat.zero_le _,rfl,rfl⟩
 case round=>
  obtain⟨j,hj,rfl,rfl⟩:=hrel
  by_cases hlt:j<m
  ·obtain⟨ad,rfl,hb,hcell⟩:=h.cell (k:=j) (by omega)
   have hb1:=q39 l j
   have hx':numL (l.take j)<36028797018963968:=by
    have h1:=q4j (l.take j)
    have h2:(256:Nat) ^ (l.take j).length≤256 ^ 6:=Nat.pow_le_pow_right (by omega) (by rw[List.length_take];omega)
    omega
   have hl:=Lib.hid h.len
   have hi:j<k:=by omega
   go_wp2
   refine⟨⟨j+1,by omega,by go_num,?_⟩,by simp[intOf];omega⟩
   rw[qcx _ _ (by rw[hl.out];omega)]
   go_num
  ·obtain rfl:j=m:=by omega
   obtain⟨A2,hA2,h3⟩:∃A2,(if c=j then A else Option.map (fun x=>x.add j) A)=A2∧Sl w A2 (k-j) (c-j) (l.drop j):=⟨_,rfl,h.drop (by omega)⟩
   go_wp2_with (at_builtin;refine q0x _ T22 rfl _ _ rfl w.heap.size _ 0 0 [] rfl (q11 w 5) A2 (k-j) (c-j) _ rfl (h3.alloc _) (by omega) (by simp) ?_)
   intro A3 c3 w3 hown3 hb3
   go_wp2
   go_ret3
   exact⟨_,_,_,rfl,by simpa using hown3,q2p _ hb3 (Nat.le_refl _)⟩
def areaN (n:Nat):Nat:=(n+117) / 118
theorem qa5 (x:Int)(n:Nat)(hx:x=(n:Int))(hn:n≤100000)(k:Nat)(hk:areaN n=k)(w:World) :
  Calls Tryz.prog 145 #[.int .i64 x] w fun e w'=>e=.returned (.tuple #[.int .i64 (k:Int),.int .i64 (2+2*(k:Int))])∧w=w':=by
 subst hx
 unfold areaN at hk
 have h1:((n:Int)+118-1).tdiv 118=(k:Int):=by
  rw[Int.tdiv_eq_ediv_of_nonneg (by omega)]
  omega
 have h2:(k:Int)≤1000:=by omega
 clear hk
 go_enter Tryz.func145,Tryz.ntmps145
 go_wp2
 go_ret2
 exact⟨rfl,rfl⟩
theorem q1g (x:Int)(n:Nat)(hx:x=(n:Int))(hn:n≤100000)(k:Nat)(hk:areaN n=k)(w:World) :
  Calls Tryz.prog 38 #[.int .i64 x] w fun e w'=>e=.returned (.tuple #[.int .i64 (k:Int),.int .i64 (2+2*(k:Int))])∧w=w':=by
 subst hx
 unfold areaN at hk
 have Hk:=Lib.hid hk
 clear hk
 go_enter Tryz.func38,Tryz.ntmps38
 go_wp2_with fail
 go_loop [4] (fun i=>∃q:Nat,q≤1000∧q*118≤n+117∧i=.int .i64 (q:Int)) (fun i=>1000-(intOf i).toNat)
 case atStart=>exact⟨0,by omega,by omega,rfl⟩
 case round=>
  obtain⟨q,hq,hq2,rfl⟩:=hrel
  by_cases hlt:q*118<n
  ·have h1:(q:Int)*118<(n:Int):=by omega
   go_wp2
   exact⟨⟨q+1,by omega,by omega,by go_num⟩,by simp[intOf];omega⟩
  ·have h1:¬(q:Int)*118<(n:Int):=by omega
   have hqk:q=k:=by have:=Hk.out;omega
   subst hqk
   go_wp2
   go_ret2
   exact⟨rfl,rfl⟩
theorem convT {w:World}{A:Option Addr}{n c:Nat}{l:List UInt8}(h:Sl w A n c l):(convert 30 9 (.slice A n c)).run Tryz.prog w=.ok (.string ⟨l.toArray⟩) w:=
 q59 30 9 5 T22 Tryz.underlying5 Tryz.underlying9 h
def WholeT (l:List UInt8)(m:Nat):Prop:=m≤l.length∧m+numL (l.take m)≤l.length
def bodyT (l:List UInt8)(m:Nat):List UInt8:=(l.drop m).take (numL (l.take m))
def restT (l:List UInt8)(m:Nat):List UInt8:=l.drop (m+numL (l.take m))
theorem qgz (l:List UInt8)(m:Nat):(bodyT l m).length≤l.length:=by unfold bodyT;simp;omega
theorem qh0 (l:List UInt8)(m:Nat):(restT l m).length≤l.length:=by unfold restT;simp
theorem qlm (A:Option Addr)(k c:Nat)(l:List UInt8)(n:Int)(w:World)(h:Sl w A k c l)(hk:k≤17592186044416)(h1:1≤n)(h7:n≤6)(hw:¬WholeT l n.toNat) :
  Calls Tryz.prog 187 #[.slice A k c,.int .i64 n] w fun e w'=>e=.returned (.tuple #[.slice none 0 0,.slice none 0 0,.int .i64 2])∧Below w.heap.size w w':=by
 have hl:=h.len
 by_cases hs:(k:Int)<n
 ·clear hw
  have Hl:=Lib.hid hl
  clear hl
  go_enter Tryz.func187,Tryz.ntmps187
  go_wp2_with (go_at_call 144;refine (q60 A k c n w (by omega) (by omega) hs).mono ?_;rintro e w1 ⟨rfl,rfl⟩)
  go_ret3
  exact⟨rfl,Below.refl _ _⟩
 ·have hv:k<n.toNat+numL (l.take n.toNat):=by
   unfold WholeT at hw
   rcases Nat.lt_or_ge k (n.toNat+numL (l.take n.toNat)) with h2|h2
   ·exact h2
   ·exact absurd ⟨by omega,by omega⟩ hw
  clear hw
  have Hl:=Lib.hid hl
  clear hl
  go_enter Tryz.func187,Tryz.ntmps187
  go_wp2_with fail
  refine (q1m A k c l n w h hk (by omega) (by omega) (by omega)).mono ?_
  rintro e w1 ⟨A1,n1,c1,rfl,ho,hb⟩
  have hn1:n1=k-n.toNat:=by have:=ho.len;rw[List.length_drop,Hl.out] at this;omega
  generalize numL (List.take n.toNat l)=v at hv ⊢
  have hlt:(n1:Int)<(v:Int):=by omega
  clear hn1
  go_wp2
  go_ret3
  exact⟨rfl,hb⟩
theorem qix (A:Option Addr)(k c:Nat)(l:List UInt8)(n:Int)(w:World)(h:Sl w A k c l)(hk:k≤17592186044416)(h1:1≤n)(h7:n≤6)(hw:WholeT l n.toNat) :
  Calls Tryz.prog 187 #[.slice A k c,.int .i64 n] w fun e w'=>∃A1 n1 c1 A2 n2 c2,e=.returned (.tuple #[.slice A1 n1 c1,.slice A2 n2 c2,.int .i64 0])∧
   Sl w' A1 n1 c1 (bodyT l n.toNat)∧Sl w' A2 n2 c2 (restT l n.toNat)∧(∀ad,A2=some ad→w.heap.size≤ad.block)∧Below w.heap.size w w':=by
 have hl:=h.len
 obtain⟨ha,hv⟩:=hw
 rw[hl] at ha hv
 have Hl:=Lib.hid hl
 clear hl
 have e1:bodyT l n.toNat=(l.drop n.toNat).take (numL (l.take n.toNat)):=rfl
 have e2:restT l n.toNat=(l.drop n.toNat).drop (numL (l.take n.toNat)):=by unfold restT;rw[List.drop_drop]
 rw[e1,e2]
 clear e1 e2
 go_enter Tryz.func187,Tryz.ntmps187
 go_wp2_with fail
 refine (q1m A k c l n w h hk (by omega) (by omega) (by omega)).mono ?_
 rintro e w1 ⟨A1,n1,c1,rfl,ho,hb⟩
 have hn1:n1=k-n.toNat:=by have:=ho.len;rw[List.length_drop,Hl.out] at this;omega
 generalize hve:numL (List.take n.toNat l)=v at hv ⊢
 generalize hre:l.drop n.toNat=r at ho ⊢
 have Hve:=Lib.hid hve
 have Hre:=Lib.hid hre
 clear hve hre
 have hlt:v≤n1:=by omega
 have hle:n1≤17592186044416:=by omega
 clear hn1
 have hr:=ho.sl
 have hc1:=hr.cap
 have hi3:v≤c1:=by omega
 have hz:=hb.size
 have h2:=hr.take hlt
 obtain⟨A2,hA2,h3⟩:∃A2,(if c1=v then A1 else Option.map (fun x=>x.add v) A1)=A2∧Sl w1 A2 (n1-v) (c1-v) (r.drop v):=⟨_,rfl,hr.drop (by omega)⟩
 have hi4:(v:Int)≤(c1:Int):=by omega
 have hi5:(0:Int)≤(v:Int):=by omega
 have hd:decide ((n1:Int)<(v:Int))=false:=by simp;omega
 go_wp2_with fail
 have o1:Own (w1.alloc (.cells #[] 5)) w.heap.size 5 (some ⟨w1.heap.size,0,none⟩) 0 0 []:=(q11 w1 5).less hz
 have o2:Own ((w1.alloc (.cells #[] 5)).alloc (.cells #[] 5)) w.heap.size 5 (some ⟨w1.heap.size,0,none⟩) 0 0 []:=o1.alloc _
 have o3:Own ((w1.alloc (.cells #[] 5)).alloc (.cells #[] 5)) w.heap.size 5 (some ⟨w1.heap.size+1,0,none⟩) 0 0 []:=by
  have:=(q11 (w1.alloc (.cells #[] 5)) 5).less (b:=w.heap.size) (by simp;omega)
  simpa using this
 have h21:=h2.alloc (.cells #[] 5)
 have h22:=h21.alloc (.cells #[] 5)
 have h31:=h3.alloc (.cells #[] 5)
 have h32:=h31.alloc (.cells #[] 5)
 have b1:Below w1.heap.size w1 (w1.alloc (.cells #[] 5)):=blA
 have b2:Below w1.heap.size w1 ((w1.alloc (.cells #[] 5)).alloc (.cells #[] 5)):=b1.alloc b1.size _
 go_region_law (first
  |(rw[if_pos (by rfl)]
    refine q33 _ T22 (.tmp 25) (.tmp 28) (by rfl) w.heap.size _ (by rfl) (by first|exact o1|exact o2|exact o3|exact OF2|exact OF2b|exact (q11 _ 5).less HZ) A1 v c1 _ (by rfl) (by first|exact h21|exact h22|exact H2F|exact H2F.alloc _) (by omega) (by first|(simp;omega)|omega) ?_
    rintro A3 c3 w3 own3 bel3
    have hb13:Below w1.heap.size w1 w3:=(by first|exact b1.drew.trans (bel3.mono b1.size)|exact b2.drew.trans (bel3.mono b2.size)|exact HB4.trans (bel3.mono HB4.size)|exact (HB4.alloc HB4.size _).trans (bel3.mono (by have:=HB4.size;simp;omega)))
    have HZ:w.heap.size≤w3.heap.size:=Nat.le_trans hz hb13.size
    have H3F:=h3.below hb13
    have HB4:=hb13
    try (have OF1:=Own.below (by exact o2) bel3)
    try (have OF1b:=Own.below (by exact o3) bel3)
    try (have own4:=own4.below bel3)
    try (have own4:=(own4.alloc _).below bel3))
  |(rw[if_pos (by rfl)]
    refine q33 _ T22 (.tmp 30) (.tmp 33) (by rfl) w.heap.size _ (by rfl) (by first|exact o1|exact o2|exact o3|exact OF1|exact OF1b|exact (q11 _ 5).less HZ) A2 (n1-v) (c1-v) _ (by rfl) (by first|exact h31|exact h32|exact H3F|exact H3F.alloc _) (by omega) (by first|(simp;omega)|omega) ?_
    rintro A4 c4 w4 own4 bel4
    have hb14:Below w1.heap.size w1 w4:=(by first|exact b1.drew.trans (bel4.mono b1.size)|exact b2.drew.trans (bel4.mono b2.size)|exact HB4.trans (bel4.mono HB4.size)|exact (HB4.alloc HB4.size _).trans (bel4.mono (by have:=HB4.size;simp;omega)))
    have HZ:w.heap.size≤w4.heap.size:=Nat.le_trans hz hb14.size
    have H2F:=h2.below hb14
    have HB4:=hb14
    try (have OF2:=Own.below (by exact o2) bel4)
    try (have OF2b:=Own.below (by exact o3) bel4)
    try (have own3:=own3.below bel4)
    try (have own3:=(own3.alloc _).below bel4)))
 all_goals
  go_wp2
  go_ret3
  rw[Hve.out,Hre.out]
  exact⟨_,_,_,_,_,_,rfl,own3.sl,own4.sl,fun ad h=>(own4.block ad h).1,hb.trans (HB4.mono hz)⟩
theorem q8w (A:Option Addr)(k c:Nat)(l:List UInt8)(w:World)(h:Sl w A k c l)(hk:k≤17592186044416)(hw:¬WholeT l 1) :
  Calls Tryz.prog 143 #[.slice A k c] w fun e w'=>e=.returned (.tuple #[.string ⟨#[]⟩,.slice none 0 0,.int .i64 2])∧Below w.heap.size w w':=by
 have Hw:=Lib.hid hw
 clear hw
 have hc:∀W:World,(convert 30 9 (.slice none 0 0)).run Tryz.prog W=.ok (.string ⟨#[]⟩) W:=fun W=>convT (q0k W)
 go_enter Tryz.func143,Tryz.ntmps143
 go_wp2_with (go_at_call 187;refine (qlm A k c l 1 w h hk (by omega) (by omega) Hw.out).mono ?_;rintro e w1 ⟨rfl,hb⟩)
 go_ret3
 exact⟨rfl,hb⟩
theorem q7e (A:Option Addr)(k c:Nat)(l:List UInt8)(w:World)(h:Sl w A k c l)(hk:k≤17592186044416)(hw:WholeT l 1) :
  Calls Tryz.prog 143 #[.slice A k c] w fun e w'=>∃A2 n2 c2,e=.returned (.tuple #[.string ⟨(bodyT l 1).toArray⟩,.slice A2 n2 c2,.int .i64 0])∧
   Sl w' A2 n2 c2 (restT l 1)∧(∀ad,A2=some ad→w.heap.size≤ad.block)∧Below w.heap.size w w':=by
 have Hw:=Lib.hid hw
 clear hw
 go_enter Tryz.func143,Tryz.ntmps143
 go_wp2_with (go_at_call 187;refine (qix A k c l 1 w h hk (by omega) (by omega) Hw.out).mono ?_;rintro e w1 ⟨A1,n1,c1,A2,n2,c2,rfl,h1,h2,hfr,hb⟩;have hc:=convT h1)
 go_ret3
 exact⟨_,_,_,rfl,h2,hfr,hb⟩
theorem qfa (A:Option Addr)(k c:Nat)(n:Int)(w:World)(hn:(k:Int)<n) :
  Calls Tryz.prog 210 #[.slice A k c,.int .i64 n] w fun e w'=>e=.returned (.tuple #[.slice none 0 0,.slice none 0 0,.bool false])∧w=w':=by
 go_enter Tryz.func210,Tryz.ntmps210
 go_wp2
 go_ret3
 exact⟨rfl,rfl⟩
theorem qln (A:Option Addr)(k c:Nat)(l:List UInt8)(n:Int)(w:World)(h:Sl w A k c l)(h1:1≤n)(h7:n≤6)(hn:n≤(k:Int))(hs:k<n.toNat+numL (l.take n.toNat)) :
  Calls Tryz.prog 210 #[.slice A k c,.int .i64 n] w fun e w'=>e=.returned (.tuple #[.slice none 0 0,.slice none 0 0,.bool false])∧w=w':=by
 obtain⟨m,rfl⟩:=Int.eq_ofNat_of_zero_le (show 0≤n by omega)
 rw[Int.toNat_natCast] at hs
 have hc:=h.cap
 have hm:=h.max
 unfold maxLen at hm
 have hi1:m≤c:=by omega
 have h2:=h.take (k:=m) (by omega)
 have hv:numL (l.take m)<281474976710656:=by
  have h1:=q4j (l.take m)
  have h2:(256:Nat) ^ (l.take m).length≤256 ^ 6:=Nat.pow_le_pow_right (by omega) (by rw[List.length_take];omega)
  omega
 go_enter Tryz.func210,Tryz.ntmps210
 go_wp2_with (go_at_call 211;refine (q6p _ _ _ (l.take m) _ h2 (by omega)).mono ?_;rintro e w1 ⟨rfl,rfl⟩)
 go_ret3
 exact⟨rfl,rfl⟩
theorem qlo (A:Option Addr)(k c:Nat)(l:List UInt8)(n:Int)(w:World)(h:Sl w A k c l)(h1:1≤n)(h7:n≤6)(hn:n≤(k:Int))(hs:n.toNat+numL (l.take n.toNat)≤k) :
  Calls Tryz.prog 210 #[.slice A k c,.int .i64 n] w fun e w'=>∃A1 n1 c1 A2 n2 c2,e=.returned (.tuple #[.slice A1 n1 c1,.slice A2 n2 c2,.bool true])∧
   Sl w' A1 n1 c1 ((l.drop n.toNat).take (numL (l.take n.toNat)))∧Sl w' A2 n2 c2 (l.drop (n.toNat+numL (l.take n.toNat)))∧Below w.heap.size w w':=by
 obtain⟨m,rfl⟩:=Int.eq_ofNat_of_zero_le (show 0≤n by omega)
 rw[Int.toNat_natCast] at hs ⊢
 have hc:=h.cap
 have hm:=h.max
 unfold maxLen at hm
 have hi1:m≤c:=by omega
 have h2:=h.take (k:=m) (by omega)
 generalize hv:numL (l.take m)=v at hs ⊢
 have Hv:=Lib.hid hv
 clear hv
 have hi2:m+v≤c:=by omega
 obtain⟨A1,hA1,h3⟩:∃A1,(if c=m then A else Option.map (fun x=>x.add m) A)=A1∧Sl w A1 (k-m) (c-m) (l.drop m):=⟨_,rfl,h.drop (by omega)⟩
 obtain⟨A2,hA2,h4⟩:∃A2,(if c=m+v then A else Option.map (fun x=>x.add (m+v)) A)=A2∧Sl w A2 (k-(m+v)) (c-(m+v)) (l.drop (m+v)):=⟨_,rfl,h.drop (by omega)⟩
 have h5:=h3.take (k:=v) (by omega)
 go_enter Tryz.func210,Tryz.ntmps210
 go_wp2_with (go_at_call 211;refine (q6p _ _ _ (l.take m) _ h2 (by omega)).mono ?_;rw[Hv.out];rintro e w1 ⟨rfl,rfl⟩)
 go_quiet (fail)
 go_wp2
 ·have hcm:c=m+v:=by assumption
  subst hcm
  go_ret3
  rw[if_pos rfl] at hA2
  subst hA2
  rw[show m+v-m=v by omega] at h5
  rw[Nat.sub_self] at h4
  exact⟨_,_,_,_,_,_,rfl,h5,h4,q0s (Below.refl _ _) _⟩
 ·have hcm:¬c=m+v:=by assumption
  go_ret3
  rw[if_neg hcm] at hA2
  subst hA2
  exact⟨_,_,_,_,_,_,rfl,h5,h4,q0s (Below.refl _ _) _⟩
theorem qog (s:ByteArray)(w:World):(convert 9 30 (.string s)).run Tryz.prog w=.ok (.slice (some ⟨w.heap.size,0,none⟩) s.size (grownCap w s.size 0 5)) (Lib.bytesWorld w 5 s):=
 Lib.run_convert_string_bytes w 9 30 5 s Tryz.underlying9 Tryz.underlying30 Tryz.underlying5
theorem qdl (A:Option Addr)(k c:Nat)(l:List UInt8)(s:ByteArray)(w:World)(h:Sl w A k c l)(hk:k≤17592186044416)(hs:s.size≤255) :
  Calls Tryz.prog 195 #[.slice A k c,.string s] w fun e w'=>∃A' n' c',e=.returned (.tuple #[.slice A' n' c',.int .i64 0])∧Own w' w.heap.size 5 A' n' c' (l++(dig s.size 1++s.data.toList))∧Below w.heap.size w w':=by
 have Hl:=Lib.hid h.len
 have hconv:=qog s
 go_enter Tryz.func195,Tryz.ntmps195
 go_wp2_with (go_at_call 202;refine (q9w s.size 1 _ (by omega) (by omega)).mono ?_;rintro e w1 ⟨A1,c1,rfl,hown1,hb1⟩)
 have hd:=q2g w1 5 s
 have hx:=q4t w1 5 s (by unfold maxLen;omega)
 have hz:=hb1.size
 have hz2:=hd.size
 have hsl:=hown1.sl
 rw[show Int.toNat 1=1 from rfl] at hsl
 refine (q4z _ _ _ [l,dig s.size 1,s.data.toList] _ (parts3 30 ((h.below hb1).below hd) (hsl.below hd) hx) (by rw[tot3,q0b,Hl.out];simp;omega)).mono ?_
 rintro e w2 ⟨A2,n2,c2,rfl,hown2,hb2⟩
 go_wp2
 go_ret2
 rw[cat3] at hown2
 exact⟨_,_,_,rfl,hown2.less (by simp;omega),hb1.trans ((hd.mono hz).trans (((Below.refl _ _).alloc (by omega) _).trans (hb2.mono (by simp;omega))))⟩
theorem qlp (A:Option Addr)(k c:Nat)(l:List UInt8)(n:Int)(w:World)(h:Sl w A k c l)(h1:1≤n)(h7:n≤6)(hw:¬WholeT l n.toNat) :
  Calls Tryz.prog 210 #[.slice A k c,.int .i64 n] w fun e w'=>e=.returned (.tuple #[.slice none 0 0,.slice none 0 0,.bool false])∧w=w':=by
 have hl:=h.len
 rcases (by omega:(k:Int)<n∨n≤(k:Int)) with hk|hk
 ·exact qfa A k c n w hk
 ·refine qln A k c l n w h h1 h7 hk ?_
  unfold WholeT at hw
  rcases Nat.lt_or_ge k (n.toNat+numL (l.take n.toNat)) with h2|h2
  ·exact h2
  ·exact absurd ⟨by omega,by omega⟩ hw
theorem qdm (A:Option Addr)(k c:Nat)(l:List UInt8)(w:World)(h:Sl w A k c l)(hw:¬WholeT l 1) :
  Calls Tryz.prog 184 #[.slice A k c] w fun e w'=>e=.returned (.tuple #[.string ⟨#[]⟩,.slice none 0 0,.int .i64 2])∧w=w':=by
 have Hw:=Lib.hid hw
 clear hw
 go_enter Tryz.func184,Tryz.ntmps184
 go_wp2_with (go_at_call 210;refine (qlp _ _ _ l 1 _ h (by omega) (by omega) Hw.out).mono ?_;rintro e w1 ⟨rfl,rfl⟩)
 go_ret3
 exact⟨rfl,rfl⟩
theorem qlq (A:Option Addr)(k c:Nat)(l:List UInt8)(n:Int)(w:World)(h:Sl w A k c l)(h1:1≤n)(h7:n≤6)(hw:WholeT l n.toNat) :
  Calls Tryz.prog 210 #[.slice A k c,.int .i64 n] w fun e w'=>∃A1 n1 c1 A2 n2 c2,e=.returned (.tuple #[.slice A1 n1 c1,.slice A2 n2 c2,.bool true])∧
   Sl w' A1 n1 c1 (bodyT l n.toNat)∧Sl w' A2 n2 c2 (restT l n.toNat)∧Below w.heap.size w w':=by
 have hl:=h.len
 obtain⟨ha,hb⟩:=hw
 exact qlo A k c l n w h h1 h7 (by omega) (by omega)
theorem qbn (A:Option Addr)(k c:Nat)(l:List UInt8)(w:World)(h:Sl w A k c l)(hk:k≤17592186044416)(hw:WholeT l 1) :
  Calls Tryz.prog 184 #[.slice A k c] w fun e w'=>∃A2 n2 c2,e=.returned (.tuple #[.string ⟨(bodyT l 1).toArray⟩,.slice A2 n2 c2,.int .i64 0])∧
   Own w' w.heap.size 5 A2 n2 c2 (restT l 1)∧Below w.heap.size w w':=by
 have Hl:=Lib.hid h.len
 have Hw:=Lib.hid hw
 clear hw
 have hle1:=qgz l 1
 have hle2:=qh0 l 1
 go_enter Tryz.func184,Tryz.ntmps184
 go_wp2_with (go_at_call 210;refine (qlq _ _ _ l 1 _ h (by omega) (by omega) Hw.out).mono ?_;rintro e w1 ⟨A1,n1,c1,A2,n2,c2,rfl,h1,h2,hb1⟩)
 rw[show Int.toNat 1=1 from rfl] at h1 h2
 have hz:=hb1.size
 have hc1:=convT (w:=w1.drew) h1
 have hc2:∀o,(convert 30 9 (.slice A1 n1 c1)).run Tryz.prog (w1.alloc o).drew=.ok (.string ⟨(bodyT l 1).toArray⟩) (w1.alloc o).drew:=fun o=>convT (w:=(w1.alloc o).drew) (h1.alloc o)
 have hlen:(restT l 1).length≤17592186044416:=by have:=Hl.out;omega
 go_region_with (go_at_call 201;refine (q4z _ _ _ [restT l 1] _ (by first|exact parts1 (w:=w1) 30 h2|exact parts1 (w:=w1.drew) 30 h2) (by rw[tot1];omega)).mono ?_;rintro e w3 ⟨A3,n3,c3,rfl,hown3,hb3⟩;have hb3':Below w1.heap.size w1 w3:=(by first|exact ((Below.refl _ w1).alloc (Nat.le_refl _) _).drew.trans (hb3.mono (by simp))|exact ((Below.refl _ w1).drew.alloc (Nat.le_refl _) _).trans (hb3.mono (by simp)));have hc3:=convT (h1.below hb3'))
 all_goals
  go_wp2
  go_ret3
  rw[cat1] at hown3
  exact⟨_,_,_,rfl,hown3.less (by simp;omega),hb1.trans (hb3'.mono hz)⟩
end Go.Proofs.YtipejjgodnnkaaaGreatDoor
