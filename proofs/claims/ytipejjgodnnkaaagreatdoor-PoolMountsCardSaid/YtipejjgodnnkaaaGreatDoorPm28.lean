/- The code's node: whether all are noughts, by the library's Count -/
import Derived.Test.YtipejjgodnnkaaaGreatDoorPm8
import Derived.Test.YtipejjgodnnkaaaGreatDoorPm18
import Derived.Test.YtipejjgodnnkaaaGreatDoorNodeK
import Derived.Test.YtipejjgodnnkaaaGreatDoorPm27
import Derived.Shelf.Bytes.SlCountOne
import Derived.Laws.Externs
namespace Go.Proofs.YtipejjgodnnkaaaGreatDoor
open Go Go.RowKit Go.Proofs
set_option maxHeartbeats 8000000
set_option maxRecDepth 100000
def ints (l:List UInt8):List Int:=l.map fun x=>(x.toNat:Int)
theorem qip (l:List UInt8):Lib.bytesOf (ints l)=l:=by
 unfold Lib.bytesOf ints
 rw[List.map_map]
 conv=>rhs;rw[←List.map_id l]
 refine List.map_congr_left fun x _=>?_
 simp
theorem qrh {w:World}{a:Addr}{n c:Nat}{l:List UInt8}(h:Sl w (some a) n c l):∀i,i<n→w.cell? (a.add i)=some (.int .u8 ((ints l).getD i 0)):=by
 intro i hi
 obtain⟨ad,e,_,hc⟩:=h.cell hi
 injection e with e
 subst e
 rw[hc]
 have hl:i<l.length:=by have:=h.len;omega
 simp[ints,byt,List.getD_eq_getElem?_getD,List.getElem?_map,List.getElem?_eq_getElem hl]
theorem qbl {P:Program}{w:World}{A:Option Addr}{n c:Nat}{l:List UInt8}(h:Sl w A n c l)(cv:Int) :
  (Extern.BytealgCount.count #[.slice A n c,.int .u8 cv]).run P w=.ok (.int .i64 (Lib.countByte l cv.toNat.toUInt8)) w:=by
 cases A with
 |some a=>
  have:=Lib.run_countAt (P:=P) w a n c (ints l) (by unfold ints;rw[List.length_map];exact h.len) (qrh h) cv
  rwa [qip] at this
 |none=>
  have hn:n=0:=by
   rcases Nat.eq_zero_or_pos n with h0|h0
   ·exact h0
   ·obtain⟨ad,e,_⟩:=h.cell h0
    cases e
  have hl:l=[]:=List.eq_nil_of_length_eq_zero (by rw[h.len];exact hn)
  rw[Lib.run_countNil,hl]
  rfl
theorem qde (l:List UInt8):(Lib.countByte l 0=l.length)↔allZ l=true:=by
 unfold Lib.countByte allZ
 rw[List.count_eq_length,List.all_eq_true]
 constructor
 ·intro h x hx
  rw[←h x hx];rfl
 ·intro h x hx
  have:=h x hx
  exact (by simpa using this:x=0).symm
theorem qa3 (A:Option Addr)(n c:Nat)(l:List UInt8)(g d:Nat)(w:World)(h:Sl w A n c l)(hc:w.cell? ⟨g,0,none⟩=some (.int .u8 0)) :
  Calls Tryz.prog 133 #[.slice A n c,.slice (some ⟨g,0,none⟩) 1 d] w fun e w'=>e=.returned (.int .i64 (Lib.countByte l 0:Nat))∧w=w':=by
 go_enter Tryz.func133,Tryz.ntmps133
 go_wp2
 rw[run_callFunc_extern Tryz.func181 (by kernel_rfl) (by kernel_rfl) (by kernel_rfl) (e:=Extern.BytealgCount.count) (by kernel_rfl),qbl h 0]
 simp only[Result.andThen]
 rw[Oper.upon_value]
 go_wp2
 go_ret
 exact⟨rfl,rfl⟩
theorem q30 (A:Option Addr)(n c:Nat)(l:List UInt8)(r:Bool)(hr:allZ l=r)(w:World)(h:Sl w A n c l) :
  Calls Tryz.prog 141 #[.slice A n c] w fun e w'=>e=.returned (.bool r)∧Below w.heap.size w w':=by
 have hlen:=h.len
 have b1:Below w.heap.size w (w.alloc (.cells #[.int .u8 0] 5)):=blA
 have hc:(w.alloc (.cells #[.int .u8 0] 5)).cell? ⟨w.heap.size,0,none⟩=some (.int .u8 0):=by rw[cell_of_row _ _ _ _ _ _ (heap_alloc_new w _)];rfl
 obtain⟨q,hq⟩:∃q,Lib.countByte l 0=q:=⟨_,rfl⟩
 have hres:=Lib.hid (show ((q:Int)==(n:Int))=r by
  have:=qde l
  rw[hq,hlen,hr] at this
  cases r
  ·exact decide_eq_false (fun e:(q:Int)=(n:Int)=>by have:=this.1 (by omega);cases this)
  ·exact decide_eq_true (by have:=this.2 rfl;omega:(q:Int)=(n:Int)))
 clear hlen
 go_enter Tryz.func141,Tryz.ntmps141
 go_wp2_with fail
 refine (qa3 A n c l w.heap.size 1 _ (h.below b1) hc).mono ?_
 rw[hq]
 rintro e w2 ⟨rfl,rfl⟩
 go_wp2
 go_ret
 exact⟨by rw[←hres.out];rfl,b1⟩
def cfin (H:Hd)(addr:Int):Option (Nd × List UInt8)→Option Nd
 |some (N,r)=>if H.kind=(if H.level=0 then 3 else 4)∧H.addr=addr∧allZ r=true∧N.may=true then some N else none
 |none=>none
def creadN (b:List UInt8)(addr:Int):Option Nd:=if opE b=0 then cfin (opH b) addr (rnTo (opH b).level (opB b) (opH b).count.toNat) else none
def q2u (b:List UInt8)(addr:Int)(w:World)(e:Ending)(w':World):Prop:=
 ∃A1 n1 c1 B1 m1 d1,e=.returned (.tuple #[.agg #[.int .i64 ((creadN b addr).getD ⟨0,[],[]⟩).lvl,.slice A1 n1 c1,.slice B1 m1 d1],.int .i64 (if (creadN b addr).isSome=true then 0 else 3)])∧n1≤20∧m1≤20∧
   Itms w' A1 n1 c1 ((creadN b addr).getD ⟨0,[],[]⟩).items∧Kidl w' B1 m1 d1 ((creadN b addr).getD ⟨0,[],[]⟩).kids∧Below w.heap.size w w'
theorem q2j {b:List UInt8}{addr:Int}{w w':World}(h:creadN b addr=none)(hb:Below w.heap.size w w'):q2u b addr w (.returned (.tuple #[.agg #[.int .i64 0,.slice none 0 0,.slice none 0 0],.int .i64 3])) w':=by
 unfold q2u
 rw[h]
 exact⟨none,0,0,none,0,0,rfl,by omega,by omega,q1b w',q1c w',hb⟩
theorem qdf {b:List UInt8}{addr:Int}{N:Nd}{w w':World}(h:creadN b addr=some N){A:Option Addr}{n c:Nat}{B:Option Addr}{m d:Nat}(hn:n≤20)(hm:m≤20)(hI:Itms w' A n c N.items)(hK:Kidl w' B m d N.kids)(hb:Below w.heap.size w w') :
  q2u b addr w (.returned (.tuple #[.agg #[.int .i64 N.lvl,.slice A n c,.slice B m d],.int .i64 0])) w':=by
 unfold q2u
 rw[h]
 exact⟨A,n,c,B,m,d,rfl,hn,hm,hI,hK,hb⟩
theorem qdg (A:Option Addr)(k c:Nat)(b:List UInt8)(addr:Int)(w:World)(hs:Sl w A k c b)(ht:Tab w) :
  Calls Tryz.prog 84 #[.slice A k c,.int .i64 addr] w fun e w'=>q2u b addr w e w':=by
 go_enter Tryz.func84,Tryz.ntmps84
 go_wp2_with fail
 have R1:NB (w.alloc (.cells #[.int .i64 0,.slice none 0 0,.slice none 0 0] 29)) w.heap.size 0 none 0 0 none 0 0:=NB.new w _ _ _ _ _ _ _ _
 have W1:Below w.heap.size w (w.alloc (.cells #[.int .i64 0,.slice none 0 0,.slice none 0 0] 29)):=blA
 generalize w.alloc (.cells #[.int .i64 0,.slice none 0 0,.slice none 0 0] 29)=w1 at R1 W1 ⊢
 have hO:=q3y A k c b w1 (hs.below W1) (ht.below W1 ht.1)
 unfold q1k Hd.v at hO
 obtain⟨H,hH⟩:∃H,opH b=H:=⟨_,rfl⟩
 obtain⟨R,hR⟩:∃R,opB b=R:=⟨_,rfl⟩
 obtain⟨E,hE⟩:∃E,opE b=E:=⟨_,rfl⟩
 rw[hH,hR,hE] at hO
 refine hO.mono ?_
 clear hO
 rintro e v ⟨A2,n2,c2,rfl,own2,hb2⟩
 have Rv:=R1.below hb2 R1.lt
 have Wv:=W1.trans (hb2.mono W1.size)
 have bx:Below v.heap.size v (v.alloc (.cells #[.int .i64 H.kind,.int .i64 H.addr,.int .i64 H.count,.int .i64 H.level,.int .i64 H.gen] 118)):=blA
 have H3:HB (v.alloc (.cells #[.int .i64 H.kind,.int .i64 H.addr,.int .i64 H.count,.int .i64 H.level,.int .i64 H.gen] 118)) v.heap.size H:=⟨_,heap_alloc_new v _⟩
 have R3:=Rv.below bx Rv.lt
 have W3:=Wv.trans (bx.mono Wv.size)
 have s3:=own2.sl.below bx
 have zw:w.heap.size<v.heap.size:=Rv.lt
 have zv3:v.heap.size<(v.alloc (.cells #[.int .i64 H.kind,.int .i64 H.addr,.int .i64 H.count,.int .i64 H.level,.int .i64 H.gen] 118)).heap.size:=by simp
 by_cases hE0:E=0
 ·subst hE0
  have hlen:R.length≤236:=by
   cases hb:okB b
   ·obtain⟨_,_,h3⟩:=q4q hb
    rw[h3] at hE;omega
   ·obtain⟨_,h2,_⟩:=q2f hb
    have:=(of_decide_eq_true hb).1
    rw[←hR,h2,List.length_drop];omega
  have hok:=qka hE
  rw[hH] at hok
  have hin:(0≤H.level∧H.level≤8)∧0≤H.count∧H.count≤65535:=by
   have:=of_decide_eq_true hok
   omega
  obtain⟨⟨hl0,hl8⟩,hc0,hc1⟩:=hin
  have hn2:n2≤236:=by have:=own2.len;omega
  have Hread:=Lib.hid (show creadN b addr=cfin H addr (rnTo H.level R H.count.toNat) by unfold creadN;rw[hE,if_pos rfl,hH,hR])
  have hA2:∀g,q02 A2=some g→g<v.heap.size:=fun g hg=>by
   cases A2 with
   |none=>cases hg
   |some ad=>have:=(own2.block ad rfl).2;have e:ad.block=g:=Option.some.inj hg;omega
  clear hok hE hH hR Rv Wv bx own2 hb2
  obtain⟨kd,ad,ct,lv,gn⟩:=H
  simp only at hl0 hl8 hc0 hc1
  obtain⟨cnt,rfl⟩:∃cnt:Nat,ct=(cnt:Int):=⟨ct.toNat,by omega⟩
  obtain⟨Kb,hKb⟩:∃Kb:Int,(if lv=0 then 3 else 4)=Kb:=⟨_,rfl⟩
  have Hkb:=Lib.hid hKb
  clear hKb
  go_wp2_with fail
  generalize v.alloc (.cells #[.int .i64 kd,.int .i64 ad,.int .i64 (cnt:Int),.int .i64 lv,.int .i64 gn] 118)=w3 at H3 R3 W3 s3 zv3 ⊢
  have y0:=H3.at_ 0
  have y1:=H3.at_ 2
  have y3:=H3.at_ 1
  simp only[foff,Hd.fld] at y0 y1 y3
  have p0:∀u:Grown w3,u.to.cell? ⟨v.heap.size,0,none⟩=some (.int .i64 kd):=Grown.cell y0 zv3
  have p1:∀u:Grown w3,u.to.cell? ⟨v.heap.size,1,none⟩=some (.int .i64 ad):=Grown.cell y1 zv3
  have p3:∀u:Grown w3,u.to.cell? ⟨v.heap.size,3,none⟩=some (.int .i64 lv):=Grown.cell y3 zv3
  clear y0 y1 y3
  by_cases hk:kd=Kb
  ·have Hk:=Lib.hid hk
   have k1:(kd==Kb)=true:=by simp[hk]
   have k2:(kd != Kb)=false:=by simp[hk]
   clear hk
   by_cases ha:ad=addr
   ·have Ha:=Lib.hid ha
    have a1:(ad==addr)=true:=by simp[ha]
    have a2:(ad != addr)=false:=by simp[ha]
    clear ha
    refine q0c (by kernel_rfl) (by kernel_rfl) ?_
    repeat (go_big_quiet_step (first
     |(go_at_call 135;exact Calls.grown_same (q3o lv Kb Hkb.out _))
     |fail))
    refine wpQuiet_nil ?_
    rintro _ ⟨u,rfl⟩
    have H4:=H3.below u.ok zv3
    have R4:=R3.below u.ok R3.lt
    have W4:=W3.trans (u.ok.mono W3.size)
    have s4:=s3.below u.ok
    have H4lt:v.heap.size<u.to.heap.size:=Nat.lt_of_lt_of_le zv3 u.ok.size
    generalize u.to=w4 at H4 R4 W4 s4 H4lt ⊢
    clear p0 p1 p3 H3 R3 W3 s3 zv3 k1 k2 a1 a2 u
    have y3:=H4.at_ 1
    simp only[foff,Hd.fld] at y3
    by_cases hlv:lv=0
    ·subst hlv
     have HK3:=Lib.hid (show Kb=3 by rw[←Hkb.out];rfl)
     go_wp2_with fail
     have N5:NB (w4.alloc (.cells #[.int .i64 0,.slice none 0 0,.slice none 0 0] 29)) w4.heap.size 0 none 0 0 none 0 0:=NB.new w4 _ _ _ _ _ _ _ _
     have b5:Below w4.heap.size w4 (w4.alloc (.cells #[.int .i64 0,.slice none 0 0,.slice none 0 0] 29)):=blA
     have H5:=H4.below b5 H4lt
     have R5:=R4.below b5 R4.lt
     have W5:=W4.trans (b5.mono W4.size)
     have s5:=s4.below b5
     generalize w4.alloc (.cells #[.int .i64 0,.slice none 0 0,.slice none 0 0] 29)=w5 at N5 b5 H5 R5 W5 s5 ⊢
     obtain⟨nb,hnb⟩:∃nb,w4.heap.size=nb:=⟨_,rfl⟩
     have hvn:v.heap.size<nb:=by rw[←hnb];exact H4lt
     rw[hnb] at N5 ⊢
     clear hnb b5 H4 R4 W4 s4 H4lt
     refine (q3b 0 true rfl none 0 0 none 0 0 w5).mono ?_
     rintro e w6 ⟨rfl,hb6⟩
     have N6:=N5.below hb6 N5.lt
     have H6:=H5.below hb6 (by have:=N5.lt;omega)
     have R6:=R5.below hb6 R5.lt
     have W6:=W5.trans (hb6.mono W5.size)
     have s6:=s5.below hb6
     have y2:=H6.at_ 3
     simp only[foff,Hd.fld] at y2
     clear N5 H5 R5 W5 s5 hb6
     go_wp2_with fail
     refine (qi5 R cnt A2 n2 c2 w6 s6 (by omega) (by omega)).mono ?_
     rintro e w7 (⟨xs,r,A1,c1,A4,n4,c4,hrn,rfl,hc1000,row,s7,hfar,hb7⟩|⟨E,hE,hrn,rfl,hb7⟩)
     ·have hrd:=Lib.hid (show creadN b addr=(if allZ r=true∧(⟨0,xs,[]⟩:Nd).may=true then some (⟨0,xs,[]⟩:Nd) else none) by
        rw[Hread.out]
        show cfin ⟨kd,ad,(cnt:Int),0,gn⟩ addr (rnTo 0 R (cnt:Int).toNat)=_
        rw[Int.toNat_natCast,hrn]
        show (if kd=(if (0:Int)=0 then 3 else 4)∧ad=addr∧allZ r=true∧(⟨0,xs,[]⟩:Nd).may=true then some (⟨0,xs,[]⟩:Nd) else none)=_
        rw[if_pos (rfl:(0:Int)=0),←HK3.out]
        by_cases hz:allZ r=true∧(⟨0,xs,[]⟩:Nd).may=true
        ·rw[if_pos hz,if_pos ⟨Hk.out,Ha.out,hz⟩]
        ·rw[if_neg hz,if_neg (fun h=>hz h.2.2)])
      have N7:=N6.below hb7 N6.lt
      have R7:=R6.below hb7 R6.lt
      have W7:=W6.trans (hb7.mono W6.size)
      have z6:nb<w6.heap.size:=N6.lt
      have f1:=N7.fz 1
      have g1:=N7.c1
      have TS:Turn (fun g=>g=nb) w7 (w7.setCell ⟨nb,1,none⟩ (.slice A1 cnt c1)):=q0e (a:=⟨nb,1,none⟩) _ rfl
      have N8:=N7.set1 A1 cnt c1
      have R8:=R7.keep (TS.block w.heap.size R7.lt (by show ¬w.heap.size=nb;omega))
      have row8:=row.low TS (fun k hk=>by have:k=nb:=hk;omega)
      have s8:=s7.turned TS (fun g hg e=>by
       have h2:g=nb:=e
       rcases hfar g hg with h1|h1
       ·have:=hA2 g h1;omega
       ·omega)
      have W8:=W7.trans (TS.below (B:=w.heap.size) (fun x hx=>by have:x=nb:=hx;omega) (by have:=W7.size;omega))
      clear N6 R6 W6 s6 H6 hb7 N7 R7 W7 row s7 hfar hrn y2
      go_wp2_with fail
      generalize w7.setCell ⟨nb,1,none⟩ (.slice A1 cnt c1)=w8 at N8 R8 row8 s8 W8 TS ⊢
      clear TS f1 g1
      cases hz:allZ r
      ·refine (q30 A4 n4 c4 r false hz w8 s8).mono ?_
       rintro e w9 ⟨rfl,hb9⟩
       have R9:=R8.below hb9 R8.lt
       have W9:=W8.trans (hb9.mono W8.size)
       have hno:=Lib.hid (hrd.out.trans (if_neg (fun h=>by rw[hz] at h;exact absurd h.1 (by simp))))
       clear hz hrd
       go_wp2_with (first
        |(refine q07 rfl (.tmp 4) (.tmp 68) rfl w.heap.size rfl 0 none 0 0 none 0 0 rfl R9 ?_;intro wz Rz Tz)
        |fail)
       refine bodyPost_ret (q0r Tryz.results84 rfl (q0i Rz)) rfl ?_
       exact q2j hno.out (W9.trans (Tz.belowOne R9.lt))
      ·refine (q30 A4 n4 c4 r true hz w8 s8).mono ?_
       rintro e w9 ⟨rfl,hb9⟩
       have N9:=N8.below hb9 N8.lt
       have R9:=R8.below hb9 R8.lt
       have row9:=row8.below hb9
       have W9:=W8.trans (hb9.mono W8.size)
       have q0:=N9.c0
       have q1:=N9.c1
       have q2:=N9.c2
       have Hz:=Lib.hid hz
       clear hz N8 R8 row8 s8 W8 hb9
       go_wp2_with fail
       cases hm:(⟨0,xs,[]⟩:Nd).may
       ·refine (q27 ⟨0,xs,[]⟩ false hm A1 cnt c1 none 0 0 w9 row9.itms (q1c w9) (by omega) (by omega)).mono ?_
        rintro e wA ⟨rfl,hbA⟩
        have RA:=R9.below hbA R9.lt
        have WA:=W9.trans (hbA.mono W9.size)
        have hno:=Lib.hid (hrd.out.trans (if_neg (fun h=>by rw[hm] at h;exact absurd h.2 (by simp))))
        clear hm hrd q0 q1 q2
        go_wp2_with (first
         |(refine q07 rfl (.tmp 4) (.tmp 68) rfl w.heap.size rfl 0 none 0 0 none 0 0 rfl RA ?_;intro wz Rz Tz)
         |fail)
        refine bodyPost_ret (q0r Tryz.results84 rfl (q0i Rz)) rfl ?_
        exact q2j hno.out (WA.trans (Tz.belowOne RA.lt))
       ·refine (q27 ⟨0,xs,[]⟩ true hm A1 cnt c1 none 0 0 w9 row9.itms (q1c w9) (by omega) (by omega)).mono ?_
        rintro e wA ⟨rfl,hbA⟩
        have RA:=R9.below hbA R9.lt
        have NA:=N9.below hbA N9.lt
        have rowA:=row9.below hbA
        have WA:=W9.trans (hbA.mono W9.size)
        have hyes:=Lib.hid (hrd.out.trans (if_pos (And.intro Hz.out hm)))
        have hsz:=q1v hm
        have hc20:cnt≤20:=by have h1:=hsz.1;have h2:=rowA.itms.len;have h3:xs.length≤6:=h1;omega
        have q0:=NA.c0
        have q1:=NA.c1
        have q2:=NA.c2
        clear hm hrd hsz
        go_wp2_with (first
         |(refine q07 rfl (.tmp 4) (.tmp 69) rfl w.heap.size rfl 0 A1 cnt c1 none 0 0 rfl RA ?_;intro wz Rz Tz)
         |fail)
        refine bodyPost_ret (q0r Tryz.results84 rfl (q0i Rz)) rfl ?_
        have rowz:=rowA.low Tz (fun k hk=>by have:k=w.heap.size:=hk;omega)
        exact qdf hyes.out hc20 (by omega) rowz.itms (q1c wz) (WA.trans (Tz.belowOne RA.lt))
     ·have hno:=Lib.hid (show creadN b addr=none by
        rw[Hread.out]
        show cfin ⟨kd,ad,(cnt:Int),0,gn⟩ addr (rnTo 0 R (cnt:Int).toNat)=none
        rw[Int.toNat_natCast,hrn];rfl)
      have N7:=N6.below hb7 N6.lt
      have R7:=R6.below hb7 R6.lt
      have W7:=W6.trans (hb7.mono W6.size)
      have f1:=N7.fz 1
      have g1:=N7.c1
      have TS:Turn (fun g=>g=nb) w7 (w7.setCell ⟨nb,1,none⟩ (.slice none 0 0)):=q0e (a:=⟨nb,1,none⟩) _ rfl
      have R8:=R7.keep (TS.block w.heap.size R7.lt (by show ¬w.heap.size=nb;omega))
      have W8:=W7.trans (TS.below (B:=w.heap.size) (fun x hx=>by have:x=nb:=hx;omega) (by have:=W7.size;omega))
      have hE1:decide (E=0)=false:=decide_eq_false hE
      have hE2:(E==0)=false:=by simp[hE]
      have hE3:(E != 0)=true:=by simp[hE]
      clear N6 R6 W6 s6 H6 hb7 N7 R7 W7 hrn y2 TS
      go_wp2_with (first
       |(refine q07 rfl (.tmp 4) (.tmp 68) rfl w.heap.size rfl 0 none 0 0 none 0 0 rfl R8 ?_;intro wz Rz Tz)
       |fail)
      refine bodyPost_ret (q0r Tryz.results84 rfl (q0i Rz)) rfl ?_
      exact q2j hno.out (W8.trans (Tz.belowOne R8.lt))
    ·have hlvb:decide (lv=0)=false:=decide_eq_false hlv
     go_wp2_with fail
     have N5:NB (w4.alloc (.cells #[.int .i64 lv,.slice none 0 0,.slice none 0 0] 29)) w4.heap.size lv none 0 0 none 0 0:=NB.new w4 _ _ _ _ _ _ _ _
     have b5:Below w4.heap.size w4 (w4.alloc (.cells #[.int .i64 lv,.slice none 0 0,.slice none 0 0] 29)):=blA
     have H5:=H4.below b5 H4lt
     have R5:=R4.below b5 R4.lt
     have W5:=W4.trans (b5.mono W4.size)
     have s5:=s4.below b5
     generalize w4.alloc (.cells #[.int .i64 lv,.slice none 0 0,.slice none 0 0] 29)=w5 at N5 b5 H5 R5 W5 s5 ⊢
     obtain⟨nb,hnb⟩:∃nb,w4.heap.size=nb:=⟨_,rfl⟩
     have hvn:v.heap.size<nb:=by rw[←hnb];exact H4lt
     rw[hnb] at N5 ⊢
     clear hnb b5 H4 R4 W4 s4 H4lt
     refine (q3b lv false (decide_eq_false hlv) none 0 0 none 0 0 w5).mono ?_
     rintro e w6 ⟨rfl,hb6⟩
     have N6:=N5.below hb6 N5.lt
     have H6:=H5.below hb6 (by have:=N5.lt;omega)
     have R6:=R5.below hb6 R5.lt
     have W6:=W5.trans (hb6.mono W5.size)
     have s6:=s5.below hb6
     have y2:=H6.at_ 3
     simp only[foff,Hd.fld] at y2
     clear N5 H5 R5 W5 s5 hb6
     go_wp2_with fail
     refine (qi6 lv hlv R cnt A2 n2 c2 w6 s6 (by omega) (by omega)).mono ?_
     rintro e w7 (⟨xs,r,A1,c1,A4,n4,c4,hrn,rfl,hc1000,row,s7,hfar,hb7⟩|⟨E,hE,hrn,rfl,hb7⟩)
     ·have hrd:=Lib.hid (show creadN b addr=(if allZ r=true∧(⟨lv,[],xs⟩:Nd).may=true then some (⟨lv,[],xs⟩:Nd) else none) by
        rw[Hread.out]
        show cfin ⟨kd,ad,(cnt:Int),lv,gn⟩ addr (rnTo lv R (cnt:Int).toNat)=_
        rw[Int.toNat_natCast,hrn]
        show (if kd=(if (lv:Int)=0 then 3 else 4)∧ad=addr∧allZ r=true∧(⟨lv,[],xs⟩:Nd).may=true then some (⟨lv,[],xs⟩:Nd) else none)=_
        rw[Hkb.out]
        by_cases hz:allZ r=true∧(⟨lv,[],xs⟩:Nd).may=true
        ·rw[if_pos hz,if_pos ⟨Hk.out,Ha.out,hz⟩]
        ·rw[if_neg hz,if_neg (fun h=>hz h.2.2)])
      have N7:=N6.below hb7 N6.lt
      have R7:=R6.below hb7 R6.lt
      have W7:=W6.trans (hb7.mono W6.size)
      have z6:nb<w6.heap.size:=N6.lt
      have f1:=N7.fz 2
      have g1:=N7.c2
      have TS:Turn (fun g=>g=nb) w7 (w7.setCell ⟨nb,2,none⟩ (.slice A1 cnt c1)):=q0e (a:=⟨nb,2,none⟩) _ rfl
      have N8:=N7.set2 A1 cnt c1
      have R8:=R7.keep (TS.block w.heap.size R7.lt (by show ¬w.heap.size=nb;omega))
      have row8:=row.turned TS (fun k hk e=>by have h1:=(row.blockLt k hk).1;have h2:k=nb:=e;omega)
      have s8:=s7.turned TS (fun g hg e=>by
       have h2:g=nb:=e
       rcases hfar g hg with h1|h1
       ·have:=hA2 g h1;omega
       ·omega)
      have W8:=W7.trans (TS.below (B:=w.heap.size) (fun x hx=>by have:x=nb:=hx;omega) (by have:=W7.size;omega))
      clear N6 R6 W6 s6 H6 hb7 N7 R7 W7 row s7 hfar hrn y2
      go_wp2_with fail
      generalize w7.setCell ⟨nb,2,none⟩ (.slice A1 cnt c1)=w8 at N8 R8 row8 s8 W8 TS ⊢
      clear TS f1 g1
      cases hz:allZ r
      ·refine (q30 A4 n4 c4 r false hz w8 s8).mono ?_
       rintro e w9 ⟨rfl,hb9⟩
       have R9:=R8.below hb9 R8.lt
       have W9:=W8.trans (hb9.mono W8.size)
       have hno:=Lib.hid (hrd.out.trans (if_neg (fun h=>by rw[hz] at h;exact absurd h.1 (by simp))))
       clear hz hrd
       go_wp2_with (first
        |(refine q07 rfl (.tmp 4) (.tmp 68) rfl w.heap.size rfl 0 none 0 0 none 0 0 rfl R9 ?_;intro wz Rz Tz)
        |fail)
       refine bodyPost_ret (q0r Tryz.results84 rfl (q0i Rz)) rfl ?_
       exact q2j hno.out (W9.trans (Tz.belowOne R9.lt))
      ·refine (q30 A4 n4 c4 r true hz w8 s8).mono ?_
       rintro e w9 ⟨rfl,hb9⟩
       have N9:=N8.below hb9 N8.lt
       have R9:=R8.below hb9 R8.lt
       have row9:=row8.below hb9
       have W9:=W8.trans (hb9.mono W8.size)
       have q0:=N9.c0
       have q1:=N9.c1
       have q2:=N9.c2
       have Hz:=Lib.hid hz
       clear hz N8 R8 row8 s8 W8 hb9
       go_wp2_with fail
       cases hm:(⟨lv,[],xs⟩:Nd).may
       ·refine (q27 ⟨lv,[],xs⟩ false hm none 0 0 A1 cnt c1 w9 (q1b w9) (show Kidl _ _ _ _ _ from row9.sls (by omega)) (by omega) (by omega)).mono ?_
        rintro e wA ⟨rfl,hbA⟩
        have RA:=R9.below hbA R9.lt
        have WA:=W9.trans (hbA.mono W9.size)
        have hno:=Lib.hid (hrd.out.trans (if_neg (fun h=>by rw[hm] at h;exact absurd h.2 (by simp))))
        clear hm hrd q0 q1 q2
        go_wp2_with (first
         |(refine q07 rfl (.tmp 4) (.tmp 68) rfl w.heap.size rfl 0 none 0 0 none 0 0 rfl RA ?_;intro wz Rz Tz)
         |fail)
        refine bodyPost_ret (q0r Tryz.results84 rfl (q0i Rz)) rfl ?_
        exact q2j hno.out (WA.trans (Tz.belowOne RA.lt))
       ·refine (q27 ⟨lv,[],xs⟩ true hm none 0 0 A1 cnt c1 w9 (q1b w9) (show Kidl _ _ _ _ _ from row9.sls (by omega)) (by omega) (by omega)).mono ?_
        rintro e wA ⟨rfl,hbA⟩
        have RA:=R9.below hbA R9.lt
        have NA:=N9.below hbA N9.lt
        have rowA:=row9.below hbA
        have WA:=W9.trans (hbA.mono W9.size)
        have hyes:=Lib.hid (hrd.out.trans (if_pos (And.intro Hz.out hm)))
        have hsz:=q1v hm
        have hc20:cnt≤20:=by have h1:=hsz.2.1;have h2:=(show Kidl _ _ _ _ xs from rowA.sls (by omega)).len;have h3:xs.length≤12:=h1;omega
        have q0:=NA.c0
        have q1:=NA.c1
        have q2:=NA.c2
        clear hm hrd hsz
        go_wp2_with (first
         |(refine q07 rfl (.tmp 4) (.tmp 69) rfl w.heap.size rfl lv none 0 0 A1 cnt c1 rfl RA ?_;intro wz Rz Tz)
         |fail)
        refine bodyPost_ret (q0r Tryz.results84 rfl (q0i Rz)) rfl ?_
        have rowz:=rowA.turned Tz (fun k hk e=>by have h1:=(rowA.blockLt k hk).1;have h2:k=w.heap.size:=e;omega)
        exact qdf hyes.out (by omega) hc20 (q1b wz) (show Kidl _ _ _ _ _ from rowz.sls (by omega)) (WA.trans (Tz.belowOne RA.lt))
     ·have hno:=Lib.hid (show creadN b addr=none by
        rw[Hread.out]
        show cfin ⟨kd,ad,(cnt:Int),lv,gn⟩ addr (rnTo lv R (cnt:Int).toNat)=none
        rw[Int.toNat_natCast,hrn];rfl)
      have N7:=N6.below hb7 N6.lt
      have R7:=R6.below hb7 R6.lt
      have W7:=W6.trans (hb7.mono W6.size)
      have f1:=N7.fz 2
      have g1:=N7.c2
      have TS:Turn (fun g=>g=nb) w7 (w7.setCell ⟨nb,2,none⟩ (.slice none 0 0)):=q0e (a:=⟨nb,2,none⟩) _ rfl
      have R8:=R7.keep (TS.block w.heap.size R7.lt (by show ¬w.heap.size=nb;omega))
      have W8:=W7.trans (TS.below (B:=w.heap.size) (fun x hx=>by have:x=nb:=hx;omega) (by have:=W7.size;omega))
      have hE1:decide (E=0)=false:=decide_eq_false hE
      have hE2:(E==0)=false:=by simp[hE]
      have hE3:(E != 0)=true:=by simp[hE]
      clear N6 R6 W6 s6 H6 hb7 N7 R7 W7 hrn y2 TS
      go_wp2_with (first
       |(refine q07 rfl (.tmp 4) (.tmp 68) rfl w.heap.size rfl 0 none 0 0 none 0 0 rfl R8 ?_;intro wz Rz Tz)
       |fail)
      refine bodyPost_ret (q0r Tryz.results84 rfl (q0i Rz)) rfl ?_
      exact q2j hno.out (W8.trans (Tz.belowOne R8.lt))
   ·have hno:=Lib.hid (show creadN b addr=none by
     rw[Hread.out]
     cases rnTo lv R (cnt:Int).toNat with
     |none=>rfl
     |some x=>exact if_neg (fun h=>ha h.2.1))
    have a1:(ad==addr)=false:=by simp[ha]
    have a2:(ad != addr)=true:=by simp[ha]
    clear ha
    refine q0c (by kernel_rfl) (by kernel_rfl) ?_
    repeat (go_big_quiet_step (first
     |(go_at_call 135;exact Calls.grown_same (q3o lv Kb Hkb.out _))
     |fail))
    refine wpQuiet_nil ?_
    rintro _ ⟨u,rfl⟩
    have R4:=R3.below u.ok R3.lt
    have W4:=W3.trans (u.ok.mono W3.size)
    clear p0 p1 p3
    go_wp2_with (first
     |(refine q07 rfl (.tmp 4) (.tmp 32) rfl w.heap.size rfl 0 none 0 0 none 0 0 rfl R4 ?_;intro wz Rz Tz)
     |fail)
    refine bodyPost_ret (q0r Tryz.results84 rfl (q0i Rz)) rfl ?_
    exact q2j hno.out (W4.trans (Tz.belowOne R4.lt))
  ·have hno:=Lib.hid (show creadN b addr=none by
    rw[Hread.out]
    cases rnTo lv R (cnt:Int).toNat with
    |none=>rfl
    |some x=>exact if_neg (fun h=>hk (h.1.trans Hkb.out)))
   have k1:(kd==Kb)=false:=by simp[hk]
   have k2:(kd != Kb)=true:=by simp[hk]
   clear hk
   refine q0c (by kernel_rfl) (by kernel_rfl) ?_
   repeat (go_big_quiet_step (first
    |(go_at_call 135;exact Calls.grown_same (q3o lv Kb Hkb.out _))
    |fail))
   refine wpQuiet_nil ?_
   rintro _ ⟨u,rfl⟩
   have R4:=R3.below u.ok R3.lt
   have W4:=W3.trans (u.ok.mono W3.size)
   clear p0 p1 p3
   go_wp2_with (first
    |(refine q07 rfl (.tmp 4) (.tmp 32) rfl w.heap.size rfl 0 none 0 0 none 0 0 rfl R4 ?_;intro wz Rz Tz)
    |fail)
   refine bodyPost_ret (q0r Tryz.results84 rfl (q0i Rz)) rfl ?_
   exact q2j hno.out (W4.trans (Tz.belowOne R4.lt))
 ·have hno:=Lib.hid (show creadN b addr=none by unfold creadN;rw[hE,if_neg hE0])
  have hE1:decide (E=0)=false:=decide_eq_false hE0
  have hE2:(E==0)=false:=by simp[hE0]
  have hE3:(E != 0)=true:=by simp[hE0]
  clear hE0 hE hH hR Rv Wv
  go_wp2_with fail
  generalize v.alloc (.cells #[.int .i64 H.kind,.int .i64 H.addr,.int .i64 H.count,.int .i64 H.level,.int .i64 H.gen] 118)=w3 at H3 R3 W3 s3 zv3 ⊢
  refine q0c (by kernel_rfl) (by kernel_rfl) ?_
  repeat (go_big_quiet_step (fail))
  refine wpQuiet_nil ?_
  rintro _ ⟨u,rfl⟩
  have R4:=R3.below u.ok R3.lt
  have W4:=W3.trans (u.ok.mono W3.size)
  go_wp2_with (first
   |(refine q07 rfl (.tmp 4) (.tmp 32) rfl w.heap.size rfl 0 none 0 0 none 0 0 rfl R4 ?_;intro wz Rz Tz)
   |fail)
  refine bodyPost_ret (q0r Tryz.results84 rfl (q0i Rz)) rfl ?_
  exact q2j hno.out (W4.trans (Tz.belowOne R4.lt))
theorem qq1 {r:List UInt8}(h:ktE r=0):r=(ktK r).bytes++ktR r:=by
 unfold ktE at h
 split at h
 ·rename_i hy
  have h9:9≤r.length:=of_decide_eq_true (by unfold ktY at hy;rw[Bool.and_eq_true] at hy;exact hy.1)
  unfold ktK ktR
  rw[if_pos hy,if_pos hy]
  unfold kdOf Kd.bytes
  dsimp only
  rw[q38 _ 4 (by simp;omega),q38 _ 1 (by simp;omega),q38 _ 4 (by simp;omega)]
  have e3:(r.drop 5).take 4++r.drop 9=r.drop 5:=by have:=List.take_append_drop 4 (r.drop 5);rwa [List.drop_drop] at this
  have e2:(r.drop 4).take 1++r.drop 5=r.drop 4:=by have:=List.take_append_drop 1 (r.drop 4);rwa [List.drop_drop] at this
  rw[List.append_assoc,List.append_assoc,e3,e2,List.take_append_drop]
 ·split at h<;>omega
theorem qta {r:List UInt8}(h:ttE r=0):r=dig ((ttS r).length:Int) 1++(ttS r++ttR r):=by
 unfold ttE at h
 split at h
 ·rename_i hy
  obtain⟨h1,h2⟩:=of_decide_eq_true hy
  unfold ttS ttR
  rw[if_pos hy,if_pos hy]
  unfold bodyT restT
  have e0:((r.drop 1).take (numL (r.take 1))).length=numL (r.take 1):=by rw[List.length_take,List.length_drop];omega
  rw[e0,q38 _ 1 (by simp;omega)]
  have e1:(r.drop 1).take (numL (r.take 1))++r.drop (1+numL (r.take 1))=r.drop 1:=by have:=List.take_append_drop (numL (r.take 1)) (r.drop 1);rwa [List.drop_drop] at this
  rw[e1,List.take_append_drop]
 ·omega
theorem qtb {r:List UInt8}(h:t2E r=0):r=dig (t2V r) 2++t2R r:=by
 unfold t2E at h
 split at h
 ·rename_i hy
  have h1:=of_decide_eq_true hy
  unfold t2V t2R
  rw[if_pos hy,if_pos hy,q38 _ 2 (by simp;omega),List.take_append_drop]
 ·omega
theorem qri (v l:List UInt8)(hv:v.length≤255):ttS (dig (v.length:Int) 1++(v++l))=v∧ttR (dig (v.length:Int) 1++(v++l))=l∧ttE (dig (v.length:Int) 1++(v++l))=0:=by
 have e1:(dig (v.length:Int) 1++(v++l)).take 1=dig (v.length:Int) 1:=List.take_left' (q0b _ _)
 have e2:(dig (v.length:Int) 1++(v++l)).drop 1=v++l:=List.drop_left' (q0b _ _)
 have e3:numL (dig (v.length:Int) 1)=v.length:=by rw[q6b,Nat.mod_eq_of_lt (by omega)]
 have hy:ttY (dig (v.length:Int) 1++(v++l))=true:=by
  refine decide_eq_true ?_
  rw[e1,e3]
  simp[q0b]
 unfold ttS ttR ttE bodyT restT
 rw[if_pos hy,if_pos hy,if_pos hy,e1,e3,e2,←List.drop_drop,e2]
 exact⟨List.take_left' rfl,List.drop_left' rfl,rfl⟩
theorem qrj (a:Int)(l:List UInt8)(h0:0≤a)(h1:a<65536):t2V (dig a 2++l)=a∧t2R (dig a 2++l)=l∧t2E (dig a 2++l)=0:=by
 have hy:t2Y (dig a 2++l)=true:=decide_eq_true (by rw[List.length_append,q0b];omega)
 unfold t2V t2R t2E
 rw[if_pos hy,if_pos hy,if_pos hy,List.take_left' (q0b _ _),List.drop_left' (q0b _ _),q1l a 2 h0 (by omega)]
 exact⟨rfl,rfl,rfl⟩
theorem qdh (xs:List Itm)(x:Itm)(l:List UInt8)(hk:x.k.may=true)(hv:x.v.length≤28):rnStep ⟨0,xs,[]⟩ (q0z x++l)=some (⟨0,xs++[x],[]⟩,l):=by
 have e:q0z x++l=x.k.bytes++(dig (x.v.length:Int) 1++(x.v++l)):=by unfold q0z;simp
 obtain⟨a1,a2,a3⟩:=qk3 x.k hk (dig (x.v.length:Int) 1++(x.v++l))
 obtain⟨b1,b2,b3⟩:=qri x.v l (by omega)
 rw[e]
 unfold rnStep
 rw[a1,a2,a3,b1,b2,b3,if_pos rfl,if_pos rfl,if_pos rfl]
theorem qbm (lv:Int)(hl:lv≠0)(xs:List Kidd)(x:Kidd)(l:List UInt8)(hk:x.k.may=true)(h0:0≤x.a)(h1:x.a<65536):rnStep ⟨lv,[],xs⟩ (q0q x++l)=some (⟨lv,[],xs++[x]⟩,l):=by
 have e:q0q x++l=x.k.bytes++(dig x.a 2++l):=by unfold q0q;simp
 obtain⟨a1,a2,a3⟩:=qk3 x.k hk (dig x.a 2++l)
 obtain⟨b1,b2,b3⟩:=qrj x.a l h0 h1
 rw[e]
 unfold rnStep
 rw[a1,a2,a3,b1,b2,b3,if_pos rfl,if_neg hl,if_pos rfl]
theorem qgw (xs:List Itm)(z:List UInt8)(hk:∀j,j<xs.length→(itAt xs j).k.may=true∧(itAt xs j).v.length≤28):∀j,j≤xs.length→rnTo 0 (xs.flatMap q0z++z) j=some (⟨0,xs.take j,[]⟩,(xs.drop j).flatMap q0z++z)
 |0,_=>rfl
 |j+1,hj=>by
  have ih:=qgw xs z hk j (by omega)
  rw[q2r _ _ _ _ _ ih]
  have hx:=q2m (show j<xs.length by omega)
  have hd:xs.drop j=itAt xs j::xs.drop (j+1):=by
   rw[←List.getElem_cons_drop (h:=by omega)]
   rw[List.getElem?_eq_getElem (by omega)] at hx
   rw[Option.some.inj hx]
  obtain⟨h1,h2⟩:=hk j (by omega)
  rw[hd,List.flatMap_cons,List.append_assoc,qdh _ _ _ h1 h2]
  have ht:xs.take (j+1)=xs.take j++[itAt xs j]:=by
   rw[List.take_succ_eq_append_getElem (by omega)]
   rw[List.getElem?_eq_getElem (by omega)] at hx
   rw[Option.some.inj hx]
  rw[ht]
theorem qlf (lv:Int)(hl:lv≠0)(xs:List Kidd)(z:List UInt8)(hk:∀j,j<xs.length→(kidAt xs j).k.may=true∧0≤(kidAt xs j).a∧(kidAt xs j).a<65536):∀j,j≤xs.length→rnTo lv (xs.flatMap q0q++z) j=some (⟨lv,[],xs.take j⟩,(xs.drop j).flatMap q0q++z)
 |0,_=>rfl
 |j+1,hj=>by
  have ih:=qlf lv hl xs z hk j (by omega)
  rw[q2r _ _ _ _ _ ih]
  have hx:=q2b (show j<xs.length by omega)
  have hd:xs.drop j=kidAt xs j::xs.drop (j+1):=by
   rw[←List.getElem_cons_drop (h:=by omega)]
   rw[List.getElem?_eq_getElem (by omega)] at hx
   rw[Option.some.inj hx]
  obtain⟨h1,h2,h3⟩:=hk j (by omega)
  rw[hd,List.flatMap_cons,List.append_assoc,qbm lv hl _ _ _ h1 h2 h3]
  have ht:xs.take (j+1)=xs.take j++[kidAt xs j]:=by
   rw[List.take_succ_eq_append_getElem (by omega)]
   rw[List.getElem?_eq_getElem (by omega)] at hx
   rw[Option.some.inj hx]
  rw[ht]
theorem qrk {N:Nd}(hm:N.may=true)(z:List UInt8):rnTo N.lvl (N.body++z) (N.items.length+N.kids.length)=some (N,z):=by
 have hfit:=qld hm
 obtain⟨l,its,ks⟩:=N
 by_cases hl:l=0
 ·subst hl
  have hk:ks=[]:=hfit.1 rfl
  subst hk
  have hmm:=hm
  rw[qgv _ rfl rfl] at hm
  unfold mayI at hm
  rw[Bool.and_eq_true] at hm
  have h2:=qbk.1 hm.2
  have:=qgw its z (fun j hj=>by
   have h3:=h2 j hj
   unfold okI riseOk fitI at h3
   rw[Bool.and_eq_true,Bool.and_eq_true,qbj] at h3
   exact⟨h3.1.1,of_decide_eq_true h3.2⟩) its.length (Nat.le_refl _)
  unfold Nd.body
  simp only[List.flatMap_nil,List.append_nil,List.length_nil,Nat.add_zero]
  rw[this,List.take_length,List.drop_length]
  rfl
 ·have hi:its=[]:=hfit.2 hl
  subst hi
  have hx:1≤l∧l≤7:=by
   unfold Nd.may at hm
   rw[if_neg hl,Bool.and_eq_true,Bool.and_eq_true] at hm
   have h:=of_decide_eq_true hm.2.2
   exact⟨h.1,Int.lt_add_one_iff.1 h.2.1⟩
  rw[qdc _ hl hx rfl] at hm
  unfold mayK at hm
  rw[Bool.and_eq_true] at hm
  have h2:=qbk.1 hm.2
  have:=qlf l hl ks z (fun j hj=>by
   have h3:=h2 j hj
   unfold okK riseOk fitK at h3
   rw[Bool.and_eq_true,Bool.and_eq_true,q8t] at h3
   have h4:1≤(kidAt ks j).a∧(kidAt ks j).a≤2047:=of_decide_eq_true h3.2
   exact⟨h3.1.1,by omega,by omega⟩) ks.length (Nat.le_refl _)
  unfold Nd.body
  simp only[List.flatMap_nil,List.nil_append,List.length_nil,Nat.zero_add]
  rw[this,List.take_length,List.drop_length]
  rfl
theorem qq2 (l:Int)(body:List UInt8):∀(j:Nat) (N:Nd) (r:List UInt8),rnTo l body j=some (N,r)→body=N.body++r∧N.lvl=l∧N.items.length+N.kids.length=j∧(l=0→N.kids=[])∧(l≠0→N.items=[])
 |0,N,r,h=>by
  injection h with h
  injection h with h1 h2
  subst h1 h2
  exact⟨rfl,rfl,rfl,fun _=>rfl,fun _=>rfl⟩
 |j+1,N,r,h=>by
  cases hj:rnTo l body j with
  |none=>rw[q5s l body j (j+1) hj (by omega)] at h;cases h
  |some p=>
   obtain⟨M,s⟩:=p
   rw[q2r _ _ _ _ _ hj] at h
   obtain⟨e1,e2,e3,e4,e5⟩:=qq2 l body j M s hj
   unfold rnStep at h
   split at h
   ·rename_i hk
    split at h
    ·rename_i h0
     split at h
     ·rename_i htt
      injection h with h
      injection h with h1 h2
      subst h1 h2
      have l0:l=0:=e2.symm.trans h0
      have hks:=e4 l0
      refine⟨?_,e2,?_,fun _=>hks,fun h=>absurd l0 h⟩
      ·rw[e1]
       unfold Nd.body
       dsimp only
       rw[hks]
       simp only[List.flatMap_nil,List.append_nil,List.flatMap_append,List.flatMap_cons]
       rw[List.append_assoc]
       congr 1
       conv=>lhs;rw[qq1 hk,qta htt]
       unfold q0z
       simp
      ·dsimp only
       rw[List.length_append]
       simp
       omega
     ·cases h
    ·rename_i h0
     split at h
     ·rename_i htt
      injection h with h
      injection h with h1 h2
      subst h1 h2
      have l0:l≠0:=fun e=>h0 (e2.trans e)
      have hks:=e5 l0
      refine⟨?_,e2,?_,fun h=>absurd h l0,fun _=>hks⟩
      ·rw[e1]
       unfold Nd.body
       dsimp only
       rw[hks]
       simp only[List.flatMap_nil,List.nil_append,List.flatMap_append,List.flatMap_cons]
       rw[List.append_assoc]
       congr 1
       conv=>lhs;rw[qq1 hk,qtb htt]
       unfold q0q
       simp
      ·dsimp only
       rw[List.length_append]
       simp
       omega
     ·cases h
   ·cases h
theorem qdi (N:Nd)(h0:0≤N.lvl):(if 0<N.lvl then (4:Int) else 3)=(if N.lvl=0 then 3 else 4):=by
 by_cases h:N.lvl=0
 ·rw[if_pos h,if_neg (by omega)]
 ·rw[if_neg h,if_pos (by omega)]
theorem qrl {M:Nd}{h:Hd}{addr:Int}(h0:0≤M.lvl)(hl:M.lvl=h.level)(hc:(M.items.length:Int)+(M.kids.length:Int)=h.count)(hk:h.kind=if h.level=0 then 3 else 4)(ha:h.addr=addr):M.head addr h.gen=h:=by
 obtain⟨kd,ad,ct,lv,gn⟩:=h
 have hl:M.lvl=lv:=hl
 have hc:(M.items.length:Int)+(M.kids.length:Int)=ct:=hc
 have hk:kd=if lv=0 then 3 else 4:=hk
 have ha:ad=addr:=ha
 have h1:=qdi M h0
 show (⟨if 0<M.lvl then 4 else 3,addr,(M.items.length:Int)+(M.kids.length:Int),M.lvl,gn⟩:Hd)=_
 rw[h1,hc,hl,←hk,ha]
theorem qlg (h:Hd)(l r:List UInt8)(hr:allZ r=true)(hl:l.length+r.length=236):blkL h l=blkL h (l++r):=by
 have e:restL h l=restL h (l++r):=by
  unfold restL
  have z:=qhn hr
  rw[show 236-(l++r).length=0 by rw[List.length_append];omega,show 236-l.length=r.length by omega,←z]
  simp
 unfold blkL
 rw[e]
theorem qiq (n:Nat):allZ (List.replicate n 0)=true:=by
 unfold allZ
 rw[List.all_eq_true]
 intro x hx
 rw[(List.mem_replicate.1 hx).2]
 rfl
theorem qa4 {N:Nd}{addr gen:Int}(hm:N.may=true)(hE:writeE N addr gen=0)(a2:Int):creadN (writeB N addr gen) a2=if addr=a2 then some N else none:=by
 unfold writeE at hE
 rw[if_pos hm] at hE
 obtain⟨hok,hl,hB⟩:=q6c _ _ hE
 unfold writeB
 rw[if_pos hm,hB]
 obtain⟨o1,o2,o3⟩:=q42 _ _ hok hl
 obtain⟨_,_,_,h0⟩:=q1v hm
 unfold creadN
 rw[if_pos o3,o1,o2]
 have hc:(N.head addr gen).count.toNat=N.items.length+N.kids.length:=by unfold Nd.head;dsimp only;omega
 have hlv:(N.head addr gen).level=N.lvl:=rfl
 rw[hc,hlv,qrk hm]
 unfold cfin
 dsimp only
 by_cases ha:addr=a2
 ·have hk:(N.head addr gen).kind=(if (N.head addr gen).level=0 then 3 else 4):=qdi N h0
  rw[if_pos ha,if_pos ⟨hk,ha,qiq _,hm⟩]
 ·rw[if_neg ha,if_neg (fun h=>ha h.2.1)]
theorem qir (b:List UInt8)(addr:Int):creadN b addr=readN b addr:=by
 refine Option.ext fun N=>?_
 constructor
 ·intro h
  unfold creadN at h
  split at h
  ·rename_i hE
   have hob:okB b=true:=by
    cases hb:okB b
    ·rw[(q4q hb).2.2] at hE;cases hE
    ·rfl
   cases hrn:rnTo (opH b).level (opB b) (opH b).count.toNat with
   |none=>rw[hrn] at h;cases h
   |some p=>
    obtain⟨M,r⟩:=p
    rw[hrn] at h
    unfold cfin at h
    dsimp only at h
    by_cases hh:(opH b).kind=(if (opH b).level=0 then 3 else 4)∧(opH b).addr=addr∧allZ r=true∧M.may=true
    ·rw[if_pos hh] at h
     obtain⟨h1,h2,h3,h4⟩:=hh
     injection h with h
     subst h
     obtain⟨e1,e2,e3,e4,e5⟩:=qq2 _ _ _ _ _ hrn
     obtain⟨m1,m2,_,m4⟩:=q1v h4
     have hok:=qka hE
     have hin:=of_decide_eq_true hok
     have hcnt:q5c b=(opH b).count.toNat:=by
      have:M.items.length+M.kids.length≤12:=by
       by_cases hz:(opH b).level=0
       ·rw[e4 hz];simp;omega
       ·rw[e5 hz];simp;omega
      unfold q5c
      omega
     have hb20:=(q2f hob).2.1
     have hl256:=(of_decide_eq_true hob).1
     have hlen:M.body.length+r.length=236:=by
      have:=congrArg List.length e1
      rw[hb20,List.length_drop,List.length_append] at this
      omega
     have hhead:M.head addr (opH b).gen=opH b:=qrl m4 e2 (by omega) h1 h2
     unfold readN
     rw[if_pos hE,hcnt,hrn]
     unfold qb4
     dsimp only
     have w1:writeE M addr (opH b).gen=0:=by
      unfold writeE
      rw[if_pos h4,hhead]
      unfold sealE
      rw[if_pos hok,if_pos (by omega)]
     have w2:writeB M addr (opH b).gen=b:=by
      unfold writeB
      rw[if_pos h4,hhead]
      unfold sealB
      rw[if_pos hok,if_pos (by omega),qlg _ _ r h3 hlen,←e1,hb20]
      have:=(qsg b hob).2
      unfold sealB at this
      rw[if_pos hok,if_pos (by rw[List.length_drop];omega)] at this
      exact this
     rw[if_pos ⟨w1,w2⟩]
    ·rw[if_neg hh] at h;cases h
  ·cases h
 ·intro h
  unfold readN at h
  split at h
  ·rename_i hE
   cases hrn:rnTo (opH b).level (opB b) (q5c b) with
   |none=>rw[hrn] at h;cases h
   |some p=>
    obtain⟨M,r⟩:=p
    rw[hrn] at h
    unfold qb4 at h
    dsimp only at h
    split at h
    ·rename_i hh
     obtain⟨w1,w2⟩:=hh
     injection h with h
     subst h
     have hm:M.may=true:=by
      cases hm:M.may
      ·unfold writeE at w1;rw[hm] at w1;cases w1
      ·rfl
     have:=qa4 hm w1 addr
     rw[w2,if_pos rfl] at this
     exact this
    ·cases h
  ·cases h
theorem qlh {N:Nd}(hm:N.may=true):N.body.length≤236:=by
 obtain⟨h1,h2,h3,_⟩:=q1v hm
 have fI:∀xs:List Itm,(∀j,j<xs.length→(itAt xs j).v.length≤28)→(xs.flatMap q0z).length≤38*xs.length:=by
  intro xs
  induction xs with
  |nil=>intro _;simp
  |cons x xs ih=>
   intro h
   have hx:x.v.length≤28:=h 0 (by simp)
   have:=ih (fun j hj=>h (j+1) (by simp;omega))
   rw[List.flatMap_cons,List.length_append,List.length_cons]
   have e:(q0z x).length=10+x.v.length:=by unfold q0z;rw[List.length_append,List.length_append,Kd.bytes_len,q0b];omega
   omega
 have fK:∀xs:List Kidd,(xs.flatMap q0q).length=11*xs.length:=by
  intro xs
  induction xs with
  |nil=>simp
  |cons x xs ih=>
   rw[List.flatMap_cons,List.length_append,List.length_cons,ih]
   have e:(q0q x).length=11:=by unfold q0q;rw[List.length_append,Kd.bytes_len,q0b]
   omega
 have hfit:=qld hm
 have a1:=fI N.items h3
 have a2:=fK N.kids
 unfold Nd.body
 rw[List.length_append]
 by_cases hl:N.lvl=0
 ·rw[hfit.1 hl]
  simp only[List.flatMap_nil,List.length_nil]
  omega
 ·rw[hfit.2 hl]
  simp only[List.flatMap_nil,List.length_nil]
  omega
theorem qod {N:Nd}{addr gen:Int}(hm:N.may=true)(hE:¬writeE N addr gen=0):writeE N addr gen=1∧(addr<0∨2048≤addr∨gen<0∨1099511627775<gen):=by
 unfold writeE at hE ⊢
 rw[if_pos hm] at hE ⊢
 have hb:=qlh hm
 unfold sealE at hE ⊢
 by_cases hok:(N.head addr gen).ok=true
 ·rw[if_pos hok,if_pos hb] at hE
  exact absurd rfl hE
 ·rw[if_neg hok]
  refine⟨rfl,?_⟩
  obtain⟨h1,h2,_,h4⟩:=q1v hm
  have h5:N.lvl≤7:=by
   unfold Nd.may at hm
   split at hm
   ·omega
   ·rw[Bool.and_eq_true,Bool.and_eq_true] at hm
    have:=of_decide_eq_true hm.2.2
    omega
  refine Classical.byContradiction fun hno=>hok (decide_eq_true ?_)
  unfold Nd.head
  dsimp only
  refine⟨?_,?_,?_,?_,?_⟩
  all_goals first|omega|(split<;>omega)
end Go.Proofs.YtipejjgodnnkaaaGreatDoor
