/- The reference's Read. -/
import Derived.Test.YtipejjgodnnkaaaGreatDoorPm17
namespace Go.Proofs.YtipejjgodnnkaaaGreatDoor
open Go Go.RowKit Go.Proofs
set_option maxHeartbeats 16000000
set_option maxRecDepth 10000
section
variable {w w':World}{b:Nat}{l:Int}{A B:Option Addr}{n c m d:Nat}
theorem NB.keep (H:NB w b l A n c B m d)(h:w'.heap[b]?=w.heap[b]?):NB w' b l A n c B m d:=by
 obtain⟨t,H⟩:=H
 exact⟨t,h.trans H⟩
theorem NB.fz (H:NB w b l A n c B m d)(i:Nat):w.frozen? ⟨b,i,none⟩=false:=by
 obtain⟨t,H⟩:=H
 unfold World.frozen?
 rw[H]
 simp
theorem NB.set1 (H:NB w b l A n c B m d)(A':Option Addr)(n' c':Nat):NB (w.setCell ⟨b,1,none⟩ (.slice A' n' c')) b l A' n' c' B m d:=by
 obtain⟨t,H⟩:=H
 exact⟨t,q0f _ H⟩
theorem NB.set2 (H:NB w b l A n c B m d)(A':Option Addr)(n' c':Nat):NB (w.setCell ⟨b,2,none⟩ (.slice A' n' c')) b l A n c A' n' c':=by
 obtain⟨t,H⟩:=H
 exact⟨t,q0f _ H⟩
theorem NB.there (H:NB w b l A n c B m d):w.there b 0 3:=fun j hj=>by
 obtain⟨t,H⟩:=H
 refine⟨?_,by unfold World.frozen?;rw[H];simp⟩
 rw[cell_of_row _ _ _ _ _ _ H,Nat.zero_add,Array.getElem?_eq_getElem (by simpa using hj)];rfl
theorem NB.stored (H:NB w b l A n c B m d)(l2:Int)(A2:Option Addr)(n2 c2:Nat)(B2:Option Addr)(m2 d2:Nat):NB (w.setCells b 0 [.int .i64 l2,.slice A2 n2 c2,.slice B2 m2 d2]) b l2 A2 n2 c2 B2 m2 d2:=by
 obtain⟨t,H⟩:=H
 exact⟨t,q0f _ (q0f _ (q0f _ H))⟩
end
theorem q4s {ops:Array Oper}{rest:List Oper}{o:Oper}{a:Act}{w:World}{Q:Exit→Act→World→Prop}(hg:o.guard=none)(x:Operand)(hop:o.op=Op.load 29 x)
  (b:Nat) (hx:a.eval x=.pointer (some ⟨b,0,none⟩)) {l:Int} {A B:Option Addr} {n c m d:Nat} (H:NB w b l A n c B m d) (hK:wpList Tryz.prog ops Q rest (a.put o.dst (.agg #[.int .i64 l,.slice A n c,.slice B m d])) w):wpList Tryz.prog ops Q (o::rest) a w:=
 wpList_load_mid hg _ x hop b 0 hx _ _ H.range Tryz.underlying29 rfl (by kernel_rfl) hK
theorem q07 {ops:Array Oper}{rest:List Oper}{o:Oper}{a:Act}{w:World}{Q:Exit→Act→World→Prop}(hg:o.guard=none)(x y:Operand)(hop:o.op=Op.store 29 x y)
  (b:Nat) (hx:a.eval x=.pointer (some ⟨b,0,none⟩)) (l2:Int) (A2:Option Addr) (n2 c2:Nat) (B2:Option Addr) (m2 d2:Nat) (hy:a.eval y=.agg #[.int .i64 l2,.slice A2 n2 c2,.slice B2 m2 d2]) {l:Int} {A B:Option Addr} {n c m d:Nat} (H:NB w b l A n c B m d)
  (hK:∀w',NB w' b l2 A2 n2 c2 B2 m2 d2→Turn (fun g=>g=b) w w'→wpList Tryz.prog ops Q rest (a.put o.dst undef) w'):wpList Tryz.prog ops Q (o::rest) a w:=
 wpList_store_mid hg _ x y hop b 0 #[.int .i64 l2,.slice A2 n2 c2,.slice B2 m2 d2] hx hy H.there (by kernel_rfl) (by simp[Value.oneCell'])
  (hK _ (H.stored l2 A2 n2 c2 B2 m2 d2) (q0d (S:=fun g=>g=b) rfl _ 0 w))
def qat (b:List UInt8)(addr:Int)(w:World)(e:Ending)(w':World):Prop:=
 ∃A1 n1 c1 B1 m1 d1,e=.returned (.tuple #[.agg #[.int .i64 (rnN b addr).lvl,.slice A1 n1 c1,.slice B1 m1 d1],.int .i64 (rnE b addr)])∧n1≤20∧m1≤20∧
   Itms w' A1 n1 c1 (rnN b addr).items∧Kidl w' B1 m1 d1 (rnN b addr).kids∧Below w.heap.size w w'
theorem q1z {b:List UInt8}{addr:Int}{w w':World}(h:readN b addr=none)(hb:Below w.heap.size w w'):qat b addr w (.returned (.tuple #[.agg #[.int .i64 0,.slice none 0 0,.slice none 0 0],.int .i64 3])) w':=by
 obtain⟨h1,h2⟩:=qqu h
 refine⟨none,0,0,none,0,0,?_,by omega,by omega,?_,?_,hb⟩
 ·rw[h1,h2]
 ·rw[h1];exact q1b w'
 ·rw[h1];exact q1c w'
theorem qei (A:Option Addr)(k c:Nat)(b:List UInt8)(addr:Int)(w:World)(hs:Sl w A k c b) :
  Calls Tryz.prog 85 #[.slice A k c,.int .i64 addr] w fun e w'=>qat b addr w e w':=by
 go_enter Tryz.func85,Tryz.ntmps85
 go_wp2_with fail
 have R1:NB (w.alloc (.cells #[.int .i64 0,.slice none 0 0,.slice none 0 0] 29)) w.heap.size 0 none 0 0 none 0 0:=NB.new w _ _ _ _ _ _ _ _
 have W1:Below w.heap.size w (w.alloc (.cells #[.int .i64 0,.slice none 0 0,.slice none 0 0] 29)):=blA
 generalize w.alloc (.cells #[.int .i64 0,.slice none 0 0,.slice none 0 0] 29)=w1 at R1 W1 ⊢
 have hO:=q41 A k c b w1 (hs.below W1)
 unfold q2x Hd.v at hO
 obtain⟨H,hH⟩:∃H,opH b=H:=⟨_,rfl⟩
 obtain⟨R,hR⟩:∃R,opB b=R:=⟨_,rfl⟩
 obtain⟨E,hE⟩:∃E,opE b=E:=⟨_,rfl⟩
 rw[hH,hR,hE] at hO
 refine hO.mono ?_
 clear hO
 rintro e v ⟨A2,n2,c2,rfl,own2,hb2⟩
 have Rv:=R1.below hb2 R1.lt
 have Wv:=W1.trans (hb2.mono W1.size)
 have bx:Below v.heap.size v (v.alloc (.cells #[.int .i64 H.kind,.int .i64 H.addr,.int .i64 H.count,.int .i64 H.level,.int .i64 H.gen] 118)):=blA
 by_cases hE0:E=0
 ·subst hE0
  have hlen:R.length≤236:=by
   cases hb:okB b
   ·obtain⟨_,_,h3⟩:=q4q hb
    rw[h3] at hE;omega
   ·obtain⟨_,h2,_⟩:=q2f hb
    have:=(of_decide_eq_true hb).1
    rw[←hR,h2,List.length_drop];omega
  have hok:=qka hE
  rw[hH] at hok
  have hin:(0≤H.level∧H.level≤8)∧0≤H.count∧H.count≤65535:=by
   have:=of_decide_eq_true hok
   omega
  obtain⟨⟨hl0,hl8⟩,hc0,hc1⟩:=hin
  have bx2:Below v.heap.size v ((v.alloc (.cells #[.int .i64 H.kind,.int .i64 H.addr,.int .i64 H.count,.int .i64 H.level,.int .i64 H.gen] 118)).alloc (.cells #[.int .i64 H.level,.slice none 0 0,.slice none 0 0] 29)):=bx.alloc bx.size _
  go_wp2_with fail
  have H3:HB ((v.alloc (.cells #[.int .i64 H.kind,.int .i64 H.addr,.int .i64 H.count,.int .i64 H.level,.int .i64 H.gen] 118)).alloc (.cells #[.int .i64 H.level,.slice none 0 0,.slice none 0 0] 29)) v.heap.size H:=HB.below ⟨_,heap_alloc_new v _⟩ (blA) (by simp)
  have N3:NB ((v.alloc (.cells #[.int .i64 H.kind,.int .i64 H.addr,.int .i64 H.count,.int .i64 H.level,.int .i64 H.gen] 118)).alloc (.cells #[.int .i64 H.level,.slice none 0 0,.slice none 0 0] 29)) (v.heap.size+1) H.level none 0 0 none 0 0:=NB.new2 v _ _ _ _ _ _ _ _ _
  have R3:=Rv.below bx2 Rv.lt
  have W3:=Wv.trans (bx2.mono Wv.size)
  have s3:=own2.sl.below bx2
  have hn2:n2≤236:=by have:=own2.len;omega
  have hvs:w.heap.size<v.heap.size:=Rv.lt
  generalize (v.alloc (.cells #[.int .i64 H.kind,.int .i64 H.addr,.int .i64 H.count,.int .i64 H.level,.int .i64 H.gen] 118)).alloc (.cells #[.int .i64 H.level,.slice none 0 0,.slice none 0 0] 29)=w3 at H3 N3 R3 W3 s3 ⊢
  obtain⟨hb,ehb⟩:∃hb,v.heap.size=hb:=⟨_,rfl⟩
  rw[ehb] at H3 N3 hvs ⊢
  have hcnt:q5c b=min H.count.toNat 20:=by unfold q5c;rw[hH]
  obtain⟨cnt,hcn⟩:∃cnt,q5c b=cnt:=⟨_,rfl⟩
  rw[hcn] at hcnt
  have c20:cnt≤20:=by omega
  have cH:(cnt:Int)≤H.count:=by omega
  have Hcnt:=Lib.hid hcnt
  clear hcnt
  have hread:readN b addr=qb4 b addr H.gen (rnTo H.level R cnt):=by unfold readN;rw[hE,if_pos rfl,hH,hR,hcn]
  have Hread:=Lib.hid hread
  have hnone:∀j,rnTo H.level R j=none→j≤cnt→readN b addr=none:=fun j h1 h2=>by rw[Hread.out,q5s _ _ _ _ h1 h2];rfl
  clear own2 bx bx2 Rv Wv hb2 R1 W1 ehb hread hH hR hE hok
  by_cases hlv:H.level=0
  ·have HLv:=Lib.hid hlv
   have lvb:decide (H.level=0)=true:=decide_eq_true hlv
   have lvc:(H.level==0)=true:=by simp[hlv]
   clear hlv
   go_loopw [7,10,11,12,13,14,15,16,17,18,19] (fun t7 t10 _ _ _ _ _ _ _ _ _ wr=>∃(j:Nat) (xs:List Itm) (r:List UInt8) (Rr:Option Addr) (p q:Nat) (A':Option Addr) (c':Nat),j≤cnt∧t10=.int .i64 (j:Int)∧t7=.slice Rr p q∧
    rnTo H.level R j=some (⟨H.level,xs,[]⟩,r)∧Sl wr Rr p q r∧p≤236∧(r≠[]→∀g,q02 Rr=some g→q02 A'≠some g)∧NB wr w.heap.size 0 none 0 0 none 0 0∧HB wr hb H∧NB wr (hb+1) H.level A' j c' none 0 0∧IRow wr (hb+2) A' j c' xs∧Below w.heap.size w wr) (fun _ t10 _ _ _ _ _ _ _ _ _ _=>cnt-(intOf t10).toNat)
   case atStart=>exact⟨0,[],R,A2,n2,c2,none,0,Nat.zero_le _,rfl,rfl,rfl,s3,hn2,(fun _ _ _ h=>by cases h),R3,H3,N3,qgi _ _,W3⟩
   case round=>
    obtain⟨j,xs,r,Rr,p,q,A',c',hj,rfl,rfl,hrn,hsl,hp,hne,RR,HH,NN,hrow,hB⟩:=hrel
    have y2:wr.cell? ⟨hb,2,none⟩=some (.int .i64 H.count):=HH.at_ 3
    by_cases hlt:j<cnt
    ·have hj1:(j:Int)<H.count:=by omega
     have hj2:(j:Int)<20:=by omega
     obtain⟨K,hK⟩:∃x,ktK r=x:=⟨_,rfl⟩
     obtain⟨M,hM⟩:∃x,ktR r=x:=⟨_,rfl⟩
     obtain⟨E1,hE1⟩:∃x,ktE r=x:=⟨_,rfl⟩
     have hstep:=q2r H.level R j _ r hrn
     go_wp2_with fail
     refine (q76 Rr p q r K M E1 hK hM hE1 wr hsl (by omega)).mono ?_
     rintro e v1 ⟨A3,n3,c3,rfl,own3,hb3⟩
     have hn3:n3≤236:=by have h1:=own3.len;have h2:=q8c r;have h3:=hsl.len;rw[hM] at h2;omega
     have bx:Below v1.heap.size v1 (v1.alloc (.cells #[.int .i64 K.obj,.int .i64 K.kind,.int .i64 K.off] 140)):=blA
     have hb4:=hb3.trans (bx.mono hb3.size)
     have zr:hb+2≤wr.heap.size:=NN.lt
     have R4:=RR.below hb4 RR.lt
     have H4:=HH.below hb4 (by omega)
     have N4:=NN.below hb4 NN.lt
     have I4:=hrow.below hb4
     have W4:=hB.trans (hb4.mono hB.size)
     have s4:=own3.sl.below bx
     have K4:=KB.new v1 K.obj K.kind K.off 140
     have y3:(v1.alloc (.cells #[.int .i64 K.obj,.int .i64 K.kind,.int .i64 K.off] 140)).cell? ⟨hb,3,none⟩=some (.int .i64 H.level):=H4.at_ 1
     have hzv:wr.heap.size≤v1.heap.size:=hb3.size
     have hltA:∀g,q02 A'=some g→g<wr.heap.size:=fun g hg=>(hrow.blockLt g hg).2
     by_cases hE10:E1=0
     ·subst hE10
      obtain⟨S2,hS2⟩:∃x,ttS M=x:=⟨_,rfl⟩
      obtain⟨R2,hR2⟩:∃x,ttR M=x:=⟨_,rfl⟩
      obtain⟨E2,hE2⟩:∃x,ttE M=x:=⟨_,rfl⟩
      go_wp2_with fail
      generalize v1.alloc (.cells #[.int .i64 K.obj,.int .i64 K.kind,.int .i64 K.off] 140)=w4 at R4 H4 N4 I4 W4 s4 K4 y3 hb4 ⊢
      refine (qk8 A3 n3 c3 M S2 R2 E2 hS2 hR2 hE2 w4 s4 (by omega)).mono ?_
      rintro e v2 ⟨A4,n4,c4,rfl,s5,hfr,hb5⟩
      have zr4:wr.heap.size≤w4.heap.size:=hb4.size
      have R5:=R4.below hb5 R4.lt
      have H5:=H4.below hb5 (by omega)
      have N5:=N4.below hb5 N4.lt
      have I5:=I4.below hb5
      have W5:=W4.trans (hb5.mono W4.size)
      have K5:=K4.below hb5 K4.lt
      clear R4 H4 N4 I4 W4 s4 K4 y3
      by_cases hE20:E2=0
      ·subst hE20
       have hrn1:rnTo H.level R (j+1)=some (⟨H.level,xs++[⟨K,S2⟩],[]⟩,R2):=by
        rw[hstep]
        unfold rnStep
        rw[hE1,if_pos rfl,hM,if_pos HLv.out,hE2,if_pos rfl,hK,hS2,hR2]
       have hS2l:S2.length≤236:=by have h1:=qpt M;have h2:=q8c r;have h3:=hsl.len;rw[hM] at h2;rw[hS2] at h1;omega
       have hn4:n4≤236:=by have h1:=qss M;have h2:=q8c r;have h3:=hsl.len;have h4:=s5.len;rw[hM] at h2;rw[hR2] at h1;omega
       obtain⟨X,hX⟩:∃X,(⟨S2.toArray⟩:ByteArray)=X:=⟨_,rfl⟩
       have hXl:X.data.toList=S2:=by rw[←hX]
       have hXs:X.size≤236:=by rw[←hX];show S2.toArray.size≤236;simpa using hS2l
       have hconv:=convSB X
       have slX:=q4t v2 5 X (by unfold maxLen;omega)
       have beX:=q2g v2 5 X
       rw[hXl] at slX
       rw[hX]
       have n1:=N5.c1
       have k0:=K5.c0
       have k1:=K5.c1
       have k2:=K5.c2
       have zr2:w4.heap.size≤v2.heap.size:=hb5.size
       have h5lt:R2≠[]→∀g,q02 A4=some g→g<v2.heap.size:=fun hl g hg=>s5.blockLt hl g hg
       have hfr2:∀g,q02 A4=some g→w4.heap.size≤g:=fun g hg=>by
        cases A4 with
        |none=>cases hg
        |some ad=>have:=hfr ad rfl;have e:ad.block=g:=Option.some.inj hg;omega
       have ez:(Lib.bytesWorld v2 5 X).heap.size=v2.heap.size+1:=Lib.bytesWorld_size v2 5 X
       have beY:Below v2.heap.size v2 ((Lib.bytesWorld v2 5 X).alloc (.cells #[.int .i64 K.obj,.int .i64 K.kind,.int .i64 K.off,.slice (some ⟨v2.heap.size,0,none⟩) X.size (grownCap v2 X.size 0 5)] 142)):=beX.alloc beX.size _
       have I6:=I5.below beY
       have N6:=N5.below beY N5.lt
       have R6:=R5.below beY R5.lt
       have H6:=H5.below beY (by omega)
       have W6:=W5.trans (beY.mono W5.size)
       have s6:=s5.below beY
       have slY:Sl ((Lib.bytesWorld v2 5 X).alloc (.cells #[.int .i64 K.obj,.int .i64 K.kind,.int .i64 K.off,.slice (some ⟨v2.heap.size,0,none⟩) X.size (grownCap v2 X.size 0 5)] 142)) (some ⟨v2.heap.size,0,none⟩) X.size (grownCap v2 X.size 0 5) S2:=slX.alloc _
       have rowY:Sls ((Lib.bytesWorld v2 5 X).alloc (.cells #[.int .i64 K.obj,.int .i64 K.kind,.int .i64 K.off,.slice (some ⟨v2.heap.size,0,none⟩) X.size (grownCap v2 X.size 0 5)] 142)) 4 (some ⟨v2.heap.size+1,0,none⟩) 1 1 [itvs K (some ⟨v2.heap.size,0,none⟩) X.size (grownCap v2 X.size 0 5)]:=by
        have:=(q2a (Lib.bytesWorld v2 5 X) 142 4 (itvs K (some ⟨v2.heap.size,0,none⟩) X.size (grownCap v2 X.size 0 5)) _ rfl rfl).sls (by omega)
        rwa [ez] at this
       have zY:hb+2≤((Lib.bytesWorld v2 5 X).alloc (.cells #[.int .i64 K.obj,.int .i64 K.kind,.int .i64 K.off,.slice (some ⟨v2.heap.size,0,none⟩) X.size (grownCap v2 X.size 0 5)] 142)).heap.size:=Nat.le_trans (show hb+2≤v2.heap.size by omega) beY.size
       have neY:S2≠[]→∀g,q02 (some (⟨v2.heap.size,0,none⟩:Addr))=some g→hb+2≤g∧q02 A'≠some g:=fun _ g hg=>by
        have h2:v2.heap.size=g:=Option.some.inj hg
        exact⟨by omega,fun e=>by have h1:=hltA g e;omega⟩
       have hj3:j≤1000:=by omega
       have hlowA:∀g,q02 A'=some g→hb+2≤g:=fun g hg=>(I6.blockLt g hg).1
       clear hstep hS2 hR2 hE2 hX slX beX I5 R5 H5 W5 K5 s5
       go_wp2_with (first
        |(at_builtin;refine q57 rfl _ _ rfl (hb+2) A' j c' xs rfl I6 (some ⟨v2.heap.size+1,0,none⟩) 1 ⟨K,S2⟩ (some ⟨v2.heap.size,0,none⟩) X.size (grownCap v2 X.size 0 5) rfl rowY slY neY hj3 zY ?_)
        |fail)
       intro A6 c6 v6 I7 T7 hA7
       have zv5:=beY.size
       have N7:=N6.keep (T7.block (hb+1) N6.lt (fun e=>by have:=hlowA _ e;omega))
       have R7:=R6.keep (T7.block w.heap.size R6.lt (fun e=>by have:=hlowA _ e;omega))
       have H7:=H6.keep (T7.block hb (by omega) (fun e=>by have:=hlowA _ e;omega))
       have s7:=s6.turned' T7 (fun _ g hg e=>by have:=hltA g e;have:=hfr2 g hg;omega)
       have W7:=W6.trans (T7.below (B:=w.heap.size) (fun x hx=>by have:=hlowA x hx;omega) (by omega))
       have f1:=N7.fz 1
       have q1:=N7.c1
       have TS:Turn (fun g=>g=hb+1) v6 (v6.setCell ⟨hb+1,1,none⟩ (.slice A6 (j+1) c6)):=q0e (a:=⟨hb+1,1,none⟩) _ rfl
       have N8:=N7.set1 A6 (j+1) c6
       have R8:=R7.keep (TS.block w.heap.size R7.lt (by show ¬w.heap.size=hb+1;omega))
       have z6:hb+2≤v6.heap.size:=N7.lt
       have H8:=H7.keep (TS.block hb (by omega) (by show ¬hb=hb+1;omega))
       have I8:=I7.low TS (fun k hk=>by have:k=hb+1:=hk;omega)
       have s8:=s7.turned' TS (fun _ g hg e=>by have:=hfr2 g hg;have:g=hb+1:=e;omega)
       have W8:=W7.trans (TS.below (B:=w.heap.size) (fun x hx=>by have:x=hb+1:=hx;omega) (by have:=W7.size;omega))
       have hne8:R2≠[]→∀g,q02 A4=some g→q02 A6≠some g:=fun hl g hg e=>by
        have h1:=h5lt hl g hg
        have h2:=hfr2 g hg
        rcases hA7 with h3|h3
        ·have:=hltA g (h3.symm.trans e);omega
        ·rw[h3] at e
         have:=Option.some.inj e
         omega
       clear N7 R7 H7 I7 s7 W7 N6 R6 H6 I6 s6 W6 slY rowY beY
       go_wp2
       exact⟨⟨j+1,xs++[⟨K,S2⟩],R2,A4,n4,c4,A6,c6,by omega,by go_num,rfl,hrn1,s8,hn4,hne8,R8,H8,N8,I8,W8⟩,by simp[intOf];omega⟩
      ·have hno:=Lib.hid (hnone (j+1) (by rw[hstep];unfold rnStep;rw[hE1,if_pos rfl,hM,if_pos HLv.out,hE2,if_neg hE20]) (by omega))
       have hb1:decide (E2=0)=false:=decide_eq_false hE20
       clear hstep
       go_wp2_with (first
        |(refine q07 rfl (.tmp 4) (.tmp 63) rfl w.heap.size rfl 0 none 0 0 none 0 0 rfl R5 ?_;intro wz Rz Tz)
        |fail)
       refine bodyPost_ret (q0r Tryz.results85 rfl (q0i Rz)) rfl ?_
       exact q1z hno.out (W5.trans (Tz.belowOne R5.lt))
     ·have hno:=Lib.hid (hnone (j+1) (by rw[hstep];unfold rnStep;rw[hE1,if_neg hE10]) (by omega))
      have hb1:decide (E1=0)=false:=decide_eq_false hE10
      clear hstep
      go_wp2_with (first
       |(refine q07 rfl (.tmp 4) (.tmp 51) rfl w.heap.size rfl 0 none 0 0 none 0 0 rfl R4 ?_;intro wz Rz Tz)
       |fail)
      refine bodyPost_ret (q0r Tryz.results85 rfl (q0i Rz)) rfl ?_
      exact q1z hno.out (W4.trans (Tz.belowOne R4.lt))
    ·obtain rfl:cnt=j:=by omega
     obtain⟨EW,hEW⟩:∃x,writeE ⟨H.level,xs,[]⟩ addr H.gen=x:=⟨_,rfl⟩
     obtain⟨BW,hBW⟩:∃x,writeB ⟨H.level,xs,[]⟩ addr H.gen=x:=⟨_,rfl⟩
     have y5:wr.cell? ⟨hb,4,none⟩=some (.int .i64 H.gen):=HH.at_ 4
     have m0:=NN.c0
     have m1:=NN.c1
     have m2:=NN.c2
     by_cases hcc:(cnt:Int)<H.count
     ·have hcd:¬(cnt:Int)<20:=by have:=Hcnt.out;omega
      go_wp2_with fail
      have hw:=q2z ⟨H.level,xs,[]⟩ addr H.gen A' cnt c' none 0 0 wr hrow.itms (q1c wr) (by omega) (by omega)
      rw[hEW,hBW] at hw
      refine hw.mono ?_
      clear hw
      rintro e v1 ⟨A9,n9,c9,rfl,s9,hb9⟩
      have R9:=RR.below hb9 RR.lt
      have N9:=NN.below hb9 NN.lt
      have I9:=hrow.below hb9
      have W9:=hB.trans (hb9.mono hB.size)
      clear hb9 RR NN HH hrow hB hsl hne y2 y5 m0 m1 m2
      by_cases hE0:EW=0
      ·by_cases hBb:BW=b
       ·have hyes:=Lib.hid (show readN b addr=some ⟨H.level,xs,[]⟩ by rw[Hread.out,hrn];show (if writeE ⟨H.level,xs,[]⟩ addr H.gen=0∧writeB ⟨H.level,xs,[]⟩ addr H.gen=b then some (⟨H.level,xs,[]⟩:Nd) else none)=_;rw[hEW,hBW,if_pos ⟨hE0,hBb⟩])
        subst hE0
        obtain⟨X,hX⟩:∃X,(⟨b.toArray⟩:ByteArray)=X:=⟨_,rfl⟩
        have k1:=strB s9
        have k2:=strB (hs.below W9)
        rw[hBb,hX] at k1
        rw[hX] at k2
        clear hX hrn hBb
        go_wp2_with (first
         |(refine q4s rfl (.tmp 9) rfl (hb+1) rfl N9 ?_)
         |(refine q07 rfl (.tmp 4) (.tmp 110) rfl w.heap.size rfl H.level A' cnt c' none 0 0 rfl R9 ?_;intro wz Rz Tz)
         |fail)
        refine bodyPost_ret (q0r Tryz.results85 rfl (q0i Rz)) rfl ?_
        obtain⟨g1,g2⟩:=q7m hyes.out
        refine⟨A',cnt,c',none,0,0,?_,by omega,by omega,?_,?_,W9.trans (Tz.belowOne R9.lt)⟩
        ·rw[g1,g2];rfl
        ·rw[g1];exact (I9.low Tz (fun k hk=>by have:k=w.heap.size:=hk;omega)).itms
        ·rw[g1];exact q1c _
       ·have hno:=Lib.hid (show readN b addr=none by rw[Hread.out,hrn];show (if writeE ⟨H.level,xs,[]⟩ addr H.gen=0∧writeB ⟨H.level,xs,[]⟩ addr H.gen=b then some (⟨H.level,xs,[]⟩:Nd) else none)=_;rw[hEW,hBW,if_neg (fun h=>hBb h.2)])
        subst hE0
        have hsne:¬((⟨BW.toArray⟩:ByteArray)=⟨b.toArray⟩):=fun h=>hBb (by injection h with h;simpa using h)
        have hsb:((⟨BW.toArray⟩:ByteArray).toList==(⟨b.toArray⟩:ByteArray).toList)=false:=by rw[ByteArray.toList_eq,ByteArray.toList_eq];simpa using hBb
        have k1:=strB s9
        have k2:=strB (hs.below W9)
        generalize (⟨BW.toArray⟩:ByteArray)=X at hsne hsb k1
        generalize (⟨b.toArray⟩:ByteArray)=Y at hsne hsb k2
        clear hrn hBb
        go_wp2_with (first
         |(refine q07 rfl (.tmp 4) (.tmp 109) rfl w.heap.size rfl 0 none 0 0 none 0 0 rfl R9 ?_;intro wz Rz Tz)
         |fail)
        refine bodyPost_ret (q0r Tryz.results85 rfl (q0i Rz)) rfl ?_
        exact q1z hno.out (W9.trans (Tz.belowOne R9.lt))
      ·have hno:=Lib.hid (show readN b addr=none by rw[Hread.out,hrn];show (if writeE ⟨H.level,xs,[]⟩ addr H.gen=0∧writeB ⟨H.level,xs,[]⟩ addr H.gen=b then some (⟨H.level,xs,[]⟩:Nd) else none)=_;rw[hEW,hBW,if_neg (fun h=>hE0 h.1)])
       have hb1:decide (EW=0)=false:=decide_eq_false hE0
       clear hrn
       go_wp2_with (first
        |(refine q07 rfl (.tmp 4) (.tmp 109) rfl w.heap.size rfl 0 none 0 0 none 0 0 rfl R9 ?_;intro wz Rz Tz)
        |fail)
       refine bodyPost_ret (q0r Tryz.results85 rfl (q0i Rz)) rfl ?_
       exact q1z hno.out (W9.trans (Tz.belowOne R9.lt))
     ·have hcc2:decide ((cnt:Int)<H.count)=false:=decide_eq_false hcc
      go_wp2_with fail
      have hw:=q2z ⟨H.level,xs,[]⟩ addr H.gen A' cnt c' none 0 0 wr hrow.itms (q1c wr) (by omega) (by omega)
      rw[hEW,hBW] at hw
      refine hw.mono ?_
      clear hw
      rintro e v1 ⟨A9,n9,c9,rfl,s9,hb9⟩
      have R9:=RR.below hb9 RR.lt
      have N9:=NN.below hb9 NN.lt
      have I9:=hrow.below hb9
      have W9:=hB.trans (hb9.mono hB.size)
      clear hb9 RR NN HH hrow hB hsl hne y2 y5 m0 m1 m2
      by_cases hE0:EW=0
      ·by_cases hBb:BW=b
       ·have hyes:=Lib.hid (show readN b addr=some ⟨H.level,xs,[]⟩ by rw[Hread.out,hrn];show (if writeE ⟨H.level,xs,[]⟩ addr H.gen=0∧writeB ⟨H.level,xs,[]⟩ addr H.gen=b then some (⟨H.level,xs,[]⟩:Nd) else none)=_;rw[hEW,hBW,if_pos ⟨hE0,hBb⟩])
        subst hE0
        obtain⟨X,hX⟩:∃X,(⟨b.toArray⟩:ByteArray)=X:=⟨_,rfl⟩
        have k1:=strB s9
        have k2:=strB (hs.below W9)
        rw[hBb,hX] at k1
        rw[hX] at k2
        clear hX hrn hBb
        go_wp2_with (first
         |(refine q4s rfl (.tmp 9) rfl (hb+1) rfl N9 ?_)
         |(refine q07 rfl (.tmp 4) (.tmp 110) rfl w.heap.size rfl H.level A' cnt c' none 0 0 rfl R9 ?_;intro wz Rz Tz)
         |fail)
        refine bodyPost_ret (q0r Tryz.results85 rfl (q0i Rz)) rfl ?_
        obtain⟨g1,g2⟩:=q7m hyes.out
        refine⟨A',cnt,c',none,0,0,?_,by omega,by omega,?_,?_,W9.trans (Tz.belowOne R9.lt)⟩
        ·rw[g1,g2];rfl
        ·rw[g1];exact (I9.low Tz (fun k hk=>by have:k=w.heap.size:=hk;omega)).itms
        ·rw[g1];exact q1c _
       ·have hno:=Lib.hid (show readN b addr=none by rw[Hread.out,hrn];show (if writeE ⟨H.level,xs,[]⟩ addr H.gen=0∧writeB ⟨H.level,xs,[]⟩ addr H.gen=b then some (⟨H.level,xs,[]⟩:Nd) else none)=_;rw[hEW,hBW,if_neg (fun h=>hBb h.2)])
        subst hE0
        have hsne:¬((⟨BW.toArray⟩:ByteArray)=⟨b.toArray⟩):=fun h=>hBb (by injection h with h;simpa using h)
        have hsb:((⟨BW.toArray⟩:ByteArray).toList==(⟨b.toArray⟩:ByteArray).toList)=false:=by rw[ByteArray.toList_eq,ByteArray.toList_eq];simpa using hBb
        have k1:=strB s9
        have k2:=strB (hs.below W9)
        generalize (⟨BW.toArray⟩:ByteArray)=X at hsne hsb k1
        generalize (⟨b.toArray⟩:ByteArray)=Y at hsne hsb k2
        clear hrn hBb
        go_wp2_with (first
         |(refine q07 rfl (.tmp 4) (.tmp 109) rfl w.heap.size rfl 0 none 0 0 none 0 0 rfl R9 ?_;intro wz Rz Tz)
         |fail)
        refine bodyPost_ret (q0r Tryz.results85 rfl (q0i Rz)) rfl ?_
        exact q1z hno.out (W9.trans (Tz.belowOne R9.lt))
      ·have hno:=Lib.hid (show readN b addr=none by rw[Hread.out,hrn];show (if writeE ⟨H.level,xs,[]⟩ addr H.gen=0∧writeB ⟨H.level,xs,[]⟩ addr H.gen=b then some (⟨H.level,xs,[]⟩:Nd) else none)=_;rw[hEW,hBW,if_neg (fun h=>hE0 h.1)])
       have hb1:decide (EW=0)=false:=decide_eq_false hE0
       clear hrn
       go_wp2_with (first
        |(refine q07 rfl (.tmp 4) (.tmp 109) rfl w.heap.size rfl 0 none 0 0 none 0 0 rfl R9 ?_;intro wz Rz Tz)
        |fail)
       refine bodyPost_ret (q0r Tryz.results85 rfl (q0i Rz)) rfl ?_
       exact q1z hno.out (W9.trans (Tz.belowOne R9.lt))
  ·have HLv:=Lib.hid hlv
   have lvb:decide (H.level=0)=false:=decide_eq_false hlv
   have lvc:(H.level==0)=false:=by simp[hlv]
   clear hlv
   go_loopw [7,10,11,12,13,14,15,16,17,18,19] (fun t7 t10 _ _ _ _ _ _ _ _ _ wr=>∃(j:Nat) (xs:List Kidd) (r:List UInt8) (Rr:Option Addr) (p q:Nat) (A':Option Addr) (c':Nat),j≤cnt∧t10=.int .i64 (j:Int)∧t7=.slice Rr p q∧
    rnTo H.level R j=some (⟨H.level,[],xs⟩,r)∧Sl wr Rr p q r∧p≤236∧(r≠[]→∀g,q02 Rr=some g→q02 A'≠some g)∧NB wr w.heap.size 0 none 0 0 none 0 0∧HB wr hb H∧NB wr (hb+1) H.level none 0 0 A' j c'∧OwnS wr (hb+2) 144 4 A' j c' (xs.map Kidd.vs)∧Below w.heap.size w wr) (fun _ t10 _ _ _ _ _ _ _ _ _ _=>cnt-(intOf t10).toNat)
   case atStart=>exact⟨0,[],R,A2,n2,c2,none,0,Nat.zero_le _,rfl,rfl,rfl,s3,hn2,(fun _ _ _ h=>by cases h),R3,H3,N3,q9b _ _ _ _,W3⟩
   case round=>
    obtain⟨j,xs,r,Rr,p,q,A',c',hj,rfl,rfl,hrn,hsl,hp,hne,RR,HH,NN,hrow,hB⟩:=hrel
    have y2:wr.cell? ⟨hb,2,none⟩=some (.int .i64 H.count):=HH.at_ 3
    by_cases hlt:j<cnt
    ·have hj1:(j:Int)<H.count:=by omega
     have hj2:(j:Int)<20:=by omega
     obtain⟨K,hK⟩:∃x,ktK r=x:=⟨_,rfl⟩
     obtain⟨M,hM⟩:∃x,ktR r=x:=⟨_,rfl⟩
     obtain⟨E1,hE1⟩:∃x,ktE r=x:=⟨_,rfl⟩
     have hstep:=q2r H.level R j _ r hrn
     go_wp2_with fail
     refine (q76 Rr p q r K M E1 hK hM hE1 wr hsl (by omega)).mono ?_
     rintro e v1 ⟨A3,n3,c3,rfl,own3,hb3⟩
     have hn3:n3≤236:=by have h1:=own3.len;have h2:=q8c r;have h3:=hsl.len;rw[hM] at h2;omega
     have bx:Below v1.heap.size v1 (v1.alloc (.cells #[.int .i64 K.obj,.int .i64 K.kind,.int .i64 K.off] 140)):=blA
     have hb4:=hb3.trans (bx.mono hb3.size)
     have zr:hb+2≤wr.heap.size:=NN.lt
     have R4:=RR.below hb4 RR.lt
     have H4:=HH.below hb4 (by omega)
     have N4:=NN.below hb4 NN.lt
     have I4:=hrow.below hb4
     have W4:=hB.trans (hb4.mono hB.size)
     have s4:=own3.sl.below bx
     have K4:=KB.new v1 K.obj K.kind K.off 140
     have y3:(v1.alloc (.cells #[.int .i64 K.obj,.int .i64 K.kind,.int .i64 K.off] 140)).cell? ⟨hb,3,none⟩=some (.int .i64 H.level):=H4.at_ 1
     have hzv:wr.heap.size≤v1.heap.size:=hb3.size
     have hltA:∀g,q02 A'=some g→g<wr.heap.size:=fun g hg=>(hrow.blockLt g hg).2
     by_cases hE10:E1=0
     ·subst hE10
      obtain⟨V2,hV2⟩:∃x,t2V M=x:=⟨_,rfl⟩
      obtain⟨R2,hR2⟩:∃x,t2R M=x:=⟨_,rfl⟩
      obtain⟨E2,hE2⟩:∃x,t2E M=x:=⟨_,rfl⟩
      go_wp2_with fail
      generalize v1.alloc (.cells #[.int .i64 K.obj,.int .i64 K.kind,.int .i64 K.off] 140)=w4 at R4 H4 N4 I4 W4 s4 K4 y3 hb4 ⊢
      refine (qk9 A3 n3 c3 M V2 R2 E2 hV2 hR2 hE2 w4 s4 (by omega)).mono ?_
      rintro e v2 ⟨A4,n4,c4,rfl,s5,hfr,hb5⟩
      have zr4:wr.heap.size≤w4.heap.size:=hb4.size
      have R5:=R4.below hb5 R4.lt
      have H5:=H4.below hb5 (by omega)
      have N5:=N4.below hb5 N4.lt
      have I5:=I4.below hb5
      have W5:=W4.trans (hb5.mono W4.size)
      have K5:=K4.below hb5 K4.lt
      clear R4 H4 N4 I4 W4 s4 K4 y3
      by_cases hE20:E2=0
      ·subst hE20
       have hrn1:rnTo H.level R (j+1)=some (⟨H.level,[],xs++[⟨K,V2⟩]⟩,R2):=by
        rw[hstep]
        unfold rnStep
        rw[hE1,if_pos rfl,hM,if_neg HLv.out,hE2,if_pos rfl,hK,hV2,hR2]
       have hn4:n4≤236:=by have h1:=qst M;have h2:=q8c r;have h3:=hsl.len;have h4:=s5.len;rw[hM] at h2;rw[hR2] at h1;omega
       have n1:=N5.c2
       have k0:=K5.c0
       have k1:=K5.c1
       have k2:=K5.c2
       have zr2:w4.heap.size≤v2.heap.size:=hb5.size
       have h5lt:R2≠[]→∀g,q02 A4=some g→g<v2.heap.size:=fun hl g hg=>s5.blockLt hl g hg
       have hfr2:∀g,q02 A4=some g→w4.heap.size≤g:=fun g hg=>by
        cases A4 with
        |none=>cases hg
        |some ad=>have:=hfr ad rfl;have e:ad.block=g:=Option.some.inj hg;omega
       have beY:Below v2.heap.size v2 (v2.alloc (.cells #[.int .i64 K.obj,.int .i64 K.kind,.int .i64 K.off,.int .i64 V2] 144)):=blA
       have I6:=I5.below beY
       have N6:=N5.below beY N5.lt
       have R6:=R5.below beY R5.lt
       have H6:=H5.below beY (by omega)
       have W6:=W5.trans (beY.mono W5.size)
       have s6:=s5.below beY
       have rowY:Sls (v2.alloc (.cells #[.int .i64 K.obj,.int .i64 K.kind,.int .i64 K.off,.int .i64 V2] 144)) 4 (some ⟨v2.heap.size,0,none⟩) 1 1 [Kidd.vs ⟨K,V2⟩]:=(q2a v2 144 4 (Kidd.vs ⟨K,V2⟩) _ rfl rfl).sls (by omega)
       have oneY:∀y∈[Kidd.vs ⟨K,V2⟩],∀u∈y,u.oneCell'=true:=by
        intro y hy u hu
        obtain rfl:y=Kidd.vs ⟨K,V2⟩:=by simpa using hy
        simp[Kidd.vs] at hu
        rcases hu with rfl|rfl|rfl|rfl<;>rfl
       have zY:hb+2≤(v2.alloc (.cells #[.int .i64 K.obj,.int .i64 K.kind,.int .i64 K.off,.int .i64 V2] 144)).heap.size:=Nat.le_trans (show hb+2≤v2.heap.size by omega) beY.size
       have hj3:j+1≤1000000:=by omega
       have hlowA:∀g,q02 A'=some g→hb+2≤g:=fun g hg=>(I6.blockLt g hg).1
       clear hstep hV2 hR2 hE2 I5 R5 H5 W5 K5 s5
       go_wp2_with (first
        |(at_builtin;refine q3u _ TKid rfl _ _ rfl (hb+2) A' j c' (xs.map Kidd.vs) rfl I6 (some ⟨v2.heap.size,0,none⟩) 1 1 [Kidd.vs ⟨K,V2⟩] rfl rowY (by omega) oneY hj3 (by omega) zY ?_)
        |fail)
       intro A6 c6 v6 I7 T7 hA7 _
       have zv5:=beY.size
       have I7':OwnS v6 (hb+2) 144 4 A6 (j+1) c6 ((xs++[(⟨K,V2⟩:Kidd)]).map Kidd.vs):=by rw[List.map_append];exact I7
       have N7:=N6.keep (T7.block (hb+1) N6.lt (fun e=>by have:=hlowA _ e;omega))
       have R7:=R6.keep (T7.block w.heap.size R6.lt (fun e=>by have:=hlowA _ e;omega))
       have H7:=H6.keep (T7.block hb (by omega) (fun e=>by have:=hlowA _ e;omega))
       have s7:=s6.turned' T7 (fun _ g hg e=>by have:=hltA g e;have:=hfr2 g hg;omega)
       have W7:=W6.trans (T7.below (B:=w.heap.size) (fun x hx=>by have:=hlowA x hx;omega) (by omega))
       have f1:=N7.fz 2
       have q1:=N7.c2
       have TS:Turn (fun g=>g=hb+1) v6 (v6.setCell ⟨hb+1,2,none⟩ (.slice A6 (j+1) c6)):=q0e (a:=⟨hb+1,2,none⟩) _ rfl
       have N8:=N7.set2 A6 (j+1) c6
       have R8:=R7.keep (TS.block w.heap.size R7.lt (by show ¬w.heap.size=hb+1;omega))
       have z6:hb+2≤v6.heap.size:=N7.lt
       have H8:=H7.keep (TS.block hb (by omega) (by show ¬hb=hb+1;omega))
       have I8:=I7'.turned TS (fun k hk e=>by have:=(I7'.blockLt k hk).1;have:k=hb+1:=e;omega)
       have s8:=s7.turned' TS (fun _ g hg e=>by have:=hfr2 g hg;have:g=hb+1:=e;omega)
       have W8:=W7.trans (TS.below (B:=w.heap.size) (fun x hx=>by have:x=hb+1:=hx;omega) (by have:=W7.size;omega))
       have hne8:R2≠[]→∀g,q02 A4=some g→q02 A6≠some g:=fun hl g hg e=>by
        have h1:=h5lt hl g hg
        have h2:=hfr2 g hg
        rcases hA7 with h3|h3
        ·have:=hltA g (h3.symm.trans e);omega
        ·rw[h3] at e
         have:=Option.some.inj e
         omega
       clear N7 R7 H7 I7 I7' s7 W7 N6 R6 H6 I6 s6 W6 rowY beY
       go_wp2
       exact⟨⟨j+1,xs++[⟨K,V2⟩],R2,A4,n4,c4,A6,c6,by omega,by go_num,rfl,hrn1,s8,hn4,hne8,R8,H8,N8,I8,W8⟩,by simp[intOf];omega⟩
      ·have hno:=Lib.hid (hnone (j+1) (by rw[hstep];unfold rnStep;rw[hE1,if_pos rfl,hM,if_neg HLv.out,hE2,if_neg hE20]) (by omega))
       have hb1:decide (E2=0)=false:=decide_eq_false hE20
       clear hstep
       go_wp2_with (first
        |(refine q07 rfl (.tmp 4) (.tmp 82) rfl w.heap.size rfl 0 none 0 0 none 0 0 rfl R5 ?_;intro wz Rz Tz)
        |fail)
       refine bodyPost_ret (q0r Tryz.results85 rfl (q0i Rz)) rfl ?_
       exact q1z hno.out (W5.trans (Tz.belowOne R5.lt))
     ·have hno:=Lib.hid (hnone (j+1) (by rw[hstep];unfold rnStep;rw[hE1,if_neg hE10]) (by omega))
      have hb1:decide (E1=0)=false:=decide_eq_false hE10
      clear hstep
      go_wp2_with (first
       |(refine q07 rfl (.tmp 4) (.tmp 51) rfl w.heap.size rfl 0 none 0 0 none 0 0 rfl R4 ?_;intro wz Rz Tz)
       |fail)
      refine bodyPost_ret (q0r Tryz.results85 rfl (q0i Rz)) rfl ?_
      exact q1z hno.out (W4.trans (Tz.belowOne R4.lt))
    ·obtain rfl:cnt=j:=by omega
     obtain⟨EW,hEW⟩:∃x,writeE ⟨H.level,[],xs⟩ addr H.gen=x:=⟨_,rfl⟩
     obtain⟨BW,hBW⟩:∃x,writeB ⟨H.level,[],xs⟩ addr H.gen=x:=⟨_,rfl⟩
     have y5:wr.cell? ⟨hb,4,none⟩=some (.int .i64 H.gen):=HH.at_ 4
     have m0:=NN.c0
     have m1:=NN.c1
     have m2:=NN.c2
     by_cases hcc:(cnt:Int)<H.count
     ·have hcd:¬(cnt:Int)<20:=by have:=Hcnt.out;omega
      go_wp2_with fail
      have hw:=q2z ⟨H.level,[],xs⟩ addr H.gen none 0 0 A' cnt c' wr (q1b wr) (hrow.sls (by omega)) (by omega) (by omega)
      rw[hEW,hBW] at hw
      refine hw.mono ?_
      clear hw
      rintro e v1 ⟨A9,n9,c9,rfl,s9,hb9⟩
      have R9:=RR.below hb9 RR.lt
      have N9:=NN.below hb9 NN.lt
      have I9:=hrow.below hb9
      have W9:=hB.trans (hb9.mono hB.size)
      clear hb9 RR NN HH hrow hB hsl hne y2 y5 m0 m1 m2
      by_cases hE0:EW=0
      ·by_cases hBb:BW=b
       ·have hyes:=Lib.hid (show readN b addr=some ⟨H.level,[],xs⟩ by rw[Hread.out,hrn];show (if writeE ⟨H.level,[],xs⟩ addr H.gen=0∧writeB ⟨H.level,[],xs⟩ addr H.gen=b then some (⟨H.level,[],xs⟩:Nd) else none)=_;rw[hEW,hBW,if_pos ⟨hE0,hBb⟩])
        subst hE0
        obtain⟨X,hX⟩:∃X,(⟨b.toArray⟩:ByteArray)=X:=⟨_,rfl⟩
        have k1:=strB s9
        have k2:=strB (hs.below W9)
        rw[hBb,hX] at k1
        rw[hX] at k2
        clear hX hrn hBb
        go_wp2_with (first
         |(refine q4s rfl (.tmp 9) rfl (hb+1) rfl N9 ?_)
         |(refine q07 rfl (.tmp 4) (.tmp 110) rfl w.heap.size rfl H.level none 0 0 A' cnt c' rfl R9 ?_;intro wz Rz Tz)
         |fail)
        refine bodyPost_ret (q0r Tryz.results85 rfl (q0i Rz)) rfl ?_
        obtain⟨g1,g2⟩:=q7m hyes.out
        refine⟨none,0,0,A',cnt,c',?_,by omega,by omega,?_,?_,W9.trans (Tz.belowOne R9.lt)⟩
        ·rw[g1,g2];rfl
        ·rw[g1];exact q1b _
        ·rw[g1];exact (I9.turned Tz (fun k hk e=>by have:=(I9.blockLt k hk).1;have:k=w.heap.size:=e;omega)).sls (by omega)
       ·have hno:=Lib.hid (show readN b addr=none by rw[Hread.out,hrn];show (if writeE ⟨H.level,[],xs⟩ addr H.gen=0∧writeB ⟨H.level,[],xs⟩ addr H.gen=b then some (⟨H.level,[],xs⟩:Nd) else none)=_;rw[hEW,hBW,if_neg (fun h=>hBb h.2)])
        subst hE0
        have hsne:¬((⟨BW.toArray⟩:ByteArray)=⟨b.toArray⟩):=fun h=>hBb (by injection h with h;simpa using h)
        have hsb:((⟨BW.toArray⟩:ByteArray).toList==(⟨b.toArray⟩:ByteArray).toList)=false:=by rw[ByteArray.toList_eq,ByteArray.toList_eq];simpa using hBb
        have k1:=strB s9
        have k2:=strB (hs.below W9)
        generalize (⟨BW.toArray⟩:ByteArray)=X at hsne hsb k1
        generalize (⟨b.toArray⟩:ByteArray)=Y at hsne hsb k2
        clear hrn hBb
        go_wp2_with (first
         |(refine q07 rfl (.tmp 4) (.tmp 109) rfl w.heap.size rfl 0 none 0 0 none 0 0 rfl R9 ?_;intro wz Rz Tz)
         |fail)
        refine bodyPost_ret (q0r Tryz.results85 rfl (q0i Rz)) rfl ?_
        exact q1z hno.out (W9.trans (Tz.belowOne R9.lt))
      ·have hno:=Lib.hid (show readN b addr=none by rw[Hread.out,hrn];show (if writeE ⟨H.level,[],xs⟩ addr H.gen=0∧writeB ⟨H.level,[],xs⟩ addr H.gen=b then some (⟨H.level,[],xs⟩:Nd) else none)=_;rw[hEW,hBW,if_neg (fun h=>hE0 h.1)])
       have hb1:decide (EW=0)=false:=decide_eq_false hE0
       clear hrn
       go_wp2_with (first
        |(refine q07 rfl (.tmp 4) (.tmp 109) rfl w.heap.size rfl 0 none 0 0 none 0 0 rfl R9 ?_;intro wz Rz Tz)
        |fail)
       refine bodyPost_ret (q0r Tryz.results85 rfl (q0i Rz)) rfl ?_
       exact q1z hno.out (W9.trans (Tz.belowOne R9.lt))
     ·have hcc2:decide ((cnt:Int)<H.count)=false:=decide_eq_false hcc
      go_wp2_with fail
      have hw:=q2z ⟨H.level,[],xs⟩ addr H.gen none 0 0 A' cnt c' wr (q1b wr) (hrow.sls (by omega)) (by omega) (by omega)
      rw[hEW,hBW] at hw
      refine hw.mono ?_
      clear hw
      rintro e v1 ⟨A9,n9,c9,rfl,s9,hb9⟩
      have R9:=RR.below hb9 RR.lt
      have N9:=NN.below hb9 NN.lt
      have I9:=hrow.below hb9
      have W9:=hB.trans (hb9.mono hB.size)
      clear hb9 RR NN HH hrow hB hsl hne y2 y5 m0 m1 m2
      by_cases hE0:EW=0
      ·by_cases hBb:BW=b
       ·have hyes:=Lib.hid (show readN b addr=some ⟨H.level,[],xs⟩ by rw[Hread.out,hrn];show (if writeE ⟨H.level,[],xs⟩ addr H.gen=0∧writeB ⟨H.level,[],xs⟩ addr H.gen=b then some (⟨H.level,[],xs⟩:Nd) else none)=_;rw[hEW,hBW,if_pos ⟨hE0,hBb⟩])
        subst hE0
        obtain⟨X,hX⟩:∃X,(⟨b.toArray⟩:ByteArray)=X:=⟨_,rfl⟩
        have k1:=strB s9
        have k2:=strB (hs.below W9)
        rw[hBb,hX] at k1
        rw[hX] at k2
        clear hX hrn hBb
        go_wp2_with (first
         |(refine q4s rfl (.tmp 9) rfl (hb+1) rfl N9 ?_)
         |(refine q07 rfl (.tmp 4) (.tmp 110) rfl w.heap.size rfl H.level none 0 0 A' cnt c' rfl R9 ?_;intro wz Rz Tz)
         |fail)
        refine bodyPost_ret (q0r Tryz.results85 rfl (q0i Rz)) rfl ?_
        obtain⟨g1,g2⟩:=q7m hyes.out
        refine⟨none,0,0,A',cnt,c',?_,by omega,by omega,?_,?_,W9.trans (Tz.belowOne R9.lt)⟩
        ·rw[g1,g2];rfl
        ·rw[g1];exact q1b _
        ·rw[g1];exact (I9.turned Tz (fun k hk e=>by have:=(I9.blockLt k hk).1;have:k=w.heap.size:=e;omega)).sls (by omega)
       ·have hno:=Lib.hid (show readN b addr=none by rw[Hread.out,hrn];show (if writeE ⟨H.level,[],xs⟩ addr H.gen=0∧writeB ⟨H.level,[],xs⟩ addr H.gen=b then some (⟨H.level,[],xs⟩:Nd) else none)=_;rw[hEW,hBW,if_neg (fun h=>hBb h.2)])
        subst hE0
        have hsne:¬((⟨BW.toArray⟩:ByteArray)=⟨b.toArray⟩):=fun h=>hBb (by injection h with h;simpa using h)
        have hsb:((⟨BW.toArray⟩:ByteArray).toList==(⟨b.toArray⟩:ByteArray).toList)=false:=by rw[ByteArray.toList_eq,ByteArray.toList_eq];simpa using hBb
        have k1:=strB s9
        have k2:=strB (hs.below W9)
        generalize (⟨BW.toArray⟩:ByteArray)=X at hsne hsb k1
        generalize (⟨b.toArray⟩:ByteArray)=Y at hsne hsb k2
        clear hrn hBb
        go_wp2_with (first
         |(refine q07 rfl (.tmp 4) (.tmp 109) rfl w.heap.size rfl 0 none 0 0 none 0 0 rfl R9 ?_;intro wz Rz Tz)
         |fail)
        refine bodyPost_ret (q0r Tryz.results85 rfl (q0i Rz)) rfl ?_
        exact q1z hno.out (W9.trans (Tz.belowOne R9.lt))
      ·have hno:=Lib.hid (show readN b addr=none by rw[Hread.out,hrn];show (if writeE ⟨H.level,[],xs⟩ addr H.gen=0∧writeB ⟨H.level,[],xs⟩ addr H.gen=b then some (⟨H.level,[],xs⟩:Nd) else none)=_;rw[hEW,hBW,if_neg (fun h=>hE0 h.1)])
       have hb1:decide (EW=0)=false:=decide_eq_false hE0
       clear hrn
       go_wp2_with (first
        |(refine q07 rfl (.tmp 4) (.tmp 109) rfl w.heap.size rfl 0 none 0 0 none 0 0 rfl R9 ?_;intro wz Rz Tz)
        |fail)
       refine bodyPost_ret (q0r Tryz.results85 rfl (q0i Rz)) rfl ?_
       exact q1z hno.out (W9.trans (Tz.belowOne R9.lt))
 ·have hno:=Lib.hid (show readN b addr=none by unfold readN;rw[if_neg (by rw[hE];exact hE0)])
  have hb1:decide (E=0)=false:=decide_eq_false hE0
  have Rx:=Rv.below bx Rv.lt
  have Wx:=Wv.trans (bx.mono Wv.size)
  go_wp2_with (first
   |(refine q07 rfl (.tmp 4) (.tmp 29) rfl w.heap.size rfl 0 none 0 0 none 0 0 rfl Rx ?_;intro wz Rz Tz)
   |fail)
  refine bodyPost_ret (q0r Tryz.results85 rfl (q0i Rz)) rfl ?_
  exact q1z hno.out (Wx.trans (Tz.belowOne Rx.lt))
end Go.Proofs.YtipejjgodnnkaaaGreatDoor
