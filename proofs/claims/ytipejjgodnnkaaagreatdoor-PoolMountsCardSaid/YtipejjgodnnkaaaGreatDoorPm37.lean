/- The reference's pool: Bytes -/
import Derived.Test.YtipejjgodnnkaaaGreatDoorPm36
namespace Go.Proofs.YtipejjgodnnkaaaGreatDoor
open Go Go.RowKit Go.Proofs
set_option maxHeartbeats 8000000
set_option maxRecDepth 100000
def datK (b:Bk)(k:Int):List UInt8:=match b with
 |.bytes k' l=>if k'=k then l else []
 |.node _=>[]
theorem qs1 {b:Bk}(hg:b.good)(hk:b.kindOk){a:Nat}(ha:a≤2047){k:Int}{most:Nat}(hm:mostK k=some most) :
  datE (b.out a 0) k a most 1=(if kdB (some b)=k then 0 else 1)∧datB (b.out a 0) k a most=datK b k:=by
 obtain⟨hk56,_⟩:=q0p hm
 have hck:ckOk (b.out a 0) k (a:Int)=decide ((b.hd a 0).kind=k∧(b.hd a 0).addr=(a:Int)):=by
  rw[hg.out a 0 ha q15]
  exact q9g _ _ (hg.hd a 0 ha q15) hg.body k (a:Int)
 cases b with
 |node N=>
  have h1:ckOk ((Bk.node N).out a 0) k (a:Int)=false:=by
   rw[hck]
   refine decide_eq_false fun h=>?_
   have h2:(if 0<N.lvl then (4:Int) else 3)=k:=h.1
   split at h2<;>omega
  obtain⟨d1,d2⟩:=q58 (most:=most) 1 (q7r (most:=most) h1)
  refine⟨d1.trans ?_,d2⟩
  rw[if_neg]
  show ¬(3:Int)=k
  omega
 |bytes k' l=>
  show _=(if k'=k then (0:Int) else 1)∧_=if k'=k then l else []
  by_cases e:k'=k
  ·subst e
   obtain⟨mm,h1,h2⟩:=hk
   rw[hm] at h1
   injection h1 with h1
   subst h1
   obtain⟨r1,r2⟩:=q8u k' a most 0 l hk56 ha q15 h2 (q0p hm).2
   obtain⟨d1,d2⟩:=q5k 1 r1
   rw[if_pos rfl,if_pos rfl]
   exact⟨d1,d2.trans r2⟩
  ·have h1:ckOk ((Bk.bytes k' l).out a 0) k (a:Int)=false:=by
    rw[hck]
    exact decide_eq_false fun h=>e h.1
   obtain⟨d1,d2⟩:=q58 (most:=most) 1 (q7r (most:=most) h1)
   rw[if_neg e,if_neg e]
   exact⟨d1,d2⟩
theorem qdx {l:List UInt8}{i:Nat}:allZ (l.drop i)=true↔∀j,i≤j→j<l.length→l.getD j 0=0:=by
 unfold allZ
 rw[List.all_eq_true]
 constructor
 ·intro h j h1 h2
  have h3:(l.drop i)[j-i]?=some l[j]:=by rw[List.getElem?_drop,show i+(j-i)=j by omega];exact List.getElem?_eq_getElem h2
  have:=h _ (List.mem_of_getElem? h3)
  rw[List.getD_eq_getElem?_getD,List.getElem?_eq_getElem h2]
  simpa using this
 ·intro h x hx
  obtain⟨n,hn,rfl⟩:=List.mem_iff_getElem.1 hx
  rw[List.length_drop] at hn
  have:=h (i+n) (by omega) (by omega)
  rw[List.getD_eq_getElem?_getD,List.getElem?_eq_getElem (by omega)] at this
  rw[List.getElem_drop]
  simpa using this
section
variable {w:World}{q y:Nat}{S0 S T:Nat→Prop}{P:Pl}{D:DM}
theorem qfk {c g:Nat}{Sc:Nat→Prop}(L:RQ w q y c g Sc S T P)(L0:RDrv w y S0 D)(k:Nat)(hk:k<P.C.n)(kind:Int)(most:Nat)(hm:mostK kind=some most)(hG:P.C.get (k:Int)≠0)(hL:P.L k=none) :
  Calls Tryz.prog 21 #[.pointer (some ⟨q,0,none⟩),.int .i64 (k:Int),.int .i64 kind] w fun e w'=>∃A n c,e=.returned (.tuple #[.slice A n c,.int .i64 (if D.readE (k:Int)=0 then datE (D.readL (k:Int)) kind k most 5 else D.readE (k:Int))])∧Sl w' A n c (if D.readE (k:Int)=0 then datB (D.readL (k:Int)) kind k most else [])∧Below w.heap.size w w':=by
 have e0:mostN kind=(most:Int):=by unfold mostK at hm;unfold mostN;split at hm;rename_i h1;injection hm with hm;subst hm;rw[if_pos h1];rfl;split at hm;rename_i h1 h2;injection hm with hm;subst hm;rw[if_neg h1,if_pos h2];rfl;cases hm
 obtain⟨hk56,hm236⟩:=q0p hm
 have hmo:=fun w=>q3d kind w
 rw[e0] at hmo
 have Hmo:=Lib.hid hmo
 obtain⟨G,hGG⟩:∃G,P.C.get (k:Int)=G:=⟨_,rfl⟩
 have Hge:=Lib.hid (fun (w1:World) (C1:RC w1 c Sc P.C)=>q0u C1 (k:Int) G hGG)
 have nG:(G==0)=false:=by rw[←hGG];simpa using hG
 have nm0:¬(most:Int)<0:=by omega
 have h36:=L.c36
 have h37:=L.c37
 have h0':=L.c0
 have hc:=L.kd hk
 rw[hL] at hc
 replace hc:w.cell? ⟨g,k*5,none⟩=some (.int .i64 0):=hc
 have nk:(0==kind)=false:=by simp;omega
 have hcn:=L.ct.ok.1
 have i0:(0:Int)≤(k:Int):=by omega
 have i1:(k:Int)<(P.C.n:Int):=by omega
 obtain⟨ro,oc,iv,vs,R⟩:=L0
 have hrd:=q8l R (k:Int)
 obtain⟨E,hE⟩:∃E,D.readE (k:Int)=E:=⟨_,rfl⟩
 obtain⟨x,hx⟩:∃x,D.readL (k:Int)=x:=⟨_,rfl⟩
 rw[hE,hx] at hrd ⊢
 have Hrd:=Lib.hid hrd
 clear hrd hE hx hmo e0 hm hL hGG hG
 by_cases hz:E=0
 ·subst hz
  rw[if_pos rfl,if_pos rfl]
  have hCk:=fun (A:Option Addr) (n c:Nat) (w2:World) (s2:Sl w2 A n c x)=>qe8 A n c x kind (k:Int) w2 s2
  unfold q4r at hCk
  cases hck:ckOk x kind (k:Int) with
  |false=>
   obtain⟨c1,c2,c3⟩:=qbw hck
   rw[c1,c2,c3] at hCk
   have HCk:=Lib.hid hCk
   obtain⟨d1,d2⟩:=q58 5 (q7r (most:=most) hck)
   rw[d1,d2]
   clear hCk d1 d2 c1 c2 c3 hck
   go_enter Tryz.func21,Tryz.ntmps21
   go_wp2_with fail
   refine (Hge.out w L.ct).mono ?_
   rintro e w1 ⟨rfl,rfl⟩
   go_wp2_with (first
    |(go_at_call 81;refine (Hmo.out w).mono ?_;rintro e w1 ⟨rfl,rfl⟩)
    |(go_at_call 82;refine Hrd.out.mono ?_;rintro e w4 ⟨A4,n4,q4,rfl,s4,b4⟩)
    |(go_at_call 83;refine (HCk.out A4 n4 q4 w4 s4).mono ?_;rintro e w5 ⟨A5,n5,q5,rfl,s5,b5⟩)
    |(refine q0j rfl (.tmp 12) (.tmp 75) rfl w5.heap.size rfl Hd.zero _ rfl (HB.zero w5 _) (by simp) ?_;intro w6 H6 hb6 T6;have b56:Below w5.heap.size w5 w6:=(blA).trans (hb6 _ (Nat.le_refl _)))
    |fail)
   go_ret2
   exact⟨_,_,_,rfl,q0k _,b4.trans ((b5.trans (b56.mono b5.size)).mono b4.size)⟩
  |true=>
   obtain⟨c1,c2,c3⟩:=qao hck
   rw[c1,c2,c3] at hCk
   have hokB:okB x=true:=by unfold ckOk at hck;rw[Bool.and_eq_true] at hck;exact hck.1
   have hxl:=qgp hokB
   have hokH:=(of_decide_eq_true hokB).2.2.1
   obtain⟨H,hH⟩:∃H,opH x=H:=⟨_,rfl⟩
   have hHok:H.ok=true:=by rw[←hH];unfold opH;rw[if_pos hokB];exact hokH
   rw[hH] at hCk
   have hcnt:0≤H.count:=(of_decide_eq_true hHok).2.2.2.1.1
   have HCk:=Lib.hid hCk
   have hdat:datOk x kind k most=(decide (H.level=0∧H.count≤(most:Int))&&allZ ((x.drop 20).drop H.count.toNat)):=by unfold datOk;rw[hck,hH,Bool.true_and]
   have hdl:datL x=(x.drop 20).take H.count.toNat:=by unfold datL;rw[hH]
   have Hdat:=Lib.hid hdat
   have Hdl:=Lib.hid hdl
   have hbl:(x.drop 20).length=236:=by rw[List.length_drop,hxl]
   obtain⟨bd,hbd⟩:∃bd,x.drop 20=bd:=⟨_,rfl⟩
   rw[hbd] at Hdat Hdl hbl hCk HCk
   clear hCk c1 c2 c3 hck hokH hH hHok hdat hdl hokB hbd hxl
   by_cases h1:H.level=0
   ·have nl:(H.level != 0)=false:=by simpa using h1
    by_cases h2:H.count≤(most:Int)
    ·obtain⟨cn,hcn2⟩:=Int.eq_ofNat_of_zero_le hcnt
     have hcm:cn≤most:=by omega
     have hH2:∃ki ad le ge,H=⟨ki,ad,(cn:Int),le,ge⟩:=⟨H.kind,H.addr,H.level,H.gen,by cases H;simp_all⟩
     obtain⟨ki,ad,le,ge,rfl⟩:=hH2
     have hdd:datOk x kind k most=allZ (bd.drop cn):=by rw[Hdat.out,decide_eq_true ⟨h1,h2⟩,Bool.true_and];simp
     have Hdd:=Lib.hid hdd
     have e4:¬(most:Int)<(cn:Int):=by omega
     have Hbl:=Lib.hid hbl
     have hdl2:datL x=bd.take cn:=by rw[Hdl.out];simp
     have Hdl2:=Lib.hid hdl2
     clear hdd h1 h2 hcn2 hcnt hbl hdl2
     go_enter Tryz.func21,Tryz.ntmps21
     go_wp2_with fail
     refine (Hge.out w L.ct).mono ?_
     rintro e w1 ⟨rfl,rfl⟩
     go_wp2_with (first
      |(go_at_call 81;refine (Hmo.out w).mono ?_;rintro e w1 ⟨rfl,rfl⟩)
      |(go_at_call 82;refine Hrd.out.mono ?_;rintro e w4 ⟨A4,n4,q4,rfl,s4,b4⟩)
      |(go_at_call 83;refine (HCk.out A4 n4 q4 w4 s4).mono ?_;rintro e w5 ⟨A5,n5,q5,rfl,s5,b5⟩;have hn5:n5=236:=(s5.len.symm.trans Hbl.out);subst hn5;have hcap5:=s5.cap;have hmx5:=s5.max;unfold maxLen at hmx5)
      |(refine q0j rfl (.tmp 12) (.tmp 75) rfl w5.heap.size rfl ⟨ki,ad,(cn:Int),le,ge⟩ _ rfl (HB.zero w5 _) (by simp) ?_;intro w6 H6 hb6 T6;have b56:Below w5.heap.size w5 w6:=(blA).trans (hb6 _ (Nat.le_refl _));have qc2:=H6.at_ 3;have qc3:=H6.at_ 1;simp only[foff,Hd.fld] at qc2 qc3;have s6:=s5.below b56)
      |fail)
     have B6:Below w.heap.size w w6:=b4.trans ((b5.trans (b56.mono b5.size)).mono b4.size)
     go_loopw [14] (fun iv wr=>∃i:Nat,cn≤i∧i≤236∧iv=.int .i64 (i:Int)∧(∀j,cn≤j→j<i→bd.getD j 0=0)∧wr=w6) (fun iv _=>236-(intOf iv).toNat)
     case atStart=>exact⟨cn,Nat.le_refl _,by omega,rfl,fun j h1 h2=>by omega,rfl⟩
     case round=>
      obtain⟨i,hi1,hi2,rfl,hz,rfl⟩:=hrel
      by_cases hlt:i<236
      ·have e5:(i:Int)<236:=by omega
       have e6:(0:Int)≤(i:Int):=by omega
       obtain⟨ad5,hA5,hcell⟩:∃ad5,A5=some ad5∧wr.cell? (ad5.add i)=some (bv (bd.getD i 0)):=by
        have hu:(bd.map bv)[i]?=some (bv (bd.getD i 0)):=by rw[List.getElem?_map,List.getD_eq_getElem?_getD,List.getElem?_eq_getElem (by rw[Hbl.out];omega)];rfl
        obtain⟨ad5,e,_,hcl⟩:=s6.2.2.2 i _ hu
        exact⟨ad5,e,hcl⟩
       subst hA5
       by_cases hb0:bd.getD i 0=0
       ·have hcell2:wr.cell? (ad5.add i)=some (.int .u8 0):=by rw[hcell,hb0];rfl
        clear hcell
        go_wp2_with fail
        exact⟨⟨i+1,by omega,by omega,by go_num,fun j h1 h2=>by
         by_cases e:j=i
         ·rw[e];exact hb0
         ·exact hz j h1 (by omega),by first|trivial|rfl⟩,by simp[intOf];omega⟩
       ·obtain⟨u,hu⟩:∃u:Nat,(bd.getD i 0).toNat=u:=⟨_,rfl⟩
        have hcell2:wr.cell? (ad5.add i)=some (.int .u8 (u:Int)):=by rw[hcell];unfold bv;rw[hu]
        have hu0:((u:Int)!=0)=true:=by
         have:u≠0:=fun e=>hb0 (by rw[e] at hu;exact UInt8.toNat_inj.1 hu)
         simp;omega
        have hno:allZ (bd.drop cn)=false:=by
         cases h:allZ (bd.drop cn) with
         |false=>rfl
         |true=>exact absurd (qdx.1 h i hi1 (by rw[Hbl.out];omega)) hb0
        obtain⟨d1,d2⟩:=q58 5 (Hdd.out.trans hno)
        have D1:=Lib.hid d1
        have D2:=Lib.hid d2
        clear hcell hb0 hu d1 d2 hno
        go_wp2_with fail
        go_ret2
        rw[D1.out,D2.out]
        exact⟨_,_,_,rfl,q0k _,B6⟩
      ·have e5:¬(i:Int)<236:=by omega
       have hyes:allZ (bd.drop cn)=true:=qdx.2 fun j h1 h2=>hz j h1 (by rw[Hbl.out] at h2;omega)
       obtain⟨d1,d2⟩:=q5k 5 (Hdd.out.trans hyes)
       have D1:=Lib.hid d1
       have D2:=Lib.hid (d2.trans Hdl2.out)
       have bl:Below wr.heap.size wr (wr.alloc (.cells #[] 5)):=blA
       have own0:Own (wr.alloc (.cells #[] 5)) wr.heap.size 5 (some ⟨wr.heap.size,0,none⟩) 0 0 []:=q11 wr _
       have zl:=bl.size
       have s7:=(s6.take (k:=cn) (by omega)).below bl
       have qc2b:=(bl.cell (p:=⟨w5.heap.size,2,none⟩) (by obtain⟨_,h⟩:=H6;exact q01 h)).trans qc2
       have e7:(0:Int)≤(cn:Int):=by omega
       have e8:(cn:Int)≤(q5:Int):=by omega
       clear d1 d2 hyes
       go_wp2_with (first
        |(at_builtin;refine q1q _ T22 rfl _ _ rfl wr.heap.size wr.heap.size rfl own0 A5 cn q5 _ rfl (by simpa using s7) (by omega) (by omega) ?_;intro A' c' w8 own8 b8)
        |fail)
       go_ret2
       rw[D1.out,D2.out]
       exact⟨_,_,_,rfl,own8.sl,B6.trans ((bl.trans (b8.mono bl.size)).mono B6.size)⟩
    ·have e4:(most:Int)<H.count:=by omega
     have hdd:datOk x kind k most=false:=by rw[Hdat.out,decide_eq_false (fun h=>h2 h.2),Bool.false_and]
     obtain⟨d1,d2⟩:=q58 5 hdd
     rw[d1,d2]
     clear d1 d2 hdd h2 h1
     go_enter Tryz.func21,Tryz.ntmps21
     go_wp2_with fail
     refine (Hge.out w L.ct).mono ?_
     rintro e w1 ⟨rfl,rfl⟩
     go_wp2_with (first
      |(go_at_call 81;refine (Hmo.out w).mono ?_;rintro e w1 ⟨rfl,rfl⟩)
      |(go_at_call 82;refine Hrd.out.mono ?_;rintro e w4 ⟨A4,n4,q4,rfl,s4,b4⟩)
      |(go_at_call 83;refine (HCk.out A4 n4 q4 w4 s4).mono ?_;rintro e w5 ⟨A5,n5,q5,rfl,s5,b5⟩)
      |(refine q0j rfl (.tmp 12) (.tmp 75) rfl w5.heap.size rfl H _ rfl (HB.zero w5 _) (by simp) ?_;intro w6 H6 hb6 T6;have b56:Below w5.heap.size w5 w6:=(blA).trans (hb6 _ (Nat.le_refl _));have qc2:=H6.at_ 3;have qc3:=H6.at_ 1;simp only[foff,Hd.fld] at qc2 qc3)
      |fail)
     go_ret2
     exact⟨_,_,_,rfl,q0k _,b4.trans ((b5.trans (b56.mono b5.size)).mono b4.size)⟩
   ·have nl:(H.level != 0)=true:=by simpa using h1
    have hdd:datOk x kind k most=false:=by rw[Hdat.out,decide_eq_false (fun h=>h1 h.1),Bool.false_and]
    obtain⟨d1,d2⟩:=q58 5 hdd
    rw[d1,d2]
    clear d1 d2 hdd h1
    go_enter Tryz.func21,Tryz.ntmps21
    go_wp2_with fail
    refine (Hge.out w L.ct).mono ?_
    rintro e w1 ⟨rfl,rfl⟩
    go_wp2_with (first
     |(go_at_call 81;refine (Hmo.out w).mono ?_;rintro e w1 ⟨rfl,rfl⟩)
     |(go_at_call 82;refine Hrd.out.mono ?_;rintro e w4 ⟨A4,n4,q4,rfl,s4,b4⟩)
     |(go_at_call 83;refine (HCk.out A4 n4 q4 w4 s4).mono ?_;rintro e w5 ⟨A5,n5,q5,rfl,s5,b5⟩)
     |(refine q0j rfl (.tmp 12) (.tmp 75) rfl w5.heap.size rfl H _ rfl (HB.zero w5 _) (by simp) ?_;intro w6 H6 hb6 T6;have b56:Below w5.heap.size w5 w6:=(blA).trans (hb6 _ (Nat.le_refl _));have qc2:=H6.at_ 3;have qc3:=H6.at_ 1;simp only[foff,Hd.fld] at qc2 qc3)
     |fail)
    go_ret2
    exact⟨_,_,_,rfl,q0k _,b4.trans ((b5.trans (b56.mono b5.size)).mono b4.size)⟩
 ·have nE:(E != 0)=true:=by simpa using hz
  rw[if_neg hz,if_neg hz]
  go_enter Tryz.func21,Tryz.ntmps21
  go_wp2_with fail
  refine (Hge.out w L.ct).mono ?_
  rintro e w1 ⟨rfl,rfl⟩
  go_wp2_with (first
   |(go_at_call 81;refine (Hmo.out w).mono ?_;rintro e w1 ⟨rfl,rfl⟩)
   |(go_at_call 82;refine Hrd.out.mono ?_;rintro e w4 ⟨A4,n4,q4,rfl,s4,b4⟩)
   |fail)
  go_ret2
  exact⟨_,_,_,rfl,q0k _,b4⟩
end
section
variable {w:World}{q y:Nat}{S0 S T:Nat→Prop}{P:Pl}{D:DM}
theorem qab (L0:RDrv w y S0 D)(H:RPool w q y S T P)(hkd:∀a b,P.L a=some b→b.kindOk)(hgd:∀a b,P.L a=some b→b.good)(a k:Int) :
  Calls Tryz.prog 21 #[.pointer (some ⟨q,0,none⟩),.int .i64 a,.int .i64 k] w fun e w'=>∃A n c,e=.returned (.tuple #[.slice A n c,.int .i64 (P.bytesE D a k)])∧Sl w' A n c (P.bytesL D a k)∧Below w.heap.size w w':=by
 obtain⟨cc,g,Sc,L⟩:=H
 have h36:=L.c36
 obtain⟨G,hG⟩:∃G,P.C.get a=G:=⟨_,rfl⟩
 have Hge:=Lib.hid (fun (w1:World) (C1:RC w1 cc Sc P.C)=>q0u C1 a G hG)
 cases hm:mostK k with
 |none=>
  have e0:mostN k=-1:=by unfold mostK at hm;unfold mostN;split at hm;cases hm;split at hm;cases hm;rename_i h1 h2;rw[if_neg h1,if_neg h2]
  have eE:P.bytesE D a k=1:=by unfold Pl.bytesE;rw[hm]
  have eL:P.bytesL D a k=[]:=by unfold Pl.bytesL;rw[hm]
  rw[eE,eL]
  have hmo:=fun w=>q3d k w
  rw[e0] at hmo
  have Hmo:=Lib.hid hmo
  clear hmo hm e0 eE eL hG
  by_cases h0:G=0
  ·subst h0
   go_enter Tryz.func21,Tryz.ntmps21
   go_wp2_with fail
   refine (Hge.out w L.ct).mono ?_
   rintro e w1 ⟨rfl,rfl⟩
   go_wp2_with fail
   refine (Hmo.out w).mono ?_
   rintro e w1 ⟨rfl,rfl⟩
   go_wp2
   go_ret2
   exact⟨_,_,_,rfl,q0k _,Below.refl _ _⟩
  ·have nG:(G==0)=false:=by simpa using h0
   go_enter Tryz.func21,Tryz.ntmps21
   go_wp2_with fail
   refine (Hge.out w L.ct).mono ?_
   rintro e w1 ⟨rfl,rfl⟩
   go_wp2_with fail
   refine (Hmo.out w).mono ?_
   rintro e w1 ⟨rfl,rfl⟩
   go_wp2
   go_ret2
   exact⟨_,_,_,rfl,q0k _,Below.refl _ _⟩
 |some most=>
  have e0:mostN k=(most:Int):=by unfold mostK at hm;unfold mostN;split at hm;rename_i h1;injection hm with hm;subst hm;rw[if_pos h1];rfl;split at hm;rename_i h1 h2;injection hm with hm;subst hm;rw[if_neg h1,if_pos h2];rfl;cases hm
  obtain⟨hk56,hm236⟩:=q0p hm
  have hmo:=fun w=>q3d k w
  rw[e0] at hmo
  have Hmo:=Lib.hid hmo
  have nm0:¬(most:Int)<0:=by omega
  by_cases h0:G=0
  ·have eE:P.bytesE D a k=1:=by unfold Pl.bytesE;rw[hm];exact if_pos (hG.trans h0)
   have eL:P.bytesL D a k=[]:=by unfold Pl.bytesL;rw[hm];exact if_pos (hG.trans h0)
   rw[eE,eL]
   subst h0
   clear hmo hm e0 eE eL hG
   go_enter Tryz.func21,Tryz.ntmps21
   go_wp2_with fail
   refine (Hge.out w L.ct).mono ?_
   rintro e w1 ⟨rfl,rfl⟩
   go_wp2_with fail
   refine (Hmo.out w).mono ?_
   rintro e w1 ⟨rfl,rfl⟩
   go_wp2
   go_ret2
   exact⟨_,_,_,rfl,q0k _,Below.refl _ _⟩
  ·have hG0:P.C.get a≠0:=fun h=>h0 (hG.symm.trans h)
   obtain⟨n,rfl,hn⟩:=q6w hG0
   have hcn:=L.ct.ok.1
   have hv:P.live n=P.L n:=qmc hG0
   cases hL:P.L n with
   |none=>
    have eE:P.bytesE D (n:Int) k=if D.readE (n:Int)=0 then datE (D.readL (n:Int)) k n most 5 else D.readE (n:Int):=by unfold Pl.bytesE;rw[hm];show (if _ then _ else _)=_;rw[if_neg hG0,Int.toNat_natCast,hv,hL]
    have eL:P.bytesL D (n:Int) k=if D.readE (n:Int)=0 then datB (D.readL (n:Int)) k n most else []:=by unfold Pl.bytesL;rw[hm];show (if _ then _ else _)=_;rw[if_neg hG0,Int.toNat_natCast,hv,hL]
    rw[eE,eL]
    exact qfk L L0 n hn k most hm hG0 hL
   |some b=>
    have eE:P.bytesE D (n:Int) k=datE (b.out n 0) k n most 1:=by unfold Pl.bytesE;rw[hm];show (if _ then _ else _)=_;rw[if_neg hG0,Int.toNat_natCast,hv,hL]
    have eL:P.bytesL D (n:Int) k=datB (b.out n 0) k n most:=by unfold Pl.bytesL;rw[hm];show (if _ then _ else _)=_;rw[if_neg hG0,Int.toNat_natCast,hv,hL]
    obtain⟨d1,d2⟩:=qs1 (hgd n b hL) (hkd n b hL) (a:=n) (by omega) hm
    rw[eE,eL,d1,d2]
    have hc:=L.kd hn
    rw[hL] at hc
    have h37:=L.c37
    have h0':=L.c0
    have i0:(0:Int)≤(n:Int):=by omega
    have i1:(n:Int)<(P.C.n:Int):=by omega
    have nG:(G==0)=false:=by simpa using h0
    by_cases e:kdB (some b)=k
    ·obtain⟨l,rfl⟩:∃l,b=.bytes k l:=by
      cases b with
      |node N=>
       have e:(3:Int)=k:=e
       omega
      |bytes k' l=>
       have e:k'=k:=e
       exact⟨l,by rw[e]⟩
     rw[if_pos e]
     show Calls _ _ _ _ fun e w'=>∃A n c,e=.returned (.tuple #[.slice A n c,.int .i64 0])∧Sl w' A n c (if k=k then l else [])∧Below w.heap.size w w'
     rw[if_pos rfl]
     obtain⟨v,hv5,hvr,hvb⟩:=L.row.at_ hn
     rw[hL] at hvb
     obtain⟨A,m,c,rfl,hst⟩:=hvb
     have hs:=hst.now
     have hcb:w.cell? ⟨g,n*5+4,none⟩=some (.slice A m c):=hvr 4 _ rfl
     have bl:Below w.heap.size w (w.alloc (.cells #[] 5)):=blA
     have own0:Own (w.alloc (.cells #[] 5)) w.heap.size 5 (some ⟨w.heap.size,0,none⟩) 0 0 []:=q11 w _
     have s1:=hs.below bl
     have zl:=bl.size
     have hcap:=hs.cap
     have hmx:=hs.max
     unfold maxLen at hmx
     have hle:m≤140737488355328:=by
      have h1:=hs.len
      have h2:=(hgd n _ hL).body
      have h3:(Bk.bytes k l).body=l:=rfl
      rw[h3] at h2
      omega
     have h37b:=(bl.cell (p:=⟨q,37,none⟩) L.qlt).trans h37
     have hcb2:=(bl.cell (p:=⟨g,n*5+4,none⟩) L.glt).trans hcb
     replace hc:w.cell? ⟨g,n*5,none⟩=some (.int .i64 k):=hc
     have kk:(k==k)=true:=by simp
     clear hmo hm e0 eE eL hG hvr hL hv d1 d2 e hst hG0 hv5
     go_enter Tryz.func21,Tryz.ntmps21
     go_wp2_with fail
     refine (Hge.out w L.ct).mono ?_
     rintro e w1 ⟨rfl,rfl⟩
     go_wp2_with fail
     refine (Hmo.out w).mono ?_
     rintro e w1 ⟨rfl,rfl⟩
     go_wp2_with (first
      |(at_builtin;refine q1q _ T22 rfl _ _ rfl w.heap.size w.heap.size rfl own0 A m c l rfl s1 hle zl ?_;intro A' c' w8 own8 b8)
      |fail)
     go_ret2
     exact⟨_,_,_,rfl,own8.sl,bl.trans (b8.mono bl.size)⟩
    ·rw[if_neg e]
     have eN:datK b k=[]:=by
      cases b with
      |node N=>rfl
      |bytes k' l=>exact if_neg e
     rw[eN]
     have n0:(kdB (some b)!=0)=true:=by
      cases b with
      |node N=>rfl
      |bytes k' l=>
       obtain⟨mm,h1,_⟩:=hkd n _ hL
       have:=(q0p h1).1
       show (k' != 0)=true
       simp;omega
     obtain⟨kd,hkk⟩:∃kd,kdB (some b)=kd:=⟨_,rfl⟩
     rw[hkk] at hc n0 e
     have ne:(kd==k)=false:=by simpa using e
     clear hmo hm e0 eE eL hG hL hv d1 d2 e hG0 hkk eN
     go_enter Tryz.func21,Tryz.ntmps21
     go_wp2_with fail
     refine (Hge.out w L.ct).mono ?_
     rintro e w1 ⟨rfl,rfl⟩
     go_wp2_with fail
     refine (Hmo.out w).mono ?_
     rintro e w1 ⟨rfl,rfl⟩
     go_wp2
     go_ret2
     exact⟨_,_,_,rfl,q0k _,Below.refl _ _⟩
end
theorem qmd {s:Nat}(z:List Value)(hz:z.length=s)(hs:0<s)(n:Nat):(madeCells z.toArray (n*s)).toList=(List.replicate n z).flatten:=by
 have hall:∀x∈List.replicate n z,x.length=s:=fun x hx=>by rw[(List.mem_replicate.1 hx).2];exact hz
 refine List.ext_getElem? fun j=>?_
 by_cases hj:j<n*s
 ·have hq:j / s<n:=Nat.div_lt_of_lt_mul (by rw[Nat.mul_comm];exact hj)
  have hr:j % s<s:=Nat.mod_lt _ hs
  have h1:=q9a hall (j / s) z (by rw[List.getElem?_replicate,if_pos hq]) (j % s) (z[j % s]'(by omega)) (List.getElem?_eq_getElem _)
  rw[Nat.div_add_mod' j s] at h1
  rw[h1,Array.getElem?_toList]
  unfold madeCells
  rw[Array.getElem?_map,Array.getElem?_range,if_pos hj]
  show some (z.toArray[j % z.toArray.size]!)=_
  subst hz
  congr 1
  rw[List.size_toArray,getElem!_pos z.toArray (j % z.length) (by rw[List.size_toArray];omega)]
  rfl
 ·rw[List.getElem?_eq_none (by rw[Array.length_toList,size_madeCells];omega),List.getElem?_eq_none (by rw[q7b hall,List.length_replicate];omega)]
def blkZ:List Value:=[.int .i64 0,.int .i64 0,.slice none 0 0,.slice none 0 0,.slice none 0 0]
def mkQ (a b:Value):Sem Value:=Instr.makeSlice 58 a b
theorem qhe (a b:Value):Instr.makeSlice 58 a b=mkQ a b:=rfl
def litQ (n:Nat)(w:World):World:=w.alloc (.cells (madeCells blkZ.toArray (n*5)) 115)
theorem qme (n:Nat)(hn:n≤3000)(w:World):(mkQ (.int .i64 (n:Int)) (.int .i64 (n:Int))).run Tryz.prog w=.ok (.slice (some ⟨w.heap.size,0,none⟩) n n) (litQ n w):=by
 obtain⟨i,hi,hz0,hz1,hz2⟩:=info_parts (show (Tryz.prog.info? 115).map (fun i=>(i.zero,i.size,i.bytes))=some (some (.agg blkZ.toArray),5,88) by kernel_rfl)
 have h:=run_makeSlice (P:=Tryz.prog) w 58 115 i _ Tryz.underlying58 hi hz0 .i64 .i64 n n (by omega) (by omega) (by rw[hz1,Int.toNat_natCast];omega) (by rw[hz2];omega) (by omega)
 rw[hz1] at h
 exact h
theorem q64 (n:Nat)(w:World):(litQ n w).heap.size=w.heap.size+1:=by unfold litQ;simp
theorem qhf {w w':World}{n:Nat}(h:w'.heap[w.heap.size]?=(litQ n w).heap[w.heap.size]?)(T:Nat→Prop):QR w' w.heap.size n T fun _=>none:=by
 refine⟨List.replicate n blkZ,115,?_,List.length_replicate,fun x hx=>by rw[(List.mem_replicate.1 hx).2];rfl,fun a v hv=>?_⟩
 ·rw[h,←qmd (s:=5) blkZ rfl (by decide)]
  exact heap_alloc_new w _
 ·rw[List.getElem?_replicate] at hv
  split at hv
  ·injection hv with hv
   subst hv
   exact⟨_,_,_,_,rfl,rfl,rfl,rfl,rfl⟩
  ·cases hv
def bdQ (parts:Array (Nat × Value)):Sem Value:=Instr.build 60 parts
theorem qp2 (parts:Array (Nat × Value)):Instr.build 60 parts=bdQ parts:=rfl
theorem qs2 (y:Nat)(S:Sp)(c g n:Nat)(w:World):(bdQ #[(0,.pointer (some ⟨y,0,none⟩)),(1,.agg S.vs.toArray),(2,.pointer (some ⟨c,0,none⟩)),(3,.slice (some ⟨g,0,none⟩) n n)]).run Tryz.prog w=.ok (.agg (qV y S c g n).toArray) w:=by
 unfold qV Sp.vs
 obtain⟨a,b,c,d1,e,f,g,h,hl⟩:=q7y S.len
 rw[hl]
 show (Instr.build 60 _).run Tryz.prog w=_
 kernel_rfl
end Go.Proofs.YtipejjgodnnkaaaGreatDoor
