/- The reference's pool: Mount's walk -/
import Derived.Test.YtipejjgodnnkaaaGreatDoorPm37
namespace Go.Proofs.YtipejjgodnnkaaaGreatDoor
open Go Go.RowKit Go.Proofs
set_option maxHeartbeats 8000000
set_option maxRecDepth 100000
section
theorem qti {w:World}{y:Nat}{S0:Nat→Prop}{D:DM}(L0:RDrv w y S0 D)(s:Int)(w1:World)(bb:Below w.heap.size w w1) :
  Calls Tryz.prog 82 #[.pointer (some ⟨y,0,none⟩),.int .i64 s] w1 fun e w'=>∃A n c,e=.returned (.tuple #[.slice A n c,.int .i64 (D.readE s)])∧Sl w' A n c (D.readL s)∧Below w1.heap.size w1 w':=by
 obtain⟨ro,oc,iv,vs,R⟩:=L0
 exact q8l (R.keep fun k hk _=>bb.block k hk) s
theorem qq8 {x:List UInt8}{a:Nat}{g:Int}:cntOk x a g=(ckOk x 2 (a:Int)&&decide ((opH x).count=0∧(opH x).level=0∧(opH x).gen=g)):=rfl
theorem qp3 (f:Nat→List UInt8)(a j:Nat):(List.range (j+1)).map (fun i=>(f (a+i)).drop 20)=(List.range j).map (fun i=>(f (a+i)).drop 20)++[(f (a+j)).drop 20]:=by
 rw[List.range_succ,List.map_append]
 rfl
attribute [local go_sem ↓] q12 q1s qp2 qhe
theorem qac {w:World}{y:Nat}{S0:Nat→Prop}{D:DM}(L0:RDrv w y S0 D) :
  Calls Tryz.prog 76 #[.pointer (some ⟨y,0,none⟩)] w fun e w'=>
   ((mtE D.newest D.off D.n=0∧∃q,e=.returned (.tuple #[.pointer (some ⟨q,0,none⟩),.int .i64 0])∧(∀T:Nat→Prop,(∀k,w.heap.size≤k→T k)→RPool w' q y (fun k=>w.heap.size≤k) T (Pl.mounted D.newest D.n))∧w.heap.size≤q)∨
    (mtE D.newest D.off D.n≠0∧e=.returned (.tuple #[.pointer none,.int .i64 (mtE D.newest D.off D.n)])))∧Below w.heap.size w w':=by
 have hrdA:=fun (s:Int) (w1:World) (bb:Below w.heap.size w w1)=>qti L0 s w1 bb
 obtain⟨ro,oc,iv,vs,R⟩:=L0
 have hsec:=R.n32
 unfold sectors at hsec
 have c0:=R.c0
 have c1:=R.c1
 have hyl:y<w.heap.size:=q01 R.me
 have hal:=q1t
 clear R
 cases hoff:D.off with
 |true=>
  rw[hoff] at c1
  have H4:=Lib.hid (show mtE D.newest true D.n=4 from qtc)
  clear hrdA hal
  go_enter Tryz.func76,Tryz.ntmps76
  go_wp2
  go_ret2
  rw[H4.out]
  exact⟨.inr ⟨by omega,rfl⟩,Below.refl _ _⟩
 |false=>
  rw[hoff] at c1
  obtain⟨x0,hx0⟩:∃x,D.newest 0=x:=⟨_,rfl⟩
  obtain⟨x1,hx1⟩:∃x,D.newest 1=x:=⟨_,rfl⟩
  have r0:=q43 hoff (s:=0) (by omega)
  have r1:=q43 hoff (s:=1) (by omega)
  rw[hx0] at r0
  rw[hx1] at r1
  have hrd0:=hrdA 0
  have hrd1:=hrdA 1
  have r00:D.readL 0=x0:=r0.1
  have r01:D.readE 0=0:=r0.2
  have r10:D.readL 1=x1:=r1.1
  have r11:D.readE 1=0:=r1.2
  rw[r00,r01] at hrd0
  rw[r10,r11] at hrd1
  obtain⟨S,hS⟩:∃S,snS x0 x1=S:=⟨_,rfl⟩
  have HmS:=Lib.hid (show mtS D.newest=S by unfold mtS;rw[hx0,hx1,hS])
  have HE:=Lib.hid (show snE (D.newest 0) (D.newest 1)=snE x0 x1 by rw[hx0,hx1])
  have HS:=Lib.hid hS
  have Hrd0:=Lib.hid hrd0
  have Hrd1:=Lib.hid hrd1
  have Hoff:=Lib.hid hoff
  have HrdA:=Lib.hid hrdA
  clear hrd0 hrd1 r0 r1 r00 r01 r10 r11 hS hx0 hx1 hoff hrdA
  rcases sn_E x0 x1 with hE|hE
  ·have hmay:S.may=true:=by rw[←HS.out];exact qq4 hE
   have hE0:=hE
   by_cases hsz:S.sectors=(D.n:Int)
   ·have HOK:=Lib.hid (show snE (D.newest 0) (D.newest 1)=0∧(mtS D.newest).sectors=(D.n:Int) from ⟨HE.out.trans hE,by rw[HmS.out];exact hsz⟩)
    have Hmay:=Lib.hid hmay
    have hgen:=(q0y hmay).1
    have hg0:1≤S.gen∧S.gen≤1099511627775:=by omega
    obtain⟨tt,ht⟩:∃t:Nat,(S.gen % 2).toNat=t:=⟨_,rfl⟩
    have htm:S.gen.tmod 2=(tt:Int):=by rw[Int.tmod_eq_emod_of_nonneg (by omega)];omega
    obtain⟨ar,hm⟩:∃m,areaN D.n=m:=⟨_,rfl⟩
    have har:ar≤18:=by rw[←hm];unfold areaN;omega
    obtain⟨u,hu⟩:∃u,ar*tt=u:=⟨_,rfl⟩
    have htt:tt≤1:=by omega
    have hu2:u≤18:=by rw[←hu];rcases (show tt=0∨tt=1 by omega) with e|e<;>rw[e]<;>omega
    have hmul:(ar:Int)*(tt:Int)=(u:Int):=by rw[←hu];exact (Int.natCast_mul ar tt).symm
    obtain⟨aa,ha⟩:∃a,2+u=a:=⟨_,rfl⟩
    have ha2:(2:Int)+(u:Int)=(aa:Int):=by omega
    have ha3:aa≤20:=by omega
    have hat:areaAt D.n S.gen=aa:=by unfold areaAt;rw[hm,ht,hu,ha]
    have Hat:=Lib.hid hat
    have Hin:=Lib.hid (fun (j:Nat) (hj:j<ar)=>show aa+j<D.n from by have:=(q1i hsec.1 hsec.2 S.gen (i:=j) (by rw[hm];exact hj)).2.2.2;rw[hat] at this;exact this)
    have Hm:=Lib.hid hm
    have Hsz:=Lib.hid hsz
    have nbs:((D.n:Int)!=(D.n:Int))=false:=by simp
    clear hmay hsz hm ht hu ha hgen hat
    go_enter Tryz.func76,Tryz.ntmps76
    go_wp2_with (first
     |(go_at_call 82;have hh:=B2;refine (Hrd1.out w2 B2).mono ?_;rintro e w3 ⟨A3,n3,q3,rfl,s3,b3⟩;have B3:=B2.trans (b3.mono B2.size))
     |(go_at_call 82;refine (Hrd0.out w (Below.refl _ _)).mono ?_;rintro e w2 ⟨A2,n2,q2,rfl,s2,B2⟩)
     |(go_at_call 130;have hN:=q3r A2 n2 q2 x0 A3 n3 q3 x1 w3 (s2.below b3) s3;unfold q1x at hN;rw[HS.out,hE0] at hN;refine hN.mono ?_;rintro e w4 ⟨rfl,b4⟩;have B4:=B3.trans (b4.mono B3.size))
     |(refine q03 rfl (.tmp 8) (.tmp 40) rfl w4.heap.size rfl S Sp.zero rfl (SB.new w4 Sp.zero _) ?_;intro w6 X6 hb6 T6)
     |fail)
    have b46:Below w4.heap.size w4 w6:=(blA).trans (hb6 _ (Nat.le_refl _))
    have B6:=B4.trans (b46.mono B4.size)
    have q1:=X6.c1
    rw[Hsz.out] at q1
    have y0:=(B6.cell (p:=⟨y,0,none⟩) hyl).trans c0
    go_quiet (fail)
    generalize hw7:World.drewN w6 _=w7
    have b7:Below w6.heap.size w6 w7:=by rw[←hw7];exact⟨rfl,rfl,rfl,Nat.le_refl _,fun _ _=>rfl⟩
    clear hw7
    have B7:=B6.trans (b7.mono B6.size)
    have X7:=X6.below b7 X6.lt
    have g0:=X7.c0
    have g1:=X7.c1
    rw[Hsz.out] at g1
    clear q1 y0
    go_wp2_with fail
    refine (q1g (D.n:Int) D.n rfl (by omega) ar Hm.out w7).mono ?_
    rintro e w8 ⟨rfl,rfl⟩
    have P0:=qgu w7
    have B0:Below w7.heap.size w7 (w7.alloc (.cells #[] 30)):=blA
    go_wp2_with fail
    generalize w7.alloc (.cells #[] 30)=w8 at P0 B0 ⊢
    clear g0 g1
    go_loopw [14,15,16,17,18,19,20] (fun l i _ _ _ _ _ wr=>∃(j:Nat) (A':Option Addr) (c':Nat),j≤ar∧i=.int .i64 (j:Int)∧l=.slice A' j c'∧QRow wr w7.heap.size A' j c' ((List.range j).map fun i=>(D.newest (aa+i)).drop 20)∧Below w7.heap.size w7 wr∧∀i,i<j→cntOk (D.newest (aa+i)) (aa+i) S.gen=true) (fun _ i _ _ _ _ _ _=>ar-(intOf i).toNat)
    case atStart=>exact⟨0,_,_,Nat.zero_le _,rfl,rfl,P0,B0,fun i hi=>by omega⟩
    case round=>
     clear P0 B0
     obtain⟨j,A',c',hj,rfl,rfl,P,B,hall⟩:=hrel
     have BB:=B7.trans (B.mono B7.size)
     have Xr:=X7.below B X7.lt
     by_cases hlt:j<ar
     ·have e3:(j:Int)<(ar:Int):=by omega
      obtain⟨s,hs⟩:∃s,aa+j=s:=⟨_,rfl⟩
      have hs2:(aa:Int)+(j:Int)=(s:Int):=by omega
      have hs3:s≤100:=by omega
      have hsn:s<D.n:=by rw[←hs];exact Hin.out j hlt
      obtain⟨x,hx⟩:∃x,D.newest s=x:=⟨_,rfl⟩
      have rs:=q43 Hoff.out hsn
      rw[hx] at rs
      have hrd:=HrdA.out (s:Int)
      rw[rs.1,rs.2] at hrd
      have Hrd:=Lib.hid hrd
      have HCk:=Lib.hid (fun (A:Option Addr) (n c:Nat) (w2:World) (s2:Sl w2 A n c x)=>qe9 A n c x 2 (s:Int) w2 s2)
      have Hx:=Lib.hid (show D.newest (aa+j)=x by rw[hs];exact hx)
      have Hs:=Lib.hid hs
      have hpl:=Lib.hid P.blockLt
      have Hall:=Lib.hid hall
      clear hrd rs hx hs hall
      go_wp2_with fail
      refine (Hrd.out wr BB).mono ?_
      rintro e w9 ⟨A9,n9,q9,rfl,s9,b9⟩
      have P9:=P.below b9
      have B9:=B.trans (b9.mono B.size)
      have BB9:=BB.trans (b9.mono BB.size)
      have X9:=Xr.below b9 Xr.lt
      have hCk:=HCk.out A9 n9 q9 w9 s9
      unfold q5l at hCk
      clear P B
      cases hck:ckOk x 2 (s:Int) with
      |false=>
       obtain⟨k1,k2,k3⟩:=qbw hck
       rw[k1,k2,k3] at hCk
       have H5:=Lib.hid (show mtE D.newest false D.n=5 from qok HOK.out (fun h=>by
        have h1:=h.1 j (by rw[Hm.out];exact hlt)
        rw[HmS.out,Hat.out,Hx.out,Hs.out,qq8,hck,Bool.false_and] at h1
        cases h1))
       clear hck k1 k2 k3
       go_wp2_with (first
        |(go_at_call 83;refine hCk.mono ?_;rintro e w10 ⟨A5,n5,q5,rfl,s5,b5,_⟩)
        |(refine q0j rfl (.tmp 18) (.tmp 87) rfl w10.heap.size rfl Hd.zero _ rfl (HB.zero w10 _) (by simp) ?_;intro w11 H11 hb11 T11)
        |fail)
       go_ret2
       rw[H5.out]
       exact⟨.inr ⟨by omega,rfl⟩,BB9.trans ((b5.trans (((blA).trans (hb11 _ (Nat.le_refl _))).mono b5.size)).mono BB9.size)⟩
      |true=>
       obtain⟨k1,k2,k3⟩:=qao hck
       rw[k1,k2,k3] at hCk
       obtain⟨H,hH⟩:∃H,opH x=H:=⟨_,rfl⟩
       rw[hH] at hCk
       have Hco:=Lib.hid (show cntOk x s S.gen=decide (H.count=0∧H.level=0∧H.gen=S.gen) by rw[qq8,hck,hH,Bool.true_and])
       have Hno:=Lib.hid (fun (h:cntOk x s S.gen=false)=>show mtE D.newest false D.n=5 from qok HOK.out (fun h1=>by
        have h1:=h1.1 j (by rw[Hm.out];exact hlt)
        rw[HmS.out,Hat.out,Hx.out,Hs.out,h] at h1
        cases h1))
       obtain⟨ki,ad,co,le,ge⟩:=H
       have HCK:=Lib.hid hCk
       clear hck k1 k2 k3 hH hCk
       by_cases h1:co=0
       ·have n1:(co != 0)=false:=by simpa using h1
        by_cases h2:le=0
        ·have n2:(le != 0)=false:=by simpa using h2
         by_cases h3:ge=S.gen
         ·subst h1 h2
          have hyes:cntOk x s S.gen=true:=Hco.out.trans (decide_eq_true ⟨rfl,rfl,h3⟩)
          have Hyes:=Lib.hid hyes
          subst h3
          have nge:(S.gen != S.gen)=false:=by simp
          have hnx:=Lib.hid (qp3 D.newest aa j)
          clear hyes Hno n1 n2
          go_wp2_with (first
           |(go_at_call 83;refine HCK.out.mono ?_;rintro e w10 ⟨A5,n5,q5,rfl,s5,b5,hA5⟩)
           |(refine q0j rfl (.tmp 18) (.tmp 87) rfl w10.heap.size rfl ⟨ki,ad,0,0,S.gen⟩ _ rfl (HB.zero w10 _) (by simp) ?_;intro w11 H11 hb11 T11;have b11:Below w10.heap.size w10 w11:=(blA).trans (hb11 _ (Nat.le_refl _));have qc2:=H11.at_ 3;have qc3:=H11.at_ 1;have qc4:=H11.at_ 4;simp only[foff,Hd.fld] at qc2 qc3 qc4;have X11:=(X9.below b5 X9.lt).below b11 (by have h1:=X9.lt;have h2:=b5.size;omega);have g11:=X11.c0;have s11:=s5.below b11;have P11:=(P9.below b5).below b11;have B11:=B9.trans ((b5.trans (b11.mono b5.size)).mono B9.size);have z5:=b5.size;have z9:=B9.size;have z11:=b11.size)
           |(at_builtin;refine q8r rfl _ _ rfl w7.heap.size A' j c' _ rfl (P11.below (blA)) _ _ A5 n5 q5 _ rfl ((q2a w11 30 1 [.slice A5 n5 q5] #[.slice A5 n5 q5] rfl rfl).sls (by omega)) (s11.below (blA)) (fun k hk=>by
             cases A5 with
             |none=>cases hk
             |some ad5=>
              obtain rfl:ad5.block=k:=Option.some.inj hk
              obtain⟨b1,b2⟩:=hA5 ad5 rfl
              exact⟨by omega,by rw[World.size_alloc];omega,fun e=>by have:=(hpl.out _ e).2;have:=b9.size;omega⟩) (by omega) (by rw[World.size_alloc];omega) ?_)
           |fail)
          intro A7 c7 w12 P12 T12
          rw[show x.drop 20=(D.newest (aa+j)).drop 20 by rw[Hx.out],←hnx.out] at P12
          have bl:Below w11.heap.size w11 (w11.alloc (.cells #[.slice A5 n5 q5] 30)):=blA
          have B12:Below w7.heap.size w7 w12:=(B11.trans (bl.mono B11.size)).trans (T12.below (fun k hk=>(hpl.out k hk).1) (by have:=bl.size;have:=B11.size;omega))
          go_wp2
          exact⟨⟨j+1,A7,c7,by omega,by go_num,rfl,P12,B12,fun i hi=>by
           by_cases e:i=j
           ·rw[e,Hx.out,Hs.out];exact Hyes.out
           ·exact Hall.out i (by omega)⟩,by simp[intOf];omega⟩
         ·have n3:(ge != S.gen)=true:=by simpa using h3
          have H5:=Lib.hid (Hno.out (Hco.out.trans (decide_eq_false fun h=>h3 h.2.2)))
          subst h1 h2
          clear n1 n2 h3 Hno Hco
          go_wp2_with (first
           |(go_at_call 83;refine HCK.out.mono ?_;rintro e w10 ⟨A5,n5,q5,rfl,s5,b5,hA5⟩)
           |(refine q0j rfl (.tmp 18) (.tmp 87) rfl w10.heap.size rfl ⟨ki,ad,0,0,ge⟩ _ rfl (HB.zero w10 _) (by simp) ?_;intro w11 H11 hb11 T11;have b11:Below w10.heap.size w10 w11:=(blA).trans (hb11 _ (Nat.le_refl _));have qc2:=H11.at_ 3;have qc3:=H11.at_ 1;have qc4:=H11.at_ 4;simp only[foff,Hd.fld] at qc2 qc3 qc4;have X11:=(X9.below b5 X9.lt).below b11 (by have h1:=X9.lt;have h2:=b5.size;omega);have g11:=X11.c0)
           |fail)
          go_ret2
          rw[H5.out]
          exact⟨.inr ⟨by omega,rfl⟩,BB9.trans ((b5.trans (b11.mono b5.size)).mono BB9.size)⟩
        ·have n2:(le != 0)=true:=by simpa using h2
         have H5:=Lib.hid (Hno.out (Hco.out.trans (decide_eq_false fun h=>h2 h.2.1)))
         subst h1
         clear n1 h2 Hno Hco
         go_wp2_with (first
          |(go_at_call 83;refine HCK.out.mono ?_;rintro e w10 ⟨A5,n5,q5,rfl,s5,b5,hA5⟩)
          |(refine q0j rfl (.tmp 18) (.tmp 87) rfl w10.heap.size rfl ⟨ki,ad,0,le,ge⟩ _ rfl (HB.zero w10 _) (by simp) ?_;intro w11 H11 hb11 T11;have b11:Below w10.heap.size w10 w11:=(blA).trans (hb11 _ (Nat.le_refl _));have qc2:=H11.at_ 3;have qc3:=H11.at_ 1;simp only[foff,Hd.fld] at qc2 qc3)
          |fail)
         go_ret2
         rw[H5.out]
         exact⟨.inr ⟨by omega,rfl⟩,BB9.trans ((b5.trans (b11.mono b5.size)).mono BB9.size)⟩
       ·have n1:(co != 0)=true:=by simpa using h1
        have H5:=Lib.hid (Hno.out (Hco.out.trans (decide_eq_false fun h=>h1 h.1)))
        clear h1 Hno Hco
        go_wp2_with (first
         |(go_at_call 83;refine HCK.out.mono ?_;rintro e w10 ⟨A5,n5,q5,rfl,s5,b5,hA5⟩)
         |(refine q0j rfl (.tmp 18) (.tmp 87) rfl w10.heap.size rfl ⟨ki,ad,co,le,ge⟩ _ rfl (HB.zero w10 _) (by simp) ?_;intro w11 H11 hb11 T11;have b11:Below w10.heap.size w10 w11:=(blA).trans (hb11 _ (Nat.le_refl _));have qc2:=H11.at_ 3;simp only[foff,Hd.fld] at qc2)
         |fail)
        go_ret2
        rw[H5.out]
        exact⟨.inr ⟨by omega,rfl⟩,BB9.trans ((b5.trans (b11.mono b5.size)).mono BB9.size)⟩
     ·obtain rfl:j=ar:=by omega
      have e3:¬(j:Int)<(j:Int):=by omega
      have hmB:(List.range j).map (fun i=>(D.newest (aa+i)).drop 20)=mtB D.newest D.n S.gen:=by unfold mtB;rw[Hm.out,Hat.out]
      rw[hmB] at P
      have hld:=qcz (D.n:Int) (mtB D.newest D.n S.gen) A' j c' P.prow.parts
      rw[Int.toNat_natCast] at hld
      have Hld:=Lib.hid hld
      have g1:=Xr.c1
      rw[Hsz.out] at g1
      have HallB:=Lib.hid (show ∀i,i<areaN D.n→cntOk (D.newest (areaAt D.n S.gen+i)) (areaAt D.n S.gen+i) S.gen=true from fun i hi=>by rw[Hat.out];exact hall i (by rw[Hm.out] at hi;exact hi))
      clear hld hmB hall P
      go_wp2_with fail
      refine Hld.out.mono ?_
      rintro e w9 ⟨⟨hy,pc,rfl,C9⟩|⟨hn,rfl⟩,b9⟩
      ·have H0:=Lib.hid (show mtE D.newest false D.n=0 from qtd HOK.out (by rw[HmS.out];exact⟨HallB.out,hy⟩))
       have B9:=BB.trans (b9.mono BB.size)
       have X9:=Xr.below b9 Xr.lt
       have hres:=qq5 hy
       have z9:=B9.size
       have zX:=X9.lt
       clear hy g1
       have hF:∀w',Below w9.heap.size w9 w'→(ldS (.pointer (some ⟨w4.heap.size,0,none⟩))).run Tryz.prog w'=.ok (.agg S.vs.toArray) w'∧w'.cell? ⟨w4.heap.size,1,none⟩=some (.int .i64 (D.n:Int))∧Below w9.heap.size w9 w':=fun w' hb=>by
        have X':=X9.below hb zX
        have q:=X'.c1
        rw[Hsz.out] at q
        exact⟨X'.ld,q,hb⟩
       have BD:Below w9.heap.size w9 w9.drew:=(Below.refl _ _).drew
       have BL:Below w9.heap.size w9 (litQ D.n w9.drew):=BD.alloc (Nat.le_refl _) _
       have BM:∀o,Below w9.heap.size w9 ((litQ D.n w9.drew).alloc o):=fun o=>BL.alloc (by rw[q64];exact Nat.le_succ _) o
       have hmm:=fun w'=>qme D.n (by omega) w'
       have hbd:=fun g w'=>qs2 y S pc g D.n w'
       go_wp2_with fail
       go_region_held3 (fun w'=>(ldS (.pointer (some ⟨w4.heap.size,0,none⟩))).run Tryz.prog w'=.ok (.agg S.vs.toArray) w'∧w'.cell? ⟨w4.heap.size,1,none⟩=some (.int .i64 (D.n:Int))∧Below w9.heap.size w9 w')
        (first|assumption|exact hF _ BD|exact hF _ BL|exact hF _ (BM _))
        (first
         |fail)
       have zL:(litQ D.n w9.drew).heap.size=w9.heap.size+1:=q64 _ _
       have B10:=BM (.cells (qV y S pc w9.heap.size D.n).toArray 60)
       have hme:((litQ D.n w9.drew).alloc (.cells (qV y S pc w9.heap.size D.n).toArray 60)).heap[(litQ D.n w9.drew).heap.size]?=some (.cells (qV y S pc w9.heap.size D.n).toArray 60 (0,0)):=heap_alloc_new _ _
       have hrow:((litQ D.n w9.drew).alloc (.cells (qV y S pc w9.heap.size D.n).toArray 60)).heap[w9.drew.heap.size]?=(litQ D.n w9.drew).heap[w9.drew.heap.size]?:=heap_alloc_old _ _ (by rw[q64];exact Nat.lt_succ_self _)
       generalize (litQ D.n w9.drew).heap.size=qq at zL hme ⊢
       have hQR:=fun T=>qhf hrow T
       generalize ((litQ D.n w9.drew).alloc (.cells (qV y S pc w9.heap.size D.n).toArray 60))=w10 at B10 hme hQR ⊢
       clear hF hmm hbd BD BL BM hrow
       go_wp2
       go_ret2
       rw[H0.out]
       have B11:=B9.trans (B10.mono B9.size)
       refine⟨.inl ⟨rfl,qq,rfl,fun T hT=>?_,by omega⟩,B11⟩
       have hCn:(mtC D.newest D.n S.gen).n=D.n:=q6t _ _
       have hP:Pl.mounted D.newest D.n=⟨S,mtC D.newest D.n S.gen,fun _=>none⟩:=by unfold Pl.mounted;rw[HmS.out]
       rw[hP]
       have C9':RC w9 pc (fun k=>wr.heap.size≤k) (mtC D.newest D.n S.gen):=C9
       have zr:=BB.size
       have z9':=b9.size
       refine⟨pc,w9.heap.size,fun k=>wr.heap.size≤k∧k<w9.heap.size,⟨60,?_⟩,C9'.tight.below B10,?_,⟨by omega,by omega,fun k hk=>by omega⟩,⟨by omega,fun k hk=>by omega⟩,hT,q52 Hmay.out⟩
       ·show w10.heap[qq]?=some (.cells (qV y S pc w9.heap.size (mtC D.newest D.n S.gen).n).toArray 60 (0,0))
        rw[hCn]
        exact hme
       ·show QR w10 w9.heap.size (mtC D.newest D.n S.gen).n T fun _=>none
        rw[hCn]
        exact hQR T
      ·have H5:=Lib.hid (show mtE D.newest false D.n=5 from qok HOK.out (fun h=>hn (by rw[HmS.out] at h;exact h.2)))
       have nb:(loadE (D.n:Int) (mtB D.newest D.n S.gen)!=0)=true:=by simpa using hn
       obtain⟨E,hEE⟩:∃E,loadE (D.n:Int) (mtB D.newest D.n S.gen)=E:=⟨_,rfl⟩
       rw[hEE] at nb ⊢
       clear hn hEE
       go_wp2
       go_ret2
       rw[H5.out]
       exact⟨.inr ⟨by omega,rfl⟩,BB.trans (b9.mono BB.size)⟩
   ·have HOK:=Lib.hid (show mtE D.newest false D.n=27 from qh2 (fun h=>hsz (by rw[←HmS.out];exact h.2)))
    have nbs:(S.sectors != (D.n:Int))=true:=by simpa using hsz
    obtain⟨sz,hsz2⟩:∃z,S.sectors=z:=⟨_,rfl⟩
    rw[hsz2] at nbs
    have Hsz:=Lib.hid hsz2
    clear hsz hsz2 hmay
    go_enter Tryz.func76,Tryz.ntmps76
    go_wp2_with (first
     |(go_at_call 82;have hh:=B2;refine (Hrd1.out w2 B2).mono ?_;rintro e w3 ⟨A3,n3,q3,rfl,s3,b3⟩;have B3:=B2.trans (b3.mono B2.size))
     |(go_at_call 82;refine (Hrd0.out w (Below.refl _ _)).mono ?_;rintro e w2 ⟨A2,n2,q2,rfl,s2,B2⟩)
     |(go_at_call 130;have hN:=q3r A2 n2 q2 x0 A3 n3 q3 x1 w3 (s2.below b3) s3;unfold q1x at hN;rw[HS.out,hE0] at hN;refine hN.mono ?_;rintro e w4 ⟨rfl,b4⟩;have B4:=B3.trans (b4.mono B3.size))
     |(refine q03 rfl (.tmp 8) (.tmp 40) rfl w4.heap.size rfl S Sp.zero rfl (SB.new w4 Sp.zero _) ?_;intro w6 X6 hb6 T6)
     |fail)
    have b46:Below w4.heap.size w4 w6:=(blA).trans (hb6 _ (Nat.le_refl _))
    have B6:=B4.trans (b46.mono B4.size)
    have q1:=X6.c1
    rw[Hsz.out] at q1
    have y0:=(B6.cell (p:=⟨y,0,none⟩) hyl).trans c0
    go_quiet (fail)
    generalize hw7:World.drewN w6 _=w7
    have B7:Below w.heap.size w w7:=by rw[←hw7];exact⟨B6.os,B6.tape,B6.output,B6.size,B6.block⟩
    clear hw7
    go_wp2
    go_ret2
    rw[HOK.out]
    exact⟨.inr ⟨by omega,rfl⟩,B7⟩
  ·have hE0:=hE
   have HOK:=Lib.hid (show mtE D.newest false D.n=27 from qh2 (fun h=>by have:=h.1;rw[HE.out,hE] at this;cases this))
   clear hE
   go_enter Tryz.func76,Tryz.ntmps76
   go_wp2_with (first
    |(go_at_call 82;have hh:=B2;refine (Hrd1.out w2 B2).mono ?_;rintro e w3 ⟨A3,n3,q3,rfl,s3,b3⟩;have B3:=B2.trans (b3.mono B2.size))
    |(go_at_call 82;refine (Hrd0.out w (Below.refl _ _)).mono ?_;rintro e w2 ⟨A2,n2,q2,rfl,s2,B2⟩)
    |(go_at_call 130;have hN:=q3r A2 n2 q2 x0 A3 n3 q3 x1 w3 (s2.below b3) s3;unfold q1x at hN;rw[HS.out,hE0] at hN;refine hN.mono ?_;rintro e w4 ⟨rfl,b4⟩;have B4:=B3.trans (b4.mono B3.size))
    |(refine q03 rfl (.tmp 8) (.tmp 40) rfl w4.heap.size rfl S Sp.zero rfl (SB.new w4 Sp.zero _) ?_;intro w6 X6 hb6 T6)
    |fail)
   have b46:Below w4.heap.size w4 w6:=(blA).trans (hb6 _ (Nat.le_refl _))
   have B6:=B4.trans (b46.mono B4.size)
   go_quiet (fail)
   generalize hw7:World.drewN w6 _=w7
   have B7:Below w.heap.size w w7:=by rw[←hw7];exact⟨B6.os,B6.tape,B6.output,B6.size,B6.block⟩
   clear hw7
   go_wp2
   go_ret2
   rw[HOK.out]
   exact⟨.inr ⟨by omega,rfl⟩,B7⟩
end
section
theorem qhg {w:World}{base:Nat}{V:Option Addr}{p q:Nat}{l:List UInt8}(hs:Sl w V p q l)(hv:∀g,q02 V=some g→base≤g∧g<w.heap.size)(hb:base≤w.heap.size):QRow (w.alloc (.cells #[.slice V p q] 30)) base (some ⟨w.heap.size,0,none⟩) 1 1 [l]:=by
 refine⟨[[.slice V p q]],(q2a w 30 1 [.slice V p q] #[.slice V p q] rfl rfl).less hb,rfl,fun j r x hr hx=>?_⟩
 match j with
 |0=>
  obtain rfl:[Value.slice V p q]=r:=by simpa using hr
  obtain rfl:l=x:=by simpa using hx
  exact⟨V,p,q,rfl,hs.below (blA),fun g hg=>⟨(hv g hg).1,by rw[World.size_alloc];have:=(hv g hg).2;omega,fun e=>by
   have e:some w.heap.size=some g:=e
   injection e with e
   have:=(hv g hg).2
   omega⟩⟩
 |j+1=>simp at hr
theorem qhh {w:World}{base:Nat}{V:Option Addr}{p q:Nat}{l:List UInt8}{V2:Option Addr}{p2 q2:Nat}{l2:List UInt8}(hs:Sl w V p q l)(hv:∀g,q02 V=some g→base≤g∧g<w.heap.size)(hs2:Sl w V2 p2 q2 l2)(hv2:∀g,q02 V2=some g→base≤g∧g<w.heap.size)(hb:base≤w.heap.size) :
  QRow (w.alloc (.cells #[.slice V p q,.slice V2 p2 q2] 30)) base (some ⟨w.heap.size,0,none⟩) 2 2 [l,l2]:=by
 have hbl:Below w.heap.size w (w.alloc (.cells #[.slice V p q,.slice V2 p2 q2] 30)):=blA
 have hne:∀g,g<w.heap.size→q02 (some (⟨w.heap.size,0,none⟩:Addr))≠some g:=fun g hg e=>by
  have e:some w.heap.size=some g:=e
  injection e with e
  omega
 refine⟨[[.slice V p q],[.slice V2 p2 q2]],⟨⟨rfl,.inr ⟨w.heap.size,2,#[.slice V p q,.slice V2 p2 q2],rfl,hb,heap_alloc_new w _,Nat.le_refl _,by unfold maxLen;omega,by simp,by simp⟩⟩,fun x hx=>by simp at hx;rcases hx with rfl|rfl<;>rfl⟩,rfl,fun j r x hr hx=>?_⟩
 match j with
 |0=>
  obtain rfl:[Value.slice V p q]=r:=by simpa using hr
  obtain rfl:l=x:=by simpa using hx
  exact⟨V,p,q,rfl,hs.below hbl,fun g hg=>⟨(hv g hg).1,by rw[World.size_alloc];have:=(hv g hg).2;omega,hne g (hv g hg).2⟩⟩
 |1=>
  obtain rfl:[Value.slice V2 p2 q2]=r:=by simpa using hr
  obtain rfl:l2=x:=by simpa using hx
  exact⟨V2,p2,q2,rfl,hs2.below hbl,fun g hg=>⟨(hv2 g hg).1,by rw[World.size_alloc];have:=(hv2 g hg).2;omega,hne g (hv2 g hg).2⟩⟩
 |j+2=>simp at hr
theorem qmf {w w':World}(h:w'.heap[w.heap.size]?=(litZ w).heap[w.heap.size]?)(hlt:w.heap.size<w'.heap.size):Sl w' (some ⟨w.heap.size,0,none⟩) 256 256 q0g:=by
 refine⟨by unfold q0g;rw[List.length_map,List.length_replicate],Nat.le_refl _,by unfold maxLen;omega,fun j u hu=>?_⟩
 have hj:j<256:=by
  have:=(List.getElem?_eq_some_iff.1 hu).1
  rw[List.length_map] at this
  unfold q0g at this
  rwa [List.length_replicate] at this
 have hu2:u=.int .u8 0:=by
  unfold q0g at hu
  rw[List.getElem?_map,List.getElem?_replicate,if_pos hj] at hu
  injection hu with hu
  exact hu.symm
 subst hu2
 refine⟨_,rfl,hlt,?_⟩
 have h2:w'.heap[w.heap.size]?=some (.cells (madeCells #[.int .u8 0] 256) 5 (0,0)):=h.trans (heap_alloc_new w _)
 show w'.cell? ((⟨w.heap.size,0,none⟩:Addr).add j)=_
 rw[show (⟨w.heap.size,0,none⟩:Addr).add j=⟨w.heap.size,0+j,none⟩ from Addr.add_mid _ _ _,Nat.zero_add,cell_of_row _ _ _ _ _ _ h2]
 exact qbd j hj
theorem q29 (w:World):(litZ w).heap.size=w.heap.size+1:=by unfold litZ;simp
theorem qad {D:DM}{a b:List Stp}(h:D.runE (a++b)=0):D.runE a=0∧(D.runD a).runE b=0∧D.runD (a++b)=(D.runD a).runD b:=by
 have h1:D.runE a=0:=Classical.byContradiction fun h1=>h1 (by rw[←(q20 (l':=b) h1).1];exact h)
 rw[q13,if_pos h1] at h
 exact⟨h1,h,by rw[q14,if_pos h1]⟩
theorem q99 {w:World}{base n c:Nat}{e:TypeId}{A:Option Addr}{l:List UInt8}(h:Own w base e A n c l):∀g,q02 A=some g→base≤g∧g<w.heap.size:=fun g hg=>by
 cases A with
 |none=>cases hg
 |some ad=>
  obtain rfl:ad.block=g:=Option.some.inj hg
  exact h.block ad rfl
structure RPoolOn (w0 w:World)(q y q0:Nat)(S0:Nat→Prop)(D:DM)(P:Pl):Prop where
 turn:Turn S0 w0 w
 drv:RDrv w y (fun k=>(S0 k∨w0.heap.size≤k)∧k<q0) D
 pool:∀T:Nat→Prop,(∀k,q0≤k→T k)→RPool w q y (fun k=>q0≤k) T P
 ge:w0.heap.size≤q0∧q0≤w.heap.size
attribute [local go_sem ↓] qgo q4u
theorem qfl {w:World}{y:Nat}{S0:Nat→Prop}{D:DM}(L:RDrv w y S0 D)(hS0:∀k,S0 k→k<w.heap.size)(hfree:D.free){m:Nat}(hok:D.ok m)(hm:m≤50000) :
  Calls Tryz.prog 43 #[.pointer (some ⟨y,0,none⟩)] w fun e w'=>∃q q0,e=.returned (.tuple #[.pointer (some ⟨q,0,none⟩),.int .i64 0])∧RPoolOn w w' q y q0 S0 (D.runD (fmtL D.n)) (Pl.fresh D.n):=by
 have hsec:32≤D.n∧D.n≤2048:=by
  obtain⟨ro,oc,iv,vs,R⟩:=L
  exact R.n32
 obtain⟨e0,hsnd,_⟩:=qbi hsec.1 hsec.2 rfl hfree
 have L0:=L
 have c0:∃ro oc,w.cell? ⟨y,0,none⟩=some (.slice (some ⟨ro,0,none⟩) D.n oc):=by
  obtain⟨ro,oc,iv,vs,R⟩:=L
  exact⟨ro,oc,R.c0⟩
 obtain⟨ro,oc,c0⟩:=c0
 obtain⟨n,hn⟩:∃n,D.n=n:=⟨_,rfl⟩
 rw[hn] at e0 hsnd hsec c0 ⊢
 have hspl:fmtL n=(wAt 0 [q0g,q0g]++[.fl])++((wAt (areaAt n 1) (areaL (Ct.zero n) 1)++[.fl])++(wAt 1 [swB (fmtS n) 1]++[.fl])):=rfl
 have hmt:=q4m hsnd
 rw[hspl] at e0 hsnd hmt ⊢
 obtain⟨EA,e1,hd1⟩:=qad e0
 obtain⟨EB,EC,hd2⟩:=qad e1
 rw[hd1,hd2] at hsnd hmt ⊢
 have ok1:(D.runD (wAt 0 [q0g,q0g]++[.fl])).ok (m+3):=q5g _ hok
 have hn1:(D.runD (wAt 0 [q0g,q0g]++[.fl])).n=n:=by rw[qdj];exact hn
 have hwr:=fun (W:World) (A:Option Addr) (c:Nat) (bb:Below w.heap.size w W) (H:QRow W w.heap.size A 2 c [q0g,q0g])=>q2t (L.below bb) 0 w.heap.size A 2 c _ H hS0 (by omega) (by omega) hok (by omega)
 rw[EA] at hwr
 have cz0:((0:Nat):Int)=0:=rfl
 have cz1:((1:Nat):Int)=1:=rfl
 simp only[cz0] at hwr
 obtain⟨D1,hD1⟩:∃x,D.runD (wAt 0 [q0g,q0g]++[.fl])=x:=⟨_,rfl⟩
 rw[hD1] at EB EC ok1 hn1 hwr hsnd hmt ⊢
 have har0:areaN n≤18:=by unfold areaN;omega
 have hlen0:(wAt (areaAt n 1) (areaL (Ct.zero n) 1)++[Stp.fl]).length≤30:=by
  rw[List.length_append,q4d,q10,Ct.zero_n]
  show areaN n+1≤30
  omega
 have ok2:(D1.runD (wAt (areaAt n 1) (areaL (Ct.zero n) 1)++[.fl])).ok (m+3+30):=(q5g _ ok1).mono (by omega)
 have hn2:(D1.runD (wAt (areaAt n 1) (areaL (Ct.zero n) 1)++[.fl])).n=n:=by rw[qdj];exact hn1
 obtain⟨D2,hD2⟩:∃x,D1.runD (wAt (areaAt n 1) (areaL (Ct.zero n) 1)++[.fl])=x:=⟨_,rfl⟩
 rw[hD2] at EC ok2 hn2 hsnd hmt ⊢
 have hn3:(D2.runD (wAt 1 [swB (fmtS n) 1]++[.fl])).n=n:=by rw[qdj];exact hn2
 obtain⟨D3,hD3⟩:∃x,D2.runD (wAt 1 [swB (fmtS n) 1]++[.fl])=x:=⟨_,rfl⟩
 rw[hD3] at hsnd hmt hn3 ⊢
 rw[hn3] at hmt
 have hP:Pl.mounted D3.newest n=Pl.fresh n:=by
  unfold Pl.mounted Pl.fresh
  rw[hmt.2.1]
  have:mtC D3.newest n (fmtS n).gen=Ct.zero n:=by
   have h:=hmt.2.2
   have e:(Ct.zero n).commit=Ct.zero n:=rfl
   rw[e] at h
   exact h
  rw[this]
 have Hmt:=Lib.hid hmt.1
 have HP:=Lib.hid hP
 have Hoff:=Lib.hid hsnd.free.on
 have Hwr:=Lib.hid hwr
 have HEB:=Lib.hid EB
 have HEC:=Lib.hid EC
 have HD2:=Lib.hid hD2
 have HD3:=Lib.hid hD3
 have Hn3:=Lib.hid hn3
 have Hfine:=Lib.hid (q52 (q3q hsec.1 hsec.2))
 have HS0:=Lib.hid hS0
 have hbd:=qlv 1 (n:Int)
 have q1:=qf4 w.drew
 have q2:=qf4 (litZ w.drew)
 rw[q29] at q2
 have z0:w.drew.heap.size=w.heap.size:=rfl
 rw[z0] at q1 q2
 have zW:(litZ (litZ w.drew)).heap.size=w.heap.size+2:=by rw[q29,q29,z0]
 have bW:Below w.heap.size w (litZ (litZ w.drew)):=(((Below.refl _ _).drew).alloc (Nat.le_refl _) _).alloc (by rw[World.size_alloc];exact Nat.le_succ _) _
 have sl1:Sl (litZ (litZ w.drew)) (some ⟨w.heap.size,0,none⟩) 256 256 q0g:=qmf (w:=w.drew) (heap_alloc_old (litZ w.drew) _ (by rw[q29];exact Nat.lt_succ_self _)) (by rw[q29,q29];omega)
 have sl2:Sl (litZ (litZ w.drew)) (some ⟨w.heap.size+1,0,none⟩) 256 256 q0g:=by
  have:=qmf (w:=litZ w.drew) (w':=litZ (litZ w.drew)) rfl (by rw[q29 (litZ w.drew)];exact Nat.lt_succ_self _)
  rwa [q29,z0] at this
 have hva:∀g,q02 (some (⟨w.heap.size,0,none⟩:Addr))=some g→w.heap.size≤g∧g<(litZ (litZ w.drew)).heap.size:=fun g hg=>by
  have e:some w.heap.size=some g:=hg
  injection e with e
  omega
 have hvb:∀g,q02 (some (⟨w.heap.size+1,0,none⟩:Addr))=some g→w.heap.size≤g∧g<(litZ (litZ w.drew)).heap.size:=fun g hg=>by
  have e:some (w.heap.size+1)=some g:=hg
  injection e with e
  omega
 have hQ1:=qhh sl1 hva sl2 hvb (by omega)
 have hQ2:=qhh sl2 hvb sl1 hva (by omega)
 have B1:∀o,Below w.heap.size w ((litZ (litZ w.drew)).alloc o):=fun o=>bW.alloc (by omega) o
 have w1r:=Hwr.out _ _ _ (B1 _) hQ1
 have w2r:=Hwr.out _ _ _ (B1 _) hQ2
 have BB1:=B1 (.cells #[.slice (some ⟨w.heap.size,0,none⟩) 256 256,.slice (some ⟨w.heap.size+1,0,none⟩) 256 256] 30)
 have BB2:=B1 (.cells #[.slice (some ⟨w.heap.size+1,0,none⟩) 256 256,.slice (some ⟨w.heap.size,0,none⟩) 256 256] 30)
 have hconv:∀(W:World),Below w.heap.size w W→∀(e:Ending) (w1:World),(e=.returned (.int .i64 0)∧RDrv w1 y (fun k=>S0 k∨W.heap.size≤k) D1∧Turn S0 W w1)→(e=.returned (.int .i64 0)∧RDrv w1 y (fun k=>(S0 k∨w.heap.size≤k)∧k<w1.heap.size) D1∧Turn S0 w w1):=fun W bb e w1 h=>
  ⟨h.1,(h.2.1.mono (S':=fun k=>S0 k∨w.heap.size≤k) fun k _ hk=>hk.imp id fun h=>Nat.le_trans bb.size h).tight,(q00 bb).trans h.2.2 fun k hk=>.inl hk⟩
 have W1r:=Lib.hid (w1r.mono (hconv _ BB1))
 have W2r:=Lib.hid (w2r.mono (hconv _ BB2))
 have Ok1:=Lib.hid ok1
 have Ok2:=Lib.hid ok2
 clear cz0 cz1 hconv BB1 BB2 w1r w2r zW ok1 ok2 har0 hlen0 hQ1 hQ2 hva hvb sl1 sl2 bW B1 hwr EA EB EC hd1 hd2 e0 e1 hsnd hmt hP hD1 hD2 hD3 hn1 hn2 hn3 hspl hfree hn hS0
 go_enter Tryz.func43,Tryz.ntmps43
 go_wp2_with fail
 go_region_with (first
  |(go_at_call 71;refine W1r.out.mono ?_;rintro e w1 ⟨rfl,L1,T1⟩)
  |(go_at_call 71;refine W2r.out.mono ?_;rintro e w1 ⟨rfl,L1,T1⟩)
  |fail)
 all_goals (
  clear W1r W2r q1 q2 z0
  go_wp2_with fail
  refine (q5e n hsec.1 hsec.2 w1).mono ?_
  rintro e w2 ⟨pc,rfl,C2,b2⟩
  have L2:=L1.below b2
  go_wp2_with fail
  refine (q8s C2 1 ⟨by omega,by omega⟩).mono ?_
  rw[Ct.zero_n]
  rintro e w3 ⟨A3,n3,c3,rfl,Q3,b3⟩
  have L3:=L2.below b3
  have hl3:=Q3.prow.len
  rw[q10,Ct.zero_n] at hl3
  have har:areaN n≤18:=by unfold areaN;omega
  have z1:=T1.size
  have z2:=b2.size
  have z3:=b3.size
  have hat:areaAt n 1≤40:=by have:=(q1i hsec.1 hsec.2 1 (i:=0) (by unfold areaN;omega)).2.1;omega
  have hw4:=q2t L3 (areaAt n 1) w2.heap.size A3 n3 c3 _ Q3 (fun k hk=>by omega) (by omega) (by omega) Ok1.out (by omega)
  rw[HEB.out,HD2.out] at hw4
  have Hw4:=Lib.hid hw4
  clear hw4
  go_wp2_with fail
  refine Hw4.out.mono ?_
  rintro e w4 ⟨rfl,L4',T4⟩
  have z4:=T4.size
  have L4:RDrv w4 y (fun k=>(S0 k∨w.heap.size≤k)∧k<w4.heap.size) D2:=(L4'.mono (S':=fun k=>S0 k∨w.heap.size≤k) fun k hk h=>h.elim (fun h=>h.1) fun h=>.inr (by omega)).tight
  have T4':Turn S0 w w4:=(((T1.then (q00 b2)).then (q00 b3)).trans T4 fun k hk=>hk.1.elim .inl fun h=>.inr h)
  clear L4' T4 Hw4 L3 L2 Q3
  go_wp2_with fail
  refine (q3p (fmtS n) 1 Hfine.out w4).mono ?_
  rintro e w5 ⟨A5,n5,c5,rfl,own5,b5⟩
  have L5:=L4.below b5
  have z5:=b5.size
  have Q5:=qhg own5.sl (q99 own5) z5
  have b6:Below w5.heap.size w5 (w5.alloc (.cells #[.slice A5 n5 c5] 30)):=blA
  have hw6:=q2t (L5.below b6) 1 w4.heap.size (some ⟨w5.heap.size,0,none⟩) 1 1 _ Q5 (fun k hk=>hk.2) (by omega) (by omega) Ok2.out (by omega)
  rw[HEC.out,HD3.out] at hw6
  have cz1:((1:Nat):Int)=1:=rfl
  simp only[cz1] at hw6
  have Hw6:=Lib.hid hw6
  clear hw6 own5
  go_wp2_with fail
  refine Hw6.out.mono ?_
  rintro e w6 ⟨rfl,L6',T6⟩
  have z6:=T6.size
  have zb6:=b6.size
  have L6:RDrv w6 y (fun k=>(S0 k∨w.heap.size≤k)∧k<w6.heap.size) D3:=(L6'.mono (S':=fun k=>S0 k∨w.heap.size≤k) fun k hk h=>h.elim (fun h=>h.1) fun h=>.inr (by omega)).tight
  have T6':Turn S0 w w6:=(((T4'.then (q00 b5)).then (q00 b6)).trans T6 fun k hk=>hk.1.elim .inl fun h=>.inr h)
  clear L6' T6 Hw6 L5 L4 Q5
  go_wp2_with fail
  refine (qac L6).mono ?_
  rw[Hoff.out,Hn3.out,HP.out,Hmt.out]
  rintro e w7 ⟨⟨_,q,rfl,hpool,hq⟩|⟨h,_⟩,b7⟩
  ·go_wp2
   go_ret2
   exact⟨q,w6.heap.size,rfl,T6'.then (q00 b7),L6.below b7,hpool,by have:=T6'.size;omega,b7.size⟩
  ·exact absurd rfl h)
end
end Go.Proofs.YtipejjgodnnkaaaGreatDoor
