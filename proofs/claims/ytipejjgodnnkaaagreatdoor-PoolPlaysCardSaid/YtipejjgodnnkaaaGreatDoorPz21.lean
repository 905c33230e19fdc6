/- The reference's Flush -/
import Derived.Test.YtipejjgodnnkaaaGreatDoorPz20
namespace Go.Proofs.YtipejjgodnnkaaaGreatDoor
open Go Go.RowKit Go.Proofs
set_option maxHeartbeats 4000000
set_option maxRecDepth 100000
section
section
variable {w:World}{rp ro oc:Nat}{iv:Nat→Value}{vs:Nat→List Value}{S:Nat→Prop}{D:DM}
theorem RLay.pick (L:RLay w rp ro oc iv vs S D){w':World}(s:Nat)(hs:s<D.n)(iv1 v1:Value)(l1:List UInt8)(hT:Turn (fun k=>k=ro) w w')
  (ho:w'.cell? ⟨ro,s,none⟩=some iv1∧∀z,z≠s→w'.cell? ⟨ro,z,none⟩=w.cell? ⟨ro,z,none⟩) (hf:∀z,w'.frozen? ⟨ro,z,none⟩=w.frozen? ⟨ro,z,none⟩)
  (hi:RIRow w' iv1 [v1]) (hv:v1∈vs s) (hb:BRow w v1 l1) {S':Nat→Prop} (hS:∀k,S k→S' k) (hat:(iv1.ownBlock=(iv s).ownBlock)∨∃g,iv1.ownBlock=some g∧w.heap.size≤g∧S' g) :
  RLay w' rp ro oc (upd iv s iv1) (upd vs s [v1]) S' { D with dur:=upd D.dur s l1,cac:=upd D.cac s [] }:=by
 refine L.setRow s hs iv1 [v1] l1 [] (fun k _ h=>hS k h) (fun k hk hn _=>hT.block k hk hn) (fun z hz=>⟨?_,(hf z).trans (L.out z hz).2⟩) hi rfl (fun i v l hi hl=>?_) ?_ (fun v hv' g hg=>?_) (fun i i' v v' g hi hi' _ _=>?_)
 ·by_cases h:z=s
  ·subst h;rw[q0b];exact ho.1
  ·rw[q05 _ _ h,ho.2 z h];exact (L.out z hz).1
 ·rcases i with _|i
  ·obtain rfl:v1=v:=by simpa using hi
   obtain rfl:l1=l:=by simpa using hl
   exact hb.keep fun g hg=>hT.block g (hb.lt hg) (L.ne.2.2 s hs v1 hv g hg).2.1
  ·simp at hi
 ·exact hat
 ·rw[List.mem_singleton.1 hv'] at hg ⊢
  exact .inl hv
 ·have h1:=(List.getElem?_eq_some_iff.1 hi).1
  have h2:=(List.getElem?_eq_some_iff.1 hi').1
  simp at h1 h2;omega
end
def tlS (x:Value)(lo hi mx:Option Value):Sem Value:=Instr.sliceAt 67 x lo hi mx
theorem qpm (x:Value)(lo hi mx:Option Value):Instr.sliceAt 67 x lo hi mx=tlS x lo hi mx:=rfl
theorem qsm (w:World)(g o m c:Nat)(hm:0<m)(hc:m≤c):(tlS (.slice (some ⟨g,o,none⟩) m c) (some (.int .i64 ((m:Int)-1))) none none).run Tryz.prog w=.ok (.slice (some ⟨g,o+(m-1),none⟩) 1 (c-(m-1))) w:=by
 have ht:Tryz.prog.underlying 67=some (.slice (Tryz.prog.elem 67)):=by kernel_rfl
 have he:(Tryz.prog.info? (Tryz.prog.elem 67)).map (·.size)=some 1:=by kernel_rfl
 have hz:(sizeOf (Tryz.prog.elem 67)).run Tryz.prog w=.ok 1 w:=by
  obtain⟨i,hi,hs⟩:=Option.map_eq_some_iff.1 he
  simp[sizeOf,typeInfo,hi,hs]
 have e1:((m:Int)-1).toNat=m-1:=by omega
 have e2:¬c=m-1:=by omega
 have e3:m-(m-1)=1:=by omega
 have ha:(⟨g,o,none⟩:Addr).add (m-1)=⟨g,o+(m-1),none⟩:=Addr.add_mid g o (m-1)
 unfold tlS
 rw[run_sliceAt_slice (h:=ht),run_slice_l (ht:=ht) (h0:=by omega) (h1:=by omega),hz]
 simp[Result.andThen,sliced,e1,e2,e3,ha]
def DM.flTo (D:DM)(k:Nat):DM:={ D with dur:=fun s=>if s<k then D.newest s else D.dur s,cac:=fun s=>if s<k then [] else D.cac s }
theorem qm1 (D:DM):D.flTo 0=D:=by simp[DM.flTo]
theorem qm2 (D:DM)(k:Nat):D.flTo (k+1)={ D.flTo k with dur:=upd (D.flTo k).dur k (D.newest k),cac:=upd (D.flTo k).cac k [] }:=by
 unfold DM.flTo
 congr 1
 ·funext s
  by_cases h:s=k
  ·subst h;simp[upd]
  ·by_cases h2:s<k
   ·simp[upd,h,h2,(by omega:s<k+1)]
   ·rw[q05 _ _ h,if_neg (by omega:¬s<k+1)];simp[h2]
 ·funext s
  by_cases h:s=k
  ·subst h;simp[upd]
  ·by_cases h2:s<k
   ·simp[upd,h,h2,(by omega:s<k+1)]
   ·rw[q05 _ _ h,if_neg (by omega:¬s<k+1)];simp[h2]
theorem qm3 (D:DM)(h:∀s,D.n≤s→D.cac s=[]):D.flTo D.n=D.flush:=by
 unfold DM.flTo DM.flush
 congr 1
 ·funext s
  by_cases h2:s<D.n
  ·simp[h2]
  ·simp[h2,DM.newest,h s (by omega)]
 ·funext s
  by_cases h2:s<D.n
  ·simp[h2]
  ·simp[h2,h s (by omega)]
theorem q90 (D:DM)(k:Nat):(D.flTo k).newest k=D.newest k:=by unfold DM.flTo DM.newest;simp
attribute [local go_sem ↓] qpm
theorem qjr {w:World}{rp:Nat}{S:Nat→Prop}{D:DM}(L0:RDrv w rp S D)(hst:D.steps≤1000000000) :
  Calls Tryz.prog 129 #[.pointer (some ⟨rp,0,none⟩)] w fun e w'=>e=.returned (.int .i64 D.err)∧RDrv w' rp (fun k=>S k∨w.heap.size≤k) D.flushD∧Turn S w w':=by
 obtain⟨ro,oc,iv,vs,L⟩:=L0
 have hsp:∀k,k=rp→S k:=fun k e=>e▸L.inS.1
 have H2:=qe2 L hst
 unfold DM.flushD
 unfold DM.err at H2 ⊢
 cases hstop:D.stop with
 |true=>
  rw[hstop] at H2
  go_enter Tryz.func129,Tryz.ntmps129
  go_wp2_with fail
  refine H2.mono ?_
  rintro e w1 ⟨rfl,L1,T1⟩
  go_wp2_with fail
  go_ret
  exact⟨rfl,⟨ro,oc,iv,vs,L1.mono fun _ _ h=>.inl h⟩,T1.mono hsp⟩
 |false=>
  rw[hstop] at H2
  go_enter Tryz.func129,Tryz.ntmps129
  go_wp2_with fail
  refine H2.mono ?_
  rintro e w1 ⟨rfl,L1,T1⟩
  have hro:S ro:=L1.inS.2.1
  have hoff:=L1.off
  generalize hE:D.stepD=E at *
  go_wp2_with fail
  go_loopw [4] (fun i wr=>∃(k:Nat) (iv:Nat→Value) (vs:Nat→List Value),k≤E.n∧i=.int .i64 k∧RLay wr rp ro oc iv vs S (E.flTo k)∧Turn S w wr) (fun i _=>E.n-(intOf i).toNat)
  case atStart=>exact⟨0,iv,vs,Nat.zero_le _,rfl,by rw[qm1];exact L1,T1.mono hsp⟩
  case round=>
   obtain⟨k,iv,vs,hk,rfl,LR,TR⟩:=hrel
   have c0:wr.cell? ⟨rp,0,none⟩=some (.slice (some ⟨ro,0,none⟩) E.n oc):=LR.c0
   have c0d:wr.drew.cell? ⟨rp,0,none⟩=some (.slice (some ⟨ro,0,none⟩) E.n oc):=c0
   have hn32:E.n≤2048:=LR.n32.2
   by_cases hlt:k<E.n
   ·have hlt':k<(E.flTo k).n:=hlt
    obtain⟨g,o,c,A,d,hv,hc1,hc2,hcell,hmem,hsl⟩:=LR.last hlt'
    rw[q90] at hsl
    have hp:=LR.vpos hlt'
    have hout:=(LR.out k hlt').1
    have hfz:wr.drew.frozen? ⟨ro,k,none⟩=false:=(LR.out k hlt').2
    have houtd:wr.drew.cell? ⟨ro,k,none⟩=some (iv k):=hout
    rw[hv] at houtd
    have hix:∀w',(Instr.indexAt 50 (.slice (some ⟨ro,0,none⟩) E.n oc) (.int .i64 (k:Int))).run Tryz.prog w'=.ok (.pointer (some ⟨ro,k,none⟩)) w':=fun w'=>by
     have:=q0y (P:=Tryz.prog) Tryz.underlying50 S64 w' ro 0 E.n oc k hlt
     simpa only[Nat.zero_add] using this
    have htl:=qsm wr.drew g o (vs k).length c hp hc1
    have hbr:=LR.brow k hlt' _ _ _ hmem (by rw[LR.len k hlt'];exact qhj _ k)
    rw[q90] at hbr
    have hth:RIRow wr (.slice (some ⟨g,o+((vs k).length-1),none⟩) 1 (c-((vs k).length-1))) [.slice A 256 d]:=by
     obtain⟨g',o',c',e,_,_,h3,h4⟩:=LR.irow k hlt'
     rw[hv] at e;cases e
     refine⟨g,_,_,rfl,by simp;omega,by omega,fun j u hu=>?_,fun j hj=>?_⟩
     ·rcases j with _|j
      ·have hu:Value.slice A 256 d=u:=by simpa using hu
       rw[Nat.add_zero,←hu];exact hcell
      ·simp at hu
     ·rw[Nat.add_assoc];exact h4 _ (by omega)
    have hgro:g≠ro:=(LR.ne.2.1 k hlt' g (by rw[hv];rfl)).2
    have hTE:=q0d (S:=fun k=>k=ro) (w:=wr.drew) (a:=⟨ro,k,none⟩) (.slice (some ⟨g,o+((vs k).length-1),none⟩) 1 (c-((vs k).length-1))) rfl
    have LE:=LR.drew.pick k hlt' (w':=wr.drew.setCell ⟨ro,k,none⟩ (.slice (some ⟨g,o+((vs k).length-1),none⟩) 1 (c-((vs k).length-1)))) _ _ (E.newest k) hTE
     ⟨World.cell?_setCell_same _ _ _ houtd,fun z hz=>World.cell?_setCell_other _ _ _ _ (fun e=>hz (by injection e with _ e2;exact e2.symm))⟩ (fun z=>World.frozen?_setCell _ _ _ _)
     (hth.keep fun g' e=>by cases e;exact hTE.block g (hth.lt (by simp) rfl) hgro) (List.mem_of_getElem? hmem) hbr (S':=S) (fun _ h=>h) (.inl (by rw[hv];rfl))
    rw[←qm2] at LE
    rw[hv] at hout
    have hzz:w.heap.size≤wr.heap.size:=TR.size
    have hmx:(vs k).length≤9223372036854775807:=by unfold maxLen at hc2;omega
    generalize (vs k).length=m at *
    clear hcell hmem hsl hbr hth hgro hc1 hc2
    go_wp2_with fail
    go_region
    all_goals (go_wp2_with fail;exact⟨⟨k+1,_,_,by omega,by go_num,LE,TR.drew.then (hTE.mono fun z e=>e▸hro)⟩,by simp[intOf];omega⟩)
   ·obtain rfl:k=E.n:=by omega
    rw[qm3 E hoff] at LR
    go_wp2_with fail
    go_ret
    subst hE
    exact⟨rfl,⟨_,_,_,_,LR.mono fun _ _ h=>.inl h⟩,TR⟩
end
section
theorem Ints.turn2 {w w':World}{A:Option Addr}{n c:Nat}{zs:List Int}{S:Nat→Prop}(h:Ints w A n c zs)(t:Turn S w w')(ho:∀ad,A=some ad→0<n→¬S ad.block):Ints w' A n c zs:=
 ⟨⟨h.1.1,h.1.2.1,h.1.2.2.1,fun j u hu=>by
  obtain⟨ad,e,hb,hc⟩:=h.1.2.2.2 j u hu
  have hn:0<n:=by have:=(List.getElem?_eq_some_iff.1 hu).1;have h2:=h.1.1;omega
  refine⟨ad,e,by have:=t.size;omega,?_⟩
  exact (World.cell?_of_block (w:=w) (w':=w') (a:=ad.add j) (by rw[q0l];exact t.block _ hb (ho ad e hn))).trans hc⟩,h.2⟩
theorem qjs (D:DM)(s i:Nat)(hi:i≤(D.cac s).length):∃l,(D.all s)[i]?=some l∧D.settle s i={ D with dur:=upd D.dur s l,cac:=upd D.cac s [] }:=by
 rcases i with _|i
 ·exact⟨D.dur s,rfl,by simp[DM.settle,q6u]⟩
 ·refine⟨(D.cac s)[i],?_,?_⟩
  ·show (D.dur s::D.cac s)[i+1]?=_
   rw[List.getElem?_cons_succ,List.getElem?_eq_getElem]
  ·unfold DM.settle
   rw[if_neg (by omega),show i+1-1=i by omega,List.getD_eq_getElem?_getD,List.getElem?_eq_getElem (by omega),Option.getD_some]
theorem Ints.at {w:World}{A:Option Addr}{n c:Nat}{zs:List Int}(h:Ints w A n c zs){j:Nat}(hj:j<n):∃ad z,A=some ad∧zs[j]?=some z∧w.cell? (ad.add j)=some (.int .i64 z)∧zs.drop j=z::zs.drop (j+1)∧-9223372036854775808≤z∧z≤9223372036854775807:=by
 have hl:j<zs.length:=by rw[h.len];exact hj
 obtain⟨ad,e,_,hc⟩:=h.1.2.2.2 j (.int .i64 zs[j]) (by simp[hl])
 exact⟨ad,zs[j],e,List.getElem?_eq_getElem hl,hc,List.drop_eq_getElem_cons hl,h.2 _ (List.getElem_mem hl)⟩
attribute [local go_sem ↓] qg0
theorem qan {w:World}{rp:Nat}{S:Nat→Prop}{D:DM}(L0:RDrv w rp S D)(A:Option Addr)(n c:Nat)(kp:List Int)(hk:Ints w A n c kp)(hout:∀ad,A=some ad→0<n→¬S ad.block)(hcl:∀k,(D.cac k).length≤999999) :
  Calls Tryz.prog 56 #[.pointer (some ⟨rp,0,none⟩),.slice A n c] w fun e w'=>e=.returned (.tuple #[])∧RDrv w' rp (fun k=>S k∨w.heap.size≤k) (D.crash kp)∧Turn S w w':=by
 obtain⟨ro,oc,iv,vs,L⟩:=L0
 have hsp:S rp:=L.inS.1
 have hso:S ro:=L.inS.2.1
 have hcap:=hk.cap
 have hmax:=hk.max
 unfold maxLen at hmax
 go_enter Tryz.func56,Tryz.ntmps56
 go_wp2
 go_loopw [4,5] (fun a i wr=>∃(k j:Nat) (iv:Nat→Value) (vs:Nat→List Value),k≤D.n∧i=.int .i64 k∧a=.int .i64 j∧j≤n∧(q0f D kp k).2=kp.drop j∧
  RLay wr rp ro oc iv vs (fun k=>S k∨w.heap.size≤k) (q0f D kp k).1∧Turn S w wr) (fun _ i _=>D.n-(intOf i).toNat)
 case atStart=>exact⟨0,0,iv,vs,Nat.zero_le _,rfl,rfl,Nat.zero_le _,rfl,L.mono fun _ _ h=>.inl h,Turn.refl _ _⟩
 case round=>
  clear L
  obtain⟨k,j,iv,vs,hkn,rfl,rfl,hj,hkq,LR,TR⟩:=hrel
  have hkr:=hk.turn2 TR hout
  clear hk
  have hn32:D.n≤2048:=by have:=LR.n32.2;rw[q2i] at this;exact this
  have c0:wr.cell? ⟨rp,0,none⟩=some (.slice (some ⟨ro,0,none⟩) D.n oc):=by have:=LR.c0;rw[q2i] at this;exact this
  by_cases hlt:k<D.n
  ·have hkn':k<(q0f D kp k).1.n:=by rw[q2i];exact hlt
   have e1:(q0f D kp k).1.cac k=D.cac k:=by rw[q29,if_neg (by omega)]
   have e2:q0f D kp (k+1)=crash1 (q0f D kp k).1 k (q0f D kp k).2:=rfl
   have hle:=hcl k
   have hnn:(q0f D kp k).1.n=D.n:=q2i D kp k
   generalize q0f D kp k=R at *
   obtain⟨E,kq⟩:=R
   simp only at LR hkn' e1 e2 hkq hnn
   subst hkq
   rw[←e1] at hle
   have hlen:(vs k).length=(E.cac k).length+1:=by rw[LR.len k hkn'];simp[DM.all]
   obtain⟨g,o,c,_,_,hv,hc1,hc2,_,_,_⟩:=LR.last hkn'
   have hkd:wr.drew.cell? ⟨ro,k,none⟩=some (iv k):=(LR.out k hkn').1
   have hkd0:wr.cell? ⟨ro,k,none⟩=some (iv k):=(LR.out k hkn').1
   have hix:∀w',(Instr.indexAt 50 (.slice (some ⟨ro,0,none⟩) D.n oc) (.int .i64 (k:Int))).run Tryz.prog w'=.ok (.pointer (some ⟨ro,k,none⟩)) w':=fun w'=>by
    have:=q0y (P:=Tryz.prog) Tryz.underlying50 S64 w' ro 0 D.n oc k hlt
    simpa only[Nat.zero_add] using this
   unfold crash1 at e2
   by_cases hc:E.cac k=[]
   ·rw[if_pos hc] at e2
    rw[hc] at hlen
    rw[hv,hlen] at hkd0
    clear hcl hc1 hc2 hlen hle
    go_wp2_with fail
    exact⟨⟨k+1,j,iv,vs,by omega,by go_num,rfl,hj,by rw[e2],by rw[e2];exact LR,TR⟩,by simp[intOf];omega⟩
   ·rw[if_neg hc] at e2
    have hm2:2≤(vs k).length:=by
     have:(E.cac k).length≠0:=fun h=>hc (List.eq_nil_of_length_eq_zero h)
     omega
    have LP:∀r,r<(vs k).length→(q0f D kp (k+1)).1=E.settle k r→∃A1 d,∃hx:wr.drew.cell? ⟨g,o+r,none⟩=some (Value.slice A1 256 d),RLay ((litS wr.drew (Value.slice A1 256 d)).setCell ⟨ro,k,none⟩ (.slice (some ⟨wr.heap.size,0,none⟩) 1 1)) rp ro oc (upd iv k (.slice (some ⟨wr.heap.size,0,none⟩) 1 1)) (upd vs k [Value.slice A1 256 d]) (fun k=>S k∨w.heap.size≤k) (q0f D kp (k+1)).1∧
      Turn S w ((litS wr.drew (Value.slice A1 256 d)).setCell ⟨ro,k,none⟩ (.slice (some ⟨wr.heap.size,0,none⟩) 1 1)):=fun r hr hre=>by
     obtain⟨l,hl,hset⟩:=qjs E k r (by omega)
     have hvr:=List.getElem?_eq_getElem hr
     have hbr:=LR.brow k hkn' r _ l hvr hl
     obtain⟨A1,d,hA,hsl⟩:=hbr.sl
     rw[hA] at hvr hbr
     have hcell:wr.drew.cell? ⟨g,o+r,none⟩=some (Value.slice A1 256 d):=by
      obtain⟨g',o',c',e,_,_,h3,h4⟩:=LR.irow k hkn'
      rw[hv] at e;cases e
      exact h3 r _ hvr
     have hbl:Below wr.heap.size wr.drew (litS wr.drew (.slice A1 256 d)):=show Below wr.drew.heap.size wr.drew (wr.drew.alloc _) from blA
     have hsz:(litS wr.drew (.slice A1 256 d)).heap.size=wr.heap.size+1:=by simp[litS]
     have hrolt:=LR.rolt
     have hTE:=q0d (S:=fun k=>k=ro) (w:=litS wr.drew (.slice A1 256 d)) (a:=⟨ro,k,none⟩) (.slice (some ⟨wr.heap.size,0,none⟩) 1 1) rfl
     have hTF:Turn (fun k=>k=ro) wr.drew ((litS wr.drew (Value.slice A1 256 d)).setCell ⟨ro,k,none⟩ (.slice (some ⟨wr.heap.size,0,none⟩) 1 1)):=(q7e _ _ _).then hTE
     have hck:∀z,(litS wr.drew (Value.slice A1 256 d)).cell? ⟨ro,z,none⟩=wr.drew.cell? ⟨ro,z,none⟩:=fun z=>World.cell?_of_block (w:=wr.drew) (a:=⟨ro,z,none⟩) (hbl.block ro hrolt)
     have hfk:∀z,(litS wr.drew (Value.slice A1 256 d)).frozen? ⟨ro,z,none⟩=wr.drew.frozen? ⟨ro,z,none⟩:=fun z=>World.frozen?_of_block (w:=wr.drew) (a:=⟨ro,z,none⟩) (hbl.block ro hrolt)
     have hir:RIRow (litS wr.drew (Value.slice A1 256 d)) (.slice (some ⟨wr.heap.size,0,none⟩) 1 1) [Value.slice A1 256 d]:=qpk wr.drew _ _
     have hwz:w.heap.size≤wr.heap.size:=TR.size
     have:=LR.drew.pick k hkn' (S':=fun k=>S k∨w.heap.size≤k) (.slice (some ⟨wr.heap.size,0,none⟩) 1 1) (.slice A1 256 d) l hTF
      ⟨World.cell?_setCell_same _ _ _ ((hck k).trans hkd),fun z hz=>(World.cell?_setCell_other _ _ _ _ (fun e=>hz (by injection e with _ e2;exact e2.symm))).trans (hck z)⟩ (fun z=>(World.frozen?_setCell _ _ _ _).trans (hfk z))
      (hir.keep fun g' e=>by cases e;exact hTE.block wr.heap.size (by rw[hsz];omega) (Nat.ne_of_gt hrolt)) (List.mem_of_getElem? hvr) hbr (fun _ h=>h) (.inr ⟨_,rfl,Nat.le_refl _,.inr hwz⟩)
     rw[←hset,←hre] at this
     exact⟨A1,d,hcell,this,TR.drew.then (hTF.mono fun z e=>e▸hso)⟩
    rw[hv] at hkd hkd0
    have hmx:(vs k).length≤1000001:=by omega
    have hmd:=fun x=>qa8 x (m:=(vs k).length) (by omega)
    have hmp:=fun x (hx:0≤x)=>qim (x:=x) (vs k).length hx (by omega)
    have hmn:=fun x (hx:x<0)=>qob (x:=x) (vs k).length hx (by omega)
    have hx2:∀r,r<(vs k).length→∀w',(Instr.indexAt 67 (.slice (some ⟨g,o,none⟩) (vs k).length c) (.int .i64 (r:Int))).run Tryz.prog w'=.ok (.pointer (some ⟨g,o+r,none⟩)) w':=fun r hr w'=>q0y (P:=Tryz.prog) Tryz.underlying67 S35 w' g o (vs k).length c r hr
    have cP:∀v,(litS wr.drew v).cell? ⟨rp,0,none⟩=some (.slice (some ⟨ro,0,none⟩) D.n oc):=fun v=>(World.cell?_of_block (w:=wr.drew) (a:=⟨rp,0,none⟩) (heap_alloc_old wr.drew _ (q01 LR.me))).trans c0
    have cQ:∀v,(litS wr.drew v).cell? ⟨ro,k,none⟩=some (.slice (some ⟨g,o,none⟩) (vs k).length c):=fun v=>(World.cell?_of_block (w:=wr.drew) (a:=⟨ro,k,none⟩) (heap_alloc_old wr.drew _ LR.rolt)).trans hkd
    have fQ:∀v,(litS wr.drew v).frozen? ⟨ro,k,none⟩=false:=fun v=>(World.frozen?_of_block (w:=wr.drew) (a:=⟨ro,k,none⟩) (heap_alloc_old wr.drew _ LR.rolt)).trans (LR.out k hkn').2
    have cd:wr.drew.cell? ⟨rp,0,none⟩=some (.slice (some ⟨ro,0,none⟩) D.n oc):=c0
    rw[←hlen] at e2
    have hlS:=fun v hv=>qm0 wr.drew v hv
    generalize (vs k).length=m at *
    have hne:(((m:Int)-1)==0)=false:=by rw[beq_eq_false_iff_ne];omega
    by_cases hjn:j<n
    ·obtain⟨ad,z,rfl,hz,hzc,hzd,hz1,hz2⟩:=hkr.at hjn
     rw[hzd,List.headD_cons,List.drop_one,List.tail_cons] at e2
     have hzd':(q0f D kp (k+1)).2=kp.drop (j+1):=by rw[e2]
     have hr:=hmd z
     obtain⟨A1,d,hxc,LE,TE⟩:=LP (md z m) hr (by rw[e2])
     have hxi:=hx2 _ hr
     have cP:=cP (.slice A1 256 d)
     have cQ:=cQ (.slice A1 256 d)
     have fQ:=fQ (.slice A1 256 d)
     have hlS:=hlS (.slice A1 256 d) rfl
     have hm0:¬(m:Int)=0:=by omega
     clear LP hx2 hkr hcl e2 hout hle hlen hc e1 hmd
     by_cases hz0:z<0
     ·have hmn:=hmn z hz0
      clear hmp
      go_wp2_with fail
      go_region
      all_goals (go_wp2_with fail;exact⟨⟨k+1,j+1,_,_,by omega,by go_num,by go_num,by omega,hzd',LE,TE⟩,by simp[intOf];omega⟩)
     ·have hmp:=hmp z (by omega)
      clear hmn
      go_wp2_with fail
      go_region
      all_goals (go_wp2_with fail;exact⟨⟨k+1,j+1,_,_,by omega,by go_num,by go_num,by omega,hzd',LE,TE⟩,by simp[intOf];omega⟩)
    ·have hnil:kp.drop j=[]:=List.drop_eq_nil_of_le (by rw[hkr.len];omega)
     have hm00:md 0 m=0:=by simp[md]
     rw[hnil,List.headD_nil,hm00] at e2
     have hzd':(q0f D kp (k+1)).2=kp.drop j:=by rw[e2,hnil];rfl
     obtain⟨A1,d,hxc,LE,TE⟩:=LP 0 (by omega) (by rw[e2])
     have hxi:=hx2 0 (by omega)
     simp only[Nat.add_zero,Int.ofNat_zero] at hxi hxc
     have cP:=cP (.slice A1 256 d)
     have cQ:=cQ (.slice A1 256 d)
     have fQ:=fQ (.slice A1 256 d)
     have hlS:=hlS (.slice A1 256 d) rfl
     have hm0:¬(m:Int)=0:=by omega
     clear LP hx2 hkr hcl e2 hout hle hlen hc e1 hmd hmp hmn
     go_wp2_with fail
     go_region
     all_goals (go_wp2_with fail;exact⟨⟨k+1,j,_,_,by omega,by go_num,rfl,by omega,hzd',LE,TE⟩,by simp[intOf];omega⟩)
  ·obtain rfl:k=D.n:=by omega
   have f1:=LR.fz 1
   have f2:=LR.fz 2
   have f3:=LR.fz 3
   have c1:=LR.c1
   have c2:=LR.c2
   have c3:=LR.c3
   have LE:=((LR.off1 false).fused1 false).left1 0 (by omega) (x:=0) rfl
   go_wp2_with fail
   go_end0
   exact⟨rfl,⟨_,_,_,_,LE⟩,((TR.then (q0o _ _ _ |>.mono fun x hx=>hx▸hsp)).then (q0o _ _ _ |>.mono fun x hx=>hx▸hsp)).then (q0o _ _ _ |>.mono fun x hx=>hx▸hsp)⟩
end
def DM.setAll (D:DM)(s:Nat)(ls:List (List UInt8)):DM:={ D with dur:=upd D.dur s (ls.headD []),cac:=upd D.cac s (ls.drop 1) }
theorem qao (D:DM)(s:Nat)(ls:List (List UInt8))(h:0<ls.length)(z:Nat):(D.setAll s ls).all z=if z=s then ls else D.all z:=by
 unfold DM.all DM.setAll
 by_cases hz:z=s
 ·subst hz
  rcases ls with _|⟨a,r⟩
  ·simp at h
  ·simp[upd]
 ·simp[upd,hz]
theorem qg1 (D:DM)(s:Nat):D.setAll s (D.all s)=D:=by
 unfold DM.setAll DM.all
 simp[q6u]
theorem qjt (D:DM)(s:Nat)(a b:List (List UInt8)):(D.setAll s a).setAll s b=D.setAll s b:=by
 unfold DM.setAll
 simp only[qoi]
theorem qg2 (D:DM)(s at_ m:Nat):D.setAll s ((D.all s).map (turnB at_ m))=D.turn s at_ m:=by
 unfold DM.setAll DM.turn DM.all
 simp
section
variable {w:World}{rp ro oc:Nat}{iv:Nat→Value}{vs:Nat→List Value}{S:Nat→Prop}{D:DM}
theorem RLay.turnByte (L:RLay w rp ro oc iv vs S D)(s:Nat)(hs:s<D.n)(i g o c:Nat)(hv:(vs s)[i]?=some (.slice (some ⟨g,o,none⟩) 256 c))(l:List UInt8)(hl:(D.all s)[i]?=some l)(j:Nat)(hj:j<256)(b:UInt8) :
  w.cell? ⟨g,o+j,none⟩=some (.int .u8 (byt l j:Int))∧w.frozen? ⟨g,o+j,none⟩=false∧RLay (w.setCell ⟨g,o+j,none⟩ (bv b)) rp ro oc iv vs S (D.setAll s ((D.all s).set i (l.set j b)))∧S g:=by
 have hB:=L.brow s hs i _ l hv hl
 have hgS:S g:=L.inS.2.2.2 s hs _ (List.mem_of_getElem? hv) g rfl
 obtain⟨hgp,hgo,hgi⟩:=L.ne.2.2 s hs _ (List.mem_of_getElem? hv) g rfl
 have hT:=q0d (S:=fun k=>k=g) (w:=w) (a:=⟨g,o+j,none⟩) (bv b) rfl
 have hil:i<(D.all s).length:=(List.getElem?_eq_some_iff.1 hl).1
 have hset:0<((D.all s).set i (l.set j b)).length:=by rw[List.length_set];omega
 have hall:=qao D s ((D.all s).set i (l.set j b)) hset
 have hkeep:∀k,k<w.heap.size→k≠g→(w.setCell ⟨g,o+j,none⟩ (bv b)).heap[k]?=w.heap[k]?:=fun k hk hn=>hT.block k hk hn
 obtain⟨g',o',c',e,h1,h2,h3,h4,h5⟩:=hB
 obtain⟨rfl,rfl,rfl⟩:g=g'∧o=o'∧c=c':=by cases e;exact⟨rfl,rfl,rfl⟩
 have hc:w.cell? ⟨g,o+j,none⟩=some (bv l[j]):=h4 j _ (by simp[bvs,List.getElem?_eq_getElem (show j<l.length by omega)])
 refine⟨?_,(h5 j hj).2,⟨(hkeep rp (q01 L.me) (Ne.symm hgp)).trans L.me,fun z hz=>⟨(World.cell?_of_block (w:=w) (a:=⟨ro,z,none⟩) (hkeep ro L.rolt (Ne.symm hgo))).trans (L.out z hz).1,(World.frozen?_of_block (w:=w) (a:=⟨ro,z,none⟩) (hkeep ro L.rolt (Ne.symm hgo))).trans (L.out z hz).2⟩,
  fun z hz=>(L.irow z hz).keep fun k hk=>hkeep k (L.ilt hz hk) fun e=>hgi z hz (e▸hk),fun z hz=>?_,fun z hz i' v' l' hv' hl'=>?_,fun z hz=>?_,L.inS,L.ne,L.isep,L.bsep,L.n32,L.left⟩,hgS⟩
 ·rw[hc]
  unfold byt bv;rw[List.getD_eq_getElem?_getD,List.getElem?_eq_getElem (by omega)];rfl
 ·rw[hall]
  by_cases h:z=s
  ·subst h;rw[if_pos rfl,List.length_set];exact L.len z hz
  ·rw[if_neg h];exact L.len z hz
 ·rw[hall] at hl'
  by_cases h:z=s∧i'=i
  ·obtain⟨rfl,rfl⟩:=h
   rw[if_pos rfl,List.getElem?_set_self hil] at hl'
   obtain rfl:=Option.some.inj hl'
   rw[hv] at hv'
   obtain rfl:=Option.some.inj hv'
   refine⟨g,o,c,rfl,h1,h2,by rw[List.length_set];exact h3,fun i u hu=>?_,World.there_setCells h5 g (o+j) [bv b]⟩
   unfold bvs at hu
   rw[List.map_set] at hu
   by_cases hij:i=j
   ·subst hij
    rw[List.getElem?_set_self (by simp;omega)] at hu
    rw[World.cell?_setCell_same _ _ _ hc];exact hu
   ·rw[List.getElem?_set_ne (fun e=>hij e.symm)] at hu
    rw[World.cell?_setCell_other _ _ _ _ (fun e=>hij (by injection e;omega))]
    exact h4 i u hu
  ·have hl2:(D.all z)[i']?=some l':=by
    by_cases hz:z=s
    ·subst hz
     rw[if_pos rfl,List.getElem?_set_ne (fun e=>h ⟨rfl,e.symm⟩)] at hl'
     exact hl'
    ·rw[if_neg hz] at hl';exact hl'
   have hb:=L.brow z hz i' v' l' hv' hl2
   exact hb.keep fun k hk=>hkeep k (hb.lt hk) fun e=>h (L.bsep z s i' i v' _ g hz hs hv' hv (e▸hk) rfl)
 ·have hzs:z≠s:=by have:D.n≤z:=hz;omega
  show upd D.cac s _ z=[]
  rw[q05 _ _ hzs];exact L.off z hz
end
theorem S5:(Tryz.prog.info? 5).map (·.size)=some 1:=by kernel_rfl
theorem qe3 {w:World}{rp ro oc:Nat}{iv:Nat→Value}{vs:Nat→List Value}{S:Nat→Prop}{D:DM}(L:RLay w rp ro oc iv vs S D)(s at_ m:Nat)(hs:s<D.n)(hat:at_<256)(hm:m<256)(hcl:∀k,(D.cac k).length≤1000000) :
  Calls Tryz.prog 18 #[.pointer (some ⟨rp,0,none⟩),.int .i64 s,.int .i64 at_,.int .i64 m] w fun e w'=>e=.returned (.int .i64 0)∧RLay w' rp ro oc iv vs S (D.turn s at_ m)∧Turn S w w':=by
 have H1:=q6b L (s:Int)
 rw[show decide (0≤(s:Int)∧(s:Int)<(D.n:Int))=true by simp;omega] at H1
 have ha1:¬((at_:Int)<0):=by omega
 have ha2:¬(255:Int)<(at_:Int):=by omega
 have hm1:¬((m:Int)<0):=by omega
 have hm2:¬(255:Int)<(m:Int):=by omega
 have hmod:(m:Int) % 256=(m:Int):=by omega
 have hle:=hcl s
 have hal:(D.all s).length=(D.cac s).length+1:=by simp[DM.all]
 clear hcl
 go_enter Tryz.func18,Tryz.ntmps18
 go_wp2_with fail
 refine H1.mono ?_
 rintro e w1 ⟨rfl,rfl⟩
 clear H1
 go_wp2_with fail
 go_loopw [10] (fun i wr=>∃k:Nat,k≤(D.all s).length∧i=.int .i64 k∧RLay wr rp ro oc iv vs S (D.setAll s (turnTo at_ m k (D.all s)))∧Turn S w wr) (fun i _=>(D.all s).length-(intOf i).toNat)
 case atStart=>exact⟨0,Nat.zero_le _,rfl,by rw[qa3,qg1];exact L,Turn.refl _ _⟩
 case round=>
  clear L
  obtain⟨k,hk,rfl,LR,TR⟩:=hrel
  have hlen:=q7k at_ m k (D.all s)
  have hall:(D.setAll s (turnTo at_ m k (D.all s))).all s=turnTo at_ m k (D.all s):=by rw[qao _ _ _ (by rw[hlen,hal];omega),if_pos rfl]
  have hvl:(vs s).length=(D.all s).length:=by rw[LR.len s hs,hall,hlen]
  obtain⟨g0,o0,c0,hv0,hc01,hc02,hrng,_⟩:=LR.irow s hs
  rw[hvl] at hv0 hc01
  have hk0:wr.cell? ⟨ro,s,none⟩=some (iv s):=(LR.out s hs).1
  have hk0d:wr.drew.cell? ⟨ro,s,none⟩=some (iv s):=hk0
  rw[hv0] at hk0 hk0d
  have cc:wr.cell? ⟨rp,0,none⟩=some (.slice (some ⟨ro,0,none⟩) D.n oc):=LR.c0
  have cd:wr.drew.cell? ⟨rp,0,none⟩=some (.slice (some ⟨ro,0,none⟩) D.n oc):=LR.c0
  have hix:∀w',(Instr.indexAt 50 (.slice (some ⟨ro,0,none⟩) D.n oc) (.int .i64 (s:Int))).run Tryz.prog w'=.ok (.pointer (some ⟨ro,s,none⟩)) w':=fun w'=>by
   have:=q0y (P:=Tryz.prog) Tryz.underlying50 S64 w' ro 0 D.n oc s hs
   simpa only[Nat.zero_add] using this
  by_cases hlt:k<(D.all s).length
  ·have hvk:=List.getElem?_eq_getElem (show k<(vs s).length by omega)
   have hlk:((D.setAll s (turnTo at_ m k (D.all s))).all s)[k]?=some (D.all s)[k]:=by
    rw[hall,List.getElem?_eq_getElem (by omega),qfa _ _ _ _ hlt]
   have hbr:=LR.brow s hs k _ _ hvk hlk
   obtain⟨g1,o1,c1,hA,-,-,-,-,-⟩:=hbr
   have hi1:=hrng k _ hvk
   rw[hA] at hvk hi1
   have hi1d:wr.drew.cell? ⟨g0,o0+k,none⟩=some (.slice (some ⟨g1,o1,none⟩) 256 c1):=hi1
   obtain⟨hb1,hb2,LE,hgS⟩:=LR.drew.turnByte s hs k g1 o1 c1 hvk _ hlk at_ hat (UInt8.ofNat (byt (D.all s)[k] at_) ^^^ UInt8.ofNat m)
   rw[hall,show (D.all s)[k].set at_ (UInt8.ofNat (byt (D.all s)[k] at_) ^^^ UInt8.ofNat m)=turnB at_ m (D.all s)[k] from rfl,qa4 at_ m k _ hlt,qjt,bv_xor _ m (q48 _ _) (by omega)] at LE
   have hx2:∀w',(Instr.indexAt 67 (.slice (some ⟨g0,o0,none⟩) (D.all s).length c0) (.int .i64 (k:Int))).run Tryz.prog w'=.ok (.pointer (some ⟨g0,o0+k,none⟩)) w':=fun w'=>q0y (P:=Tryz.prog) Tryz.underlying67 S35 w' g0 o0 _ c0 k hlt
   have hx3:∀w',(Instr.indexAt 30 (.slice (some ⟨g1,o1,none⟩) 256 c1) (.int .i64 (at_:Int))).run Tryz.prog w'=.ok (.pointer (some ⟨g1,o1+at_,none⟩)) w':=fun w'=>q0y (P:=Tryz.prog) Tryz.underlying30 S5 w' g1 o1 256 c1 at_ hat
   have TE:=q0d (S:=S) (w:=wr.drew) (a:=⟨g1,o1+at_,none⟩) (.int .u8 (bits .xor .u8 (byt (D.all s)[k] at_:Int) (m:Int))) hgS
   clear hrng hvk hlk hi1 hall hA hlen hvl
   generalize byt (D.all s)[k] at_=bb at *
   generalize (D.all s).length=q at *
   go_wp2_with fail
   go_region
   all_goals (go_wp2_with fail;exact⟨⟨k+1,by omega,by go_num,LE,TR.drew.then TE⟩,by simp[intOf];omega⟩)
  ·obtain rfl:k=(D.all s).length:=by omega
   rw[qbf,qg2] at LR
   generalize (D.all s).length=q at *
   go_wp2_with fail
   go_ret
   exact⟨rfl,LR,TR⟩
theorem qg3 {w:World}{rp ro oc:Nat}{iv:Nat→Value}{vs:Nat→List Value}{S:Nat→Prop}{D:DM}(L:RLay w rp ro oc iv vs S D)(s at_ m:Int)(h:D.mayTurn s at_ m=false) :
  Calls Tryz.prog 18 #[.pointer (some ⟨rp,0,none⟩),.int .i64 s,.int .i64 at_,.int .i64 m] w fun e w'=>e=.returned (.int .i64 1)∧w=w':=by
 have H1:=q6b L s
 unfold DM.mayTurn at h
 rw[decide_eq_false_iff_not] at h
 by_cases hs:0≤s∧s<(D.n:Int)
 ·rw[show decide (0≤s∧s<(D.n:Int))=true by simpa using hs] at H1
  by_cases a1:at_<0
  ·clear h hs
   go_enter Tryz.func18,Tryz.ntmps18
   go_wp2_with fail
   refine H1.mono ?_
   rintro e w1 ⟨rfl,rfl⟩
   go_wp2_with fail
   go_ret
   exact⟨rfl,rfl⟩
  by_cases a2:255<at_
  ·clear h hs
   go_enter Tryz.func18,Tryz.ntmps18
   go_wp2_with fail
   refine H1.mono ?_
   rintro e w1 ⟨rfl,rfl⟩
   go_wp2_with fail
   go_ret
   exact⟨rfl,rfl⟩
  by_cases a3:m<0
  ·clear h hs
   go_enter Tryz.func18,Tryz.ntmps18
   go_wp2_with fail
   refine H1.mono ?_
   rintro e w1 ⟨rfl,rfl⟩
   go_wp2_with fail
   go_ret
   exact⟨rfl,rfl⟩
  have a4:255<m:=by
   rcases Int.lt_or_le 255 m with h4|h4
   ·exact h4
   ·exact absurd ⟨hs,⟨by omega,by omega⟩,by omega,by omega⟩ h
  clear h hs
  go_enter Tryz.func18,Tryz.ntmps18
  go_wp2_with fail
  refine H1.mono ?_
  rintro e w1 ⟨rfl,rfl⟩
  go_wp2_with fail
  go_ret
  exact⟨rfl,rfl⟩
 ·rw[show decide (0≤s∧s<(D.n:Int))=false by simpa using hs] at H1
  clear h hs
  go_enter Tryz.func18,Tryz.ntmps18
  go_wp2_with fail
  refine H1.mono ?_
  rintro e w1 ⟨rfl,rfl⟩
  go_wp2_with fail
  go_ret
  exact⟨rfl,rfl⟩
theorem qe4 {w:World}{rp:Nat}{S:Nat→Prop}{D:DM}(L0:RDrv w rp S D)(s at_ m:Int)(hcl:∀k,(D.cac k).length≤1000000) :
  Calls Tryz.prog 18 #[.pointer (some ⟨rp,0,none⟩),.int .i64 s,.int .i64 at_,.int .i64 m] w fun e w'=>e=.returned (.int .i64 (if D.mayTurn s at_ m then 0 else 1))∧RDrv w' rp S (D.corrupt s at_ m)∧Turn S w w':=by
 obtain⟨ro,oc,iv,vs,L⟩:=L0
 unfold DM.corrupt
 cases h:D.mayTurn s at_ m with
 |true=>
  have h2:=h
  unfold DM.mayTurn at h2
  rw[decide_eq_true_iff] at h2
  obtain⟨⟨h3,h4⟩,⟨h5,h6⟩,h7,h8⟩:=h2
  obtain⟨s,rfl⟩:=Int.eq_ofNat_of_zero_le h3
  obtain⟨at_,rfl⟩:=Int.eq_ofNat_of_zero_le h5
  obtain⟨m,rfl⟩:=Int.eq_ofNat_of_zero_le h7
  refine (qe3 L s at_ m (by omega) (by omega) (by omega) hcl).mono ?_
  rintro e w' ⟨rfl,h9,h10⟩
  exact⟨rfl,⟨ro,oc,iv,vs,h9⟩,h10⟩
 |false=>
  refine (qg3 L s at_ m h).mono ?_
  rintro e w' ⟨rfl,rfl⟩
  exact⟨rfl,⟨ro,oc,iv,vs,L⟩,Turn.refl _ _⟩
theorem Q46:(Tryz.prog.info? 67).map (fun i=>(i.zero,i.size,i.bytes))=some (some (.slice none 0 0),1,24):=by kernel_rfl
def rowV (a:Nat):Value:=.slice (some ⟨a,0,none⟩) 1 1
structure Bld (w:World)(base rp:Nat)(v:Value)(k:Nat)(iv bw:Nat→Nat):Prop where
 me:w.heap[rp]?=some (.cells #[v,.bool false,.bool false,.int .i64 0,.int .i64 0] 52 (0,0))
 row:w.ownsRow base 67 1 v k ((List.range k).map fun s=>rowV (iv s))
 inn:∀s,s<k→w.heap[iv s]?=some (.cells #[.slice (some ⟨bw s,0,none⟩) 256 256] 30 (0,0))
 byt:∀s,s<k→w.heap[bw s]?=some (.cells (madeCells #[.int .u8 0] 256) 5 (0,0))
 old:base≤rp∧∀s,s<k→base≤iv s∧base≤bw s
 ne:v.ownBlock≠some rp∧∀s,s<k→iv s≠rp∧bw s≠rp∧v.ownBlock≠some (iv s)∧v.ownBlock≠some (bw s)
 sep:∀s s',s<k→s'<k→bw s≠iv s'∧(s≠s'→iv s≠iv s'∧bw s≠bw s')
def lT (n:Nat)(p:Array (Nat × Value)):Sem Value:=Instr.buildSlice 50 n p
theorem qsn (n:Nat)(p:Array (Nat × Value)):Instr.buildSlice 50 n p=lT n p:=rfl
def mkB (a b:Value):Sem Value:=Instr.makeSlice 30 a b
theorem qhl (a b:Value):Instr.makeSlice 30 a b=mkB a b:=rfl
def litT (w:World)(v:Value):World:=w.alloc (.cells #[v] 67)
def litZ (w:World):World:=w.alloc (.cells (madeCells #[.int .u8 0] 256) 5)
theorem qg4 (w:World):(mkB (.int .i64 256) (.int .i64 256)).run Tryz.prog w=.ok (.slice (some ⟨w.heap.size,0,none⟩) 256 256) (litZ w):=by
 obtain⟨i,hi,hz0,hz1,hz2⟩:=info_parts T22.info
 have h:=run_makeSlice (P:=Tryz.prog) w 30 5 i _ T22.sl hi hz0 .i64 .i64 256 256 (by omega) (by omega) (by rw[hz1];decide) (by rw[hz2];decide) (by omega)
 rw[hz1] at h
 exact h
theorem quq (w:World)(v:Value)(hv:v.cells=#[v]):(lT 1 #[(0,v)]).run Tryz.prog w=.ok (.slice (some ⟨w.heap.size,0,none⟩) 1 1) (litT w v):=by
 obtain⟨i,hi,hz0,hz1,hz2⟩:=info_parts Q46
 refine run_buildSlice w _ _ 1 _ #[v] i _ Tryz.underlying50 hi hz0 (by rw[hz1];omega) (by rw[hz1];omega) ?_
 rw[hz1]
 have h:=Great.fill_whole (s:=1) (by omega) [v] ((Array.range (1*1)).map ((Value.slice none 0 0).cells[· % (Value.slice none 0 0).cells.size]!)) (by intro u hu;rw[List.mem_singleton.1 hu,hv];rfl) (by rw[Array.size_map,Array.size_range];rfl)
 refine Eq.trans ?_ (h.trans ?_)
 ·simp only[List.zipIdx_cons,List.zipIdx_nil,List.map_cons,List.map_nil]
 ·simp[hv]
theorem qju {w:World}{b:Nat}{x:Value}{t:TypeId}(h:w.heap[b]?=some (.cells #[x] t (0,0)))(j:Nat)(u:Value)(hu:[x][j]?=some u):w.cell? ((⟨b,0,none⟩:Addr).add j)=some u:=by
 rcases j with _|j
 ·have h0:x=u:=by simpa using hu
  rw[Addr.add_mid,cell_of_row w b _ _ _ _ h,←h0];rfl
 ·simp at hu
theorem Bld.step {w:World}{base rp:Nat}{v:Value}{k:Nat}{iv bw:Nat→Nat}(B:Bld w base rp v k iv bw)(hk:k<2048)(hbw:base≤w.heap.size)(ty:TypeId) :
  ∃v' W4,(apR #[50,50] ty #[v,.slice (some ⟨(litS (litZ w) (.slice (some ⟨w.heap.size,0,none⟩) 256 256)).heap.size,0,none⟩) 1 1]).run Tryz.prog (litT (litS (litZ w) (.slice (some ⟨w.heap.size,0,none⟩) 256 256)) (.slice (some ⟨(litZ w).heap.size,0,none⟩) 1 1))=.ok v' W4∧
   (W4.cell? ⟨rp,0,none⟩=some v∧W4.frozen? ⟨rp,0,none⟩=false)∧(∃iv' bw',Bld (W4.setCell ⟨rp,0,none⟩ v') base rp v' (k+1) iv' bw')∧Below base w (W4.setCell ⟨rp,0,none⟩ v'):=by
 obtain⟨i,hi,hz0,hz1,hz2⟩:=info_parts Q46
 generalize hW1:litZ w=W1
 have hs1:W1.heap.size=w.heap.size+1:=by rw[←hW1];simp[litZ]
 generalize hW2:litS W1 (.slice (some ⟨w.heap.size,0,none⟩) 256 256)=W2
 have hs2:W2.heap.size=w.heap.size+2:=by rw[←hW2];simp[litS,hs1]
 generalize hW3:litT W2 (.slice (some ⟨W1.heap.size,0,none⟩) 1 1)=W3
 have hs3:W3.heap.size=w.heap.size+3:=by rw[←hW3];simp[litT,hs2]
 have k1:∀z,z<w.heap.size→W1.heap[z]?=w.heap[z]?:=fun z hz=>by rw[←hW1];exact heap_alloc_old w _ hz
 have k2:∀z,z<W1.heap.size→W2.heap[z]?=W1.heap[z]?:=fun z hz=>by rw[←hW2];exact heap_alloc_old W1 _ hz
 have k3:∀z,z<W2.heap.size→W3.heap[z]?=W2.heap[z]?:=fun z hz=>by rw[←hW3];exact heap_alloc_old W2 _ hz
 have n1:W1.heap[w.heap.size]?=some (.cells (madeCells #[.int .u8 0] 256) 5 (0,0)):=by rw[←hW1];exact heap_alloc_new w _
 have n2:W2.heap[w.heap.size+1]?=some (.cells #[.slice (some ⟨w.heap.size,0,none⟩) 256 256] 30 (0,0)):=by rw[←hW2,←hs1];exact heap_alloc_new W1 _
 have n3:W3.heap[w.heap.size+2]?=some (.cells #[rowV (w.heap.size+1)] 67 (0,0)):=by rw[←hW3,←hs2,←hs1];exact heap_alloc_new W2 _
 have k13:∀z,z<w.heap.size→W3.heap[z]?=w.heap[z]?:=fun z hz=>(k3 z (by omega)).trans ((k2 z (by omega)).trans (k1 z hz))
 have b13:Below w.heap.size w W3:=by
  rw[←hW3,←hW2,←hW1]
  exact ((blA).alloc (by simp) _).alloc (by simp;omega) _
 have hrow3:=q1m B.row (w':=W3) fun g hg=>k13 g (World.ownsRow.lt B.row g hg).2
 rw[hs2]
 obtain⟨v',W4,hrun,hown,hgrow,_,hat⟩:=run_append_own_at (P:=Tryz.prog) W3 base 50 ty 67 i _ 1 24 Tryz.underlying50 hi hz0 hz1 hz2 (by simp[Value.cells]) (by omega) v k _ hrow3
  ⟨w.heap.size+2,0,none⟩ 1 1 [rowV (w.heap.size+1)] rfl (fun j u hu=>qju n3 j u hu) (by intro u hu;rw[List.mem_singleton.1 hu];rfl) (by unfold maxLen;omega) (by omega) (by omega)
 have hsz:=hgrow.size
 have hrp:=q01 B.me
 have kk:∀z,z<W3.heap.size→v.ownBlock≠some z→W4.heap[z]?=W3.heap[z]?:=fun z hz hn=>hgrow.block z hz (Ne.symm hn)
 have krp:W4.heap[rp]?=w.heap[rp]?:=(kk rp (by omega) B.ne.1).trans (k13 rp hrp)
 have hvl:∀g,v.ownBlock=some g→base≤g∧g<w.heap.size:=World.ownsRow.lt B.row
 have hv'l:∀g,v'.ownBlock=some g→(v.ownBlock=some g)∨g=w.heap.size+3:=fun g hg=>by
  rcases hat with e|e
  ·exact .inl (e▸hg)
  ·rw[e] at hg;cases hg;exact .inr hs3
 have kset:∀z,z≠rp→(W4.setCell ⟨rp,0,none⟩ v').heap[z]?=W4.heap[z]?:=fun z hz=>Below.heap_setCell _ _ _ _ hz
 have old:∀z,z<w.heap.size→z≠rp→v.ownBlock≠some z→(W4.setCell ⟨rp,0,none⟩ v').heap[z]?=w.heap[z]?:=fun z hz h1 h2=>(kset z h1).trans ((kk z (by omega) h2).trans (k13 z hz))
 have hil:∀s,s<k→iv s<w.heap.size:=fun s hs=>q01 (B.inn s hs)
 have hbl:∀s,s<k→bw s<w.heap.size:=fun s hs=>q01 (B.byt s hs)
 have hvn:∀z,w.heap.size≤z→v.ownBlock≠some z:=fun z hz e=>by have:=(hvl z e).2;omega
 refine⟨v',W4,hrun,⟨?_,?_⟩,⟨upd iv k (w.heap.size+1),upd bw k w.heap.size,?_⟩,?_⟩
 ·rw[cell_of_row W4 rp 0 _ _ _ (krp.trans B.me)];rfl
 ·exact qal (krp.trans B.me) _
 ·refine⟨?_,?_,fun s hs=>?_,fun s hs=>?_,⟨B.old.1,fun s hs=>?_⟩,⟨fun e=>?_,fun s hs=>?_⟩,fun s s' hs hs'=>?_⟩
  ·rw[q0h _ (krp.trans B.me)];rfl
  ·have e:((List.range (k+1)).map fun s=>rowV (upd iv k (w.heap.size+1) s))=((List.range k).map fun s=>rowV (iv s))++[rowV (w.heap.size+1)]:=by
    rw[List.range_succ,List.map_append]
    congr 1
    ·exact List.map_congr_left fun s hs=>by rw[q05 _ _ (by have:=List.mem_range.1 hs;omega)]
    ·simp[q0b]
   rw[e]
   refine q1m hown fun g hg=>kset g fun e=>?_
   rcases hv'l g hg with h|h
   ·exact B.ne.1 (e▸h)
   ·omega
  ·by_cases h:s=k
   ·subst h
    rw[q0b,q0b,kset _ (by omega),kk _ (by omega) (hvn _ (by omega)),k3 _ (by omega)];exact n2
   ·have hs':s<k:=by omega
    obtain⟨a,b,c,d⟩:=B.ne.2 s hs'
    rw[q05 _ _ h,q05 _ _ h,old _ (hil s hs') a c];exact B.inn s hs'
  ·by_cases h:s=k
   ·subst h
    rw[q0b,kset _ (by omega),kk _ (by omega) (hvn _ (by omega)),k3 _ (by omega),k2 _ (by omega)];exact n1
   ·have hs':s<k:=by omega
    obtain⟨a,b,c,d⟩:=B.ne.2 s hs'
    rw[q05 _ _ h,old _ (hbl s hs') b d];exact B.byt s hs'
  ·by_cases h:s=k
   ·subst h;rw[q0b,q0b];omega
   ·rw[q05 _ _ h,q05 _ _ h];exact B.old.2 s (by omega)
  ·rcases hv'l _ e with h|h
   ·exact B.ne.1 h
   ·omega
  ·by_cases h:s=k
   ·subst h;rw[q0b,q0b]
    refine⟨by omega,by omega,fun e=>?_,fun e=>?_⟩
    ·rcases hv'l _ e with h|h
     ·exact hvn _ (by omega) h
     ·omega
    ·rcases hv'l _ e with h|h
     ·exact hvn _ (by omega) h
     ·omega
   ·have hs':s<k:=by omega
    obtain⟨a,b,c,d⟩:=B.ne.2 s hs'
    rw[q05 _ _ h,q05 _ _ h]
    refine⟨a,b,fun e=>?_,fun e=>?_⟩
    ·rcases hv'l _ e with h|h
     ·exact c h
     ·have:=hil s hs';omega
    ·rcases hv'l _ e with h|h
     ·exact d h
     ·have:=hbl s hs';omega
  ·by_cases h:s=k<;>by_cases h':s'=k
   ·subst h;subst h';rw[q0b,q0b];exact⟨by omega,fun e=>absurd rfl e⟩
   ·have h2:s'<k:=by omega
    have:=hil s' h2;have:=hbl s' h2
    subst h;rw[q0b,q0b,q05 _ _ h',q05 _ _ h'];exact⟨by omega,fun _=>⟨by omega,by omega⟩⟩
   ·have h2:s<k:=by omega
    have:=hil s h2;have:=hbl s h2
    subst h';rw[q0b,q0b,q05 _ _ h,q05 _ _ h];exact⟨by omega,fun _=>⟨by omega,by omega⟩⟩
   ·rw[q05 _ _ h,q05 _ _ h',q05 _ _ h,q05 _ _ h'];exact B.sep s s' (by omega) (by omega)
 ·have hT:Turn (fun z=>base≤z) W3 W4:=qb8 hgrow fun z hz=>(hvl z hz).1
  exact ((b13.mono hbw).trans (hT.below (fun _ h=>h) (by omega))).trans ((q0d (S:=fun z=>base≤z) (a:=⟨rp,0,none⟩) v' B.old.1).below (fun _ h=>h) (by omega))
section
theorem qc8 (j:Nat)(h:j<256):(madeCells #[.int .u8 0] 256)[j]?=some (.int .u8 0):=by
 unfold madeCells
 rw[Array.getElem?_map,Array.getElem?_range,if_pos h]
 simp only[Option.map_some]
 rw[show j % (#[Value.int .u8 0]:Array Value).size=0 from Nat.mod_one j]
 rfl
theorem Bld.done {w:World}{base rp:Nat}{v:Value}{n:Nat}{iv bw:Nat→Nat}(B:Bld w base rp v n iv bw)(hn:sectors n):RDrv w rp (fun k=>base≤k) (DM.mk0 n):=by
 obtain⟨ro,oc,hv,h1,h2⟩:=q4s B.row (by have:=hn.1;omega)
 have hrow:=B.row
 rw[hv] at hrow
 have hro:v.ownBlock=some ro:=by rw[hv];rfl
 refine⟨ro,oc,fun s=>rowV (iv s),fun s=>[.slice (some ⟨bw s,0,none⟩) 256 256],⟨by have h:=B.me;rw[hv] at h;exact h,fun s hs=>⟨?_,World.ownsRow.frozenAt hrow _⟩,fun s hs=>?_,fun _ _=>rfl,fun s hs i v' l hv' hl=>?_,fun _ _=>rfl,
  ⟨B.old.1,(World.ownsRow.lt B.row ro hro).1,fun s hs g hg=>?_,fun s hs v' hv' g hg=>?_⟩,⟨fun e=>B.ne.1 (by rw[hro,e]),fun s hs g hg=>?_,fun s hs v' hv' g hg=>?_⟩,fun s s' g hs hs' hg hg'=>?_,fun s s' i i' v' v'' g hs hs' hv' hv'' hg hg'=>?_,hn,by simp[DM.mk0]⟩⟩
 ·have hs:s<n:=hs
  rw[World.ownsRow.cellAt hrow s (by omega),List.getElem?_map,List.getElem?_range hs];rfl
 ·have hb:=B.inn s hs
  refine⟨iv s,0,1,rfl,Nat.le_refl _,by unfold maxLen;omega,fun j u hu=>?_,fun j hj=>?_⟩
  ·rw[cell_of_row _ _ _ _ _ _ hb,Nat.zero_add];simpa using hu
  ·have h0:j=0:=by omega
   subst h0
   exact⟨by rw[cell_of_row _ _ _ _ _ _ hb];rfl,qal hb _⟩
 ·have hb:=B.byt s hs
  rcases i with _|i
  ·have hv':Value.slice (some ⟨bw s,0,none⟩) 256 256=v':=by simpa using hv'
   have hl:zeros 256=l:=by simpa [DM.all,DM.mk0] using hl
   subst hv' hl
   refine⟨bw s,0,256,rfl,Nat.le_refl _,by unfold maxLen;omega,List.length_replicate,fun j u hu=>?_,fun j hj=>⟨?_,qal hb _⟩⟩
   ·have hj:j<256:=by have:=(List.getElem?_eq_some_iff.1 hu).1;rw[q1b,show (zeros 256).length=256 from List.length_replicate] at this;exact this
    rw[qio 256 hj] at hu
    rw[cell_of_row _ _ _ _ _ _ hb,Nat.zero_add,qc8 j hj];exact hu
   ·rw[cell_of_row _ _ _ _ _ _ hb,Nat.zero_add,qc8 j hj];rfl
  ·simp at hv'
 ·obtain rfl:iv s=g:=by simpa [rowV,Value.ownBlock] using hg
  exact (B.old.2 s hs).1
 ·rw[List.mem_singleton.1 hv'] at hg
  obtain rfl:bw s=g:=by simpa [Value.ownBlock] using hg
  exact (B.old.2 s hs).2
 ·obtain rfl:iv s=g:=by simpa [rowV,Value.ownBlock] using hg
  obtain⟨a,b,c,d⟩:=B.ne.2 s hs
  exact⟨a,fun e=>c (by rw[hro,e])⟩
 ·rw[List.mem_singleton.1 hv'] at hg
  obtain rfl:bw s=g:=by simpa [Value.ownBlock] using hg
  obtain⟨a,b,c,d⟩:=B.ne.2 s hs
  exact⟨b,fun e=>d (by rw[hro,e]),fun z hz e=>(B.sep s z hs hz).1 (by simpa [rowV,Value.ownBlock] using e.symm)⟩
 ·have e1:iv s=g:=by simpa [rowV,Value.ownBlock] using hg
  have e2:iv s'=g:=by simpa [rowV,Value.ownBlock] using hg'
  by_cases h:s=s'
  ·exact h
  ·exact absurd (e1.trans e2.symm) ((B.sep s s' hs hs').2 h).1
 ·rw[List.mem_singleton.1 (List.mem_of_getElem? hv')] at hg
  rw[List.mem_singleton.1 (List.mem_of_getElem? hv'')] at hg'
  have e1:bw s=g:=by simpa [Value.ownBlock] using hg
  have e2:bw s'=g:=by simpa [Value.ownBlock] using hg'
  have h1:=(List.getElem?_eq_some_iff.1 hv').1
  have h2:=(List.getElem?_eq_some_iff.1 hv'').1
  simp at h1 h2
  refine⟨?_,by omega⟩
  by_cases h:s=s'
  ·exact h
  ·exact absurd (e1.trans e2.symm) ((B.sep s s' hs hs').2 h).2
attribute [local go_sem ↓] qsn qg0 qhl qhk
theorem qpn (n:Nat)(hn:sectors n)(w:World) :
  Calls Tryz.prog 42 #[.int .i64 n] w fun e w'=>∃rp,e=.returned (.tuple #[.pointer (some ⟨rp,0,none⟩),.int .i64 0])∧RDrv w' rp (fun k=>w.heap.size≤k) (DM.mk0 n)∧Below w.heap.size w w':=by
 have h1:32≤n:=hn.1
 have h2:n≤2048:=hn.2
 have h1':¬(n:Int)<32:=by omega
 have h2':¬(2048:Int)<(n:Int):=by omega
 go_enter Tryz.func42,Tryz.ntmps42
 go_wp2_with fail
 go_loopw [5] (fun i wr=>∃(k:Nat) (v:Value) (iv bw:Nat→Nat),k≤n∧i=.int .i64 k∧Bld wr w.heap.size w.heap.size v k iv bw∧Below w.heap.size w wr) (fun i _=>n-(intOf i).toNat)
 case atStart=>
  refine⟨0,.slice none 0 0,fun _=>0,fun _=>0,Nat.zero_le _,rfl,⟨heap_alloc_new w _,?_,fun s hs=>absurd hs (by omega),fun s hs=>absurd hs (by omega),⟨Nat.le_refl _,fun s hs=>absurd hs (by omega)⟩,⟨by simp[Value.ownBlock],fun s hs=>absurd hs (by omega)⟩,fun s s' hs=>absurd hs (by omega)⟩,blA⟩
  exact World.ownsRow_nil _ _ _ _
 case round=>
  obtain⟨k,v,iv,bw,hk,rfl,B,hb⟩:=hrel
  by_cases hlt:k<n
  ·have hlt':(k:Int)<(n:Int):=by omega
   have hsz:=hb.size
   have hrp:=q01 B.me
   have c0:wr.drew.cell? ⟨w.heap.size,0,none⟩=some v:=by rw[cell_of_row wr.drew w.heap.size 0 _ _ _ B.me];rfl
   have BD:Bld wr.drew w.heap.size w.heap.size v k iv bw:=⟨B.me,B.row,B.inn,B.byt,B.old,B.ne,B.sep⟩
   obtain⟨v',W4,hap,⟨c4,f4⟩,⟨iv',bw',B'⟩,hb'⟩:=BD.step (by omega) hsz 50
   have hmk:=qg4 wr.drew
   have hl2:=qm0 (litZ wr.drew) (.slice (some ⟨wr.heap.size,0,none⟩) 256 256) rfl
   have hl3:=quq (litS (litZ wr.drew) (.slice (some ⟨wr.heap.size,0,none⟩) 256 256)) (.slice (some ⟨(litZ wr.drew).heap.size,0,none⟩) 1 1) rfl
   have hap:(apR #[50,50] 50 #[v,.slice (some ⟨(litS (litZ wr.drew) (.slice (some ⟨wr.heap.size,0,none⟩) 256 256)).heap.size,0,none⟩) 1 1]).run Tryz.prog (litT (litS (litZ wr.drew) (.slice (some ⟨wr.heap.size,0,none⟩) 256 256)) (.slice (some ⟨(litZ wr.drew).heap.size,0,none⟩) 1 1))=.ok v' W4:=hap
   have cA:(litZ wr.drew).cell? ⟨w.heap.size,0,none⟩=some v:=(World.cell?_of_block (w:=wr.drew) (a:=⟨w.heap.size,0,none⟩) (heap_alloc_old wr.drew _ hrp)).trans c0
   have cB:(litS (litZ wr.drew) (.slice (some ⟨wr.heap.size,0,none⟩) 256 256)).cell? ⟨w.heap.size,0,none⟩=some v:=(World.cell?_of_block (w:=litZ wr.drew) (a:=⟨w.heap.size,0,none⟩) (heap_alloc_old (litZ wr.drew) _ (by simp[litZ];omega))).trans cA
   have cC:(litT (litS (litZ wr.drew) (.slice (some ⟨wr.heap.size,0,none⟩) 256 256)) (.slice (some ⟨(litZ wr.drew).heap.size,0,none⟩) 1 1)).cell? ⟨w.heap.size,0,none⟩=some v:=(World.cell?_of_block (w:=litS (litZ wr.drew) (.slice (some ⟨wr.heap.size,0,none⟩) 256 256)) (a:=⟨w.heap.size,0,none⟩) (heap_alloc_old (litS (litZ wr.drew) _) _ (by simp[litZ,litS];omega))).trans cB
   have hbn:Below w.heap.size w (W4.setCell ⟨w.heap.size,0,none⟩ v'):=hb.drew.trans hb'
   obtain⟨A',c',rfl,-,-⟩:=q5c B'.row
   clear BD B hb hb' hrp hsz
   go_wp2_with fail
   go_region
   all_goals (go_wp2_with fail;exact⟨⟨k+1,_,_,_,by omega,by go_num,B',hbn⟩,by simp[intOf];omega⟩)
  ·obtain rfl:k=n:=by omega
   go_wp2_with fail
   go_ret2
   exact⟨w.heap.size,rfl,B.done hn,hb⟩
end
end Go.Proofs.YtipejjgodnnkaaaGreatDoor
