/- The reference's Flush -/
import Derived.Test.YtipejjgodnnkaaaGreatDoorPm22
namespace Go.Proofs.YtipejjgodnnkaaaGreatDoor
open Go Go.RowKit Go.Proofs
set_option maxHeartbeats 2000000
set_option maxRecDepth 100000
section
section
variable {w:World}{rp ro oc:Nat}{iv:Nat→Value}{vs:Nat→List Value}{S:Nat→Prop}{D:DM}
theorem RLay.pick (L:RLay w rp ro oc iv vs S D){w':World}(s:Nat)(hs:s<D.n)(iv1 v1:Value)(l1:List UInt8)(hT:Turn (fun k=>k=ro) w w')
  (ho:w'.cell? ⟨ro,s,none⟩=some iv1∧∀z,z≠s→w'.cell? ⟨ro,z,none⟩=w.cell? ⟨ro,z,none⟩) (hf:∀z,w'.frozen? ⟨ro,z,none⟩=w.frozen? ⟨ro,z,none⟩)
  (hi:RIRow w' iv1 [v1]) (hv:v1∈vs s) (hb:BRow w v1 l1) {S':Nat→Prop} (hS:∀k,S k→S' k) (hat:(iv1.ownBlock=(iv s).ownBlock)∨∃g,iv1.ownBlock=some g∧w.heap.size≤g∧S' g) :
  RLay w' rp ro oc (upd iv s iv1) (upd vs s [v1]) S' { D with dur:=upd D.dur s l1,cac:=upd D.cac s [] }:=by
 refine L.setRow s hs iv1 [v1] l1 [] (fun k _ h=>hS k h) (fun k hk hn _=>hT.block k hk hn) (fun z hz=>⟨?_,(hf z).trans (L.out z hz).2⟩) hi rfl (fun i v l hi hl=>?_) ?_ (fun v hv' g hg=>?_) (fun i i' v v' g hi hi' _ _=>?_)
 ·by_cases h:z=s
  ·subst h;rw[q0a];exact ho.1
  ·rw[q05 _ _ h,ho.2 z h];exact (L.out z hz).1
 ·rcases i with _|i
  ·obtain rfl:v1=v:=by simpa using hi
   obtain rfl:l1=l:=by simpa using hl
   exact hb.keep fun g hg=>hT.block g (hb.lt hg) (L.ne.2.2 s hs v1 hv g hg).2.1
  ·simp at hi
 ·exact hat
 ·rw[List.mem_singleton.1 hv'] at hg ⊢
  exact .inl hv
 ·have h1:=(List.getElem?_eq_some_iff.1 hi).1
  have h2:=(List.getElem?_eq_some_iff.1 hi').1
  simp at h1 h2;omega
end
def tlS (x:Value)(lo hi mx:Option Value):Sem Value:=Instr.sliceAt 67 x lo hi mx
theorem qo8 (x:Value)(lo hi mx:Option Value):Instr.sliceAt 67 x lo hi mx=tlS x lo hi mx:=rfl
theorem qr8 (w:World)(g o m c:Nat)(hm:0<m)(hc:m≤c):(tlS (.slice (some ⟨g,o,none⟩) m c) (some (.int .i64 ((m:Int)-1))) none none).run Tryz.prog w=.ok (.slice (some ⟨g,o+(m-1),none⟩) 1 (c-(m-1))) w:=by
 have ht:Tryz.prog.underlying 67=some (.slice (Tryz.prog.elem 67)):=by kernel_rfl
 have he:(Tryz.prog.info? (Tryz.prog.elem 67)).map (·.size)=some 1:=by kernel_rfl
 have hz:(sizeOf (Tryz.prog.elem 67)).run Tryz.prog w=.ok 1 w:=by
  obtain⟨i,hi,hs⟩:=Option.map_eq_some_iff.1 he
  simp[sizeOf,typeInfo,hi,hs]
 have e1:((m:Int)-1).toNat=m-1:=by omega
 have e2:¬c=m-1:=by omega
 have e3:m-(m-1)=1:=by omega
 have ha:(⟨g,o,none⟩:Addr).add (m-1)=⟨g,o+(m-1),none⟩:=Addr.add_mid g o (m-1)
 unfold tlS
 rw[run_sliceAt_slice (h:=ht),run_slice_l (ht:=ht) (h0:=by omega) (h1:=by omega),hz]
 simp[Result.andThen,sliced,e1,e2,e3,ha]
def DM.flTo (D:DM)(k:Nat):DM:={ D with dur:=fun s=>if s<k then D.newest s else D.dur s,cac:=fun s=>if s<k then [] else D.cac s }
theorem qko (D:DM):D.flTo 0=D:=by simp[DM.flTo]
theorem qkp (D:DM)(k:Nat):D.flTo (k+1)={ D.flTo k with dur:=upd (D.flTo k).dur k (D.newest k),cac:=upd (D.flTo k).cac k [] }:=by
 unfold DM.flTo
 congr 1
 ·funext s
  by_cases h:s=k
  ·subst h;simp[upd]
  ·by_cases h2:s<k
   ·simp[upd,h,h2,(by omega:s<k+1)]
   ·rw[q05 _ _ h,if_neg (by omega:¬s<k+1)];simp[h2]
 ·funext s
  by_cases h:s=k
  ·subst h;simp[upd]
  ·by_cases h2:s<k
   ·simp[upd,h,h2,(by omega:s<k+1)]
   ·rw[q05 _ _ h,if_neg (by omega:¬s<k+1)];simp[h2]
theorem qkq (D:DM)(h:∀s,D.n≤s→D.cac s=[]):D.flTo D.n=D.flush:=by
 unfold DM.flTo DM.flush
 congr 1
 ·funext s
  by_cases h2:s<D.n
  ·simp[h2]
  ·simp[h2,DM.newest,h s (by omega)]
 ·funext s
  by_cases h2:s<D.n
  ·simp[h2]
  ·simp[h2,h s (by omega)]
theorem q8m (D:DM)(k:Nat):(D.flTo k).newest k=D.newest k:=by unfold DM.flTo DM.newest;simp
attribute [local go_sem ↓] qo8
theorem qih {w:World}{rp:Nat}{S:Nat→Prop}{D:DM}(L0:RDrv w rp S D)(hst:D.steps≤1000000000) :
  Calls Tryz.prog 129 #[.pointer (some ⟨rp,0,none⟩)] w fun e w'=>e=.returned (.int .i64 D.err)∧RDrv w' rp (fun k=>S k∨w.heap.size≤k) D.flushD∧Turn S w w':=by
 obtain⟨ro,oc,iv,vs,L⟩:=L0
 have hsp:∀k,k=rp→S k:=fun k e=>e▸L.inS.1
 have H2:=qd2 L hst
 unfold DM.flushD
 unfold DM.err at H2 ⊢
 cases hstop:D.stop with
 |true=>
  rw[hstop] at H2
  go_enter Tryz.func129,Tryz.ntmps129
  go_wp2_with fail
  refine H2.mono ?_
  rintro e w1 ⟨rfl,L1,T1⟩
  go_wp2_with fail
  go_ret
  exact⟨rfl,⟨ro,oc,iv,vs,L1.mono fun _ _ h=>.inl h⟩,T1.mono hsp⟩
 |false=>
  rw[hstop] at H2
  go_enter Tryz.func129,Tryz.ntmps129
  go_wp2_with fail
  refine H2.mono ?_
  rintro e w1 ⟨rfl,L1,T1⟩
  have hro:S ro:=L1.inS.2.1
  have hoff:=L1.off
  generalize hE:D.stepD=E at *
  go_wp2_with fail
  go_loopw [4] (fun i wr=>∃(k:Nat) (iv:Nat→Value) (vs:Nat→List Value),k≤E.n∧i=.int .i64 k∧RLay wr rp ro oc iv vs S (E.flTo k)∧Turn S w wr) (fun i _=>E.n-(intOf i).toNat)
  case atStart=>exact⟨0,iv,vs,Nat.zero_le _,rfl,by rw[qko];exact L1,T1.mono hsp⟩
  case round=>
   obtain⟨k,iv,vs,hk,rfl,LR,TR⟩:=hrel
   have c0:wr.cell? ⟨rp,0,none⟩=some (.slice (some ⟨ro,0,none⟩) E.n oc):=LR.c0
   have c0d:wr.drew.cell? ⟨rp,0,none⟩=some (.slice (some ⟨ro,0,none⟩) E.n oc):=c0
   have hn32:E.n≤2048:=LR.n32.2
   by_cases hlt:k<E.n
   ·have hlt':k<(E.flTo k).n:=hlt
    obtain⟨g,o,c,A,d,hv,hc1,hc2,hcell,hmem,hsl⟩:=LR.last hlt'
    rw[q8m] at hsl
    have hp:=LR.vpos hlt'
    have hout:=(LR.out k hlt').1
    have hfz:wr.drew.frozen? ⟨ro,k,none⟩=false:=(LR.out k hlt').2
    have houtd:wr.drew.cell? ⟨ro,k,none⟩=some (iv k):=hout
    rw[hv] at houtd
    have hix:∀w',(Instr.indexAt 50 (.slice (some ⟨ro,0,none⟩) E.n oc) (.int .i64 (k:Int))).run Tryz.prog w'=.ok (.pointer (some ⟨ro,k,none⟩)) w':=fun w'=>by
     have:=q1a (P:=Tryz.prog) Tryz.underlying50 S64 w' ro 0 E.n oc k hlt
     simpa only[Nat.zero_add] using this
    have htl:=qr8 wr.drew g o (vs k).length c hp hc1
    have hbr:=LR.brow k hlt' _ _ _ hmem (by rw[LR.len k hlt'];exact qgl _ k)
    rw[q8m] at hbr
    have hth:RIRow wr (.slice (some ⟨g,o+((vs k).length-1),none⟩) 1 (c-((vs k).length-1))) [.slice A 256 d]:=by
     obtain⟨g',o',c',e,_,_,h3,h4⟩:=LR.irow k hlt'
     rw[hv] at e;cases e
     refine⟨g,_,_,rfl,by simp;omega,by omega,fun j u hu=>?_,fun j hj=>?_⟩
     ·rcases j with _|j
      ·have hu:Value.slice A 256 d=u:=by simpa using hu
       rw[Nat.add_zero,←hu];exact hcell
      ·simp at hu
     ·rw[Nat.add_assoc];exact h4 _ (by omega)
    have hgro:g≠ro:=(LR.ne.2.1 k hlt' g (by rw[hv];rfl)).2
    have hTE:=q0e (S:=fun k=>k=ro) (w:=wr.drew) (a:=⟨ro,k,none⟩) (.slice (some ⟨g,o+((vs k).length-1),none⟩) 1 (c-((vs k).length-1))) rfl
    have LE:=LR.drew.pick k hlt' (w':=wr.drew.setCell ⟨ro,k,none⟩ (.slice (some ⟨g,o+((vs k).length-1),none⟩) 1 (c-((vs k).length-1)))) _ _ (E.newest k) hTE
     ⟨World.cell?_setCell_same _ _ _ houtd,fun z hz=>World.cell?_setCell_other _ _ _ _ (fun e=>hz (by injection e with _ e2;exact e2.symm))⟩ (fun z=>World.frozen?_setCell _ _ _ _)
     (hth.keep fun g' e=>by cases e;exact hTE.block g (hth.lt (by simp) rfl) hgro) (List.mem_of_getElem? hmem) hbr (S':=S) (fun _ h=>h) (.inl (by rw[hv];rfl))
    rw[←qkp] at LE
    rw[hv] at hout
    have hzz:w.heap.size≤wr.heap.size:=TR.size
    have hmx:(vs k).length≤9223372036854775807:=by unfold maxLen at hc2;omega
    generalize (vs k).length=m at *
    clear hcell hmem hsl hbr hth hgro hc1 hc2
    go_wp2_with fail
    go_region
    all_goals (go_wp2_with fail;exact⟨⟨k+1,_,_,by omega,by go_num,LE,TR.drew.then (hTE.mono fun z e=>e▸hro)⟩,by simp[intOf];omega⟩)
   ·obtain rfl:k=E.n:=by omega
    rw[qkq E hoff] at LR
    go_wp2_with fail
    go_ret
    subst hE
    exact⟨rfl,⟨_,_,_,_,LR.mono fun _ _ h=>.inl h⟩,TR⟩
end
section
theorem Ints.at {w:World}{A:Option Addr}{n c:Nat}{zs:List Int}(h:Ints w A n c zs){j:Nat}(hj:j<n):∃ad z,A=some ad∧zs[j]?=some z∧w.cell? (ad.add j)=some (.int .i64 z)∧zs.drop j=z::zs.drop (j+1)∧-9223372036854775808≤z∧z≤9223372036854775807:=by
 have hl:j<zs.length:=by rw[h.len];exact hj
 obtain⟨ad,e,_,hc⟩:=h.1.2.2.2 j (.int .i64 zs[j]) (by simp[hl])
 exact⟨ad,zs[j],e,List.getElem?_eq_getElem hl,hc,List.drop_eq_getElem_cons hl,h.2 _ (List.getElem_mem hl)⟩
attribute [local go_sem ↓] qf0
end
def DM.setAll (D:DM)(s:Nat)(ls:List (List UInt8)):DM:={ D with dur:=upd D.dur s (ls.headD []),cac:=upd D.cac s (ls.drop 1) }
theorem q9y (D:DM)(s:Nat)(ls:List (List UInt8))(h:0<ls.length)(z:Nat):(D.setAll s ls).all z=if z=s then ls else D.all z:=by
 unfold DM.all DM.setAll
 by_cases hz:z=s
 ·subst hz
  rcases ls with _|⟨a,r⟩
  ·simp at h
  ·simp[upd]
 ·simp[upd,hz]
theorem qf1 (D:DM)(s:Nat):D.setAll s (D.all s)=D:=by
 unfold DM.setAll DM.all
 simp[q7l]
theorem qii (D:DM)(s:Nat)(a b:List (List UInt8)):(D.setAll s a).setAll s b=D.setAll s b:=by
 unfold DM.setAll
 simp only[qjy]
theorem qf2 (D:DM)(s at_ m:Nat):D.setAll s ((D.all s).map (turnB at_ m))=D.turn s at_ m:=by
 unfold DM.setAll DM.turn DM.all
 simp
section
variable {w:World}{rp ro oc:Nat}{iv:Nat→Value}{vs:Nat→List Value}{S:Nat→Prop}{D:DM}
theorem RLay.turnByte (L:RLay w rp ro oc iv vs S D)(s:Nat)(hs:s<D.n)(i g o c:Nat)(hv:(vs s)[i]?=some (.slice (some ⟨g,o,none⟩) 256 c))(l:List UInt8)(hl:(D.all s)[i]?=some l)(j:Nat)(hj:j<256)(b:UInt8) :
  w.cell? ⟨g,o+j,none⟩=some (.int .u8 (byt l j:Int))∧w.frozen? ⟨g,o+j,none⟩=false∧RLay (w.setCell ⟨g,o+j,none⟩ (bv b)) rp ro oc iv vs S (D.setAll s ((D.all s).set i (l.set j b)))∧S g:=by
 have hB:=L.brow s hs i _ l hv hl
 have hgS:S g:=L.inS.2.2.2 s hs _ (List.mem_of_getElem? hv) g rfl
 obtain⟨hgp,hgo,hgi⟩:=L.ne.2.2 s hs _ (List.mem_of_getElem? hv) g rfl
 have hT:=q0e (S:=fun k=>k=g) (w:=w) (a:=⟨g,o+j,none⟩) (bv b) rfl
 have hil:i<(D.all s).length:=(List.getElem?_eq_some_iff.1 hl).1
 have hset:0<((D.all s).set i (l.set j b)).length:=by rw[List.length_set];omega
 have hall:=q9y D s ((D.all s).set i (l.set j b)) hset
 have hkeep:∀k,k<w.heap.size→k≠g→(w.setCell ⟨g,o+j,none⟩ (bv b)).heap[k]?=w.heap[k]?:=fun k hk hn=>hT.block k hk hn
 obtain⟨g',o',c',e,h1,h2,h3,h4,h5⟩:=hB
 obtain⟨rfl,rfl,rfl⟩:g=g'∧o=o'∧c=c':=by cases e;exact⟨rfl,rfl,rfl⟩
 have hc:w.cell? ⟨g,o+j,none⟩=some (bv l[j]):=h4 j _ (by simp[bvs,List.getElem?_eq_getElem (show j<l.length by omega)])
 refine⟨?_,(h5 j hj).2,⟨(hkeep rp (q01 L.me) (Ne.symm hgp)).trans L.me,fun z hz=>⟨(World.cell?_of_block (w:=w) (a:=⟨ro,z,none⟩) (hkeep ro L.rolt (Ne.symm hgo))).trans (L.out z hz).1,(World.frozen?_of_block (w:=w) (a:=⟨ro,z,none⟩) (hkeep ro L.rolt (Ne.symm hgo))).trans (L.out z hz).2⟩,
  fun z hz=>(L.irow z hz).keep fun k hk=>hkeep k (L.ilt hz hk) fun e=>hgi z hz (e▸hk),fun z hz=>?_,fun z hz i' v' l' hv' hl'=>?_,fun z hz=>?_,L.inS,L.ne,L.isep,L.bsep,L.n32,L.left⟩,hgS⟩
 ·rw[hc]
  unfold byt bv;rw[List.getD_eq_getElem?_getD,List.getElem?_eq_getElem (by omega)];rfl
 ·rw[hall]
  by_cases h:z=s
  ·subst h;rw[if_pos rfl,List.length_set];exact L.len z hz
  ·rw[if_neg h];exact L.len z hz
 ·rw[hall] at hl'
  by_cases h:z=s∧i'=i
  ·obtain⟨rfl,rfl⟩:=h
   rw[if_pos rfl,List.getElem?_set_self hil] at hl'
   obtain rfl:=Option.some.inj hl'
   rw[hv] at hv'
   obtain rfl:=Option.some.inj hv'
   refine⟨g,o,c,rfl,h1,h2,by rw[List.length_set];exact h3,fun i u hu=>?_,World.there_setCells h5 g (o+j) [bv b]⟩
   unfold bvs at hu
   rw[List.map_set] at hu
   by_cases hij:i=j
   ·subst hij
    rw[List.getElem?_set_self (by simp;omega)] at hu
    rw[World.cell?_setCell_same _ _ _ hc];exact hu
   ·rw[List.getElem?_set_ne (fun e=>hij e.symm)] at hu
    rw[World.cell?_setCell_other _ _ _ _ (fun e=>hij (by injection e;omega))]
    exact h4 i u hu
  ·have hl2:(D.all z)[i']?=some l':=by
    by_cases hz:z=s
    ·subst hz
     rw[if_pos rfl,List.getElem?_set_ne (fun e=>h ⟨rfl,e.symm⟩)] at hl'
     exact hl'
    ·rw[if_neg hz] at hl';exact hl'
   have hb:=L.brow z hz i' v' l' hv' hl2
   exact hb.keep fun k hk=>hkeep k (hb.lt hk) fun e=>h (L.bsep z s i' i v' _ g hz hs hv' hv (e▸hk) rfl)
 ·have hzs:z≠s:=by have:D.n≤z:=hz;omega
  show upd D.cac s _ z=[]
  rw[q05 _ _ hzs];exact L.off z hz
end
theorem S5:(Tryz.prog.info? 5).map (·.size)=some 1:=by kernel_rfl
theorem qd4 {w:World}{rp ro oc:Nat}{iv:Nat→Value}{vs:Nat→List Value}{S:Nat→Prop}{D:DM}(L:RLay w rp ro oc iv vs S D)(s at_ m:Nat)(hs:s<D.n)(hat:at_<256)(hm:m<256)(hcl:∀k,(D.cac k).length≤1000000) :
  Calls Tryz.prog 18 #[.pointer (some ⟨rp,0,none⟩),.int .i64 s,.int .i64 at_,.int .i64 m] w fun e w'=>e=.returned (.int .i64 0)∧RLay w' rp ro oc iv vs S (D.turn s at_ m)∧Turn S w w':=by
 have H1:=q5t L (s:Int)
 rw[show decide (0≤(s:Int)∧(s:Int)<(D.n:Int))=true by simp;omega] at H1
 have ha1:¬((at_:Int)<0):=by omega
 have ha2:¬(255:Int)<(at_:Int):=by omega
 have hm1:¬((m:Int)<0):=by omega
 have hm2:¬(255:Int)<(m:Int):=by omega
 have hmod:(m:Int) % 256=(m:Int):=by omega
 have hle:=hcl s
 have hal:(D.all s).length=(D.cac s).length+1:=by simp[DM.all]
 clear hcl
 go_enter Tryz.func18,Tryz.ntmps18
 go_wp2_with fail
 refine H1.mono ?_
 rintro e w1 ⟨rfl,rfl⟩
 clear H1
 go_wp2_with fail
 go_loopw [10] (fun i wr=>∃k:Nat,k≤(D.all s).length∧i=.int .i64 k∧RLay wr rp ro oc iv vs S (D.setAll s (turnTo at_ m k (D.all s)))∧Turn S w wr) (fun i _=>(D.all s).length-(intOf i).toNat)
 case atStart=>exact⟨0,Nat.zero_le _,rfl,by rw[q85,qf1];exact L,Turn.refl _ _⟩
 case round=>
  clear L
  obtain⟨k,hk,rfl,LR,TR⟩:=hrel
  have hlen:=q6j at_ m k (D.all s)
  have hall:(D.setAll s (turnTo at_ m k (D.all s))).all s=turnTo at_ m k (D.all s):=by rw[q9y _ _ _ (by rw[hlen,hal];omega),if_pos rfl]
  have hvl:(vs s).length=(D.all s).length:=by rw[LR.len s hs,hall,hlen]
  obtain⟨g0,o0,c0,hv0,hc01,hc02,hrng,_⟩:=LR.irow s hs
  rw[hvl] at hv0 hc01
  have hk0:wr.cell? ⟨ro,s,none⟩=some (iv s):=(LR.out s hs).1
  have hk0d:wr.drew.cell? ⟨ro,s,none⟩=some (iv s):=hk0
  rw[hv0] at hk0 hk0d
  have cc:wr.cell? ⟨rp,0,none⟩=some (.slice (some ⟨ro,0,none⟩) D.n oc):=LR.c0
  have cd:wr.drew.cell? ⟨rp,0,none⟩=some (.slice (some ⟨ro,0,none⟩) D.n oc):=LR.c0
  have hix:∀w',(Instr.indexAt 50 (.slice (some ⟨ro,0,none⟩) D.n oc) (.int .i64 (s:Int))).run Tryz.prog w'=.ok (.pointer (some ⟨ro,s,none⟩)) w':=fun w'=>by
   have:=q1a (P:=Tryz.prog) Tryz.underlying50 S64 w' ro 0 D.n oc s hs
   simpa only[Nat.zero_add] using this
  by_cases hlt:k<(D.all s).length
  ·have hvk:=List.getElem?_eq_getElem (show k<(vs s).length by omega)
   have hlk:((D.setAll s (turnTo at_ m k (D.all s))).all s)[k]?=some (D.all s)[k]:=by
    rw[hall,List.getElem?_eq_getElem (by omega),qce _ _ _ _ hlt]
   have hbr:=LR.brow s hs k _ _ hvk hlk
   obtain⟨g1,o1,c1,hA,-,-,-,-,-⟩:=hbr
   have hi1:=hrng k _ hvk
   rw[hA] at hvk hi1
   have hi1d:wr.drew.cell? ⟨g0,o0+k,none⟩=some (.slice (some ⟨g1,o1,none⟩) 256 c1):=hi1
   obtain⟨hb1,hb2,LE,hgS⟩:=LR.drew.turnByte s hs k g1 o1 c1 hvk _ hlk at_ hat (UInt8.ofNat (byt (D.all s)[k] at_) ^^^ UInt8.ofNat m)
   rw[hall,show (D.all s)[k].set at_ (UInt8.ofNat (byt (D.all s)[k] at_) ^^^ UInt8.ofNat m)=turnB at_ m (D.all s)[k] from rfl,q86 at_ m k _ hlt,qii,bv_xor _ m (q39 _ _) (by omega)] at LE
   have hx2:∀w',(Instr.indexAt 67 (.slice (some ⟨g0,o0,none⟩) (D.all s).length c0) (.int .i64 (k:Int))).run Tryz.prog w'=.ok (.pointer (some ⟨g0,o0+k,none⟩)) w':=fun w'=>q1a (P:=Tryz.prog) Tryz.underlying67 S35 w' g0 o0 _ c0 k hlt
   have hx3:∀w',(Instr.indexAt 30 (.slice (some ⟨g1,o1,none⟩) 256 c1) (.int .i64 (at_:Int))).run Tryz.prog w'=.ok (.pointer (some ⟨g1,o1+at_,none⟩)) w':=fun w'=>q1a (P:=Tryz.prog) Tryz.underlying30 S5 w' g1 o1 256 c1 at_ hat
   have TE:=q0e (S:=S) (w:=wr.drew) (a:=⟨g1,o1+at_,none⟩) (.int .u8 (bits .xor .u8 (byt (D.all s)[k] at_:Int) (m:Int))) hgS
   clear hrng hvk hlk hi1 hall hA hlen hvl
   generalize byt (D.all s)[k] at_=bb at *
   generalize (D.all s).length=q at *
   go_wp2_with fail
   go_region
   all_goals (go_wp2_with fail;exact⟨⟨k+1,by omega,by go_num,LE,TR.drew.then TE⟩,by simp[intOf];omega⟩)
  ·obtain rfl:k=(D.all s).length:=by omega
   rw[q9s,qf2] at LR
   generalize (D.all s).length=q at *
   go_wp2_with fail
   go_ret
   exact⟨rfl,LR,TR⟩
theorem qf3 {w:World}{rp ro oc:Nat}{iv:Nat→Value}{vs:Nat→List Value}{S:Nat→Prop}{D:DM}(L:RLay w rp ro oc iv vs S D)(s at_ m:Int)(h:D.mayTurn s at_ m=false) :
  Calls Tryz.prog 18 #[.pointer (some ⟨rp,0,none⟩),.int .i64 s,.int .i64 at_,.int .i64 m] w fun e w'=>e=.returned (.int .i64 1)∧w=w':=by
 have H1:=q5t L s
 unfold DM.mayTurn at h
 rw[decide_eq_false_iff_not] at h
 by_cases hs:0≤s∧s<(D.n:Int)
 ·rw[show decide (0≤s∧s<(D.n:Int))=true by simpa using hs] at H1
  by_cases a1:at_<0
  ·clear h hs
   go_enter Tryz.func18,Tryz.ntmps18
   go_wp2_with fail
   refine H1.mono ?_
   rintro e w1 ⟨rfl,rfl⟩
   go_wp2_with fail
   go_ret
   exact⟨rfl,rfl⟩
  by_cases a2:255<at_
  ·clear h hs
   go_enter Tryz.func18,Tryz.ntmps18
   go_wp2_with fail
   refine H1.mono ?_
   rintro e w1 ⟨rfl,rfl⟩
   go_wp2_with fail
   go_ret
   exact⟨rfl,rfl⟩
  by_cases a3:m<0
  ·clear h hs
   go_enter Tryz.func18,Tryz.ntmps18
   go_wp2_with fail
   refine H1.mono ?_
   rintro e w1 ⟨rfl,rfl⟩
   go_wp2_with fail
   go_ret
   exact⟨rfl,rfl⟩
  have a4:255<m:=by
   rcases Int.lt_or_le 255 m with h4|h4
   ·exact h4
   ·exact absurd ⟨hs,⟨by omega,by omega⟩,by omega,by omega⟩ h
  clear h hs
  go_enter Tryz.func18,Tryz.ntmps18
  go_wp2_with fail
  refine H1.mono ?_
  rintro e w1 ⟨rfl,rfl⟩
  go_wp2_with fail
  go_ret
  exact⟨rfl,rfl⟩
 ·rw[show decide (0≤s∧s<(D.n:Int))=false by simpa using hs] at H1
  clear h hs
  go_enter Tryz.func18,Tryz.ntmps18
  go_wp2_with fail
  refine H1.mono ?_
  rintro e w1 ⟨rfl,rfl⟩
  go_wp2_with fail
  go_ret
  exact⟨rfl,rfl⟩
theorem qd5 {w:World}{rp:Nat}{S:Nat→Prop}{D:DM}(L0:RDrv w rp S D)(s at_ m:Int)(hcl:∀k,(D.cac k).length≤1000000) :
  Calls Tryz.prog 18 #[.pointer (some ⟨rp,0,none⟩),.int .i64 s,.int .i64 at_,.int .i64 m] w fun e w'=>e=.returned (.int .i64 (if D.mayTurn s at_ m then 0 else 1))∧RDrv w' rp S (D.corrupt s at_ m)∧Turn S w w':=by
 obtain⟨ro,oc,iv,vs,L⟩:=L0
 unfold DM.corrupt
 cases h:D.mayTurn s at_ m with
 |true=>
  have h2:=h
  unfold DM.mayTurn at h2
  rw[decide_eq_true_iff] at h2
  obtain⟨⟨h3,h4⟩,⟨h5,h6⟩,h7,h8⟩:=h2
  obtain⟨s,rfl⟩:=Int.eq_ofNat_of_zero_le h3
  obtain⟨at_,rfl⟩:=Int.eq_ofNat_of_zero_le h5
  obtain⟨m,rfl⟩:=Int.eq_ofNat_of_zero_le h7
  refine (qd4 L s at_ m (by omega) (by omega) (by omega) hcl).mono ?_
  rintro e w' ⟨rfl,h9,h10⟩
  exact⟨rfl,⟨ro,oc,iv,vs,h9⟩,h10⟩
 |false=>
  refine (qf3 L s at_ m h).mono ?_
  rintro e w' ⟨rfl,rfl⟩
  exact⟨rfl,⟨ro,oc,iv,vs,L⟩,Turn.refl _ _⟩
theorem Q46:(Tryz.prog.info? 67).map (fun i=>(i.zero,i.size,i.bytes))=some (some (.slice none 0 0),1,24):=by kernel_rfl
def rowV (a:Nat):Value:=.slice (some ⟨a,0,none⟩) 1 1
structure Bld (w:World)(base rp:Nat)(v:Value)(k:Nat)(iv bw:Nat→Nat):Prop where
 me:w.heap[rp]?=some (.cells #[v,.bool false,.bool false,.int .i64 0,.int .i64 0] 52 (0,0))
 row:w.ownsRow base 67 1 v k ((List.range k).map fun s=>rowV (iv s))
 inn:∀s,s<k→w.heap[iv s]?=some (.cells #[.slice (some ⟨bw s,0,none⟩) 256 256] 30 (0,0))
 byt:∀s,s<k→w.heap[bw s]?=some (.cells (madeCells #[.int .u8 0] 256) 5 (0,0))
 old:base≤rp∧∀s,s<k→base≤iv s∧base≤bw s
 ne:v.ownBlock≠some rp∧∀s,s<k→iv s≠rp∧bw s≠rp∧v.ownBlock≠some (iv s)∧v.ownBlock≠some (bw s)
 sep:∀s s',s<k→s'<k→bw s≠iv s'∧(s≠s'→iv s≠iv s'∧bw s≠bw s')
def lT (n:Nat)(p:Array (Nat × Value)):Sem Value:=Instr.buildSlice 50 n p
theorem qr9 (n:Nat)(p:Array (Nat × Value)):Instr.buildSlice 50 n p=lT n p:=rfl
def mkB (a b:Value):Sem Value:=Instr.makeSlice 30 a b
theorem qgo (a b:Value):Instr.makeSlice 30 a b=mkB a b:=rfl
def litT (w:World)(v:Value):World:=w.alloc (.cells #[v] 67)
def litZ (w:World):World:=w.alloc (.cells (madeCells #[.int .u8 0] 256) 5)
theorem qf4 (w:World):(mkB (.int .i64 256) (.int .i64 256)).run Tryz.prog w=.ok (.slice (some ⟨w.heap.size,0,none⟩) 256 256) (litZ w):=by
 obtain⟨i,hi,hz0,hz1,hz2⟩:=info_parts T22.info
 have h:=run_makeSlice (P:=Tryz.prog) w 30 5 i _ T22.sl hi hz0 .i64 .i64 256 256 (by omega) (by omega) (by rw[hz1];decide) (by rw[hz2];decide) (by omega)
 rw[hz1] at h
 exact h
theorem qt3 (w:World)(v:Value)(hv:v.cells=#[v]):(lT 1 #[(0,v)]).run Tryz.prog w=.ok (.slice (some ⟨w.heap.size,0,none⟩) 1 1) (litT w v):=by
 obtain⟨i,hi,hz0,hz1,hz2⟩:=info_parts Q46
 refine run_buildSlice w _ _ 1 _ #[v] i _ Tryz.underlying50 hi hz0 (by rw[hz1];omega) (by rw[hz1];omega) ?_
 rw[hz1]
 have h:=Great.fill_whole (s:=1) (by omega) [v] ((Array.range (1*1)).map ((Value.slice none 0 0).cells[· % (Value.slice none 0 0).cells.size]!)) (by intro u hu;rw[List.mem_singleton.1 hu,hv];rfl) (by rw[Array.size_map,Array.size_range];rfl)
 refine Eq.trans ?_ (h.trans ?_)
 ·simp only[List.zipIdx_cons,List.zipIdx_nil,List.map_cons,List.map_nil]
 ·simp[hv]
theorem qij {w:World}{b:Nat}{x:Value}{t:TypeId}(h:w.heap[b]?=some (.cells #[x] t (0,0)))(j:Nat)(u:Value)(hu:[x][j]?=some u):w.cell? ((⟨b,0,none⟩:Addr).add j)=some u:=by
 rcases j with _|j
 ·have h0:x=u:=by simpa using hu
  rw[Addr.add_mid,cell_of_row w b _ _ _ _ h,←h0];rfl
 ·simp at hu
theorem Bld.step {w:World}{base rp:Nat}{v:Value}{k:Nat}{iv bw:Nat→Nat}(B:Bld w base rp v k iv bw)(hk:k<2048)(hbw:base≤w.heap.size)(ty:TypeId) :
  ∃v' W4,(apR #[50,50] ty #[v,.slice (some ⟨(litS (litZ w) (.slice (some ⟨w.heap.size,0,none⟩) 256 256)).heap.size,0,none⟩) 1 1]).run Tryz.prog (litT (litS (litZ w) (.slice (some ⟨w.heap.size,0,none⟩) 256 256)) (.slice (some ⟨(litZ w).heap.size,0,none⟩) 1 1))=.ok v' W4∧
   (W4.cell? ⟨rp,0,none⟩=some v∧W4.frozen? ⟨rp,0,none⟩=false)∧(∃iv' bw',Bld (W4.setCell ⟨rp,0,none⟩ v') base rp v' (k+1) iv' bw')∧Below base w (W4.setCell ⟨rp,0,none⟩ v'):=by
 obtain⟨i,hi,hz0,hz1,hz2⟩:=info_parts Q46
 generalize hW1:litZ w=W1
 have hs1:W1.heap.size=w.heap.size+1:=by rw[←hW1];simp[litZ]
 generalize hW2:litS W1 (.slice (some ⟨w.heap.size,0,none⟩) 256 256)=W2
 have hs2:W2.heap.size=w.heap.size+2:=by rw[←hW2];simp[litS,hs1]
 generalize hW3:litT W2 (.slice (some ⟨W1.heap.size,0,none⟩) 1 1)=W3
 have hs3:W3.heap.size=w.heap.size+3:=by rw[←hW3];simp[litT,hs2]
 have k1:∀z,z<w.heap.size→W1.heap[z]?=w.heap[z]?:=fun z hz=>by rw[←hW1];exact heap_alloc_old w _ hz
 have k2:∀z,z<W1.heap.size→W2.heap[z]?=W1.heap[z]?:=fun z hz=>by rw[←hW2];exact heap_alloc_old W1 _ hz
 have k3:∀z,z<W2.heap.size→W3.heap[z]?=W2.heap[z]?:=fun z hz=>by rw[←hW3];exact heap_alloc_old W2 _ hz
 have n1:W1.heap[w.heap.size]?=some (.cells (madeCells #[.int .u8 0] 256) 5 (0,0)):=by rw[←hW1];exact heap_alloc_new w _
 have n2:W2.heap[w.heap.size+1]?=some (.cells #[.slice (some ⟨w.heap.size,0,none⟩) 256 256] 30 (0,0)):=by rw[←hW2,←hs1];exact heap_alloc_new W1 _
 have n3:W3.heap[w.heap.size+2]?=some (.cells #[rowV (w.heap.size+1)] 67 (0,0)):=by rw[←hW3,←hs2,←hs1];exact heap_alloc_new W2 _
 have k13:∀z,z<w.heap.size→W3.heap[z]?=w.heap[z]?:=fun z hz=>(k3 z (by omega)).trans ((k2 z (by omega)).trans (k1 z hz))
 have b13:Below w.heap.size w W3:=by
  rw[←hW3,←hW2,←hW1]
  exact ((blA).alloc (by simp) _).alloc (by simp;omega) _
 have hrow3:=q1j B.row (w':=W3) fun g hg=>k13 g (World.ownsRow.lt B.row g hg).2
 rw[hs2]
 obtain⟨v',W4,hrun,hown,hgrow,_,hat⟩:=run_append_own_at (P:=Tryz.prog) W3 base 50 ty 67 i _ 1 24 Tryz.underlying50 hi hz0 hz1 hz2 (by simp[Value.cells]) (by omega) v k _ hrow3
  ⟨w.heap.size+2,0,none⟩ 1 1 [rowV (w.heap.size+1)] rfl (fun j u hu=>qij n3 j u hu) (by intro u hu;rw[List.mem_singleton.1 hu];rfl) (by unfold maxLen;omega) (by omega) (by omega)
 have hsz:=hgrow.size
 have hrp:=q01 B.me
 have kk:∀z,z<W3.heap.size→v.ownBlock≠some z→W4.heap[z]?=W3.heap[z]?:=fun z hz hn=>hgrow.block z hz (Ne.symm hn)
 have krp:W4.heap[rp]?=w.heap[rp]?:=(kk rp (by omega) B.ne.1).trans (k13 rp hrp)
 have hvl:∀g,v.ownBlock=some g→base≤g∧g<w.heap.size:=World.ownsRow.lt B.row
 have hv'l:∀g,v'.ownBlock=some g→(v.ownBlock=some g)∨g=w.heap.size+3:=fun g hg=>by
  rcases hat with e|e
  ·exact .inl (e▸hg)
  ·rw[e] at hg;cases hg;exact .inr hs3
 have kset:∀z,z≠rp→(W4.setCell ⟨rp,0,none⟩ v').heap[z]?=W4.heap[z]?:=fun z hz=>Below.heap_setCell _ _ _ _ hz
 have old:∀z,z<w.heap.size→z≠rp→v.ownBlock≠some z→(W4.setCell ⟨rp,0,none⟩ v').heap[z]?=w.heap[z]?:=fun z hz h1 h2=>(kset z h1).trans ((kk z (by omega) h2).trans (k13 z hz))
 have hil:∀s,s<k→iv s<w.heap.size:=fun s hs=>q01 (B.inn s hs)
 have hbl:∀s,s<k→bw s<w.heap.size:=fun s hs=>q01 (B.byt s hs)
 have hvn:∀z,w.heap.size≤z→v.ownBlock≠some z:=fun z hz e=>by have:=(hvl z e).2;omega
 refine⟨v',W4,hrun,⟨?_,?_⟩,⟨upd iv k (w.heap.size+1),upd bw k w.heap.size,?_⟩,?_⟩
 ·rw[cell_of_row W4 rp 0 _ _ _ (krp.trans B.me)];rfl
 ·exact qd3 (krp.trans B.me) _
 ·refine⟨?_,?_,fun s hs=>?_,fun s hs=>?_,⟨B.old.1,fun s hs=>?_⟩,⟨fun e=>?_,fun s hs=>?_⟩,fun s s' hs hs'=>?_⟩
  ·rw[q0f _ (krp.trans B.me)];rfl
  ·have e:((List.range (k+1)).map fun s=>rowV (upd iv k (w.heap.size+1) s))=((List.range k).map fun s=>rowV (iv s))++[rowV (w.heap.size+1)]:=by
    rw[List.range_succ,List.map_append]
    congr 1
    ·exact List.map_congr_left fun s hs=>by rw[q05 _ _ (by have:=List.mem_range.1 hs;omega)]
    ·simp[q0a]
   rw[e]
   refine q1j hown fun g hg=>kset g fun e=>?_
   rcases hv'l g hg with h|h
   ·exact B.ne.1 (e▸h)
   ·omega
  ·by_cases h:s=k
   ·subst h
    rw[q0a,q0a,kset _ (by omega),kk _ (by omega) (hvn _ (by omega)),k3 _ (by omega)];exact n2
   ·have hs':s<k:=by omega
    obtain⟨a,b,c,d⟩:=B.ne.2 s hs'
    rw[q05 _ _ h,q05 _ _ h,old _ (hil s hs') a c];exact B.inn s hs'
  ·by_cases h:s=k
   ·subst h
    rw[q0a,kset _ (by omega),kk _ (by omega) (hvn _ (by omega)),k3 _ (by omega),k2 _ (by omega)];exact n1
   ·have hs':s<k:=by omega
    obtain⟨a,b,c,d⟩:=B.ne.2 s hs'
    rw[q05 _ _ h,old _ (hbl s hs') b d];exact B.byt s hs'
  ·by_cases h:s=k
   ·subst h;rw[q0a,q0a];omega
   ·rw[q05 _ _ h,q05 _ _ h];exact B.old.2 s (by omega)
  ·rcases hv'l _ e with h|h
   ·exact B.ne.1 h
   ·omega
  ·by_cases h:s=k
   ·subst h;rw[q0a,q0a]
    refine⟨by omega,by omega,fun e=>?_,fun e=>?_⟩
    ·rcases hv'l _ e with h|h
     ·exact hvn _ (by omega) h
     ·omega
    ·rcases hv'l _ e with h|h
     ·exact hvn _ (by omega) h
     ·omega
   ·have hs':s<k:=by omega
    obtain⟨a,b,c,d⟩:=B.ne.2 s hs'
    rw[q05 _ _ h,q05 _ _ h]
    refine⟨a,b,fun e=>?_,fun e=>?_⟩
    ·rcases hv'l _ e with h|h
     ·exact c h
     ·have:=hil s hs';omega
    ·rcases hv'l _ e with h|h
     ·exact d h
     ·have:=hbl s hs';omega
  ·by_cases h:s=k<;>by_cases h':s'=k
   ·subst h;subst h';rw[q0a,q0a];exact⟨by omega,fun e=>absurd rfl e⟩
   ·have h2:s'<k:=by omega
    have:=hil s' h2;have:=hbl s' h2
    subst h;rw[q0a,q0a,q05 _ _ h',q05 _ _ h'];exact⟨by omega,fun _=>⟨by omega,by omega⟩⟩
   ·have h2:s<k:=by omega
    have:=hil s h2;have:=hbl s h2
    subst h';rw[q0a,q0a,q05 _ _ h,q05 _ _ h];exact⟨by omega,fun _=>⟨by omega,by omega⟩⟩
   ·rw[q05 _ _ h,q05 _ _ h',q05 _ _ h,q05 _ _ h'];exact B.sep s s' (by omega) (by omega)
 ·have hT:Turn (fun z=>base≤z) W3 W4:=qak hgrow fun z hz=>(hvl z hz).1
  exact ((b13.mono hbw).trans (hT.below (fun _ h=>h) (by omega))).trans ((q0e (S:=fun z=>base≤z) (a:=⟨rp,0,none⟩) v' B.old.1).below (fun _ h=>h) (by omega))
section
theorem qbd (j:Nat)(h:j<256):(madeCells #[.int .u8 0] 256)[j]?=some (.int .u8 0):=by
 unfold madeCells
 rw[Array.getElem?_map,Array.getElem?_range,if_pos h]
 simp only[Option.map_some]
 rw[show j % (#[Value.int .u8 0]:Array Value).size=0 from Nat.mod_one j]
 rfl
theorem Bld.done {w:World}{base rp:Nat}{v:Value}{n:Nat}{iv bw:Nat→Nat}(B:Bld w base rp v n iv bw)(hn:sectors n):RDrv w rp (fun k=>base≤k) (DM.mk0 n):=by
 obtain⟨ro,oc,hv,h1,h2⟩:=q4o B.row (by have:=hn.1;omega)
 have hrow:=B.row
 rw[hv] at hrow
 have hro:v.ownBlock=some ro:=by rw[hv];rfl
 refine⟨ro,oc,fun s=>rowV (iv s),fun s=>[.slice (some ⟨bw s,0,none⟩) 256 256],⟨by have h:=B.me;rw[hv] at h;exact h,fun s hs=>⟨?_,World.ownsRow.frozenAt hrow _⟩,fun s hs=>?_,fun _ _=>rfl,fun s hs i v' l hv' hl=>?_,fun _ _=>rfl,
  ⟨B.old.1,(World.ownsRow.lt B.row ro hro).1,fun s hs g hg=>?_,fun s hs v' hv' g hg=>?_⟩,⟨fun e=>B.ne.1 (by rw[hro,e]),fun s hs g hg=>?_,fun s hs v' hv' g hg=>?_⟩,fun s s' g hs hs' hg hg'=>?_,fun s s' i i' v' v'' g hs hs' hv' hv'' hg hg'=>?_,hn,by simp[DM.mk0]⟩⟩
 ·have hs:s<n:=hs
  rw[World.ownsRow.cellAt hrow s (by omega),List.getElem?_map,List.getElem?_range hs];rfl
 ·have hb:=B.inn s hs
  refine⟨iv s,0,1,rfl,Nat.le_refl _,by unfold maxLen;omega,fun j u hu=>?_,fun j hj=>?_⟩
  ·rw[cell_of_row _ _ _ _ _ _ hb,Nat.zero_add];simpa using hu
  ·have h0:j=0:=by omega
   subst h0
   exact⟨by rw[cell_of_row _ _ _ _ _ _ hb];rfl,qd3 hb _⟩
 ·have hb:=B.byt s hs
  rcases i with _|i
  ·have hv':Value.slice (some ⟨bw s,0,none⟩) 256 256=v':=by simpa using hv'
   have hl:zeros 256=l:=by simpa [DM.all,DM.mk0] using hl
   subst hv' hl
   refine⟨bw s,0,256,rfl,Nat.le_refl _,by unfold maxLen;omega,List.length_replicate,fun j u hu=>?_,fun j hj=>⟨?_,qd3 hb _⟩⟩
   ·have hj:j<256:=by have:=(List.getElem?_eq_some_iff.1 hu).1;rw[q16,show (zeros 256).length=256 from List.length_replicate] at this;exact this
    rw[qgb 256 hj] at hu
    rw[cell_of_row _ _ _ _ _ _ hb,Nat.zero_add,qbd j hj];exact hu
   ·rw[cell_of_row _ _ _ _ _ _ hb,Nat.zero_add,qbd j hj];rfl
  ·simp at hv'
 ·obtain rfl:iv s=g:=by simpa [rowV,Value.ownBlock] using hg
  exact (B.old.2 s hs).1
 ·rw[List.mem_singleton.1 hv'] at hg
  obtain rfl:bw s=g:=by simpa [Value.ownBlock] using hg
  exact (B.old.2 s hs).2
 ·obtain rfl:iv s=g:=by simpa [rowV,Value.ownBlock] using hg
  obtain⟨a,b,c,d⟩:=B.ne.2 s hs
  exact⟨a,fun e=>c (by rw[hro,e])⟩
 ·rw[List.mem_singleton.1 hv'] at hg
  obtain rfl:bw s=g:=by simpa [Value.ownBlock] using hg
  obtain⟨a,b,c,d⟩:=B.ne.2 s hs
  exact⟨b,fun e=>d (by rw[hro,e]),fun z hz e=>(B.sep s z hs hz).1 (by simpa [rowV,Value.ownBlock] using e.symm)⟩
 ·have e1:iv s=g:=by simpa [rowV,Value.ownBlock] using hg
  have e2:iv s'=g:=by simpa [rowV,Value.ownBlock] using hg'
  by_cases h:s=s'
  ·exact h
  ·exact absurd (e1.trans e2.symm) ((B.sep s s' hs hs').2 h).1
 ·rw[List.mem_singleton.1 (List.mem_of_getElem? hv')] at hg
  rw[List.mem_singleton.1 (List.mem_of_getElem? hv'')] at hg'
  have e1:bw s=g:=by simpa [Value.ownBlock] using hg
  have e2:bw s'=g:=by simpa [Value.ownBlock] using hg'
  have h1:=(List.getElem?_eq_some_iff.1 hv').1
  have h2:=(List.getElem?_eq_some_iff.1 hv'').1
  simp at h1 h2
  refine⟨?_,by omega⟩
  by_cases h:s=s'
  ·exact h
  ·exact absurd (e1.trans e2.symm) ((B.sep s s' hs hs').2 h).2
attribute [local go_sem ↓] qr9 qf0 qgo qgm
theorem qo9 (n:Nat)(hn:sectors n)(w:World) :
  Calls Tryz.prog 42 #[.int .i64 n] w fun e w'=>∃rp,e=.returned (.tuple #[.pointer (some ⟨rp,0,none⟩),.int .i64 0])∧RDrv w' rp (fun k=>w.heap.size≤k) (DM.mk0 n)∧Below w.heap.size w w':=by
 have h1:32≤n:=hn.1
 have h2:n≤2048:=hn.2
 have h1':¬(n:Int)<32:=by omega
 have h2':¬(2048:Int)<(n:Int):=by omega
 go_enter Tryz.func42,Tryz.ntmps42
 go_wp2_with fail
 go_loopw [5] (fun i wr=>∃(k:Nat) (v:Value) (iv bw:Nat→Nat),k≤n∧i=.int .i64 k∧Bld wr w.heap.size w.heap.size v k iv bw∧Below w.heap.size w wr) (fun i _=>n-(intOf i).toNat)
 case atStart=>
  refine⟨0,.slice none 0 0,fun _=>0,fun _=>0,Nat.zero_le _,rfl,⟨heap_alloc_new w _,?_,fun s hs=>absurd hs (by omega),fun s hs=>absurd hs (by omega),⟨Nat.le_refl _,fun s hs=>absurd hs (by omega)⟩,⟨by simp[Value.ownBlock],fun s hs=>absurd hs (by omega)⟩,fun s s' hs=>absurd hs (by omega)⟩,blA⟩
  exact World.ownsRow_nil _ _ _ _
 case round=>
  obtain⟨k,v,iv,bw,hk,rfl,B,hb⟩:=hrel
  by_cases hlt:k<n
  ·have hlt':(k:Int)<(n:Int):=by omega
   have hsz:=hb.size
   have hrp:=q01 B.me
   have c0:wr.drew.cell? ⟨w.heap.size,0,none⟩=some v:=by rw[cell_of_row wr.drew w.heap.size 0 _ _ _ B.me];rfl
   have BD:Bld wr.drew w.heap.size w.heap.size v k iv bw:=⟨B.me,B.row,B.inn,B.byt,B.old,B.ne,B.sep⟩
   obtain⟨v',W4,hap,⟨c4,f4⟩,⟨iv',bw',B'⟩,hb'⟩:=BD.step (by omega) hsz 50
   have hmk:=qf4 wr.drew
   have hl2:=qpw (litZ wr.drew) (.slice (some ⟨wr.heap.size,0,none⟩) 256 256) rfl
   have hl3:=qt3 (litS (litZ wr.drew) (.slice (some ⟨wr.heap.size,0,none⟩) 256 256)) (.slice (some ⟨(litZ wr.drew).heap.size,0,none⟩) 1 1) rfl
   have hap:(apR #[50,50] 50 #[v,.slice (some ⟨(litS (litZ wr.drew) (.slice (some ⟨wr.heap.size,0,none⟩) 256 256)).heap.size,0,none⟩) 1 1]).run Tryz.prog (litT (litS (litZ wr.drew) (.slice (some ⟨wr.heap.size,0,none⟩) 256 256)) (.slice (some ⟨(litZ wr.drew).heap.size,0,none⟩) 1 1))=.ok v' W4:=hap
   have cA:(litZ wr.drew).cell? ⟨w.heap.size,0,none⟩=some v:=(World.cell?_of_block (w:=wr.drew) (a:=⟨w.heap.size,0,none⟩) (heap_alloc_old wr.drew _ hrp)).trans c0
   have cB:(litS (litZ wr.drew) (.slice (some ⟨wr.heap.size,0,none⟩) 256 256)).cell? ⟨w.heap.size,0,none⟩=some v:=(World.cell?_of_block (w:=litZ wr.drew) (a:=⟨w.heap.size,0,none⟩) (heap_alloc_old (litZ wr.drew) _ (by simp[litZ];omega))).trans cA
   have cC:(litT (litS (litZ wr.drew) (.slice (some ⟨wr.heap.size,0,none⟩) 256 256)) (.slice (some ⟨(litZ wr.drew).heap.size,0,none⟩) 1 1)).cell? ⟨w.heap.size,0,none⟩=some v:=(World.cell?_of_block (w:=litS (litZ wr.drew) (.slice (some ⟨wr.heap.size,0,none⟩) 256 256)) (a:=⟨w.heap.size,0,none⟩) (heap_alloc_old (litS (litZ wr.drew) _) _ (by simp[litZ,litS];omega))).trans cB
   have hbn:Below w.heap.size w (W4.setCell ⟨w.heap.size,0,none⟩ v'):=hb.drew.trans hb'
   obtain⟨A',c',rfl,-,-⟩:=q7t B'.row
   clear BD B hb hb' hrp hsz
   go_wp2_with fail
   go_region
   all_goals (go_wp2_with fail;exact⟨⟨k+1,_,_,_,by omega,by go_num,B',hbn⟩,by simp[intOf];omega⟩)
  ·obtain rfl:k=n:=by omega
   go_wp2_with fail
   go_ret2
   exact⟨w.heap.size,rfl,B.done hn,hb⟩
end
end Go.Proofs.YtipejjgodnnkaaaGreatDoor
