/- The statement PoolMountsCardSaid: for every input the law returns true, and what came in reads as it did; the table is tied to the program's text. -/
import Derived.Test.YtipejjgodnnkaaaGreatDoorPoolMounts
import Derived.Test.YtipejjgodnnkaaaGreatDoorCards
import Derived.Test.YtipejjgodnnkaaaGreatDoorTie
import Derived.SevenTiedAt
namespace Go.Proofs.YtipejjgodnnkaaaGreatDoor.PoolMountsP
open Go Go.RowKit Go.Proofs Go.ChangeShapes Go.WideShapes Go.ChangeAt
set_option maxRecDepth 100000
theorem lifted (os:Os)(started:os.Started)(H:Type)(enc:TypeId × Value→H) :
  ReturnsInHanded {} Tryz.checked os 4 .any (fun w args=>(Rows.poolMountsSpec.pre enc Tryz.prog Tryz.f4 [] false w args∧laidMetH Tryz.prog LAID w)∧sizedMet enc Tryz.prog Tryz.f4 (OpenSpec.ofChange Rows.poolMountsSpec) false w args)
   (Rows.poolMountsSpec.post enc Tryz.prog Tryz.f4 false true false false):=by
 refine returnsInHanded_of_change_and (C:=Tryz.checked) (X:=fun w _=>laidMetH Tryz.prog LAID w) (fun _ _ _ hh h=>h.of_heap hh) own0 started (by kernel_rfl) Tryz.func4
  (ChangeSpec.witness_shaped (enc:=enc) (C:=Tryz.checked) (os:=os) (X:=fun w _=>laidMetH Tryz.prog LAID w) false (World.doorLaid Tryz.prog 400 os) #[.int .i64 0,.slice none 0 0,.slice none 0 0] 8 rfl (World.shaped_of_RefB (by kernel_rfl) (by kernel_rfl)) (by kernel_rfl) (by kernel_rfl) (by kernel_rfl) (qp8 os _)) ?_
 intro W base args ds gs before hval0 hW _ _ hL _
 have hval:∀(j:Nat) t v,Tryz.f4.params[j]?=some t→args[j]?=some v→Value.okWide Tryz.prog W .any base t v:=hval0
 have hW':=hW
 obtain⟨p,q,hA0,hV,rfl,_,_⟩:=hW
 have hA:DataW.TrodAll enc Tryz.prog W 0 (fun _=>true) true Tryz.f4.params.toList args.toList ds p:=hA0
 rw[Tryz.params4] at hA hval
 obtain⟨v0,vs0,d0,ds0,p0,q0,hargs,rfl,rfl,h0,r0⟩:=trodAll_cons hA
 obtain⟨v1,vs1,d1,ds1,p1,q1,rfl,rfl,rfl,h1,r1⟩:=trodAll_cons r0
 obtain⟨v2,vs2,d2,ds2,p2,q2,rfl,rfl,rfl,h2,r2⟩:=trodAll_cons r1
 obtain⟨rfl,rfl,rfl⟩:=trodAll_nil r2
 obtain rfl:args=#[v0,v1,v2]:=by cases args;simp_all
 obtain⟨rfl,rfl⟩:=trodVars_none hV
 have htab:=qp9 hL
 obtain⟨x0,rfl,rfl,rfl,hw0⟩:=open_int Tryz.underlying3 (hval 0 3 v0 rfl rfl) h0
 obtain⟨A1,n1,c1,l1,rfl,hs1⟩:=qjh (okWide_slice Tryz.underlying22 (hval 1 22 v1 rfl rfl)) h1
 obtain⟨A2,n2,c2,l2,rfl,hs2⟩:=qji (okWide_slice Tryz.underlying45 (hval 2 45 v2 rfl rfl)) h2
 refine (poolMounts_walk x0 A1 n1 c1 l1 A2 n2 c2 l2 W (bounds_i64 hw0) hs1 hs2 htab).mono fun e W' ⟨he,hb⟩=>?_
 subst he
 exact⟨_,rfl,qp7 (tb:=4) (by kernel_rfl) Tryz.underlying4 rfl laid0 (by intro t ht;rw[Tryz.params4] at ht;simp at ht;rcases ht with rfl|rfl|rfl<;>exact⟨by kernel_rfl,of_decide_eq_true (by kernel_rfl)⟩) hW' rfl hb⟩
theorem qn2:Rows.PoolMountsSaid:=
 OpenClaim.holds_of_wide 4 Tryz.f4 rfl rfl rfl rfl rfl rfl rfl ⟨rfl,rfl,rfl,rfl,rfl⟩ rfl rfl rfl rfl rfl (by kernel_rfl) Tryz.func4 (by kernel_rfl)
  (of_decide_eq_true (by kernel_rfl)) (by unfold Func.isWrapper;first|(rw[if_pos (by decide +kernel)];kernel_rfl)|(rw[if_neg (by decide +kernel)];exact⟨rfl,rfl⟩))
  (fun os started H enc _=>lifted os started H enc)
theorem proved:Rows.PoolMountsCardSaid:=
 Claim7.holds_tied_plain_at .later Rows.poolMountsCard.alts Rows.poolMountsCard.laidKinds Rows.poolMountsCard.laidTests Rows.poolMountsCard.stood.harness Rows.poolMountsCard.stood.looks
  qn2 (fun _ h=>by cases h) (by kernel_rfl) (fun _ h=>by cases h) poolMounts_row_tie rfl ⟨rfl,rfl⟩ (by kernel_rfl) rfl
  (fun f fn hf hfn=>by
   obtain rfl:f=4:=Option.some.inj ((show Tryz.prog.funcNamed "cambium/cambiumlaw09.PoolMounts"=some 4 by kernel_rfl).symm.trans hf) |>.symm
   obtain rfl:fn=Tryz.f4:=(Option.some.inj (Tryz.func4.symm.trans hfn)).symm
   exact⟨by kernel_rfl,fun j t ht=>by
    rw[Tryz.params4] at ht
    have hm:t∈[3,22,45]:=by have:=Array.mem_of_getElem? ht;simpa using this
    have hall:([3,22,45].all fun u=>!Tryz.prog.wantsStandIn u)=true:=by kernel_rfl
    exact (show Tryz.prog.wantsStandIn t=false by simpa using List.all_eq_true.1 hall t hm)⟩)
  (by kernel_rfl)
end Go.Proofs.YtipejjgodnnkaaaGreatDoor.PoolMountsP
