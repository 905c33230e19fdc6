/- The statement EditCommittedCardSaid: for every input the law returns true, and what came i -/
import Derived.Test.YtnnbaihfboacoaaGreatDoorEditCommitted
import Derived.Test.YtnnbaihfboacoaaGreatDoorCards
import Derived.Test.YtnnbaihfboacoaaGreatDoorTie
import Derived.SevenTiedAt
namespace Go.Proofs.YtnnbaihfboacoaaGreatDoor.EditCommittedP
open Go Go.RowKit Go.Proofs Go.ChangeShapes Go.WideShapes Go.ChangeAt
set_option maxRecDepth 100000
theorem lifted (os:Os)(m:os.Started)(H:Type)(enc:TypeId × Value->H) :
  ReturnsInHanded {} Tryz.checked os 6 .any (λw b=>(Rows.editCommittedSpec.pre enc Tryz.prog Tryz.f6 [] false w b/\laidMetH Tryz.prog LAID w)/\sizedMet enc Tryz.prog Tryz.f6 (OpenSpec.ofChange Rows.editCommittedSpec) false w b)
   (Rows.editCommittedSpec.post enc Tryz.prog Tryz.f6 false true false false):=by
 refine returnsInHanded_of_change_and (C:=Tryz.checked) (X:=λw _=>laidMetH Tryz.prog LAID w) (λ_ _ _ hh h=>h.of_heap hh) Ic m (by kernel_rfl) Tryz.func6
  (ChangeSpec.witness_shaped (enc:=enc) (C:=Tryz.checked) (os:=os) (X:=λw _=>laidMetH Tryz.prog LAID w) false (World.doorLaid Tryz.prog 400 os) #[.slice none 0 0,.slice none 0 0] 8 rfl (World.shaped_of_RefB (by kernel_rfl) (by kernel_rfl)) (by kernel_rfl) (by kernel_rfl) (by kernel_rfl) (qdh os _)) ?_
 intro W base b R gs B u M _ y Y _;have d:∀(j:Nat) t v,Tryz.f6.params[j]?=some t->b[j]?=some v->Value.okWide Tryz.prog W .any base t v:=u;have E:=M;obtain⟨p,q,D,Z,rfl,_,_⟩:=M;have K:DataW.TrodAll enc Tryz.prog W 0 (λ_=>true) true Tryz.f6.params.toList b.toList R p:=D;rw[Tryz.params6] at K d;obtain⟨v0,a1,d0,T,p0,q0,F,rfl,rfl,h0,r0⟩:=trodAll_cons K;obtain⟨O,a2,d1,U,p1,q1,rfl,rfl,rfl,h1,r1⟩:=trodAll_cons r0;obtain⟨rfl,rfl,rfl⟩:=trodAll_nil r1;obtain rfl:b=#[v0,O]:=by cases b;simp_all
 obtain⟨rfl,rfl⟩:=trodVars_none Z;have A:=qdi Y;obtain⟨P,n0,c0,l0,rfl,G⟩:=qmy (okWide_slice Tryz.underlying22 (d 0 22 v0 rfl rfl)) h0 (λn hn=>of_decide_eq_true (List.all_eq_true.1 y n (DataW.weights_mem_each (j:=0) (by rw[Tryz.params6];rfl) rfl n hn)));obtain⟨Q,n1,c1,l1,rfl,I⟩:=qmy (okWide_slice Tryz.underlying22 (d 1 22 O rfl rfl)) h1 (λn hn=>of_decide_eq_true (List.all_eq_true.1 y n (DataW.weights_mem_each (j:=1) (by rw[Tryz.params6];rfl) rfl n hn)));refine (editCommitted_walk P n0 c0 l0 Q n1 c1 l1 W G I A).mono λe W' ⟨he,hb⟩=>?_
 subst he;exact⟨_,rfl,qde (tb:=4) (by kernel_rfl) Tryz.underlying4 rfl Tv (by intro t J;rw[Tryz.params6] at J;simp at J;subst J;exact⟨by kernel_rfl,of_decide_eq_true (by kernel_rfl)⟩) E rfl hb⟩
theorem j1:Rows.editCommittedRow.inPlace=Tryz.prog.inPlace 6:=by kernel_rfl
theorem j2:Rows.editCommittedRow.unfollowed=Tryz.prog.unfollowed 6:=by kernel_rfl
theorem j3:Rows.editCommittedRow.recurses=Tryz.prog.recurses 6:=by kernel_rfl
theorem j4:Rows.editCommittedRow.named=Tryz.prog.varsNamed 6:=by kernel_rfl
theorem j5:laidOutB Tryz.prog=true:=by kernel_rfl
theorem j6:mapsRowed Tryz.prog=true:=by kernel_rfl
theorem joined:joinedFacts Tryz.checked.prog 6 Tryz.f6 Rows.editCommittedSpec Rows.editCommittedRow=true:=by
 show joinedFacts Tryz.prog 6 Tryz.f6 Rows.editCommittedSpec Rows.editCommittedRow=true;unfold joinedFacts;rw[<-j1,<-j2,<-j3,<-j4,j5,j6];kernel_rfl
theorem row_holds:Rows.EditCommittedSaid:=
 OpenClaim.holds_of_wide 6 Tryz.f6 rfl rfl rfl rfl rfl rfl rfl ⟨rfl,rfl,rfl,rfl,rfl⟩ rfl rfl rfl rfl rfl (by kernel_rfl) Tryz.func6 joined
  (of_decide_eq_true (by kernel_rfl)) (by unfold Func.isWrapper;first|(rw[if_pos (by decide +kernel)];kernel_rfl)|(rw[if_neg (by decide +kernel)];exact⟨rfl,rfl⟩))
  (λos b H d _=>lifted os b H d)
theorem proved:Rows.EditCommittedCardSaid:=
 Claim7.holds_tied_plain_at .later Rows.editCommittedCard.alts Rows.editCommittedCard.laidKinds Rows.editCommittedCard.laidTests Rows.editCommittedCard.stood.harness Rows.editCommittedCard.stood.looks
  row_holds (λ_ h=>by cases h) (by kernel_rfl) (λ_ h=>by cases h) editCommitted_row_tie rfl ⟨rfl,rfl⟩ (by kernel_rfl) rfl
  (λf m p d=>by
   obtain rfl:f=6:=Option.some.inj ((show Tryz.prog.funcNamed "cambium/cambiumlaw11.EditCommitted"=some 6 by kernel_rfl).symm.trans p) |>.symm
   obtain rfl:m=Tryz.f6:=(Option.some.inj (Tryz.func6.symm.trans d)).symm;exact⟨by kernel_rfl,λj t e=>by
    rw[Tryz.params6] at e;have hm:t∈[22]:=by have:=Array.mem_of_getElem? e;simpa using this
    have b:([22].all λu=>!Tryz.prog.wantsStandIn u)=true:=by kernel_rfl
    exact (show Tryz.prog.wantsStandIn t=false by simpa using List.all_eq_true.1 b t hm)⟩)
  (by kernel_rfl)
end Go.Proofs.YtnnbaihfboacoaaGreatDoor.EditCommittedP
namespace Go.Proofs.YtnnbaihfboacoaaGreatDoor
open Go Go.RowKit Go.Proofs
