/- The statement EditGetsCardSaid: for every input the law returns true, and what came in rea -/
import Derived.Test.YtnnbaihfboacoaaGreatDoorEditGets
import Derived.Test.YtnnbaihfboacoaaGreatDoorCards
import Derived.Test.YtnnbaihfboacoaaGreatDoorTie
import Derived.SevenTiedAt
namespace Go.Proofs.YtnnbaihfboacoaaGreatDoor.EditGetsP
open Go Go.RowKit Go.Proofs Go.ChangeShapes Go.WideShapes Go.ChangeAt
set_option maxRecDepth 100000
theorem lifted (os:Os)(m:os.Started)(H:Type)(enc:TypeId × Value->H) :
  ReturnsInHanded {} Tryz.checked os 4 .any (λw b=>(Rows.editGetsSpec.pre enc Tryz.prog Tryz.f4 [] false w b/\laidMetH Tryz.prog LAID w)/\sizedMet enc Tryz.prog Tryz.f4 (OpenSpec.ofChange Rows.editGetsSpec) false w b)
   (Rows.editGetsSpec.post enc Tryz.prog Tryz.f4 false true false false):=by
 refine returnsInHanded_of_change_and (C:=Tryz.checked) (X:=λw _=>laidMetH Tryz.prog LAID w) (λ_ _ _ hh h=>h.of_heap hh) Ic m (by kernel_rfl) Tryz.func4
  (ChangeSpec.witness_shaped (enc:=enc) (C:=Tryz.checked) (os:=os) (X:=λw _=>laidMetH Tryz.prog LAID w) false (World.doorLaid Tryz.prog 400 os) #[.slice none 0 0,.slice none 0 0] 8 rfl (World.shaped_of_RefB (by kernel_rfl) (by kernel_rfl)) (by kernel_rfl) (by kernel_rfl) (by kernel_rfl) (qdh os _)) ?_
 intro W base b R gs A u M _ I Y _;have d:∀(j:Nat) t v,Tryz.f4.params[j]?=some t->b[j]?=some v->Value.okWide Tryz.prog W .any base t v:=u;have D:=M;obtain⟨p,q,B,Z,rfl,_,_⟩:=M;have K:DataW.TrodAll enc Tryz.prog W 0 (λ_=>true) true Tryz.f4.params.toList b.toList R p:=B;rw[Tryz.params4] at K d;obtain⟨v0,a1,d0,T,p0,q0,E,rfl,rfl,h0,r0⟩:=trodAll_cons K;obtain⟨O,a2,d1,U,p1,q1,rfl,rfl,rfl,h1,r1⟩:=trodAll_cons r0;obtain⟨rfl,rfl,rfl⟩:=trodAll_nil r1;obtain rfl:b=#[v0,O]:=by cases b;simp_all
 obtain⟨rfl,rfl⟩:=trodVars_none Z;have y:=qdi Y;obtain⟨P,n0,c0,l0,rfl,F⟩:=qmy (okWide_slice Tryz.underlying22 (d 0 22 v0 rfl rfl)) h0 (λn hn=>of_decide_eq_true (List.all_eq_true.1 I n (DataW.weights_mem_each (j:=0) (by rw[Tryz.params4];rfl) rfl n hn)));obtain⟨Q,n1,c1,l1,rfl,G⟩:=qr7 (okWide_slice Tryz.underlying42 (d 1 42 O rfl rfl)) h1;refine (editGets_walk P n0 c0 l0 Q n1 c1 l1 W F G y).mono λe W' ⟨he,hb⟩=>?_
 subst he;exact⟨_,rfl,qde (tb:=4) (by kernel_rfl) Tryz.underlying4 rfl Tv (by intro t J;rw[Tryz.params4] at J;simp at J;rcases J with rfl|rfl<;>exact⟨by kernel_rfl,of_decide_eq_true (by kernel_rfl)⟩) D rfl hb⟩
theorem j1:Rows.editGetsRow.inPlace=Tryz.prog.inPlace 4:=by kernel_rfl
theorem j2:Rows.editGetsRow.unfollowed=Tryz.prog.unfollowed 4:=by kernel_rfl
theorem j3:Rows.editGetsRow.recurses=Tryz.prog.recurses 4:=by kernel_rfl
theorem j4:Rows.editGetsRow.named=Tryz.prog.varsNamed 4:=by kernel_rfl
theorem j5:laidOutB Tryz.prog=true:=by kernel_rfl
theorem j6:mapsRowed Tryz.prog=true:=by kernel_rfl
theorem joined:joinedFacts Tryz.checked.prog 4 Tryz.f4 Rows.editGetsSpec Rows.editGetsRow=true:=by
 show joinedFacts Tryz.prog 4 Tryz.f4 Rows.editGetsSpec Rows.editGetsRow=true;unfold joinedFacts;rw[<-j1,<-j2,<-j3,<-j4,j5,j6];kernel_rfl
theorem row_holds:Rows.EditGetsSaid:=
 OpenClaim.holds_of_wide 4 Tryz.f4 rfl rfl rfl rfl rfl rfl rfl ⟨rfl,rfl,rfl,rfl,rfl⟩ rfl rfl rfl rfl rfl (by kernel_rfl) Tryz.func4 joined
  (of_decide_eq_true (by kernel_rfl)) (by unfold Func.isWrapper;first|(rw[if_pos (by decide +kernel)];kernel_rfl)|(rw[if_neg (by decide +kernel)];exact⟨rfl,rfl⟩))
  (λos b H d _=>lifted os b H d)
theorem proved:Rows.EditGetsCardSaid:=
 Claim7.holds_tied_plain_at .later Rows.editGetsCard.alts Rows.editGetsCard.laidKinds Rows.editGetsCard.laidTests Rows.editGetsCard.stood.harness Rows.editGetsCard.stood.looks
  row_holds (λ_ h=>by cases h) (by kernel_rfl) (λ_ h=>by cases h) editGets_row_tie rfl ⟨rfl,rfl⟩ (by kernel_rfl) rfl
  (λf m p d=>by
   obtain rfl:f=4:=Option.some.inj ((show Tryz.prog.funcNamed "cambium/cambiumlaw11.EditGets"=some 4 by kernel_rfl).symm.trans p) |>.symm
   obtain rfl:m=Tryz.f4:=(Option.some.inj (Tryz.func4.symm.trans d)).symm;exact⟨by kernel_rfl,λj t e=>by
    rw[Tryz.params4] at e;have hm:t∈[22,42]:=by have:=Array.mem_of_getElem? e;simpa using this
    have b:([22,42].all λu=>!Tryz.prog.wantsStandIn u)=true:=by kernel_rfl
    exact (show Tryz.prog.wantsStandIn t=false by simpa using List.all_eq_true.1 b t hm)⟩)
  (by kernel_rfl)
end Go.Proofs.YtnnbaihfboacoaaGreatDoor.EditGetsP
namespace Go.Proofs.YtnnbaihfboacoaaGreatDoor
open Go Go.RowKit Go.Proofs
