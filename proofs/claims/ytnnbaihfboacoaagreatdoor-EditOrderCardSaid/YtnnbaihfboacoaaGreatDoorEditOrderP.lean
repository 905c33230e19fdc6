/- The statement EditOrderCardSaid: for every input the law returns true, and what came in re -/
import Derived.Test.YtnnbaihfboacoaaGreatDoorEditOrder
import Derived.Test.YtnnbaihfboacoaaGreatDoorCards
import Derived.Test.YtnnbaihfboacoaaGreatDoorTie
import Derived.SevenTiedAt
namespace Go.Proofs.YtnnbaihfboacoaaGreatDoor.EditOrderP
open Go Go.RowKit Go.Proofs Go.ChangeShapes Go.WideShapes Go.ChangeAt
set_option maxRecDepth 100000
theorem lifted (os:Os)(m:os.Started)(H:Type)(enc:TypeId × Value->H) :
  ReturnsInHanded {} Tryz.checked os 8 .any (λw b=>(Rows.editOrderSpec.pre enc Tryz.prog Tryz.f8 [] false w b/\laidMetH Tryz.prog LAID w)/\sizedMet enc Tryz.prog Tryz.f8 (OpenSpec.ofChange Rows.editOrderSpec) false w b)
   (Rows.editOrderSpec.post enc Tryz.prog Tryz.f8 false true false false):=by
 refine returnsInHanded_of_change_and (C:=Tryz.checked) (X:=λw _=>laidMetH Tryz.prog LAID w) (λ_ _ _ hh h=>h.of_heap hh) Ic m (by kernel_rfl) Tryz.func8
  (ChangeSpec.witness_shaped (enc:=enc) (C:=Tryz.checked) (os:=os) (X:=λw _=>laidMetH Tryz.prog LAID w) false (World.doorLaid Tryz.prog 400 os) #[.slice none 0 0,.slice none 0 0] 8 rfl (World.shaped_of_RefB (by kernel_rfl) (by kernel_rfl)) (by kernel_rfl) (by kernel_rfl) (by kernel_rfl) (qdh os _)) ?_
 intro W base b Q gs A u K _ _ U _;have d:∀(j:Nat) t v,Tryz.f8.params[j]?=some t->b[j]?=some v->Value.okWide Tryz.prog W .any base t v:=u;have D:=K;obtain⟨p,q,B,Y,rfl,_,_⟩:=K;have J:DataW.TrodAll enc Tryz.prog W 0 (λ_=>true) true Tryz.f8.params.toList b.toList Q p:=B;rw[Tryz.params8] at J d;obtain⟨v0,a1,d0,R,p0,q0,E,rfl,rfl,h0,r0⟩:=trodAll_cons J;obtain⟨M,a2,d1,T,p1,q1,rfl,rfl,rfl,h1,r1⟩:=trodAll_cons r0;obtain⟨rfl,rfl,rfl⟩:=trodAll_nil r1;obtain rfl:b=#[v0,M]:=by cases b;simp_all
 obtain⟨rfl,rfl⟩:=trodVars_none Y;have y:=qdi U;obtain⟨O,n0,c0,l0,rfl,F⟩:=qkw (okWide_slice Tryz.underlying26 (d 0 26 v0 rfl rfl)) h0;obtain⟨P,n1,c1,l1,rfl,G⟩:=qh0 Tryz.underlying36 Tryz.underlying3 (by kernel_rfl) (okWide_slice Tryz.underlying36 (d 1 36 M rfl rfl)) h1;refine (editOrder_walk O n0 c0 l0 P n1 c1 l1 W F G y).mono λe W' ⟨he,Z⟩=>?_
 subst he;exact⟨_,rfl,qde (tb:=4) (by kernel_rfl) Tryz.underlying4 rfl Tv (by intro t I;rw[Tryz.params8] at I;simp at I;rcases I with rfl|rfl<;>exact⟨by kernel_rfl,of_decide_eq_true (by kernel_rfl)⟩) D rfl Z⟩
theorem j1:Rows.editOrderRow.inPlace=Tryz.prog.inPlace 8:=by kernel_rfl
theorem j2:Rows.editOrderRow.unfollowed=Tryz.prog.unfollowed 8:=by kernel_rfl
theorem j3:Rows.editOrderRow.recurses=Tryz.prog.recurses 8:=by kernel_rfl
theorem j4:Rows.editOrderRow.named=Tryz.prog.varsNamed 8:=by kernel_rfl
theorem j5:laidOutB Tryz.prog=true:=by kernel_rfl
theorem j6:mapsRowed Tryz.prog=true:=by kernel_rfl
theorem joined:joinedFacts Tryz.checked.prog 8 Tryz.f8 Rows.editOrderSpec Rows.editOrderRow=true:=by
 show joinedFacts Tryz.prog 8 Tryz.f8 Rows.editOrderSpec Rows.editOrderRow=true;unfold joinedFacts;rw[<-j1,<-j2,<-j3,<-j4,j5,j6];kernel_rfl
theorem row_holds:Rows.EditOrderSaid:=
 OpenClaim.holds_of_wide 8 Tryz.f8 rfl rfl rfl rfl rfl rfl rfl ⟨rfl,rfl,rfl,rfl,rfl⟩ rfl rfl rfl rfl rfl (by kernel_rfl) Tryz.func8 joined
  (of_decide_eq_true (by kernel_rfl)) (by unfold Func.isWrapper;first|(rw[if_pos (by decide +kernel)];kernel_rfl)|(rw[if_neg (by decide +kernel)];exact⟨rfl,rfl⟩))
  (λos b H d _=>lifted os b H d)
theorem proved:Rows.EditOrderCardSaid:=
 Claim7.holds_tied_plain_at .later Rows.editOrderCard.alts Rows.editOrderCard.laidKinds Rows.editOrderCard.laidTests Rows.editOrderCard.stood.harness Rows.editOrderCard.stood.looks
  row_holds (λ_ h=>by cases h) (by kernel_rfl) (λ_ h=>by cases h) editOrder_row_tie rfl ⟨rfl,rfl⟩ (by kernel_rfl) rfl
  (λf m p d=>by
   obtain rfl:f=8:=Option.some.inj ((show Tryz.prog.funcNamed "cambium/cambiumlaw11.EditOrder"=some 8 by kernel_rfl).symm.trans p) |>.symm
   obtain rfl:m=Tryz.f8:=(Option.some.inj (Tryz.func8.symm.trans d)).symm;exact⟨by kernel_rfl,λj t e=>by
    rw[Tryz.params8] at e;have hm:t∈[26,36]:=by have:=Array.mem_of_getElem? e;simpa using this
    have b:([26,36].all λu=>!Tryz.prog.wantsStandIn u)=true:=by kernel_rfl
    exact (show Tryz.prog.wantsStandIn t=false by simpa using List.all_eq_true.1 b t hm)⟩)
  (by kernel_rfl)
end Go.Proofs.YtnnbaihfboacoaaGreatDoor.EditOrderP
namespace Go.Proofs.YtnnbaihfboacoaaGreatDoor
open Go Go.RowKit Go.Proofs
