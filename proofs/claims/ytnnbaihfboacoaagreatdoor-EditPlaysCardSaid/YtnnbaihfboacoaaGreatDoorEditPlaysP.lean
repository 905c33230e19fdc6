/- The statement EditPlaysCardSaid: for every input the law returns true, and what came in re -/
import Derived.Test.YtnnbaihfboacoaaGreatDoorEditPlays
import Derived.Test.YtnnbaihfboacoaaGreatDoorCards
import Derived.Test.YtnnbaihfboacoaaGreatDoorTie
import Derived.SevenTiedAt
namespace Go.Proofs.YtnnbaihfboacoaaGreatDoor.EditPlaysP
open Go Go.RowKit Go.Proofs Go.ChangeShapes Go.WideShapes Go.ChangeAt
set_option maxRecDepth 100000
theorem lifted (os:Os)(d:os.Started)(H:Type)(enc:TypeId × Value->H) :
  ReturnsInHanded {} Tryz.checked os 3 .any (λw b=>(Rows.editPlaysSpec.pre enc Tryz.prog Tryz.f3 [] false w b/\laidMetH Tryz.prog LAID w)/\sizedMet enc Tryz.prog Tryz.f3 (OpenSpec.ofChange Rows.editPlaysSpec) false w b)
   (Rows.editPlaysSpec.post enc Tryz.prog Tryz.f3 false true false false):=by
 refine returnsInHanded_of_change_and (C:=Tryz.checked) (X:=λw _=>laidMetH Tryz.prog LAID w) (λ_ _ _ Y h=>h.of_heap Y) Ic d (by kernel_rfl) Tryz.func3
  (ChangeSpec.witness_shaped (enc:=enc) (C:=Tryz.checked) (os:=os) (X:=λw _=>laidMetH Tryz.prog LAID w) false (World.doorLaid Tryz.prog 400 os) #[.slice none 0 0] 8 rfl (World.shaped_of_RefB (by kernel_rfl) (by kernel_rfl)) (by kernel_rfl) (by kernel_rfl) (by kernel_rfl) (qdh os _)) ?_
 intro W base b O gs A u K _ G Q _;have m:∀(j:Nat) t v,Tryz.f3.params[j]?=some t->b[j]?=some v->Value.okWide Tryz.prog W .any base t v:=u;have D:=K;obtain⟨p,q,B,R,rfl,_,_⟩:=K;have J:DataW.TrodAll enc Tryz.prog W 0 (λ_=>true) true Tryz.f3.params.toList b.toList O p:=B;rw[Tryz.params3] at J m;obtain⟨v0,a1,d0,P,p0,q0,E,rfl,rfl,h0,r0⟩:=trodAll_cons J;obtain⟨rfl,rfl,rfl⟩:=trodAll_nil r0;obtain rfl:b=#[v0]:=by cases b;simp_all
 obtain⟨rfl,rfl⟩:=trodVars_none R;have y:=qdi Q;obtain⟨M,n0,c0,Z,rfl,F⟩:=qmy (okWide_slice Tryz.underlying22 (m 0 22 v0 rfl rfl)) h0 (λn hn=>of_decide_eq_true (List.all_eq_true.1 G n (DataW.weights_mem_each (j:=0) (by rw[Tryz.params3];rfl) rfl n hn)));refine (editPlays_walk M n0 c0 Z W F y).mono λe W' ⟨U,T⟩=>?_
 subst U;exact⟨_,rfl,qde (tb:=4) (by kernel_rfl) Tryz.underlying4 rfl Tv (by intro t I;rw[Tryz.params3] at I;simp at I;subst I;exact⟨by kernel_rfl,of_decide_eq_true (by kernel_rfl)⟩) D rfl T⟩
theorem j1:Rows.editPlaysRow.inPlace=Tryz.prog.inPlace 3:=by kernel_rfl
theorem j2:Rows.editPlaysRow.unfollowed=Tryz.prog.unfollowed 3:=by kernel_rfl
theorem j3:Rows.editPlaysRow.recurses=Tryz.prog.recurses 3:=by kernel_rfl
theorem j4:Rows.editPlaysRow.named=Tryz.prog.varsNamed 3:=by kernel_rfl
theorem j5:laidOutB Tryz.prog=true:=by kernel_rfl
theorem j6:mapsRowed Tryz.prog=true:=by kernel_rfl
theorem joined:joinedFacts Tryz.checked.prog 3 Tryz.f3 Rows.editPlaysSpec Rows.editPlaysRow=true:=by
 show joinedFacts Tryz.prog 3 Tryz.f3 Rows.editPlaysSpec Rows.editPlaysRow=true;unfold joinedFacts;rw[<-j1,<-j2,<-j3,<-j4,j5,j6];kernel_rfl
theorem row_holds:Rows.EditPlaysSaid:=
 OpenClaim.holds_of_wide 3 Tryz.f3 rfl rfl rfl rfl rfl rfl rfl ⟨rfl,rfl,rfl,rfl,rfl⟩ rfl rfl rfl rfl rfl (by kernel_rfl) Tryz.func3 joined
  (of_decide_eq_true (by kernel_rfl)) (by unfold Func.isWrapper;first|(rw[if_pos (by decide +kernel)];kernel_rfl)|(rw[if_neg (by decide +kernel)];exact⟨rfl,rfl⟩))
  (λos b H d _=>lifted os b H d)
theorem proved:Rows.EditPlaysCardSaid:=
 Claim7.holds_tied_plain_at .later Rows.editPlaysCard.alts Rows.editPlaysCard.laidKinds Rows.editPlaysCard.laidTests Rows.editPlaysCard.stood.harness Rows.editPlaysCard.stood.looks
  row_holds (λ_ h=>by cases h) (by kernel_rfl) (λ_ h=>by cases h) editPlays_row_tie rfl ⟨rfl,rfl⟩ (by kernel_rfl) rfl
  (λf m p d=>by
   obtain rfl:f=3:=Option.some.inj ((show Tryz.prog.funcNamed "cambium/cambiumlaw11.EditPlays"=some 3 by kernel_rfl).symm.trans p) |>.symm
   obtain rfl:m=Tryz.f3:=(Option.some.inj (Tryz.func3.symm.trans d)).symm;exact⟨by kernel_rfl,λj t e=>by
    rw[Tryz.params3] at e;have hm:t∈[22]:=by have:=Array.mem_of_getElem? e;simpa using this
    have b:([22].all λu=>!Tryz.prog.wantsStandIn u)=true:=by kernel_rfl
    exact (show Tryz.prog.wantsStandIn t=false by simpa using List.all_eq_true.1 b t hm)⟩)
  (by kernel_rfl)
end Go.Proofs.YtnnbaihfboacoaaGreatDoor.EditPlaysP
namespace Go.Proofs.YtnnbaihfboacoaaGreatDoor
open Go Go.RowKit Go.Proofs
