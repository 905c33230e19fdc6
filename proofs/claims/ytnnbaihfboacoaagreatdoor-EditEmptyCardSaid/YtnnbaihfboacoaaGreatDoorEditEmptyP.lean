/- The statement EditEmptyCardSaid: for every input the law returns true, and what came in re -/
import Derived.Test.YtnnbaihfboacoaaGreatDoorEditEmpty
import Derived.Test.YtnnbaihfboacoaaGreatDoorCards
import Derived.Test.YtnnbaihfboacoaaGreatDoorTie
import Derived.SevenTiedAt
namespace Go.Proofs.YtnnbaihfboacoaaGreatDoor.EditEmptyP
open Go Go.RowKit Go.Proofs Go.ChangeShapes Go.WideShapes Go.ChangeAt
set_option maxRecDepth 100000
theorem lifted (os:Os)(m:os.Started)(H:Type)(enc:TypeId × Value->H) :
  ReturnsInHanded {} Tryz.checked os 9 .any (λw b=>(Rows.editEmptySpec.pre enc Tryz.prog Tryz.f9 [] false w b/\laidMetH Tryz.prog LAID w)/\sizedMet enc Tryz.prog Tryz.f9 (OpenSpec.ofChange Rows.editEmptySpec) false w b)
   (Rows.editEmptySpec.post enc Tryz.prog Tryz.f9 false true false false):=by
 refine returnsInHanded_of_change_and (C:=Tryz.checked) (X:=λw _=>laidMetH Tryz.prog LAID w) (λ_ _ _ hh h=>h.of_heap hh) Ic m (by kernel_rfl) Tryz.func9
  (ChangeSpec.witness_shaped (enc:=enc) (C:=Tryz.checked) (os:=os) (X:=λw _=>laidMetH Tryz.prog LAID w) false (World.doorLaid Tryz.prog 400 os) #[.slice none 0 0,.slice none 0 0] 8 rfl (World.shaped_of_RefB (by kernel_rfl) (by kernel_rfl)) (by kernel_rfl) (by kernel_rfl) (by kernel_rfl) (qdh os _)) ?_
 intro W base b Q gs A u K _ _ U _;have d:∀(j:Nat) t v,Tryz.f9.params[j]?=some t->b[j]?=some v->Value.okWide Tryz.prog W .any base t v:=u;have D:=K;obtain⟨p,q,B,Y,rfl,_,_⟩:=K;have J:DataW.TrodAll enc Tryz.prog W 0 (λ_=>true) true Tryz.f9.params.toList b.toList Q p:=B;rw[Tryz.params9] at J d;obtain⟨v0,a1,d0,R,p0,q0,E,rfl,rfl,h0,r0⟩:=trodAll_cons J;obtain⟨M,a2,d1,T,p1,q1,rfl,rfl,rfl,h1,r1⟩:=trodAll_cons r0;obtain⟨rfl,rfl,rfl⟩:=trodAll_nil r1;obtain rfl:b=#[v0,M]:=by cases b;simp_all
 obtain⟨rfl,rfl⟩:=trodVars_none Y;have y:=qdi U;obtain⟨O,n0,c0,l0,rfl,F⟩:=qkw (okWide_slice Tryz.underlying26 (d 0 26 v0 rfl rfl)) h0;obtain⟨P,n1,c1,l1,rfl,G⟩:=qh0 Tryz.underlying36 Tryz.underlying3 (by kernel_rfl) (okWide_slice Tryz.underlying36 (d 1 36 M rfl rfl)) h1;refine (editEmpty_walk O n0 c0 l0 P n1 c1 l1 W F G y).mono λe W' ⟨he,Z⟩=>?_
 subst he;exact⟨_,rfl,qde (tb:=4) (by kernel_rfl) Tryz.underlying4 rfl Tv (by intro t I;rw[Tryz.params9] at I;simp at I;rcases I with rfl|rfl<;>exact⟨by kernel_rfl,of_decide_eq_true (by kernel_rfl)⟩) D rfl Z⟩
theorem j1:Rows.editEmptyRow.inPlace=Tryz.prog.inPlace 9:=by kernel_rfl
theorem j2:Rows.editEmptyRow.unfollowed=Tryz.prog.unfollowed 9:=by kernel_rfl
theorem j3:Rows.editEmptyRow.recurses=Tryz.prog.recurses 9:=by kernel_rfl
theorem j4:Rows.editEmptyRow.named=Tryz.prog.varsNamed 9:=by kernel_rfl
theorem j5:laidOutB Tryz.prog=true:=by kernel_rfl
theorem j6:mapsRowed Tryz.prog=true:=by kernel_rfl
theorem joined:joinedFacts Tryz.checked.prog 9 Tryz.f9 Rows.editEmptySpec Rows.editEmptyRow=true:=by
 show joinedFacts Tryz.prog 9 Tryz.f9 Rows.editEmptySpec Rows.editEmptyRow=true;unfold joinedFacts;rw[<-j1,<-j2,<-j3,<-j4,j5,j6];kernel_rfl
theorem row_holds:Rows.EditEmptySaid:=
 OpenClaim.holds_of_wide 9 Tryz.f9 rfl rfl rfl rfl rfl rfl rfl ⟨rfl,rfl,rfl,rfl,rfl⟩ rfl rfl rfl rfl rfl (by kernel_rfl) Tryz.func9 joined
  (of_decide_eq_true (by kernel_rfl)) (by unfold Func.isWrapper;first|(rw[if_pos (by decide +kernel)];kernel_rfl)|(rw[if_neg (by decide +kernel)];exact⟨rfl,rfl⟩))
  (λos b H d _=>lifted os b H d)
theorem proved:Rows.EditEmptyCardSaid:=
 Claim7.holds_tied_plain_at .later Rows.editEmptyCard.alts Rows.editEmptyCard.laidKinds Rows.editEmptyCard.laidTests Rows.editEmptyCard.stood.harness Rows.editEmptyCard.stood.looks
  row_holds (λ_ h=>by cases h) (by kernel_rfl) (λ_ h=>by cases h) editEmpty_row_tie rfl ⟨rfl,rfl⟩ (by kernel_rfl) rfl
  (λf m p d=>by
   obtain rfl:f=9:=Option.some.inj ((show Tryz.prog.funcNamed "cambium/cambiumlaw11.EditEmpty"=some 9 by kernel_rfl).symm.trans p) |>.symm
   obtain rfl:m=Tryz.f9:=(Option.some.inj (Tryz.func9.symm.trans d)).symm;exact⟨by kernel_rfl,λj t e=>by
    rw[Tryz.params9] at e;have hm:t∈[26,36]:=by have:=Array.mem_of_getElem? e;simpa using this
    have b:([26,36].all λu=>!Tryz.prog.wantsStandIn u)=true:=by kernel_rfl
    exact (show Tryz.prog.wantsStandIn t=false by simpa using List.all_eq_true.1 b t hm)⟩)
  (by kernel_rfl)
end Go.Proofs.YtnnbaihfboacoaaGreatDoor.EditEmptyP
namespace Go.Proofs.YtnnbaihfboacoaaGreatDoor
open Go Go.RowKit Go.Proofs
