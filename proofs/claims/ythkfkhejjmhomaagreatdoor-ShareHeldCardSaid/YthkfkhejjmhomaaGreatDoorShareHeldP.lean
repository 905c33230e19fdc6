/- The statement ShareHeldCardSaid: for every input the law returns true, and what came in re -/
import Derived.Test.YthkfkhejjmhomaaGreatDoorShareHeld
import Derived.Test.YthkfkhejjmhomaaGreatDoorCards
import Derived.Test.YthkfkhejjmhomaaGreatDoorTie
import Derived.SevenTiedAt
namespace Go.Proofs.YthkfkhejjmhomaaGreatDoor.ShareHeldP
open Go Go.RowKit Go.Proofs Go.ChangeShapes Go.WideShapes Go.ChangeAt
set_option maxRecDepth 100000
theorem lifted (os:Os)(m:os.Started)(H:Type)(enc:TypeId × Value->H) :
  ReturnsInHanded {} Tryz.checked os 11 .any (λw b=>(Rows.shareHeldSpec.pre enc Tryz.prog Tryz.f11 [] false w b/\laidMetH Tryz.prog LAID w)/\sizedMet enc Tryz.prog Tryz.f11 (OpenSpec.ofChange Rows.shareHeldSpec) false w b)
   (Rows.shareHeldSpec.post enc Tryz.prog Tryz.f11 false true false false):=by
 refine returnsInHanded_of_change_and (C:=Tryz.checked) (X:=λw _=>laidMetH Tryz.prog LAID w) (λ_ _ _ hh h=>h.of_heap hh) Dn m (by kernel_rfl) Tryz.func11
  (ChangeSpec.witness_shaped (enc:=enc) (C:=Tryz.checked) (os:=os) (X:=λw _=>laidMetH Tryz.prog LAID w) false (World.doorLaid Tryz.prog 400 os) #[.slice none 0 0,.int .i64 0] 8 rfl (World.shaped_of_RefB (by kernel_rfl) (by kernel_rfl)) (by kernel_rfl) (by kernel_rfl) (by kernel_rfl) (qjo os _)) ?_
 intro W base b R gs A u M _ G Y _;have d:∀(j:Nat) t v,Tryz.f11.params[j]?=some t->b[j]?=some v->Value.okWide Tryz.prog W .any base t v:=u;have D:=M;obtain⟨p,q,B,Z,rfl,_,_⟩:=M;have K:DataW.TrodAll enc Tryz.prog W 0 (λ_=>true) true Tryz.f11.params.toList b.toList R p:=B;rw[Tryz.params11] at K d;obtain⟨O,a0,d0,T,p0,q0,E,rfl,rfl,h0,r0⟩:=trodAll_cons K;obtain⟨P,a1,d1,U,p1,q1,rfl,rfl,rfl,h1,r1⟩:=trodAll_cons r0;obtain⟨rfl,rfl,rfl⟩:=trodAll_nil r1;obtain rfl:b=#[O,P]:=by cases b;simp_all
 obtain⟨rfl,rfl⟩:=trodVars_none Z;have y:=qjp Y;obtain⟨Q,n0,c0,l0,rfl,F⟩:=qd4 (okWide_slice Tryz.underlying61 (d 0 61 O rfl rfl)) h0 (λn hn=>of_decide_eq_true (List.all_eq_true.1 G n (DataW.weights_mem_each (j:=0) (by rw[Tryz.params11];rfl) rfl n hn)));obtain⟨x1,rfl,rfl,rfl,J⟩:=open_int Tryz.underlying3 (d 1 3 P rfl rfl) h1;refine (shareHeld_walk Q n0 c0 l0 x1 W F (bounds_i64 J) y).mono λe W' ⟨he,hb⟩=>?_
 subst he;exact⟨_,rfl,qjn (tb:=4) (by kernel_rfl) Tryz.underlying4 rfl Qbb (by intro t I;rw[Tryz.params11] at I;simp at I;rcases I with rfl|rfl<;>exact⟨by kernel_rfl,of_decide_eq_true (by kernel_rfl)⟩) D rfl hb⟩
theorem j1:Rows.shareHeldRow.inPlace=Tryz.prog.inPlace 11:=by kernel_rfl
theorem j2:Rows.shareHeldRow.unfollowed=Tryz.prog.unfollowed 11:=by kernel_rfl
theorem j3:Rows.shareHeldRow.recurses=Tryz.prog.recurses 11:=by kernel_rfl
theorem j4:Rows.shareHeldRow.named=Tryz.prog.varsNamed 11:=by kernel_rfl
theorem j5:laidOutB Tryz.prog=true:=by kernel_rfl
theorem j6:mapsRowed Tryz.prog=true:=by kernel_rfl
theorem joined:joinedFacts Tryz.checked.prog 11 Tryz.f11 Rows.shareHeldSpec Rows.shareHeldRow=true:=by
 show joinedFacts Tryz.prog 11 Tryz.f11 Rows.shareHeldSpec Rows.shareHeldRow=true;unfold joinedFacts;rw[<-j1,<-j2,<-j3,<-j4,j5,j6];kernel_rfl
theorem row_holds:Rows.ShareHeldSaid:=
 OpenClaim.holds_of_wide 11 Tryz.f11 rfl rfl rfl rfl rfl rfl rfl ⟨rfl,rfl,rfl,rfl,rfl⟩ rfl rfl rfl rfl rfl (by kernel_rfl) Tryz.func11 joined
  (of_decide_eq_true (by kernel_rfl)) (by unfold Func.isWrapper;first|(rw[if_pos (by decide +kernel)];kernel_rfl)|(rw[if_neg (by decide +kernel)];exact⟨rfl,rfl⟩))
  (λos b H d _=>lifted os b H d)
theorem proved:Rows.ShareHeldCardSaid:=
 Claim7.holds_tied_plain_at .later Rows.shareHeldCard.alts Rows.shareHeldCard.laidKinds Rows.shareHeldCard.laidTests Rows.shareHeldCard.stood.harness Rows.shareHeldCard.stood.looks
  row_holds (λ_ h=>by cases h) (by kernel_rfl) (λ_ h=>by cases h) shareHeld_row_tie rfl ⟨rfl,rfl⟩ (by kernel_rfl) rfl
  (λf m p d=>by
   obtain rfl:f=11:=Option.some.inj ((show Tryz.prog.funcNamed "cambium/cambiumlaw12.ShareHeld"=some 11 by kernel_rfl).symm.trans p) |>.symm
   obtain rfl:m=Tryz.f11:=(Option.some.inj (Tryz.func11.symm.trans d)).symm;exact⟨by kernel_rfl,λj t e=>by
    rw[Tryz.params11] at e;have hm:t∈[61,3]:=by have:=Array.mem_of_getElem? e;simpa using this
    have b:([61,3].all λu=>!Tryz.prog.wantsStandIn u)=true:=by kernel_rfl
    exact (show Tryz.prog.wantsStandIn t=false by simpa using List.all_eq_true.1 b t hm)⟩)
  (by kernel_rfl)
end Go.Proofs.YthkfkhejjmhomaaGreatDoor.ShareHeldP
namespace Go.Proofs.YthkfkhejjmhomaaGreatDoor
open Go Go.RowKit Go.Proofs
