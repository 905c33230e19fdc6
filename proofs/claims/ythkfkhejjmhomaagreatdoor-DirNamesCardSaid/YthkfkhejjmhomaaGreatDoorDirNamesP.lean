/- The statement DirNamesCardSaid: for every input the law returns true, and what came in rea -/
import Derived.Test.YthkfkhejjmhomaaGreatDoorDirNames
import Derived.Test.YthkfkhejjmhomaaGreatDoorCards
import Derived.Test.YthkfkhejjmhomaaGreatDoorTie
import Derived.SevenTiedAt
namespace Go.Proofs.YthkfkhejjmhomaaGreatDoor.DirNamesP
open Go Go.RowKit Go.Proofs Go.ChangeShapes Go.WideShapes Go.ChangeAt
set_option maxRecDepth 100000
theorem lifted (os:Os)(m:os.Started)(H:Type)(enc:TypeId × Value->H) :
  ReturnsInHanded {} Tryz.checked os 5 .any (λw d=>(Rows.dirNamesSpec.pre enc Tryz.prog Tryz.f5 [] false w d/\laidMetH Tryz.prog LAID w)/\sizedMet enc Tryz.prog Tryz.f5 (OpenSpec.ofChange Rows.dirNamesSpec) false w d)
   (Rows.dirNamesSpec.post enc Tryz.prog Tryz.f5 false true false false):=by
 refine returnsInHanded_of_change_and (C:=Tryz.checked) (X:=λw _=>laidMetH Tryz.prog LAID w) (λ_ _ _ Z h=>h.of_heap Z) Qwk m (by kernel_rfl) Tryz.func5
  (ChangeSpec.witness_shaped (enc:=enc) (C:=Tryz.checked) (os:=os) (X:=λw _=>laidMetH Tryz.prog LAID w) false (World.doorLaid Tryz.prog 400 os) #[.slice none 0 0,.slice none 0 0] 8 rfl (World.shaped_of_RefB (by kernel_rfl) (by kernel_rfl)) (by kernel_rfl) (by kernel_rfl) (by kernel_rfl) (door_met os _)) ?_
 intro W base d P gs z u J _ _ T _;have g:∀(j:Nat) t v,Tryz.f5.params[j]?=some t->d[j]?=some v->Value.okWide Tryz.prog W .any base t v:=u;have B:=J;obtain⟨p,q,A,U,rfl,_,_⟩:=J;have I:DataW.TrodAll enc Tryz.prog W 0 (λ_=>true) true Tryz.f5.params.toList d.toList P p:=A;rw[Tryz.params5] at I g;obtain⟨v0,a1,d0,Q,p0,q0,D,rfl,rfl,h0,r0⟩:=trodAll_cons I;obtain⟨K,a2,d1,R,p1,q1,rfl,rfl,rfl,h1,r1⟩:=trodAll_cons r0;obtain⟨rfl,rfl,rfl⟩:=trodAll_nil r1;obtain rfl:d=#[v0,K]:=by cases d;simp_all
 obtain⟨rfl,rfl⟩:=trodVars_none U;have y:=Qzc T;obtain⟨M,n0,c0,l0,rfl,E⟩:=Qr8 Tryz.underlying51 Tryz.underlying9 (by kernel_rfl) (okWide_slice Tryz.underlying51 (g 0 51 v0 rfl rfl)) h0;obtain⟨O,n1,c1,l1,rfl,F⟩:=open_bools Tryz.underlying52 Tryz.underlying4 (by kernel_rfl) (okWide_slice Tryz.underlying52 (g 1 52 K rfl rfl)) h1;refine (dirNames_walk M n0 c0 l0 O n1 c1 l1 W E F y).mono λe W' ⟨Y,V⟩=>?_
 subst Y;exact⟨_,rfl,Qz8 (tb:=4) (by kernel_rfl) Tryz.underlying4 rfl Zfs (by intro t G;rw[Tryz.params5] at G;simp at G;rcases G with rfl|rfl<;>exact⟨by kernel_rfl,of_decide_eq_true (by kernel_rfl)⟩) B rfl V⟩
theorem j1:Rows.dirNamesRow.inPlace=Tryz.prog.inPlace 5:=by kernel_rfl
theorem j2:Rows.dirNamesRow.unfollowed=Tryz.prog.unfollowed 5:=by kernel_rfl
theorem j3:Rows.dirNamesRow.recurses=Tryz.prog.recurses 5:=by kernel_rfl
theorem j4:Rows.dirNamesRow.named=Tryz.prog.varsNamed 5:=by kernel_rfl
theorem j5:laidOutB Tryz.prog=true:=by kernel_rfl
theorem j6:mapsRowed Tryz.prog=true:=by kernel_rfl
theorem joined:joinedFacts Tryz.checked.prog 5 Tryz.f5 Rows.dirNamesSpec Rows.dirNamesRow=true:=by
 show joinedFacts Tryz.prog 5 Tryz.f5 Rows.dirNamesSpec Rows.dirNamesRow=true;unfold joinedFacts;rw[<-j1,<-j2,<-j3,<-j4,j5,j6];kernel_rfl
theorem row_holds:Rows.DirNamesSaid:=
 OpenClaim.holds_of_wide 5 Tryz.f5 rfl rfl rfl rfl rfl rfl rfl ⟨rfl,rfl,rfl,rfl,rfl⟩ rfl rfl rfl rfl rfl (by kernel_rfl) Tryz.func5 joined
  (of_decide_eq_true (by kernel_rfl)) (by unfold Func.isWrapper;first|(rw[if_pos (by decide +kernel)];kernel_rfl)|(rw[if_neg (by decide +kernel)];exact⟨rfl,rfl⟩))
  (λos d H e _=>lifted os d H e)
theorem proved:Rows.DirNamesCardSaid:=
 Claim7.holds_tied_plain_at .later Rows.dirNamesCard.alts Rows.dirNamesCard.laidKinds Rows.dirNamesCard.laidTests Rows.dirNamesCard.stood.harness Rows.dirNamesCard.stood.looks
  row_holds (λ_ h=>by cases h) (by kernel_rfl) (λ_ h=>by cases h) dirNames_row_tie rfl ⟨rfl,rfl⟩ (by kernel_rfl) rfl
  (λf m p e=>by
   obtain rfl:f=5:=Option.some.inj ((show Tryz.prog.funcNamed "cambium/cambiumlaw15.DirNames"=some 5 by kernel_rfl).symm.trans p) |>.symm
   obtain rfl:m=Tryz.f5:=(Option.some.inj (Tryz.func5.symm.trans e)).symm;exact⟨by kernel_rfl,λj t g=>by
    rw[Tryz.params5] at g;have hm:t∈[51,52]:=by have:=Array.mem_of_getElem? g;simpa using this
    have d:([51,52].all λu=>!Tryz.prog.wantsStandIn u)=true:=by kernel_rfl
    exact (show Tryz.prog.wantsStandIn t=false by simpa using List.all_eq_true.1 d t hm)⟩)
  (by kernel_rfl)
end Go.Proofs.YthkfkhejjmhomaaGreatDoor.DirNamesP
namespace Go.Proofs.YthkfkhejjmhomaaGreatDoor
open Go Go.RowKit Go.Proofs
