/- The statement DirPlaysCardSaid: for every input the law returns true, and what came in rea -/
import Derived.Test.YtnjacafcocnicaaGreatDoorDirPlays
import Derived.Test.YtnjacafcocnicaaGreatDoorCards
import Derived.Test.YtnjacafcocnicaaGreatDoorTie
import Derived.SevenTiedAt
namespace Go.Proofs.YtnjacafcocnicaaGreatDoor.DirPlaysP
open Go Go.RowKit Go.Proofs Go.ChangeShapes Go.WideShapes Go.ChangeAt
set_option maxRecDepth 100000
theorem lifted (os:Os)(u:os.Started)(H:Type)(enc:TypeId × Value->H) :
  ReturnsInHanded {} Tryz.checked os 3 .any (λw m=>(Rows.dirPlaysSpec.pre enc Tryz.prog Tryz.f3 [] false w m/\laidMetH Tryz.prog LAID w)/\sizedMet enc Tryz.prog Tryz.f3 (OpenSpec.ofChange Rows.dirPlaysSpec) false w m)
   (Rows.dirPlaysSpec.post enc Tryz.prog Tryz.f3 false true false false):=by
 refine returnsInHanded_of_change_and (C:=Tryz.checked) (X:=λw _=>laidMetH Tryz.prog LAID w) (λ_ _ _ Y h=>h.of_heap Y) Pg u (by kernel_rfl) Tryz.func3
  (ChangeSpec.witness_shaped (enc:=enc) (C:=Tryz.checked) (os:=os) (X:=λw _=>laidMetH Tryz.prog LAID w) false (World.doorLaid Tryz.prog 400 os) #[.slice none 0 0] 8 rfl (World.shaped_of_RefB (by kernel_rfl) (by kernel_rfl)) (by kernel_rfl) (by kernel_rfl) (by kernel_rfl) (ql1 os _)) ?_
 intro W base m P gs D A M _ _ R _;have y:∀(j:Nat) t v,Tryz.f3.params[j]?=some t->m[j]?=some v->Value.okWide Tryz.prog W .any base t v:=A;have F:=M;obtain⟨p,q,E,T,rfl,_,_⟩:=M;have K:DataW.TrodAll enc Tryz.prog W 0 (λ_=>true) true Tryz.f3.params.toList m.toList P p:=E;rw[Tryz.params3] at K y;obtain⟨v0,a1,d0,Q,p0,q0,G,rfl,rfl,h0,r0⟩:=trodAll_cons K;obtain⟨rfl,rfl,rfl⟩:=trodAll_nil r0;obtain rfl:m=#[v0]:=by cases m;simp_all
 obtain⟨rfl,rfl⟩:=trodVars_none T;have B:=ql2 R;obtain⟨O,n0,c0,Z,rfl,I⟩:=qgn (okWide_slice Tryz.underlying22 (y 0 22 v0 rfl rfl)) h0;refine (dirPlays_walk O n0 c0 Z W I B).mono λe W' ⟨V,U⟩=>?_
 subst V;exact⟨_,rfl,ql0 (tb:=4) (by kernel_rfl) Tryz.underlying4 rfl Qbj (by intro t J;rw[Tryz.params3] at J;simp at J;subst J;exact⟨by kernel_rfl,of_decide_eq_true (by kernel_rfl)⟩) F rfl U⟩
theorem j1:Rows.dirPlaysRow.inPlace=Tryz.prog.inPlace 3:=by kernel_rfl
theorem j2:Rows.dirPlaysRow.unfollowed=Tryz.prog.unfollowed 3:=by kernel_rfl
theorem j3:Rows.dirPlaysRow.recurses=Tryz.prog.recurses 3:=by kernel_rfl
theorem j4:Rows.dirPlaysRow.named=Tryz.prog.varsNamed 3:=by kernel_rfl
theorem j5:laidOutB Tryz.prog=true:=by kernel_rfl
theorem j6:mapsRowed Tryz.prog=true:=by kernel_rfl
theorem joined:joinedFacts Tryz.checked.prog 3 Tryz.f3 Rows.dirPlaysSpec Rows.dirPlaysRow=true:=by
 show joinedFacts Tryz.prog 3 Tryz.f3 Rows.dirPlaysSpec Rows.dirPlaysRow=true;unfold joinedFacts;rw[<-j1,<-j2,<-j3,<-j4,j5,j6];kernel_rfl
theorem row_holds:Rows.DirPlaysSaid:=
 OpenClaim.holds_of_wide 3 Tryz.f3 rfl rfl rfl rfl rfl rfl rfl ⟨rfl,rfl,rfl,rfl,rfl⟩ rfl rfl rfl rfl rfl (by kernel_rfl) Tryz.func3 joined
  (of_decide_eq_true (by kernel_rfl)) (by unfold Func.isWrapper;first|(rw[if_pos (by decide +kernel)];kernel_rfl)|(rw[if_neg (by decide +kernel)];exact⟨rfl,rfl⟩))
  (λos e H m _=>lifted os e H m)
theorem proved:Rows.DirPlaysCardSaid:=
 Claim7.holds_tied_plain_at .later Rows.dirPlaysCard.alts Rows.dirPlaysCard.laidKinds Rows.dirPlaysCard.laidTests Rows.dirPlaysCard.stood.harness Rows.dirPlaysCard.stood.looks
  row_holds (λ_ h=>by cases h) (by kernel_rfl) (λ_ h=>by cases h) dirPlays_row_tie rfl ⟨rfl,rfl⟩ (by kernel_rfl) rfl
  (λf q y m=>by
   obtain rfl:f=3:=Option.some.inj ((show Tryz.prog.funcNamed "cambium/cambiumlaw15.DirPlays"=some 3 by kernel_rfl).symm.trans y) |>.symm
   obtain rfl:q=Tryz.f3:=(Option.some.inj (Tryz.func3.symm.trans m)).symm;exact⟨by kernel_rfl,λj t p=>by
    rw[Tryz.params3] at p;have hm:t∈[22]:=by have:=Array.mem_of_getElem? p;simpa using this
    have e:([22].all λu=>!Tryz.prog.wantsStandIn u)=true:=by kernel_rfl
    exact (show Tryz.prog.wantsStandIn t=false by simpa using List.all_eq_true.1 e t hm)⟩)
  (by kernel_rfl)
end Go.Proofs.YtnjacafcocnicaaGreatDoor.DirPlaysP
namespace Go.Proofs.YtnjacafcocnicaaGreatDoor
open Go Go.RowKit Go.Proofs
