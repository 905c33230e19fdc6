/- The statement DirBadCardSaid: for every input the law returns true, and what came in reads -/
import Derived.Test.YthkfkhejjmhomaaGreatDoorDirBad
import Derived.Test.YthkfkhejjmhomaaGreatDoorCards
import Derived.Test.YthkfkhejjmhomaaGreatDoorTie
import Derived.SevenTiedAt
namespace Go.Proofs.YthkfkhejjmhomaaGreatDoor.DirBadP
open Go Go.RowKit Go.Proofs Go.ChangeShapes Go.WideShapes Go.ChangeAt
set_option maxRecDepth 100000
theorem lifted (os:Os)(u:os.Started)(H:Type)(enc:TypeId × Value->H) :
  ReturnsInHanded {} Tryz.checked os 6 .any (λw d=>(Rows.dirBadSpec.pre enc Tryz.prog Tryz.f6 [] false w d/\laidMetH Tryz.prog LAID w)/\sizedMet enc Tryz.prog Tryz.f6 (OpenSpec.ofChange Rows.dirBadSpec) false w d)
   (Rows.dirBadSpec.post enc Tryz.prog Tryz.f6 false true false false):=by
 refine returnsInHanded_of_change_and (C:=Tryz.checked) (X:=λw _=>laidMetH Tryz.prog LAID w) (λ_ _ _ hh h=>h.of_heap hh) Ot u (by kernel_rfl) Tryz.func6
  (ChangeSpec.witness_shaped (enc:=enc) (C:=Tryz.checked) (os:=os) (X:=λw _=>laidMetH Tryz.prog LAID w) false (World.doorLaid Tryz.prog 400 os) #[.slice none 0 0,.agg #[.string ⟨#[]⟩,.int .i64 0,.int .i64 0]] 8 rfl (World.shaped_of_RefB (by kernel_rfl) (by kernel_rfl)) (by kernel_rfl) (by kernel_rfl) (by kernel_rfl) (qsd os _)) ?_
 intro W base d P gs B y K _ _ T _;have m:∀(j:Nat) t v,Tryz.f6.params[j]?=some t->d[j]?=some v->Value.okWide Tryz.prog W .any base t v:=y;have E:=K;obtain⟨p,q,D,U,rfl,_,_⟩:=K;have J:DataW.TrodAll enc Tryz.prog W 0 (λ_=>true) true Tryz.f6.params.toList d.toList P p:=D;rw[Tryz.params6] at J m;obtain⟨v0,a1,d0,Q,p0,q0,F,rfl,rfl,h0,r0⟩:=trodAll_cons J;obtain⟨M,a2,d1,R,p1,q1,rfl,rfl,rfl,h1,r1⟩:=trodAll_cons r0;obtain⟨rfl,rfl,rfl⟩:=trodAll_nil r1;obtain rfl:d=#[v0,M]:=by cases d;simp_all
 obtain⟨rfl,rfl⟩:=trodVars_none U;have A:=qse T;obtain⟨O,n0,c0,l0,rfl,G⟩:=ql3 Tryz.underlying51 Tryz.underlying9 (by kernel_rfl) (okWide_slice Tryz.underlying51 (m 0 51 v0 rfl rfl)) h0;obtain⟨s1,y1,z1,rfl⟩:=qt6 (m 1 32 M rfl rfl) h1;refine (dirBad_walk O n0 c0 l0 s1 y1 z1 W G A).mono λe W' ⟨Z,Y⟩=>?_
 subst Z;exact⟨_,rfl,qs9 (tb:=4) (by kernel_rfl) Tryz.underlying4 rfl Qb4 (by intro t I;rw[Tryz.params6] at I;simp at I;rcases I with rfl|rfl<;>exact⟨by kernel_rfl,of_decide_eq_true (by kernel_rfl)⟩) E rfl Y⟩
theorem j1:Rows.dirBadRow.inPlace=Tryz.prog.inPlace 6:=by kernel_rfl
theorem j2:Rows.dirBadRow.unfollowed=Tryz.prog.unfollowed 6:=by kernel_rfl
theorem j3:Rows.dirBadRow.recurses=Tryz.prog.recurses 6:=by kernel_rfl
theorem j4:Rows.dirBadRow.named=Tryz.prog.varsNamed 6:=by kernel_rfl
theorem j5:laidOutB Tryz.prog=true:=by kernel_rfl
theorem j6:mapsRowed Tryz.prog=true:=by kernel_rfl
theorem joined:joinedFacts Tryz.checked.prog 6 Tryz.f6 Rows.dirBadSpec Rows.dirBadRow=true:=by
 show joinedFacts Tryz.prog 6 Tryz.f6 Rows.dirBadSpec Rows.dirBadRow=true;unfold joinedFacts;rw[<-j1,<-j2,<-j3,<-j4,j5,j6];kernel_rfl
theorem qs0:Rows.DirBadSaid:=
 OpenClaim.holds_of_wide 6 Tryz.f6 rfl rfl rfl rfl rfl rfl rfl ⟨rfl,rfl,rfl,rfl,rfl⟩ rfl rfl rfl rfl rfl (by kernel_rfl) Tryz.func6 joined
  (of_decide_eq_true (by kernel_rfl)) (by unfold Func.isWrapper;first|(rw[if_pos (by decide +kernel)];kernel_rfl)|(rw[if_neg (by decide +kernel)];exact⟨rfl,rfl⟩))
  (λos d H e _=>lifted os d H e)
theorem proved:Rows.DirBadCardSaid:=
 Claim7.holds_tied_plain_at .later Rows.dirBadCard.alts Rows.dirBadCard.laidKinds Rows.dirBadCard.laidTests Rows.dirBadCard.stood.harness Rows.dirBadCard.stood.looks
  qs0 (λ_ h=>by cases h) (by kernel_rfl) (λ_ h=>by cases h) dirBad_row_tie rfl ⟨rfl,rfl⟩ (by kernel_rfl) rfl
  (λf p y e=>by
   obtain rfl:f=6:=Option.some.inj ((show Tryz.prog.funcNamed "cambium/cambiumlaw15.DirBad"=some 6 by kernel_rfl).symm.trans y) |>.symm
   obtain rfl:p=Tryz.f6:=(Option.some.inj (Tryz.func6.symm.trans e)).symm;exact⟨by kernel_rfl,λj t m=>by
    rw[Tryz.params6] at m;have hm:t∈[51,32]:=by have:=Array.mem_of_getElem? m;simpa using this
    have d:([51,32].all λu=>!Tryz.prog.wantsStandIn u)=true:=by kernel_rfl
    exact (show Tryz.prog.wantsStandIn t=false by simpa using List.all_eq_true.1 d t hm)⟩)
  (by kernel_rfl)
end Go.Proofs.YthkfkhejjmhomaaGreatDoor.DirBadP
namespace Go.Proofs.YthkfkhejjmhomaaGreatDoor
open Go Go.RowKit Go.Proofs
