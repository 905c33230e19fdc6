/- The statement FileBigCardSaid: for every input the law returns true, and what came in read -/
import Derived.Test.YtloolbmdiimanaaGreatDoorFileBig
import Derived.Test.YtloolbmdiimanaaGreatDoorCards
import Derived.Test.YtloolbmdiimanaaGreatDoorTie
import Derived.SevenTiedAt
namespace Go.Proofs.YtloolbmdiimanaaGreatDoor.FileBigP
open Go Go.RowKit Go.Proofs Go.ChangeShapes Go.WideShapes Go.ChangeAt
set_option maxRecDepth 100000
theorem lifted (os:Os)(m:os.Started)(H:Type)(enc:TypeId × Value->H) :
  ReturnsInHanded {} Tryz.checked os 4 .any (λw d=>(Rows.fileBigSpec.pre enc Tryz.prog Tryz.f4 [] false w d/\laidMetH Tryz.prog LAID w)/\sizedMet enc Tryz.prog Tryz.f4 (OpenSpec.ofChange Rows.fileBigSpec) false w d)
   (Rows.fileBigSpec.post enc Tryz.prog Tryz.f4 false true false false):=by
 refine returnsInHanded_of_change_and (C:=Tryz.checked) (X:=λw _=>laidMetH Tryz.prog LAID w) (λ_ _ _ hh h=>h.of_heap hh) Oo m (by kernel_rfl) Tryz.func4
  (ChangeSpec.witness_shaped (enc:=enc) (C:=Tryz.checked) (os:=os) (X:=λw _=>laidMetH Tryz.prog LAID w) false (World.laidAll Tryz.prog os LAID) #[.int .i64 0,.int .i64 0,.int .i64 0] 8 (World.laidAll_os _ _ _) (World.shaped_of_ZipB (by kernel_rfl) (by kernel_rfl)) (by kernel_rfl) (by kernel_rfl) (by kernel_rfl) (qs3 os _)) ?_
 intro W base d R gs A u M _ _ Z _;have g:∀(j:Nat) t v,Tryz.f4.params[j]?=some t->d[j]?=some v->Value.okWide Tryz.prog W .any base t v:=u;have D:=M;obtain⟨p,q,B,hV,rfl,_,_⟩:=M;have K:DataW.TrodAll enc Tryz.prog W 0 (λ_=>true) true Tryz.f4.params.toList d.toList R p:=B;rw[Tryz.params4] at K g;obtain⟨O,a0,d0,T,p0,q0,E,rfl,rfl,h0,r0⟩:=trodAll_cons K;obtain⟨P,a1,d1,U,p1,q1,rfl,rfl,rfl,h1,r1⟩:=trodAll_cons r0;obtain⟨Q,a2,d2,Y,p2,q2,rfl,rfl,rfl,h2,r2⟩:=trodAll_cons r1;obtain⟨rfl,rfl,rfl⟩:=trodAll_nil r2;obtain rfl:d=#[O,P,Q]:=by cases d;simp_all
 obtain⟨rfl,rfl⟩:=trodVars_none hV;have y:=qs4 Z;obtain⟨x0,rfl,rfl,rfl,G⟩:=open_int Tryz.underlying3 (g 0 3 O rfl rfl) h0;obtain⟨x1,rfl,rfl,rfl,I⟩:=open_int Tryz.underlying3 (g 1 3 P rfl rfl) h1;obtain⟨x2,rfl,rfl,rfl,J⟩:=open_int Tryz.underlying3 (g 2 3 Q rfl rfl) h2;refine (fileBig_walk x0 x1 x2 W (bounds_i64 G) (bounds_i64 I) (bounds_i64 J) y).mono λe W' ⟨he,hb⟩=>?_
 subst he;exact⟨_,rfl,qs0 (tb:=4) (by kernel_rfl) Tryz.underlying4 rfl Qb4 (by intro t F;rw[Tryz.params4] at F;simp at F;subst F;exact⟨by kernel_rfl,of_decide_eq_true (by kernel_rfl)⟩) D rfl hb⟩
theorem j1:Rows.fileBigRow.inPlace=Tryz.prog.inPlace 4:=by kernel_rfl
theorem j2:Rows.fileBigRow.unfollowed=Tryz.prog.unfollowed 4:=by kernel_rfl
theorem j3:Rows.fileBigRow.recurses=Tryz.prog.recurses 4:=by kernel_rfl
theorem j4:Rows.fileBigRow.named=Tryz.prog.varsNamed 4:=by kernel_rfl
theorem j5:laidOutB Tryz.prog=true:=by kernel_rfl
theorem j6:mapsRowed Tryz.prog=true:=by kernel_rfl
theorem joined:joinedFacts Tryz.checked.prog 4 Tryz.f4 Rows.fileBigSpec Rows.fileBigRow=true:=by
 show joinedFacts Tryz.prog 4 Tryz.f4 Rows.fileBigSpec Rows.fileBigRow=true;unfold joinedFacts;rw[<-j1,<-j2,<-j3,<-j4,j5,j6];kernel_rfl
theorem qnh:Rows.FileBigSaid:=
 OpenClaim.holds_of_wide 4 Tryz.f4 rfl rfl rfl rfl rfl rfl rfl ⟨rfl,rfl,rfl,rfl,rfl⟩ rfl rfl rfl rfl rfl (by kernel_rfl) Tryz.func4 joined
  (of_decide_eq_true (by kernel_rfl)) (by unfold Func.isWrapper;first|(rw[if_pos (by decide +kernel)];kernel_rfl)|(rw[if_neg (by decide +kernel)];exact⟨rfl,rfl⟩))
  (λos d H e _=>lifted os d H e)
theorem c1:Rows.fileBigRow.wfByText (OpenSpec.ofChange Rows.fileBigSpec)=true:=by kernel_rfl
theorem c2:Tryz.pinned.checked.prog.mainIs=some (Rows.fileBigCard.stood.harness.1,Rows.fileBigCard.stood.harness.2.toList):=by kernel_rfl
theorem c3:(!Rows.fileBigCard.stood.harness.1&&Rows.fileBigCard.stood.harness.2.isEmpty&&!Rows.fileBigCard.stood.looks)=false:=by kernel_rfl
theorem c4:false=Rows.fileBigRow.goesBy Tryz.pinned.checked.prog:=by kernel_rfl
theorem c5:Tryz.prog.funcNamed "cambium/cambiumlaw16.FileBig"=some 4:=by kernel_rfl
theorem c6:Rows.fileBigCard.stood.looks=Tryz.pinned.checked.prog.looks []:=by kernel_rfl
theorem c7:([3].all λu=>!Tryz.prog.wantsStandIn u)=true:=by kernel_rfl
theorem c8 (f:Nat)(d:Func)(m:Tryz.pinned.checked.prog.funcNamed Rows.fileBigRow.func=some f)(e:Tryz.pinned.checked.prog.funcs[f]?=some d):Rows.fileBigCard.stood.looks=Tryz.pinned.checked.prog.looks []/\∀(j:Nat) t,d.params[j]?=some t->Tryz.pinned.checked.prog.wantsStandIn t=false:=by
 obtain rfl:f=4:=Option.some.inj (c5.symm.trans m) |>.symm
 obtain rfl:d=Tryz.f4:=(Option.some.inj (Tryz.func4.symm.trans e)).symm;exact⟨c6,λj t g=>by
  rw[Tryz.params4] at g;have hm:t∈[3]:=by have:=Array.mem_of_getElem? g;simpa using this
  exact (show Tryz.prog.wantsStandIn t=false by simpa using List.all_eq_true.1 c7 t hm)⟩
theorem proved:Rows.FileBigCardSaid:=
 Claim7.holds_tied_plain_at .later Rows.fileBigCard.alts Rows.fileBigCard.laidKinds Rows.fileBigCard.laidTests Rows.fileBigCard.stood.harness Rows.fileBigCard.stood.looks
  qnh (λ_ h=>by cases h) c1 (λ_ h=>by cases h) fileBig_row_tie rfl ⟨rfl,rfl⟩ c2 c3 c8 c4
end Go.Proofs.YtloolbmdiimanaaGreatDoor.FileBigP
namespace Go.Proofs.YtloolbmdiimanaaGreatDoor
open Go Go.RowKit Go.Proofs
