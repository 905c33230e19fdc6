/- The statement FileSparseCardSaid: for every input the law returns true, and what came in r -/
import Derived.Test.YtloolbmdiimanaaGreatDoorFileSparse
import Derived.Test.YtloolbmdiimanaaGreatDoorCards
import Derived.Test.YtloolbmdiimanaaGreatDoorTie
import Derived.SevenTiedAt
namespace Go.Proofs.YtloolbmdiimanaaGreatDoor.FileSparseP
open Go Go.RowKit Go.Proofs Go.ChangeShapes Go.WideShapes Go.ChangeAt
set_option maxRecDepth 100000
theorem lifted (os:Os)(m:os.Started)(H:Type)(enc:TypeId × Value->H) :
  ReturnsInHanded {} Tryz.checked os 3 .any (λw d=>(Rows.fileSparseSpec.pre enc Tryz.prog Tryz.f3 [] false w d/\laidMetH Tryz.prog LAID w)/\sizedMet enc Tryz.prog Tryz.f3 (OpenSpec.ofChange Rows.fileSparseSpec) false w d)
   (Rows.fileSparseSpec.post enc Tryz.prog Tryz.f3 false true false false):=by
 refine returnsInHanded_of_change_and (C:=Tryz.checked) (X:=λw _=>laidMetH Tryz.prog LAID w) (λ_ _ _ hh h=>h.of_heap hh) Ox m (by kernel_rfl) Tryz.func3
  (ChangeSpec.witness_shaped (enc:=enc) (C:=Tryz.checked) (os:=os) (X:=λw _=>laidMetH Tryz.prog LAID w) false (World.laidAll Tryz.prog os LAID) #[.slice none 0 0,.int .i64 0,.int .i64 0] 8 (World.laidAll_os _ _ _) (World.shaped_of_ZipB (by kernel_rfl) (by kernel_rfl)) (by kernel_rfl) (by kernel_rfl) (by kernel_rfl) (qsm os _)) ?_
 intro W base d T gs A u M _ _ hL _;have g:∀(j:Nat) t v,Tryz.f3.params[j]?=some t->d[j]?=some v->Value.okWide Tryz.prog W .any base t v:=u;have D:=M;obtain⟨p,q,B,hV,rfl,_,_⟩:=M;have K:DataW.TrodAll enc Tryz.prog W 0 (λ_=>true) true Tryz.f3.params.toList d.toList T p:=B;rw[Tryz.params3] at K g;obtain⟨O,a0,d0,U,p0,q0,E,rfl,rfl,h0,r0⟩:=trodAll_cons K;obtain⟨P,a1,d1,Y,p1,q1,rfl,rfl,rfl,h1,r1⟩:=trodAll_cons r0;obtain⟨Q,a2,d2,Z,p2,q2,rfl,rfl,rfl,h2,r2⟩:=trodAll_cons r1;obtain⟨rfl,rfl,rfl⟩:=trodAll_nil r2;obtain rfl:d=#[O,P,Q]:=by cases d;simp_all
 obtain⟨rfl,rfl⟩:=trodVars_none hV;have y:=qsn hL;obtain⟨R,n0,c0,l0,rfl,F⟩:=qll Cb Tryz.underlying5 (okWide_slice Tryz.underlying22 (g 0 22 O rfl rfl)) h0;obtain⟨x1,rfl,rfl,rfl,I⟩:=open_int Tryz.underlying3 (g 1 3 P rfl rfl) h1;obtain⟨x2,rfl,rfl,rfl,J⟩:=open_int Tryz.underlying3 (g 2 3 Q rfl rfl) h2;refine (fileSparse_walk R n0 c0 l0 x1 x2 W F (bounds_i64 I) (bounds_i64 J) y).mono λe W' ⟨he,hb⟩=>?_
 subst he;exact⟨_,rfl,qsi (tb:=4) (by kernel_rfl) Tryz.underlying4 rfl Qb7 (by intro t G;rw[Tryz.params3] at G;simp at G;rcases G with rfl|rfl<;>exact⟨by kernel_rfl,of_decide_eq_true (by kernel_rfl)⟩) D rfl hb⟩
theorem j1:Rows.fileSparseRow.inPlace=Tryz.prog.inPlace 3:=by kernel_rfl
theorem j2:Rows.fileSparseRow.unfollowed=Tryz.prog.unfollowed 3:=by kernel_rfl
theorem j3:Rows.fileSparseRow.recurses=Tryz.prog.recurses 3:=by kernel_rfl
theorem j4:Rows.fileSparseRow.named=Tryz.prog.varsNamed 3:=by kernel_rfl
theorem j5:laidOutB Tryz.prog=true:=by kernel_rfl
theorem j6:mapsRowed Tryz.prog=true:=by kernel_rfl
theorem joined:joinedFacts Tryz.checked.prog 3 Tryz.f3 Rows.fileSparseSpec Rows.fileSparseRow=true:=by
 show joinedFacts Tryz.prog 3 Tryz.f3 Rows.fileSparseSpec Rows.fileSparseRow=true;unfold joinedFacts;rw[<-j1,<-j2,<-j3,<-j4,j5,j6];kernel_rfl
theorem qnu:Rows.FileSparseSaid:=
 OpenClaim.holds_of_wide 3 Tryz.f3 rfl rfl rfl rfl rfl rfl rfl ⟨rfl,rfl,rfl,rfl,rfl⟩ rfl rfl rfl rfl rfl (by kernel_rfl) Tryz.func3 joined
  (of_decide_eq_true (by kernel_rfl)) (by unfold Func.isWrapper;first|(rw[if_pos (by decide +kernel)];kernel_rfl)|(rw[if_neg (by decide +kernel)];exact⟨rfl,rfl⟩))
  (λos d H e _=>lifted os d H e)
theorem c1:Rows.fileSparseRow.wfByText (OpenSpec.ofChange Rows.fileSparseSpec)=true:=by kernel_rfl
theorem c2:Tryz.pinned.checked.prog.mainIs=some (Rows.fileSparseCard.stood.harness.1,Rows.fileSparseCard.stood.harness.2.toList):=by kernel_rfl
theorem c3:(!Rows.fileSparseCard.stood.harness.1&&Rows.fileSparseCard.stood.harness.2.isEmpty&&!Rows.fileSparseCard.stood.looks)=false:=by kernel_rfl
theorem c4:false=Rows.fileSparseRow.goesBy Tryz.pinned.checked.prog:=by kernel_rfl
theorem c5:Tryz.prog.funcNamed "cambium/cambiumlaw16.FileSparse"=some 3:=by kernel_rfl
theorem c6:Rows.fileSparseCard.stood.looks=Tryz.pinned.checked.prog.looks []:=by kernel_rfl
theorem c7:([22,3].all λu=>!Tryz.prog.wantsStandIn u)=true:=by kernel_rfl
theorem c8 (f:Nat)(d:Func)(m:Tryz.pinned.checked.prog.funcNamed Rows.fileSparseRow.func=some f)(e:Tryz.pinned.checked.prog.funcs[f]?=some d):Rows.fileSparseCard.stood.looks=Tryz.pinned.checked.prog.looks []/\∀(j:Nat) t,d.params[j]?=some t->Tryz.pinned.checked.prog.wantsStandIn t=false:=by
 obtain rfl:f=3:=Option.some.inj (c5.symm.trans m) |>.symm
 obtain rfl:d=Tryz.f3:=(Option.some.inj (Tryz.func3.symm.trans e)).symm;exact⟨c6,λj t g=>by
  rw[Tryz.params3] at g;have hm:t∈[22,3]:=by have:=Array.mem_of_getElem? g;simpa using this
  exact (show Tryz.prog.wantsStandIn t=false by simpa using List.all_eq_true.1 c7 t hm)⟩
theorem proved:Rows.FileSparseCardSaid:=
 Claim7.holds_tied_plain_at .later Rows.fileSparseCard.alts Rows.fileSparseCard.laidKinds Rows.fileSparseCard.laidTests Rows.fileSparseCard.stood.harness Rows.fileSparseCard.stood.looks
  qnu (λ_ h=>by cases h) c1 (λ_ h=>by cases h) fileSparse_row_tie rfl ⟨rfl,rfl⟩ c2 c3 c8 c4
end Go.Proofs.YtloolbmdiimanaaGreatDoor.FileSparseP
namespace Go.Proofs.YtloolbmdiimanaaGreatDoor
open Go Go.RowKit Go.Proofs
