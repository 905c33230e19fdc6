/- The statement DriveKeepsSaid: for every input the law returns true, and what came in reads as it did. -/
import Derived.Test.YtbikmnjagfkajaaDrvKeeps
import Derived.Test.YtbikmnjagfkajaaLaw3
import Derived.Test.YtbikmnjagfkajaaRows
namespace Go.Proofs.Ytbikmnjagfkajaa.DriveKeepsP
open Go Go.RowKit Go.Proofs Go.ChangeShapes Go.WideShapes Go.ChangeAt
theorem own0 : ownKnob Try.prog.godebug = none := by kernel_rfl
theorem laid0 : laidOutB Try.prog = true := by kernel_rfl
set_option maxRecDepth 100000 in
theorem lifted (os : Os) (started : os.Started) (H : Type) (enc : TypeId × Value → H) :
    ReturnsInHanded {} Try.checked os 4 .any (Rows.driveKeepsSpec.pre6 enc Try.prog Try.f4 Rows.driveKeepsRow.domain false) (Rows.driveKeepsSpec.post enc Try.prog Try.f4 false true false false) := by
  refine returnsInHanded_of_change (C := Try.checked) own0 started (by kernel_rfl) Try.func4
    (ChangeSpec.witness6 (enc := enc) (C := Try.checked) false ⟨#[], #[.slice none 0 0, .slice none 0 0, .slice none 0 0], []⟩ 8 (by kernel_rfl) (by kernel_rfl) (by kernel_rfl) (by kernel_rfl)) ?_
  intro W base args ds gs before hval0 hW _ _
  have hval : ∀ (j : Nat) t v, Try.f4.params[j]? = some t → args[j]? = some v → Value.okWide Try.prog W .any base t v := hval0
  have hW' := hW
  obtain ⟨p, q, hA0, hV, rfl, _, _⟩ := hW
  have hA : DataW.TrodAll enc Try.prog W 0 (fun _ => true) true Try.f4.params.toList args.toList ds p := hA0
  rw [Try.params4] at hA hval
  obtain ⟨v0, vs0, d0, ds0, p0, q0, hargs, rfl, rfl, h0, r0⟩ := trodAll_cons hA
  obtain ⟨v1, vs1, d1, ds1, p1, q1, rfl, rfl, rfl, h1, r1⟩ := trodAll_cons r0
  obtain ⟨v2, vs2, d2, ds2, p2, q2, rfl, rfl, rfl, h2, r2⟩ := trodAll_cons r1
  obtain ⟨rfl, rfl, rfl⟩ := trodAll_nil r2
  obtain rfl : args = #[v0, v1, v2] := by cases args; simp_all
  obtain ⟨rfl, rfl⟩ := trodVars_none hV
  obtain ⟨A0, n0, c0, l0, rfl, hs0⟩ := open_pairs Try.underlying50 Try.underlying52 Try.underlying3 (by kernel_rfl) (by kernel_rfl) (okWide_slice Try.underlying50 (hval 0 50 v0 rfl rfl)) h0
  obtain ⟨A1, n1, c1, l1, rfl, hs1⟩ := open_pairs Try.underlying50 Try.underlying52 Try.underlying3 (by kernel_rfl) (by kernel_rfl) (okWide_slice Try.underlying50 (hval 1 50 v1 rfl rfl)) h1
  obtain ⟨A2, n2, c2, l2, rfl, hs2⟩ := open_nums Try.underlying31 Try.underlying3 (by kernel_rfl) (okWide_slice Try.underlying31 (hval 2 31 v2 rfl rfl)) h2
  refine (driveKeeps_walk A0 n0 c0 l0 A1 n1 c1 l1 A2 n2 c2 l2 W hs0 hs1 hs2).mono fun e W' ⟨he, hb⟩ => ?_
  subst he
  exact ⟨_, rfl, post_law (tb := 4) (by kernel_rfl) Try.underlying4 rfl laid0 (by intro t ht; rw [Try.params4] at ht; simp at ht; rcases ht with rfl | rfl <;> exact ⟨by kernel_rfl, of_decide_eq_true (by kernel_rfl)⟩) hW' rfl hb⟩

theorem proved : Rows.DriveKeepsSaid :=
  OpenClaim.holds_of_wide 4 Try.f4 rfl rfl rfl rfl rfl rfl rfl ⟨rfl, rfl, rfl, rfl, rfl⟩ rfl rfl rfl rfl rfl (by kernel_rfl) Try.func4 (by kernel_rfl)
    (of_decide_eq_true (by kernel_rfl)) (by unfold Func.isWrapper; first | (rw [if_pos (by decide +kernel)]; kernel_rfl) | (rw [if_neg (by decide +kernel)]; exact ⟨rfl, rfl⟩))
    (fun os started H enc _ => lifted os started H enc)
end Go.Proofs.Ytbikmnjagfkajaa.DriveKeepsP
