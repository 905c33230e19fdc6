/- The laws NameValid, NameSplits and NameForm: for every input they return true, and what came in reads as it did. -/
import Derived.Test.YtlofgjpnpfgpfaaNmJ
namespace Go.Proofs.Ytlofgjpnpfgpfaa
open Go Go.RowKit Go.Proofs

set_option maxHeartbeats 2000000 in
theorem nameValid_walk (s : ByteArray) (w : World) (hm : s.size ≤ maxLen) :
    Calls Try.prog 3 #[.string s] w fun e w' => e = .returned (.bool true) ∧ Below w.heap.size w w' := by
  obtain ⟨v, hv⟩ : ∃ v, validE s = v := ⟨_, rfl⟩
  go_enter Try.func3, Try.ntmps3
  go_wp2_with fail
  refine (shown14_any w).mono ?_
  rintro e w1 ⟨rfl, b1⟩
  go_wp2_with (first
    | (go_at_call 11; refine (cvalid_any s v hv hm w1).mono ?_; rintro e w2 ⟨rfl, b2⟩)
    | (go_at_call 12; refine (rvalid_any s v hv hm _).mono ?_; rintro e w3 ⟨rfl, rfl⟩)
    | fail)
  go_ret
  exact ⟨by simp, b1.trans (b2.mono b1.size)⟩

set_option maxRecDepth 10000 in
set_option maxHeartbeats 2000000 in
theorem nameSplits_walk (s : ByteArray) (w : World) (hm : s.size ≤ maxLen) :
    Calls Try.prog 4 #[.string s] w fun e w' => e = .returned (.bool true) ∧ Below w.heap.size w w' := by
  obtain ⟨⟨a, l, v⟩, hx⟩ : ∃ x, splitP s = x := ⟨_, rfl⟩
  go_enter Try.func4, Try.ntmps4
  go_wp2_with fail
  refine (shown14_any w).mono ?_
  rintro e w1 ⟨rfl, b1⟩
  go_wp2_with fail
  refine (csplit_any s _ hx hm w1).mono ?_
  rintro e w2 ⟨A, n, c, rfl, r1, b2⟩
  go_wp2_with fail
  refine (rsplit_any s _ hx hm w2).mono ?_
  rintro e w3 ⟨B, m, d, rfl, r2, b3⟩
  have b02 := b1.trans (b2.mono b1.size)
  have b03 := b02.trans (b3.mono b02.size)
  have q1 := r1.below b3
  dsimp only at q1 r2
  go_wp2_with fail
  refine (same_any q1 r2 true (decide_eq_true rfl)).mono ?_
  rintro e w4 ⟨rfl, b4⟩
  dsimp only
  clear r1 r2 q1
  go_wp2
  go_ret
  exact ⟨by simp, b03.trans (b4.mono b03.size)⟩
end Go.Proofs.Ytlofgjpnpfgpfaa
