/- The code's counts: Clone. -/
import Derived.Test.YtancpkdkfemgfaaCuD
import Derived.Lib.SliceRun
namespace Go.Proofs.Ytancpkdkfemgfaa
open Go Go.RowKit Go.Proofs

set_option maxRecDepth 10000 in
set_option maxHeartbeats 2000000 in
theorem clone_row {w : World} {g n c : Nat} {l : List Int} (H : NRow w g n c l) (h0 : 0 < n) (h1 : n ≤ 1000000) :
    Calls Try.prog 37 #[.slice (some ⟨g, 0, none⟩) n c] w fun e w' => ∃ g' c', e = .returned (.slice (some ⟨g', 0, none⟩) n c') ∧ w.heap.size ≤ g' ∧ NRow w' g' n c' l ∧ Below w.heap.size w w' := by
  have b1 : Below w.heap.size w (w.alloc (.cells #[] 3)) := (Below.refl _ _).alloc (Nat.le_refl _) _
  have H1 : NRow (w.alloc (.cells #[] 3)) g n c l := H.keep (b1.block g H.lt)
  have z1 : (w.alloc (.cells #[] 3)).heap.size = w.heap.size + 1 := by simp
  have kn : (binOp .eql 51 (.slice (some ⟨g, 0, none⟩) n c) (.slice none 0 0)).run Try.prog w = .ok (.bool false) w := Lib.run_eql_slice_nil w _ 3 _ n c 0 0 TN.sl
  go_enter Try.func37, Try.ntmps37
  go_wp2_with (first
    | (at_builtin; refine wp_append_lit_i _ TN rfl _ _ rfl w.heap.size rfl ⟨g, 0, none⟩ n c rfl l H1.len H1.cells h0 h1 ?_; intro c3 w3 own3 hb3)
    | fail)
  go_ret
  rw [z1] at own3
  exact ⟨_, _, rfl, by omega, owns_base own3 (Nat.zero_le _), b1.trans (hb3.mono b1.size)⟩
end Go.Proofs.Ytancpkdkfemgfaa
