/- The law NumPuts: for every input it returns true, and what came in reads as it did. -/
import Derived.Test.YtnobhmfoblnpbaaE13
import Derived.Test.YtnobhmfoblnpbaaE1
import Derived.Test.YtnobhmfoblnpbaaLaw
namespace Go.Proofs.Ytnobhmfoblnpbaa
open Go Go.RowKit Go.Proofs

set_option maxHeartbeats 2000000 in
theorem numPuts_walk (A : Option Addr) (n c : Nat) (l : List UInt8) (x k : Int) (w : World) (h : Sl w A n c l) :
    Calls Try.prog 3 #[.slice A n c, .int .i64 x, .int .i64 k] w fun e w' => e = .returned (.bool true) ∧ Below w.heap.size w w' := by
  go_enter Try.func3, Try.ntmps3
  go_wp2_with fail
  refine (shown_any w).mono ?_
  rintro e w1 ⟨rfl, hb1⟩
  have h1 := h.below hb1
  go_wp2_with fail
  refine (few_any A n c l w1 h1).mono ?_
  rintro e w1' ⟨A2, n2, c2, rfl, rfl, h2⟩
  have hlen : n2 ≤ 1000 := by have := h2.len; rw [List.length_take] at this; omega
  generalize List.take 1000 l = l2 at h2
  go_wp2_with (at_builtin; refine wp_append_b _ T22 rfl _ _ rfl w1.heap.size _ 0 0 [] rfl (own_empty w1 5) A2 n2 c2 l2 rfl (h2.alloc _) (by omega) (by simp) ?_)
  intro A3 c3 w3 hown3 hb3
  have hb3 := below_new _ hb3 (Nat.le_refl _)
  have hz1 := hb1.size
  have hz3 := hb3.size
  have h3 := hown3.sl
  go_wp2_with fail
  refine (put_any A3 n2 c3 l2 x k w3 h3 (by omega)).mono ?_
  rintro e w4 ⟨A4, n4, c4, rfl, hown4, hb4⟩
  have hz4 := hb4.size
  have h4 := hown4.sl
  have h5 := h3.below hb4
  have h6 := (h2.below hb3).below hb4
  go_wp2_with fail
  have hc4 := conv_bs (w := w4.drew) h4
  go_region_with (go_at_call 12; refine (refput_any A2 n2 c2 l2 x k _ (by exact h6) (by omega)).mono ?_; rintro e w5 ⟨A5, n5, c5, rfl, hown5, hb5⟩; have hb5' : Below w4.heap.size w4 w5 := (Below.refl _ w4).drew.trans hb5; have hc41 := conv_bs (h4.below hb5'); have hc42 := conv_bs hown5.sl; have hc43 := conv_bs (h5.below hb5'); have hc44 := conv_bs (h6.below hb5'))
  all_goals
    go_wp2
    go_ret
    exact ⟨by first | rfl | simp [go_sem], hb1.trans ((hb3.mono hz1).trans ((hb4.mono (by omega)).trans (hb5'.mono (by omega))))⟩
end Go.Proofs.Ytnobhmfoblnpbaa
