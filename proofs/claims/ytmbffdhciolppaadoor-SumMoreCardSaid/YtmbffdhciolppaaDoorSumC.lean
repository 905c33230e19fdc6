/- The laws SumSums and SumMore: for every input they return true, and what came in reads as it did. -/
import Derived.Test.YtmbffdhciolppaaDoorSumB
namespace Go.Proofs.YtmbffdhciolppaaDoor
open Go Go.RowKit Go.Proofs

theorem conv_bs {w : World} {A : Option Addr} {n c : Nat} {l : List UInt8} (h : Sl w A n c l) : (convert 22 9 (.slice A n c)).run Tryd.prog w = .ok (.string ⟨l.toArray⟩) w :=
  run_conv_bs 22 9 5 T22 Tryd.underlying5 Tryd.underlying9 h

set_option maxHeartbeats 1000000 in
theorem sumSums_walk (A : Option Addr) (n c : Nat) (l : List UInt8) (w : World) (h : Sl w A n c l) (ht : Tab w) :
    Calls Tryd.prog 3 #[.slice A n c] w fun e w' => e = .returned (.bool true) ∧ Below w.heap.size w w' := by
  go_enter Tryd.func3, Tryd.ntmps3
  go_wp2_with fail
  refine (shown_any w ht).mono ?_
  rintro e w1 ⟨rfl, hb1⟩
  have h1 := h.below hb1
  have ht1 := ht.below hb1 ht.1
  go_wp2_with fail
  refine (few_any A n c l w1 h1).mono ?_
  rintro e w1' ⟨A2, n2, c2, rfl, rfl, h2⟩
  have hlen : n2 ≤ 600 := by have := h2.len; rw [List.length_take] at this; omega
  generalize List.take 600 l = l2 at h2
  go_wp2_with (at_builtin; refine wp_append_b _ T22 rfl _ _ rfl w1.heap.size _ 0 0 [] rfl (own_empty w1 5) A2 n2 c2 l2 rfl (h2.alloc _) (by omega) (by simp) ?_)
  intro A3 c3 w3 hown3 hb3
  have hb3 := below_new _ hb3 (Nat.le_refl _)
  have hz1 := hb1.size
  have hz3 := hb3.size
  have h3 := hown3.sl
  have h4 := h2.below hb3
  have ht3 := ht1.below hb3 ht1.1
  have hc3 := conv_bs h3
  have hc4 := conv_bs h4
  go_wp2_with fail
  refine (sum_any A3 n2 c3 l2 w3 h3 ht3).mono ?_
  rintro e w4 ⟨rfl, rfl⟩
  go_wp2_with fail
  refine (refsum_any A2 n2 c2 l2 w3 h4).mono ?_
  rintro e w4 ⟨rfl, rfl⟩
  go_wp2
  go_ret
  exact ⟨by first | rfl | simp [go_sem], hb1.trans (hb3.mono hz1)⟩

set_option maxHeartbeats 1000000 in
theorem sumMore_walk (s : Nat) (hs : s < 4294967296) (A : Option Addr) (n c : Nat) (l : List UInt8) (w : World) (h : Sl w A n c l) (ht : Tab w) :
    Calls Tryd.prog 4 #[.int .u32 (s : Nat), .slice A n c] w fun e w' => e = .returned (.bool true) ∧ Below w.heap.size w w' := by
  go_enter Tryd.func4, Tryd.ntmps4
  go_wp2_with fail
  refine (shown_any w ht).mono ?_
  rintro e w1 ⟨rfl, hb1⟩
  have h1 := h.below hb1
  have ht1 := ht.below hb1 ht.1
  go_wp2_with fail
  refine (few_any A n c l w1 h1).mono ?_
  rintro e w1' ⟨A2, n2, c2, rfl, rfl, h2⟩
  generalize List.take 600 l = l2 at h2
  go_wp2_with fail
  refine (more_any s hs A2 n2 c2 l2 w1 h2 ht1).mono ?_
  rintro e w4 ⟨rfl, rfl⟩
  go_wp2_with fail
  refine (refmore_any s hs A2 n2 c2 l2 w1 h2).mono ?_
  rintro e w4 ⟨rfl, rfl⟩
  go_wp2
  go_ret
  exact ⟨by first | rfl | simp [go_sem], hb1⟩
end Go.Proofs.YtmbffdhciolppaaDoor
