/- The law SealSeals: for every input it returns true, and what came in reads as it did. -/
import Derived.Test.YtkkmnmiekmfjiaaDoorSealM
import Derived.Test.YtkkmnmiekmfjiaaDoorLaw
namespace Go.Proofs.YtkkmnmiekmfjiaaDoor
open Go Go.RowKit Go.Proofs

set_option maxRecDepth 10000 in
set_option maxHeartbeats 4000000 in
theorem sealSeals_walk (h : Hd) (A : Option Addr) (n c : Nat) (l : List UInt8) (w : World) (hs : Sl w A n c l) (ht : Tab w) :
    Calls Tryd.prog 3 #[.agg #[.int .i64 h.kind, .int .i64 h.addr, .int .i64 h.count, .int .i64 h.level, .int .i64 h.gen], .slice A n c] w fun e w' => e = .returned (.bool true) ∧ Below w.heap.size w w' := by
  have hcap := hs.cap
  have hm := hs.max
  unfold maxLen at hm
  have hb1 : Below w.heap.size w (w.alloc (.cells #[.int .i64 h.kind, .int .i64 h.addr, .int .i64 h.count, .int .i64 h.level, .int .i64 h.gen] 23)) := (Below.refl _ _).alloc (Nat.le_refl _) _
  by_cases hn : (300 : Int) < (n : Int)
  · have h300 := hs.take (k := 300) (by omega)
    generalize List.take 300 l = l1 at h300
    go_enter Tryd.func3, Tryd.ntmps3
    go_wp2_with fail
    refine (shown_any _ (ht.below hb1 ht.1)).mono ?_
    rintro e w2 ⟨rfl, hb2⟩
    have hB2 := hb1.trans (hb2.mono (by simp))
    have H2 : HB w2 w.heap.size h := HB.below ⟨_, heap_alloc_new w _⟩ hb2 (by simp)
    have hz2 : w.heap.size < w2.heap.size := by have := hb2.size; rw [World.size_alloc] at this; omega
    have hs2 := (h300).below hB2
    go_wp2_with (first
      | (at_builtin; refine wp_append_b _ T22 rfl _ _ rfl w2.heap.size _ 0 0 [] rfl (own_empty w2 5) A 300 c _ rfl (hs2.alloc _) (by omega) (by simp) ?_)
      | fail)
    intro A3 c3 w3 own3 hb3
    have hb3 := below_new _ hb3 (Nat.le_refl _)
    have hB3 := hB2.trans (hb3.mono hB2.size)
    have H3 := H2.below hb3 hz2
    have hz3 := hb3.size
    go_wp2_with (first
      | (refine wp_load_hd rfl (.tmp 2) rfl w.heap.size rfl h H3 ?_)
      | fail)
    refine (seal_any h A3 _ c3 _ w3 own3.sl (ht.below hB3 ht.1)).mono ?_
    rintro e w4 ⟨A4, n4, c4, rfl, own4, _, hb4⟩
    have hB4 := hB3.trans (hb4.mono hB3.size)
    have H4 := H3.below hb4 (by omega)
    have hz4 := hb4.size
    go_wp2_with (first
      | (refine wp_load_hd rfl (.tmp 2) rfl w.heap.size rfl h H4 ?_)
      | fail)
    refine (refseal_any h A 300 c _ w4 ((hs2.below hb3).below hb4)).mono ?_
    rintro e w5 ⟨A5, n5, c5, rfl, hs5, hb5⟩
    have hB5 := hB4.trans (hb5.mono hB4.size)
    have k1 := str_bs (own4.sl.below hb5)
    have k2 := str_bs hs5
    have k3 := str_bs ((own3.sl.below hb4).below hb5)
    have k4 := str_bs (((hs2.below hb3).below hb4).below hb5)
    go_wp2
    go_ret
    exact ⟨by first | rfl | simp [go_sem], hB5⟩
  · clear hm
    have hm : n ≤ 300 := by omega
    go_enter Tryd.func3, Tryd.ntmps3
    go_wp2_with fail
    refine (shown_any _ (ht.below hb1 ht.1)).mono ?_
    rintro e w2 ⟨rfl, hb2⟩
    have hB2 := hb1.trans (hb2.mono (by simp))
    have H2 : HB w2 w.heap.size h := HB.below ⟨_, heap_alloc_new w _⟩ hb2 (by simp)
    have hz2 : w.heap.size < w2.heap.size := by have := hb2.size; rw [World.size_alloc] at this; omega
    have hs2 := (hs).below hB2
    go_wp2_with (first
      | (at_builtin; refine wp_append_b _ T22 rfl _ _ rfl w2.heap.size _ 0 0 [] rfl (own_empty w2 5) A n c _ rfl (hs2.alloc _) (by omega) (by simp) ?_)
      | fail)
    intro A3 c3 w3 own3 hb3
    have hb3 := below_new _ hb3 (Nat.le_refl _)
    have hB3 := hB2.trans (hb3.mono hB2.size)
    have H3 := H2.below hb3 hz2
    have hz3 := hb3.size
    go_wp2_with (first
      | (refine wp_load_hd rfl (.tmp 2) rfl w.heap.size rfl h H3 ?_)
      | fail)
    refine (seal_any h A3 _ c3 _ w3 own3.sl (ht.below hB3 ht.1)).mono ?_
    rintro e w4 ⟨A4, n4, c4, rfl, own4, _, hb4⟩
    have hB4 := hB3.trans (hb4.mono hB3.size)
    have H4 := H3.below hb4 (by omega)
    have hz4 := hb4.size
    go_wp2_with (first
      | (refine wp_load_hd rfl (.tmp 2) rfl w.heap.size rfl h H4 ?_)
      | fail)
    refine (refseal_any h A n c _ w4 ((hs2.below hb3).below hb4)).mono ?_
    rintro e w5 ⟨A5, n5, c5, rfl, hs5, hb5⟩
    have hB5 := hB4.trans (hb5.mono hB4.size)
    have k1 := str_bs (own4.sl.below hb5)
    have k2 := str_bs hs5
    have k3 := str_bs ((own3.sl.below hb4).below hb5)
    have k4 := str_bs (((hs2.below hb3).below hb4).below hb5)
    go_wp2
    go_ret
    exact ⟨by first | rfl | simp [go_sem], hB5⟩
end Go.Proofs.YtkkmnmiekmfjiaaDoor
