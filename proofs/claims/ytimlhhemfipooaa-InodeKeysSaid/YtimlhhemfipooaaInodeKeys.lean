/- Inodes: the walk of the law InodeKeys. -/
import Derived.Test.YtimlhhemfipooaaInK
namespace Go.Proofs.Ytimlhhemfipooaa
open Go Go.RowKit Go.Proofs

set_option maxRecDepth 100000 in
set_option maxHeartbeats 4000000 in
theorem inodeKeys_walk (a b : Int) (w : World) :
    Calls Try.prog 6 #[.int .i64 a, .int .i64 b] w fun e w' => e = .returned (.bool true) ∧ Below w.heap.size w w' := by
  have hg := grd_key
  have hq := eq_key
  go_enter Try.func6, Try.ntmps6
  go_wp2_with (first
    | (go_at_call 8; refine (shown_any w).mono ?_; rintro e w1 ⟨rfl, hb1⟩)
    | (go_at_call 22; refine (iKey_any a w1).mono ?_; rintro e w2 ⟨rfl, hb2⟩)
    | (go_at_call 23; refine (iEntryKey_any a b w2).mono ?_; rintro e w3 ⟨rfl, hb3⟩)
    | (go_at_call 24; refine (iDataKey_any a b w3).mono ?_; rintro e w4 ⟨rfl, hb4⟩)
    | (go_at_call 25; refine (iOrphanKey_any b w4).mono ?_; rintro e w5 ⟨rfl, hb5⟩))
  go_ret
  exact ⟨rfl, btr (btr (btr (btr hb1 hb2) hb3) hb4) hb5⟩
end Go.Proofs.Ytimlhhemfipooaa
