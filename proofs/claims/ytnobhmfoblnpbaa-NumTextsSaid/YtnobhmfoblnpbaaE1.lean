/- The laws' helper few hands back the first thousand bytes of what it is handed, for every slice that reads as bytes. -/
import Derived.Test.YtnobhmfoblnpbaaRows
import Derived.Test.YtnobhmfoblnpbaaBase
namespace Go.Proofs.Ytnobhmfoblnpbaa
open Go Go.RowKit Go.Proofs

set_option maxHeartbeats 400000 in
theorem few_any (A : Option Addr) (n c : Nat) (l : List UInt8) (w : World) (h : Sl w A n c l) :
    Calls Try.prog 10 #[.slice A n c] w fun e w' => ∃ A' n' c', e = .returned (.slice A' n' c') ∧ w = w' ∧ Sl w A' n' c' (l.take 1000) := by
  have hc := h.cap
  have hm := h.max
  unfold maxLen at hm
  by_cases hn : 1000 < n
  · go_enter Try.func10, Try.ntmps10
    go_wp2

    go_ret
    exact ⟨_, _, _, rfl, rfl, h.take (by omega)⟩
  · go_enter Try.func10, Try.ntmps10
    go_wp2
    go_ret
    exact ⟨_, _, _, rfl, rfl, by rw [List.take_of_length_le (by have := h.len; omega)]; exact h⟩
end Go.Proofs.Ytnobhmfoblnpbaa
