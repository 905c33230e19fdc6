/- The laws' helpers: the first six hundred bytes, and the document's examples. -/
import Derived.Test.YtmbffdhciolppaaDoorSumA
import Derived.Test.YtmbffdhciolppaaDoorMore
import Derived.BigQuiet
import Derived.Deep.QuietTactic
namespace Go.Proofs.YtmbffdhciolppaaDoor
open Go Go.RowKit Go.Proofs

set_option maxHeartbeats 400000 in
theorem few_any (A : Option Addr) (n c : Nat) (l : List UInt8) (w : World) (h : Sl w A n c l) :
    Calls Tryd.prog 9 #[.slice A n c] w fun e w' => ∃ A' n' c', e = .returned (.slice A' n' c') ∧ w = w' ∧ Sl w A' n' c' (l.take 600) := by
  have hc := h.cap
  have hm := h.max
  unfold maxLen at hm
  by_cases hn : 600 < n
  · go_enter Tryd.func9, Tryd.ntmps9
    go_wp2
    go_ret
    exact ⟨_, _, _, rfl, rfl, h.take (by omega)⟩
  · go_enter Tryd.func9, Tryd.ntmps9
    go_wp2
    go_ret
    exact ⟨_, _, _, rfl, rfl, by rw [List.take_of_length_le (by have := h.len; omega)]; exact h⟩

theorem nine : more 0 [49, 50, 51, 52, 53, 54, 55, 56, 57] = 3808858755 := by decide +kernel

set_option maxHeartbeats 400000 in
theorem shown_any (w : World) (ht : Tab w) :
    Calls Tryd.prog 8 #[] w fun e w' => e = .returned (.bool true) ∧ Below w.heap.size w w' := by
  have kc := fun (w : World) (C : Array Value) (n c : Nat) => Lib.run_convert_bytes_const (P := Tryd.prog) w 22 5 C n c Tryd.underlying22 Tryd.underlying5
  have hsl := sl_mark w 5 (9, 10) [49, 50, 51, 52, 53, 54, 55, 56, 57] #[.int .u8 49, .int .u8 50, .int .u8 51, .int .u8 52, .int .u8 53, .int .u8 54, .int .u8 55, .int .u8 56, .int .u8 57] rfl (by simp)
  have hb := (Below.refl w.heap.size w).alloc (Nat.le_refl _) (.cells #[.int .u8 49, .int .u8 50, .int .u8 51, .int .u8 52, .int .u8 53, .int .u8 54, .int .u8 55, .int .u8 56, .int .u8 57] 5 (9, 10))
  have ht1 := ht.below hb ht.1
  go_enter Tryd.func8, Tryd.ntmps8
  go_wp2_with fail
  refine (sum_any _ 9 9 _ _ hsl ht1).mono ?_
  rintro e w' ⟨rfl, rfl⟩
  rw [nine]
  go_wp2_with fail
  refine (sum_any _ 0 0 [] _ (sl_nil _) ht1).mono ?_
  rintro e w' ⟨rfl, rfl⟩
  rw [show more 0 [] = 0 from more_nil (by omega)]
  go_wp2
  go_ret
  exact ⟨by first | rfl | simp [go_sem], hb⟩
end Go.Proofs.YtmbffdhciolppaaDoor
