/- The program's Take takes a number off any bytes, or refuses, as P1.1 says, for at most 2 to the 44 bytes. -/
import Derived.Test.YtimlhhemfipooaaE7
import Derived.Test.YtimlhhemfipooaaE2
import Derived.Deep.RegionWith
import Derived.BigQuiet
import Derived.Deep.QuietTactic
namespace Go.Proofs.Ytimlhhemfipooaa
open Go Go.RowKit Go.Proofs

set_option maxHeartbeats 1000000 in
theorem take_yes (A : Option Addr) (k c : Nat) (l : List UInt8) (n : Int) (w : World) (h : Sl w A k c l) (hk : k ≤ 17592186044416) (h1 : 1 ≤ n) (h7 : n ≤ 7) (hn : n ≤ (k : Int)) :
    Calls Try.prog 39 #[.slice A k c, .int .i64 n] w fun e w' => ∃ A' n' c', e = .returned (.tuple #[.int .i64 (numL (l.take n.toNat)), .slice A' n' c', .int .i64 0]) ∧ Own w' w.heap.size 5 A' n' c' (l.drop n.toNat) ∧ Below w.heap.size w w' := by
  obtain ⟨m, rfl⟩ := Int.eq_ofNat_of_zero_le (show 0 ≤ n by omega)
  rw [Int.toNat_natCast]
  have hc := h.cap
  have hm := h.max
  unfold maxLen at hm
  have hi1 : (0 : Int) ≤ (m : Int) := by omega
  have hi2 : (m : Int) ≤ (c : Int) := by omega
  have hi3 : m ≤ c := by omega
  have hi4 : m ≤ k := by omega
  have h9 : decide ((k : Int) < (m : Int)) = false := by simp; omega
  go_enter Try.func39, Try.ntmps39
  go_wp2_with fail
  have h2 := h.take (k := m) (by omega)
  obtain ⟨A2, hA2, h3⟩ : ∃ A2, (if c = m then A else Option.map (fun x => x.add m) A) = A2 ∧ Sl w A2 (k - m) (c - m) (l.drop m) := ⟨_, rfl, h.drop (by omega)⟩
  have hlen := Lib.hid h3.len
  go_region_with (first
    | (go_at_call 49; go_loud (refine (number_any _ _ _ (l.take m) _ (by first | exact h2 | exact h2.alloc _) (by omega)).mono ?_; rintro e w1 ⟨rfl, rfl⟩))
    | (go_at_call 44; refine (join_any _ _ _ [l.drop m] _ (by exact parts1 (w := w.drew) 26 h3) (by rw [tot1, hlen.out]; omega)).mono ?_; rintro e w1 ⟨A1, n1, c1, rfl, hown1, hb1⟩))
  all_goals
    go_wp2
    go_ret3
    rw [cat1] at hown1
    refine ⟨_, _, _, rfl, hown1.less (by simp), ?_⟩
    exact ((Below.refl w.heap.size w).drew.alloc (Nat.le_refl _) _).trans (hb1.mono (by simp))

set_option maxHeartbeats 400000 in
theorem take_bad (A : Option Addr) (k c : Nat) (n : Int) (w : World) (h : n < 1 ∨ 7 < n) :
    Calls Try.prog 39 #[.slice A k c, .int .i64 n] w fun e w' => e = .returned (.tuple #[.int .i64 0, .slice none 0 0, .int .i64 1]) ∧ w = w' := by
  rcases h with h | h
  all_goals
    go_enter Try.func39, Try.ntmps39
    go_wp2
    go_ret3
    exact ⟨rfl, rfl⟩
set_option maxHeartbeats 400000 in
theorem take_short (A : Option Addr) (k c : Nat) (n : Int) (w : World) (h1 : 1 ≤ n) (h7 : n ≤ 7) (hn : (k : Int) < n) :
    Calls Try.prog 39 #[.slice A k c, .int .i64 n] w fun e w' => e = .returned (.tuple #[.int .i64 0, .slice none 0 0, .int .i64 2]) ∧ w = w' := by
  go_enter Try.func39, Try.ntmps39
  go_wp2
  go_ret3
  exact ⟨rfl, rfl⟩
end Go.Proofs.Ytimlhhemfipooaa
