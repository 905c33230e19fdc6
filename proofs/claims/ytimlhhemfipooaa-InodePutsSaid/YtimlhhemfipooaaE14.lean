/- The reference's Take takes a number off any bytes, or refuses, as P1.1 says. -/
import Derived.Test.YtimlhhemfipooaaE8
namespace Go.Proofs.Ytimlhhemfipooaa
open Go Go.RowKit Go.Proofs

set_option maxHeartbeats 400000 in
theorem reftake_bad (A : Option Addr) (k c : Nat) (n : Int) (w : World) (h : n < 1 ∨ 7 < n) :
    Calls Try.prog 36 #[.slice A k c, .int .i64 n] w fun e w' => e = .returned (.tuple #[.int .i64 0, .slice none 0 0, .int .i64 1]) ∧ w = w' := by
  rcases h with h | h
  all_goals
    go_enter Try.func36, Try.ntmps36
    go_wp2
    go_ret3
    exact ⟨rfl, rfl⟩
set_option maxHeartbeats 400000 in
theorem reftake_short (A : Option Addr) (k c : Nat) (n : Int) (w : World) (h1 : 1 ≤ n) (h7 : n ≤ 7) (hn : (k : Int) < n) :
    Calls Try.prog 36 #[.slice A k c, .int .i64 n] w fun e w' => e = .returned (.tuple #[.int .i64 0, .slice none 0 0, .int .i64 2]) ∧ w = w' := by
  go_enter Try.func36, Try.ntmps36
  go_wp2
  go_ret3
  exact ⟨rfl, rfl⟩

set_option maxHeartbeats 400000 in
theorem reftake_yes (A : Option Addr) (k c : Nat) (l : List UInt8) (n : Int) (w : World) (h : Sl w A k c l) (hk : k ≤ 17592186044416) (h1 : 1 ≤ n) (h7 : n ≤ 7) (hn : n ≤ (k : Int)) :
    Calls Try.prog 36 #[.slice A k c, .int .i64 n] w fun e w' => ∃ A' n' c', e = .returned (.tuple #[.int .i64 (numL (l.take n.toNat)), .slice A' n' c', .int .i64 0]) ∧ Own w' w.heap.size 5 A' n' c' (l.drop n.toNat) ∧ Below w.heap.size w w' := by
  obtain ⟨m, rfl⟩ := Int.eq_ofNat_of_zero_le (show 0 ≤ n by omega)
  rw [Int.toNat_natCast]
  have hc := h.cap
  have hm := h.max
  unfold maxLen at hm
  have hi3 : m ≤ c := by omega
  go_enter Try.func36, Try.ntmps36
  go_wp2
  go_loop [7, 8] (fun x i => ∃ j : Nat, j ≤ m ∧ i = .int .i64 j ∧ x = .int .i64 (numL (l.take j))) (fun _ i => m - (intOf i).toNat)
  case atStart => exact ⟨0, Nat.zero_le _, rfl, rfl⟩
  case round =>
    obtain ⟨j, hj, rfl, rfl⟩ := hrel
    by_cases hlt : j < m
    · obtain ⟨ad, rfl, hb, hcell⟩ := h.cell (k := j) (by omega)
      have hb1 := byt_le l j
      have hx' : numL (l.take j) < 36028797018963968 := by
        have h1 := numL_lt (l.take j)
        have h2 : (256 : Nat) ^ (l.take j).length ≤ 256 ^ 6 := Nat.pow_le_pow_right (by omega) (by rw [List.length_take]; omega)
        omega
      have hl := Lib.hid h.len
      have hi : j < k := by omega
      go_wp2
      refine ⟨⟨j + 1, by omega, by go_num, ?_⟩, by simp [intOf]; omega⟩
      rw [numL_next _ _ (by rw [hl.out]; omega)]
      go_num
    · obtain rfl : j = m := by omega
      obtain ⟨A2, hA2, h3⟩ : ∃ A2, (if c = j then A else Option.map (fun x => x.add j) A) = A2 ∧ Sl w A2 (k - j) (c - j) (l.drop j) := ⟨_, rfl, h.drop (by omega)⟩
      go_wp2_with (at_builtin; refine wp_append_b _ T22 rfl _ _ rfl w.heap.size _ 0 0 [] rfl (own_empty w 5) A2 (k - j) (c - j) _ rfl (h3.alloc _) (by omega) (by simp) ?_)
      intro A3 c3 w3 hown3 hb3
      go_wp2
      go_ret3
      exact ⟨_, _, _, rfl, by simpa using hown3, below_new _ hb3 (Nat.le_refl _)⟩
end Go.Proofs.Ytimlhhemfipooaa
