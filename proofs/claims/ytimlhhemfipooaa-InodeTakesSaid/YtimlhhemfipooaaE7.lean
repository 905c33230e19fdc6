/- The reference's Put lays any number behind any bytes as P1.1 says, for at most 2 to the 44 bytes. -/
import Derived.Test.YtimlhhemfipooaaE6
namespace Go.Proofs.Ytimlhhemfipooaa
open Go Go.RowKit Go.Proofs

theorem dig_take (x : Int) (n j : Nat) (h : j < n) : (dig x n).take (j + 1) = (dig x n).take j ++ [low x (n - 1 - j)] := by
  induction n generalizing j with
  | zero => omega
  | succ n ih =>
    rcases j with _ | j
    · simp [dig]
    · have := ih j (by omega)
      simp only [dig, List.take_succ_cons, this, List.cons_append]
      rw [show n + 1 - 1 - (j + 1) = n - 1 - j by omega]
theorem low_u64 (x : Int) (k : Nat) (hk : k ≤ 7) : bv (low x k) = .int .u8 (IntKind.u64.wrap x / 2 ^ (8 * k) % 256) := by
  rw [bv_low, IntKind.wrap_u64]
  congr 1
  have hc : k = 0 ∨ k = 1 ∨ k = 2 ∨ k = 3 ∨ k = 4 ∨ k = 5 ∨ k = 6 ∨ k = 7 := by omega
  rcases hc with rfl | rfl | rfl | rfl | rfl | rfl | rfl | rfl
  · rw [show (2 : Int) ^ (8 * 0) = 1 by decide]; omega
  · rw [show (2 : Int) ^ (8 * 1) = 256 by decide]; omega
  · rw [show (2 : Int) ^ (8 * 2) = 65536 by decide]; omega
  · rw [show (2 : Int) ^ (8 * 3) = 16777216 by decide]; omega
  · rw [show (2 : Int) ^ (8 * 4) = 4294967296 by decide]; omega
  · rw [show (2 : Int) ^ (8 * 5) = 1099511627776 by decide]; omega
  · rw [show (2 : Int) ^ (8 * 6) = 281474976710656 by decide]; omega
  · rw [show (2 : Int) ^ (8 * 7) = 72057594037927936 by decide]; omega

/-- What has been put behind j rounds of the reference's loop. -/
def putTo (l : List UInt8) (x : Int) (n j : Nat) : List UInt8 := l ++ (dig x n).take j
theorem putTo_zero (l : List UInt8) (x : Int) (n : Nat) : putTo l x n 0 = l := by simp [putTo]
theorem putTo_next (l : List UInt8) (x : Int) (n j : Nat) (h : j < n) : putTo l x n (j + 1) = putTo l x n j ++ [low x (n - 1 - j)] := by
  unfold putTo; rw [dig_take x n j h, List.append_assoc]
theorem putTo_down (l : List UInt8) (x : Int) (m q : Nat) (h : q + 1 ≤ m) : putTo l x m (m - (q + 1)) ++ [low x q] = putTo l x m (m - q) := by
  rw [show m - q = m - (q + 1) + 1 by omega, putTo_next l x m _ (by omega), show m - 1 - (m - (q + 1)) = q by omega]
theorem putTo_len (l : List UInt8) (x : Int) (n j : Nat) (h : j ≤ n) : (putTo l x n j).length = l.length + j := by
  unfold putTo; rw [List.length_append, List.length_take, dig_len]; omega
theorem putTo_all (l : List UInt8) (x : Int) (n : Nat) : putTo l x n n = l ++ dig x n := by
  unfold putTo; rw [List.take_of_length_le (by rw [dig_len]; omega)]

set_option maxHeartbeats 400000 in
theorem refput_any (A : Option Addr) (k c : Nat) (l : List UInt8) (x n : Int) (w : World) (h : Sl w A k c l) (hk : k ≤ 17592186044416) :
    Calls Try.prog 28 #[.slice A k c, .int .i64 x, .int .i64 n] w fun e w' => ∃ A' n' c', e = .returned (.slice A' n' c') ∧ Own w' w.heap.size 5 A' n' c' (putS l x n) ∧ Below w.heap.size w w' := by
  have Hl := Lib.hid h.len
  have h0 : Own (w.alloc (.cells #[] 5)) w.heap.size 5 (some ⟨w.heap.size, 0, none⟩) 0 0 [] := own_empty w 5
  have h' := h.alloc (.cells #[] 5)
  by_cases hn : 1 ≤ n ∧ n ≤ 8
  · have hp := Lib.hid (show putS l x n = l ++ dig x n.toNat from if_pos hn)
    obtain ⟨h1, h8⟩ := hn
    obtain ⟨m, rfl⟩ := Int.eq_ofNat_of_zero_le (show 0 ≤ n by omega)
    rw [Int.toNat_natCast] at hp
    go_enter Try.func28, Try.ntmps28
    go_wp2_with (at_builtin; refine wp_append_b _ T22 rfl _ _ rfl w.heap.size _ 0 0 [] rfl h0 A k c l rfl h' (by omega) (by simp) ?_)
    intro A1 c1 w1 hown1 hb1
    have hb1 := below_new _ hb1 (Nat.le_refl _)
    go_wp2
    go_loopw [7, 8] (fun o i wr => ∃ (t : Nat) (A' : Option Addr) (n' c' : Nat), t ≤ m ∧ i = .int .i64 ((t : Int) - 1) ∧ o = .slice A' n' c' ∧ Own wr w.heap.size 5 A' n' c' (putTo l x m (m - t)) ∧ Below w.heap.size w wr) (fun _ i _ => (intOf i + 1).toNat)
    case atStart => exact ⟨m, _, _, _, Nat.le_refl _, rfl, rfl, by rw [Nat.sub_self, putTo_zero]; simpa using hown1, hb1⟩
    case round =>
      obtain ⟨t, A', n', c', ht, rfl, rfl, hown, hb⟩ := hrel
      rcases t with _ | q
      · rw [show m - 0 = m from rfl, putTo_all, ← hp.out] at hown
        go_wp2
        go_ret
        exact ⟨_, _, _, rfl, hown, hb⟩
      · rw [show (((q + 1 : Nat) : Int) - 1) = (q : Int) by omega]
        have hl2 := hown.len
        rw [putTo_len _ _ _ _ (by omega), Hl.out] at hl2
        have hone := own_one wr 5 (low x q) _ (low_u64 x q (by omega))
        have hown' := hown.alloc (.cells #[.int .u8 (IntKind.u64.wrap x / 2 ^ (8 * q) % 256)] 5)
        have hn' : n' ≤ 17592186044424 := by omega
        clear hl2
        go_wp2_with (at_builtin; refine wp_append_b _ T22 rfl _ _ rfl w.heap.size _ _ _ _ rfl hown' _ _ _ _ rfl hone.sl (by omega) (by have := hb.size; simp; omega) ?_)
        intro A2 c2 w2 hown2 hb2
        have hb2 := below_new _ hb2 hb.size
        rw [putTo_down l x m q ht] at hown2
        go_wp2
        exact ⟨⟨q, _, _, _, by omega, rfl, rfl, hown2, hb.trans hb2⟩, by simp [intOf]⟩
  · have hp := Lib.hid (show putS l x n = l from if_neg hn)
    rcases (by omega : n < 1 ∨ 8 < n) with h1 | h1
    all_goals
      go_enter Try.func28, Try.ntmps28
      go_wp2_with (at_builtin; refine wp_append_b _ T22 rfl _ _ rfl w.heap.size _ 0 0 [] rfl h0 A k c l rfl h' (by omega) (by simp) ?_)
      intro A1 c1 w1 hown1 hb1
      have hb1 := below_new _ hb1 (Nat.le_refl _)
      go_wp2
      go_ret
      rw [hp.out]
      exact ⟨_, _, _, rfl, by simpa using hown1, hb1⟩
end Go.Proofs.Ytimlhhemfipooaa
