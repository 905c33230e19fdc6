/- The program's number reads up to seven bytes as a number, the first the greatest, for every slice of at most seven bytes. -/
import Derived.Test.YtimlhhemfipooaaRows
import Derived.Test.YtimlhhemfipooaaBase
import Derived.Test.YtimlhhemfipooaaE3
namespace Go.Proofs.Ytimlhhemfipooaa
open Go Go.RowKit Go.Proofs

def numL (l : List UInt8) : Nat := l.foldl (fun a b => 256 * a + b.toNat) 0
theorem numL_snoc (l : List UInt8) (b : UInt8) : numL (l ++ [b]) = 256 * numL l + b.toNat := by simp [numL]
theorem numL_lt (l : List UInt8) : numL l < 256 ^ l.length := by
  suffices h : ∀ n (l : List UInt8), l.length = n → numL l < 256 ^ n from h _ l rfl
  intro n
  induction n with
  | zero => intro l hl; rw [List.eq_nil_of_length_eq_zero hl]; simp [numL]
  | succ n ih =>
    intro l hl
    have hne : l ≠ [] := by intro e; rw [e] at hl; simp at hl
    have hd := List.dropLast_concat_getLast hne
    have h1 := ih l.dropLast (by rw [List.length_dropLast]; omega)
    have h2 := (l.getLast hne).toNat_lt
    rw [← hd, numL_snoc, Nat.pow_succ]
    omega
theorem numL_next (l : List UInt8) (k : Nat) (h : k < l.length) : numL (l.take (k + 1)) = 256 * numL (l.take k) + byt l k := by
  rw [take_next l k h, numL_snoc]; have := byt_le l k; simp; omega

set_option maxHeartbeats 400000 in
theorem number_any (A : Option Addr) (n c : Nat) (l : List UInt8) (w : World) (h : Sl w A n c l) (h7 : n ≤ 7) :
    Calls Try.prog 49 #[.slice A n c] w fun e w' => e = .returned (.int .i64 (numL l)) ∧ w = w' := by
  have hc := h.cap
  have hm := h.max
  unfold maxLen at hm
  go_enter Try.func49, Try.ntmps49
  go_wp2
  go_loop [3, 8] (fun x i => ∃ k : Nat, k ≤ n ∧ i = .int .i64 k ∧ x = .int .i64 (numL (l.take k))) (fun _ i => n - (intOf i).toNat)
  case atStart => exact ⟨0, Nat.zero_le _, rfl, rfl⟩
  case round =>
    obtain ⟨k, hk, rfl, rfl⟩ := hrel
    by_cases hlt : k < n
    · obtain ⟨ad, rfl, hb, hcell⟩ := h.cell hlt
      have hb1 := byt_le l k
      have hx' : numL (l.take k) < 36028797018963968 := by
        have h1 := numL_lt (l.take k)
        have h2 : (256 : Nat) ^ (l.take k).length ≤ 256 ^ 6 := Nat.pow_le_pow_right (by omega) (by rw [List.length_take]; omega)
        omega
      go_wp2
      refine ⟨⟨k + 1, by omega, by go_num, ?_⟩, by simp [intOf]; omega⟩
      have hl := h.len
      rw [numL_next _ _ (by omega), ← or_byte _ _ hx' (by omega)]
    · go_wp2
      go_ret
      exact ⟨ret_int (by rw [List.take_of_length_le (by have := h.len; omega)]), rfl⟩
end Go.Proofs.Ytimlhhemfipooaa
