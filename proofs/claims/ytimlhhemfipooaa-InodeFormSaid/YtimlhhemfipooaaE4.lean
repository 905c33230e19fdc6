/- The program's digits lays the lowest n bytes of any number, the greatest first, in a row of its own, for n from 1 to 8. -/
import Derived.Test.YtimlhhemfipooaaRows
import Derived.Test.YtimlhhemfipooaaE3
namespace Go.Proofs.Ytimlhhemfipooaa
open Go Go.RowKit Go.Proofs

theorem T22 : ByteT Try.prog 26 5 := ⟨Try.underlying26, by kernel_rfl⟩

/-- The i-th byte of x from below. -/
def low (x : Int) (i : Nat) : UInt8 := UInt8.ofNat (x / 2 ^ (8 * i) % 256).toNat
/-- The k lowest bytes of x, the greatest first. -/
def dig (x : Int) : Nat → List UInt8
  | 0 => []
  | k + 1 => low x k :: dig x k
theorem dig_len (x : Int) (k : Nat) : (dig x k).length = k := by induction k with
  | zero => rfl
  | succ k ih => simp [dig, ih]
def part (x : Int) (n k : Nat) : List UInt8 := List.replicate (n - k) 0 ++ dig x k
theorem part_set (x : Int) (n k : Nat) (h : k < n) : (part x n k).set (n - 1 - k) (low x k) = part x n (k + 1) := by
  unfold part
  have e : n - k = n - (k + 1) + 1 := by omega
  rw [e, List.replicate_succ', List.append_assoc, List.set_append_right _ _ (by simp; omega)]
  simp [dig, show n - 1 - k - (n - (k + 1)) = 0 by omega]
theorem bv_low (x : Int) (k : Nat) : bv (low x k) = .int .u8 (x / 2 ^ (8 * k) % 256) := by
  unfold bv low
  rw [UInt8.toNat_ofNat']
  congr 1
  omega

set_option maxHeartbeats 400000 in
theorem digits_any (x m : Int) (w : World) (h1 : 1 ≤ m) (h8 : m ≤ 8) :
    Calls Try.prog 45 #[.int .i64 x, .int .i64 m] w fun e w' => ∃ A c, e = .returned (.slice A m.toNat c) ∧ Own w' w.heap.size 5 A m.toNat c (dig x m.toNat) ∧ Below w.heap.size w w' := by
  obtain ⟨n, rfl⟩ := Int.eq_ofNat_of_zero_le (show 0 ≤ m by omega)
  rw [Int.toNat_natCast]
  go_enter Try.func45, Try.ntmps45
  go_wp2_with (at_make; refine wp_make_b _ T22 rfl _ _ rfl _ _ n rfl rfl (by omega) ?_)
  intro w1 hown hb
  go_wp2
  go_loopw [11] (fun i wr => ∃ k : Nat, k ≤ n ∧ i = .int .i64 k ∧ Own wr w.heap.size 5 (some ⟨w.heap.size, 0, none⟩) n n (part x n k) ∧ Below w.heap.size w wr) (fun i _ => n - (intOf i).toNat)
  case atStart => exact ⟨0, Nat.zero_le _, rfl, by simpa [part, dig] using hown, hb⟩
  case round =>
    obtain ⟨k, hk, rfl, hown, hb⟩ := hrel
    by_cases hlt : k < n
    · obtain ⟨hc, hf⟩ := hown.at_ (n - 1 - k) (by omega)
      have hn := hown.set_ (n - 1 - k) (low x k)
      rw [part_set x n k hlt, bv_low] at hn
      go_wp2
      exact ⟨⟨k + 1, by omega, by go_num, hn, hb.setCell (Nat.le_refl _) _⟩, by simp [intOf]; omega⟩
    · obtain rfl : k = n := by omega
      go_wp2
      go_ret
      refine ⟨_, _, rfl, ?_, hb⟩
      simpa [part] using hown
end Go.Proofs.Ytimlhhemfipooaa
