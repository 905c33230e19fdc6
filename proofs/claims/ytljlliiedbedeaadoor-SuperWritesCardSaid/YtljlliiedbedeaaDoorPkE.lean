/- Plain facts about a number shifted by a byte and a byte laid under it. The program's number reads up to seven bytes as a number, the first the greatest, for every slice of at most seven bytes. The program's digits lays the lowest n bytes of any number, the greatest first, in a row of its own, for n from 1 to 8. The program's join lays its parts one behind the other in a row of its own, for parts of together at most 2 to the 45 bytes. The program's Put lays any number behind any bytes as P1.1 says, for at most 2 to the 44 bytes. The reference's Put lays any number behind any bytes as P1.1 says, for at most 2 to the 44 bytes. The program's Take takes a number off any bytes, or refuses, as P1.1 says, for at most 2 to the 44 bytes. The reference's Take takes a number off any bytes, or refuses, as P1.1 says. -/
import Derived.Test.YtljlliiedbedeaaDoorBase
import Derived.Test.YtljlliiedbedeaaDoorRows
import Derived.Deep.RegionWith
import Derived.BigQuiet
import Derived.Deep.QuietTactic
namespace Go.Proofs.YtljlliiedbedeaaDoor
open Go Go.RowKit Go.Proofs

theorem ofInt_small (a : Nat) (ha : a < 9223372036854775808) : (BitVec.ofInt 64 (a : Int)).toNat = a := by
  rw [BitVec.ofInt_natCast, BitVec.toNat_ofNat]; exact Nat.mod_eq_of_lt (by omega)
theorem or_byte_nat (a b : Nat) (hb : b < 256) : a * 256 ||| b = a * 256 + b := by
  have h := Nat.two_pow_add_eq_or_of_lt (i := 8) (b := b) (by omega) a
  rw [show (2 : Nat) ^ 8 = 256 from rfl] at h
  rw [Nat.mul_comm]; exact h.symm
theorem or_byte (a b : Nat) (ha : a < 36028797018963968) (hb : b < 256) : bits .or .i64 ((a : Int) * 256) (b : Int) = ((256 * a + b : Nat) : Int) := by
  show IntKind.i64.wrap ((BitVec.ofInt 64 ((a : Int) * 256) ||| BitVec.ofInt 64 (b : Int)).toNat : Int) = _
  rw [show ((a : Int) * 256) = ((a * 256 : Nat) : Int) by omega, BitVec.toNat_or, ofInt_small _ (by omega), ofInt_small _ (by omega), or_byte_nat _ _ hb, IntWalk.i64_in _ (by omega)]
  omega
end Go.Proofs.YtljlliiedbedeaaDoor

namespace Go.Proofs.YtljlliiedbedeaaDoor
open Go Go.RowKit Go.Proofs

def numL (l : List UInt8) : Nat := l.foldl (fun a b => 256 * a + b.toNat) 0
theorem numL_snoc (l : List UInt8) (b : UInt8) : numL (l ++ [b]) = 256 * numL l + b.toNat := by simp [numL]
theorem numL_lt (l : List UInt8) : numL l < 256 ^ l.length := by
  suffices h : ∀ n (l : List UInt8), l.length = n → numL l < 256 ^ n from h _ l rfl
  intro n
  induction n with
  | zero => intro l hl; rw [List.eq_nil_of_length_eq_zero hl]; simp [numL]
  | succ n ih =>
    intro l hl
    have hne : l ≠ [] := by intro e; rw [e] at hl; simp at hl
    have hd := List.dropLast_concat_getLast hne
    have h1 := ih l.dropLast (by rw [List.length_dropLast]; omega)
    have h2 := (l.getLast hne).toNat_lt
    rw [← hd, numL_snoc, Nat.pow_succ]
    omega
theorem numL_next (l : List UInt8) (k : Nat) (h : k < l.length) : numL (l.take (k + 1)) = 256 * numL (l.take k) + byt l k := by
  rw [take_next l k h, numL_snoc]; have := byt_le l k; simp; omega

set_option maxHeartbeats 400000 in
theorem number_any (A : Option Addr) (n c : Nat) (l : List UInt8) (w : World) (h : Sl w A n c l) (h7 : n ≤ 7) :
    Calls Tryd.prog 51 #[.slice A n c] w fun e w' => e = .returned (.int .i64 (numL l)) ∧ w = w' := by
  have hc := h.cap
  have hm := h.max
  unfold maxLen at hm
  go_enter Tryd.func51, Tryd.ntmps51
  go_wp2
  go_loop [3, 8] (fun x i => ∃ k : Nat, k ≤ n ∧ i = .int .i64 k ∧ x = .int .i64 (numL (l.take k))) (fun _ i => n - (intOf i).toNat)
  case atStart => exact ⟨0, Nat.zero_le _, rfl, rfl⟩
  case round =>
    obtain ⟨k, hk, rfl, rfl⟩ := hrel
    by_cases hlt : k < n
    · obtain ⟨ad, rfl, hb, hcell⟩ := h.cell hlt
      have hb1 := byt_le l k
      have hx' : numL (l.take k) < 36028797018963968 := by
        have h1 := numL_lt (l.take k)
        have h2 : (256 : Nat) ^ (l.take k).length ≤ 256 ^ 6 := Nat.pow_le_pow_right (by omega) (by rw [List.length_take]; omega)
        omega
      go_wp2
      refine ⟨⟨k + 1, by omega, by go_num, ?_⟩, by simp [intOf]; omega⟩
      have hl := h.len
      rw [numL_next _ _ (by omega), ← or_byte _ _ hx' (by omega)]
    · go_wp2
      go_ret
      exact ⟨ret_int (by rw [List.take_of_length_le (by have := h.len; omega)]), rfl⟩
end Go.Proofs.YtljlliiedbedeaaDoor

namespace Go.Proofs.YtljlliiedbedeaaDoor
open Go Go.RowKit Go.Proofs

theorem T22 : ByteT Tryd.prog 28 5 := ⟨Tryd.underlying28, by kernel_rfl⟩

/-- The i-th byte of x from below. -/
def low (x : Int) (i : Nat) : UInt8 := UInt8.ofNat (x / 2 ^ (8 * i) % 256).toNat
/-- The k lowest bytes of x, the greatest first. -/
def dig (x : Int) : Nat → List UInt8
  | 0 => []
  | k + 1 => low x k :: dig x k
theorem dig_len (x : Int) (k : Nat) : (dig x k).length = k := by induction k with
  | zero => rfl
  | succ k ih => simp [dig, ih]
def part (x : Int) (n k : Nat) : List UInt8 := List.replicate (n - k) 0 ++ dig x k
theorem part_set (x : Int) (n k : Nat) (h : k < n) : (part x n k).set (n - 1 - k) (low x k) = part x n (k + 1) := by
  unfold part
  have e : n - k = n - (k + 1) + 1 := by omega
  rw [e, List.replicate_succ', List.append_assoc, List.set_append_right _ _ (by simp; omega)]
  simp [dig, show n - 1 - k - (n - (k + 1)) = 0 by omega]
theorem bv_low (x : Int) (k : Nat) : bv (low x k) = .int .u8 (x / 2 ^ (8 * k) % 256) := by
  unfold bv low
  rw [UInt8.toNat_ofNat']
  congr 1
  omega

set_option maxHeartbeats 400000 in
theorem digits_any (x m : Int) (w : World) (h1 : 1 ≤ m) (h8 : m ≤ 8) :
    Calls Tryd.prog 48 #[.int .i64 x, .int .i64 m] w fun e w' => ∃ A c, e = .returned (.slice A m.toNat c) ∧ Own w' w.heap.size 5 A m.toNat c (dig x m.toNat) ∧ Below w.heap.size w w' := by
  obtain ⟨n, rfl⟩ := Int.eq_ofNat_of_zero_le (show 0 ≤ m by omega)
  rw [Int.toNat_natCast]
  go_enter Tryd.func48, Tryd.ntmps48
  go_wp2_with (at_make; refine wp_make_b _ T22 rfl _ _ rfl _ _ n rfl rfl (by omega) ?_)
  intro w1 hown hb
  go_wp2
  go_loopw [11] (fun i wr => ∃ k : Nat, k ≤ n ∧ i = .int .i64 k ∧ Own wr w.heap.size 5 (some ⟨w.heap.size, 0, none⟩) n n (part x n k) ∧ Below w.heap.size w wr) (fun i _ => n - (intOf i).toNat)
  case atStart => exact ⟨0, Nat.zero_le _, rfl, by simpa [part, dig] using hown, hb⟩
  case round =>
    obtain ⟨k, hk, rfl, hown, hb⟩ := hrel
    by_cases hlt : k < n
    · obtain ⟨hc, hf⟩ := hown.at_ (n - 1 - k) (by omega)
      have hn := hown.set_ (n - 1 - k) (low x k)
      rw [part_set x n k hlt, bv_low] at hn
      go_wp2
      exact ⟨⟨k + 1, by omega, by go_num, hn, hb.setCell (Nat.le_refl _) _⟩, by simp [intOf]; omega⟩
    · obtain rfl : k = n := by omega
      go_wp2
      go_ret
      refine ⟨_, _, rfl, ?_, hb⟩
      simpa [part] using hown
end Go.Proofs.YtljlliiedbedeaaDoor

namespace Go.Proofs.YtljlliiedbedeaaDoor
open Go Go.RowKit Go.Proofs

set_option maxHeartbeats 400000 in
theorem join_any (A : Option Addr) (k c : Nat) (ls : List (List UInt8)) (w : World) (h : Parts w A k c ls) (hb : tot ls k ≤ 35184372088832) :
    Calls Tryd.prog 47 #[.slice A k c] w fun e w' => ∃ A' n' c', e = .returned (.slice A' n' c') ∧ Own w' w.heap.size 5 A' n' c' (cat ls k) ∧ Below w.heap.size w w' := by
  have hkc : k ≤ c := h.2.1
  have hm : c ≤ maxLen := h.2.2.1
  unfold maxLen at hm
  have Hl := Lib.hid h.len
  go_enter Tryd.func47, Tryd.ntmps47
  go_wp2
  go_loop [3, 11] (fun s i => ∃ j : Nat, j ≤ k ∧ i = .int .i64 j ∧ s = .int .i64 (tot ls j : Nat)) (fun _ i => k - (intOf i).toNat)
  case atStart => exact ⟨0, Nat.zero_le _, rfl, by rw [tot_zero]; rfl⟩
  case round =>
    obtain ⟨j, hj, rfl, rfl⟩ := hrel
    by_cases hlt : j < k
    · obtain ⟨ad, B, n, d, rfl, hlt1, hcell, hs⟩ := h.cell hlt
      have hle := tot_le ls (j + 1) k (by omega)
      have hn := tot_next ls j (by rw [Hl.out]; omega)
      rw [hs.len] at hn
      have Hn := Lib.hid hn
      rw [hn] at hle
      clear hn
      go_wp2
      exact ⟨⟨j + 1, by omega, by go_num, by rw [Hn.out]; go_num⟩, by simp [intOf]; omega⟩
    · obtain rfl : j = k := by omega
      go_wp2_with (at_make; refine wp_make_c _ T22 rfl _ _ rfl _ _ (tot ls j) rfl rfl (by omega) ?_)
      intro w1 hown0 hb0
      go_wp2
      go_loopw [6, 24] (fun s i wr => ∃ (q : Nat) (A' : Option Addr) (n' c' : Nat), q ≤ j ∧ i = .int .i64 q ∧ s = .slice A' n' c' ∧ Own wr w.heap.size 5 A' n' c' (cat ls q) ∧ Below w.heap.size w wr) (fun _ i _ => j - (intOf i).toNat)
      case atStart => exact ⟨0, _, _, _, Nat.zero_le _, rfl, rfl, by rw [cat_zero]; exact hown0, hb0⟩
      case round =>
        obtain ⟨q, A', n', c', hq, rfl, rfl, hown, hb1⟩ := hrel
        by_cases hlt2 : q < j
        · have hle := tot_le ls (q + 1) j (by omega)
          have hn := tot_next ls q (by rw [Hl.out]; omega)
          obtain ⟨ad, B, n, d, rfl, hlt1, hcell, hs⟩ := (h.below hb1).cell hlt2
          rw [hs.len, show tot ls q = n' from hown.len] at hn
          rw [hn] at hle
          clear hn
          go_wp2_with (at_builtin; refine wp_append_b _ T22 rfl _ _ rfl w.heap.size A' n' c' _ rfl hown B n d _ rfl hs (by omega) hb1.size ?_)
          intro A2 c2 w2 hown2 hb2
          rw [← cat_next ls q (by rw [Hl.out]; omega)] at hown2
          go_wp2
          exact ⟨⟨q + 1, _, _, _, by omega, by go_num, rfl, hown2, hb1.trans hb2⟩, by simp [intOf]; omega⟩
        · obtain rfl : q = j := by omega
          go_wp2
          go_ret
          exact ⟨_, _, _, rfl, hown, hb1⟩
end Go.Proofs.YtljlliiedbedeaaDoor

namespace Go.Proofs.YtljlliiedbedeaaDoor
open Go Go.RowKit Go.Proofs

/-- P1.1's bytes. -/
def putS (l : List UInt8) (x n : Int) : List UInt8 := if 1 ≤ n ∧ n ≤ 8 then l ++ dig x n.toNat else l

set_option maxHeartbeats 400000 in
theorem put_any (A : Option Addr) (k c : Nat) (l : List UInt8) (x n : Int) (w : World) (h : Sl w A k c l) (hk : k ≤ 17592186044416) :
    Calls Tryd.prog 37 #[.slice A k c, .int .i64 x, .int .i64 n] w fun e w' => ∃ A' n' c', e = .returned (.slice A' n' c') ∧ Own w' w.heap.size 5 A' n' c' (putS l x n) ∧ Below w.heap.size w w' := by
  have hl := h.len
  have Hl := Lib.hid hl
  clear hl
  by_cases h1 : 1 ≤ n
  · by_cases h8 : n ≤ 8
    · have hp := Lib.hid (show putS l x n = l ++ dig x n.toNat from if_pos ⟨h1, h8⟩)
      go_enter Tryd.func37, Tryd.ntmps37
      go_wp2_with (first
        | (go_at_call 48; refine (digits_any x n _ h1 h8).mono ?_; rintro e w1 ⟨A1, c1, rfl, hown1, hb1⟩)
        | (go_at_call 47; refine (join_any _ _ _ [l, dig x n.toNat] _ (parts2 28 (h.below hb1) hown1.sl) (by rw [tot2, dig_len, Hl.out]; omega)).mono ?_; rintro e w2 ⟨A2, n2, c2, rfl, hown2, hb2⟩))
      go_ret
      rw [cat2, ← hp.out] at hown2
      have hz := hb1.size
      exact ⟨_, _, _, rfl, hown2.less (by simp; omega), hb1.trans (((Below.refl _ _).alloc hz _).trans (hb2.mono (by simp; omega)))⟩
    · have hp := Lib.hid (show putS l x n = l from if_neg (by omega))
      go_enter Tryd.func37, Tryd.ntmps37
      go_wp2_with (go_at_call 47; refine (join_any _ _ _ [l] _ (parts1 28 h) (by rw [tot1, Hl.out]; omega)).mono ?_; rintro e w2 ⟨A2, n2, c2, rfl, hown2, hb2⟩)
      go_ret
      rw [cat1] at hown2
      rw [hp.out]
      exact ⟨_, _, _, rfl, hown2.less (by simp), ((Below.refl _ _).alloc (Nat.le_refl _) _).trans (hb2.mono (by simp))⟩
  · have hp := Lib.hid (show putS l x n = l from if_neg (by omega))
    go_enter Tryd.func37, Tryd.ntmps37
    go_wp2_with (go_at_call 47; refine (join_any _ _ _ [l] _ (parts1 28 h) (by rw [tot1, Hl.out]; omega)).mono ?_; rintro e w2 ⟨A2, n2, c2, rfl, hown2, hb2⟩)
    go_ret
    rw [cat1] at hown2
    rw [hp.out]
    exact ⟨_, _, _, rfl, hown2.less (by simp), ((Below.refl _ _).alloc (Nat.le_refl _) _).trans (hb2.mono (by simp))⟩
end Go.Proofs.YtljlliiedbedeaaDoor

namespace Go.Proofs.YtljlliiedbedeaaDoor
open Go Go.RowKit Go.Proofs

theorem dig_take (x : Int) (n j : Nat) (h : j < n) : (dig x n).take (j + 1) = (dig x n).take j ++ [low x (n - 1 - j)] := by
  induction n generalizing j with
  | zero => omega
  | succ n ih =>
    rcases j with _ | j
    · simp [dig]
    · have := ih j (by omega)
      simp only [dig, List.take_succ_cons, this, List.cons_append]
      rw [show n + 1 - 1 - (j + 1) = n - 1 - j by omega]
theorem low_u64 (x : Int) (k : Nat) (hk : k ≤ 7) : bv (low x k) = .int .u8 (IntKind.u64.wrap x / 2 ^ (8 * k) % 256) := by
  rw [bv_low, IntKind.wrap_u64]
  congr 1
  have hc : k = 0 ∨ k = 1 ∨ k = 2 ∨ k = 3 ∨ k = 4 ∨ k = 5 ∨ k = 6 ∨ k = 7 := by omega
  rcases hc with rfl | rfl | rfl | rfl | rfl | rfl | rfl | rfl
  · rw [show (2 : Int) ^ (8 * 0) = 1 by decide]; omega
  · rw [show (2 : Int) ^ (8 * 1) = 256 by decide]; omega
  · rw [show (2 : Int) ^ (8 * 2) = 65536 by decide]; omega
  · rw [show (2 : Int) ^ (8 * 3) = 16777216 by decide]; omega
  · rw [show (2 : Int) ^ (8 * 4) = 4294967296 by decide]; omega
  · rw [show (2 : Int) ^ (8 * 5) = 1099511627776 by decide]; omega
  · rw [show (2 : Int) ^ (8 * 6) = 281474976710656 by decide]; omega
  · rw [show (2 : Int) ^ (8 * 7) = 72057594037927936 by decide]; omega

/-- What has been put behind j rounds of the reference's loop. -/
def putTo (l : List UInt8) (x : Int) (n j : Nat) : List UInt8 := l ++ (dig x n).take j
theorem putTo_zero (l : List UInt8) (x : Int) (n : Nat) : putTo l x n 0 = l := by simp [putTo]
theorem putTo_next (l : List UInt8) (x : Int) (n j : Nat) (h : j < n) : putTo l x n (j + 1) = putTo l x n j ++ [low x (n - 1 - j)] := by
  unfold putTo; rw [dig_take x n j h, List.append_assoc]
theorem putTo_down (l : List UInt8) (x : Int) (m q : Nat) (h : q + 1 ≤ m) : putTo l x m (m - (q + 1)) ++ [low x q] = putTo l x m (m - q) := by
  rw [show m - q = m - (q + 1) + 1 by omega, putTo_next l x m _ (by omega), show m - 1 - (m - (q + 1)) = q by omega]
theorem putTo_len (l : List UInt8) (x : Int) (n j : Nat) (h : j ≤ n) : (putTo l x n j).length = l.length + j := by
  unfold putTo; rw [List.length_append, List.length_take, dig_len]; omega
theorem putTo_all (l : List UInt8) (x : Int) (n : Nat) : putTo l x n n = l ++ dig x n := by
  unfold putTo; rw [List.take_of_length_le (by rw [dig_len]; omega)]

set_option maxHeartbeats 400000 in
theorem refput_any (A : Option Addr) (k c : Nat) (l : List UInt8) (x n : Int) (w : World) (h : Sl w A k c l) (hk : k ≤ 17592186044416) :
    Calls Tryd.prog 26 #[.slice A k c, .int .i64 x, .int .i64 n] w fun e w' => ∃ A' n' c', e = .returned (.slice A' n' c') ∧ Own w' w.heap.size 5 A' n' c' (putS l x n) ∧ Below w.heap.size w w' := by
  have Hl := Lib.hid h.len
  have h0 : Own (w.alloc (.cells #[] 5)) w.heap.size 5 (some ⟨w.heap.size, 0, none⟩) 0 0 [] := own_empty w 5
  have h' := h.alloc (.cells #[] 5)
  by_cases hn : 1 ≤ n ∧ n ≤ 8
  · have hp := Lib.hid (show putS l x n = l ++ dig x n.toNat from if_pos hn)
    obtain ⟨h1, h8⟩ := hn
    obtain ⟨m, rfl⟩ := Int.eq_ofNat_of_zero_le (show 0 ≤ n by omega)
    rw [Int.toNat_natCast] at hp
    go_enter Tryd.func26, Tryd.ntmps26
    go_wp2_with (at_builtin; refine wp_append_b _ T22 rfl _ _ rfl w.heap.size _ 0 0 [] rfl h0 A k c l rfl h' (by omega) (by simp) ?_)
    intro A1 c1 w1 hown1 hb1
    have hb1 := below_new _ hb1 (Nat.le_refl _)
    go_wp2
    go_loopw [7, 8] (fun o i wr => ∃ (t : Nat) (A' : Option Addr) (n' c' : Nat), t ≤ m ∧ i = .int .i64 ((t : Int) - 1) ∧ o = .slice A' n' c' ∧ Own wr w.heap.size 5 A' n' c' (putTo l x m (m - t)) ∧ Below w.heap.size w wr) (fun _ i _ => (intOf i + 1).toNat)
    case atStart => exact ⟨m, _, _, _, Nat.le_refl _, rfl, rfl, by rw [Nat.sub_self, putTo_zero]; simpa using hown1, hb1⟩
    case round =>
      obtain ⟨t, A', n', c', ht, rfl, rfl, hown, hb⟩ := hrel
      rcases t with _ | q
      · rw [show m - 0 = m from rfl, putTo_all, ← hp.out] at hown
        go_wp2
        go_ret
        exact ⟨_, _, _, rfl, hown, hb⟩
      · rw [show (((q + 1 : Nat) : Int) - 1) = (q : Int) by omega]
        have hl2 := hown.len
        rw [putTo_len _ _ _ _ (by omega), Hl.out] at hl2
        have hone := own_one wr 5 (low x q) _ (low_u64 x q (by omega))
        have hown' := hown.alloc (.cells #[.int .u8 (IntKind.u64.wrap x / 2 ^ (8 * q) % 256)] 5)
        have hn' : n' ≤ 17592186044424 := by omega
        clear hl2
        go_wp2_with (at_builtin; refine wp_append_b _ T22 rfl _ _ rfl w.heap.size _ _ _ _ rfl hown' _ _ _ _ rfl hone.sl (by omega) (by have := hb.size; simp; omega) ?_)
        intro A2 c2 w2 hown2 hb2
        have hb2 := below_new _ hb2 hb.size
        rw [putTo_down l x m q ht] at hown2
        go_wp2
        exact ⟨⟨q, _, _, _, by omega, rfl, rfl, hown2, hb.trans hb2⟩, by simp [intOf]⟩
  · have hp := Lib.hid (show putS l x n = l from if_neg hn)
    rcases (by omega : n < 1 ∨ 8 < n) with h1 | h1
    all_goals
      go_enter Tryd.func26, Tryd.ntmps26
      go_wp2_with (at_builtin; refine wp_append_b _ T22 rfl _ _ rfl w.heap.size _ 0 0 [] rfl h0 A k c l rfl h' (by omega) (by simp) ?_)
      intro A1 c1 w1 hown1 hb1
      have hb1 := below_new _ hb1 (Nat.le_refl _)
      go_wp2
      go_ret
      rw [hp.out]
      exact ⟨_, _, _, rfl, by simpa using hown1, hb1⟩
end Go.Proofs.YtljlliiedbedeaaDoor

namespace Go.Proofs.YtljlliiedbedeaaDoor
open Go Go.RowKit Go.Proofs

set_option maxHeartbeats 1000000 in
theorem take_yes (A : Option Addr) (k c : Nat) (l : List UInt8) (n : Int) (w : World) (h : Sl w A k c l) (hk : k ≤ 17592186044416) (h1 : 1 ≤ n) (h7 : n ≤ 7) (hn : n ≤ (k : Int)) :
    Calls Tryd.prog 43 #[.slice A k c, .int .i64 n] w fun e w' => ∃ A' n' c', e = .returned (.tuple #[.int .i64 (numL (l.take n.toNat)), .slice A' n' c', .int .i64 0]) ∧ Own w' w.heap.size 5 A' n' c' (l.drop n.toNat) ∧ Below w.heap.size w w' := by
  obtain ⟨m, rfl⟩ := Int.eq_ofNat_of_zero_le (show 0 ≤ n by omega)
  rw [Int.toNat_natCast]
  have hc := h.cap
  have hm := h.max
  unfold maxLen at hm
  have hi1 : (0 : Int) ≤ (m : Int) := by omega
  have hi2 : (m : Int) ≤ (c : Int) := by omega
  have hi3 : m ≤ c := by omega
  have hi4 : m ≤ k := by omega
  have h9 : decide ((k : Int) < (m : Int)) = false := by simp; omega
  go_enter Tryd.func43, Tryd.ntmps43
  go_wp2_with fail
  have h2 := h.take (k := m) (by omega)
  obtain ⟨A2, hA2, h3⟩ : ∃ A2, (if c = m then A else Option.map (fun x => x.add m) A) = A2 ∧ Sl w A2 (k - m) (c - m) (l.drop m) := ⟨_, rfl, h.drop (by omega)⟩
  have hlen := Lib.hid h3.len
  go_region_with (first
    | (go_at_call 51; go_loud (refine (number_any _ _ _ (l.take m) _ (by first | exact h2 | exact h2.alloc _) (by omega)).mono ?_; rintro e w1 ⟨rfl, rfl⟩))
    | (go_at_call 47; refine (join_any _ _ _ [l.drop m] _ (by exact parts1 (w := w.drew) 28 h3) (by rw [tot1, hlen.out]; omega)).mono ?_; rintro e w1 ⟨A1, n1, c1, rfl, hown1, hb1⟩))
  all_goals
    go_wp2
    go_ret3
    rw [cat1] at hown1
    refine ⟨_, _, _, rfl, hown1.less (by simp), ?_⟩
    exact ((Below.refl w.heap.size w).drew.alloc (Nat.le_refl _) _).trans (hb1.mono (by simp))

set_option maxHeartbeats 400000 in
theorem take_bad (A : Option Addr) (k c : Nat) (n : Int) (w : World) (h : n < 1 ∨ 7 < n) :
    Calls Tryd.prog 43 #[.slice A k c, .int .i64 n] w fun e w' => e = .returned (.tuple #[.int .i64 0, .slice none 0 0, .int .i64 1]) ∧ w = w' := by
  rcases h with h | h
  all_goals
    go_enter Tryd.func43, Tryd.ntmps43
    go_wp2
    go_ret3
    exact ⟨rfl, rfl⟩
set_option maxHeartbeats 400000 in
theorem take_short (A : Option Addr) (k c : Nat) (n : Int) (w : World) (h1 : 1 ≤ n) (h7 : n ≤ 7) (hn : (k : Int) < n) :
    Calls Tryd.prog 43 #[.slice A k c, .int .i64 n] w fun e w' => e = .returned (.tuple #[.int .i64 0, .slice none 0 0, .int .i64 2]) ∧ w = w' := by
  go_enter Tryd.func43, Tryd.ntmps43
  go_wp2
  go_ret3
  exact ⟨rfl, rfl⟩
end Go.Proofs.YtljlliiedbedeaaDoor

namespace Go.Proofs.YtljlliiedbedeaaDoor
open Go Go.RowKit Go.Proofs

set_option maxHeartbeats 400000 in
theorem reftake_bad (A : Option Addr) (k c : Nat) (n : Int) (w : World) (h : n < 1 ∨ 7 < n) :
    Calls Tryd.prog 33 #[.slice A k c, .int .i64 n] w fun e w' => e = .returned (.tuple #[.int .i64 0, .slice none 0 0, .int .i64 1]) ∧ w = w' := by
  rcases h with h | h
  all_goals
    go_enter Tryd.func33, Tryd.ntmps33
    go_wp2
    go_ret3
    exact ⟨rfl, rfl⟩
set_option maxHeartbeats 400000 in
theorem reftake_short (A : Option Addr) (k c : Nat) (n : Int) (w : World) (h1 : 1 ≤ n) (h7 : n ≤ 7) (hn : (k : Int) < n) :
    Calls Tryd.prog 33 #[.slice A k c, .int .i64 n] w fun e w' => e = .returned (.tuple #[.int .i64 0, .slice none 0 0, .int .i64 2]) ∧ w = w' := by
  go_enter Tryd.func33, Tryd.ntmps33
  go_wp2
  go_ret3
  exact ⟨rfl, rfl⟩

set_option maxHeartbeats 400000 in
theorem reftake_yes (A : Option Addr) (k c : Nat) (l : List UInt8) (n : Int) (w : World) (h : Sl w A k c l) (hk : k ≤ 17592186044416) (h1 : 1 ≤ n) (h7 : n ≤ 7) (hn : n ≤ (k : Int)) :
    Calls Tryd.prog 33 #[.slice A k c, .int .i64 n] w fun e w' => ∃ A' n' c', e = .returned (.tuple #[.int .i64 (numL (l.take n.toNat)), .slice A' n' c', .int .i64 0]) ∧ Own w' w.heap.size 5 A' n' c' (l.drop n.toNat) ∧ Below w.heap.size w w' := by
  obtain ⟨m, rfl⟩ := Int.eq_ofNat_of_zero_le (show 0 ≤ n by omega)
  rw [Int.toNat_natCast]
  have hc := h.cap
  have hm := h.max
  unfold maxLen at hm
  have hi3 : m ≤ c := by omega
  go_enter Tryd.func33, Tryd.ntmps33
  go_wp2
  go_loop [7, 8] (fun x i => ∃ j : Nat, j ≤ m ∧ i = .int .i64 j ∧ x = .int .i64 (numL (l.take j))) (fun _ i => m - (intOf i).toNat)
  case atStart => exact ⟨0, Nat.zero_le _, rfl, rfl⟩
  case round =>
    obtain ⟨j, hj, rfl, rfl⟩ := hrel
    by_cases hlt : j < m
    · obtain ⟨ad, rfl, hb, hcell⟩ := h.cell (k := j) (by omega)
      have hb1 := byt_le l j
      have hx' : numL (l.take j) < 36028797018963968 := by
        have h1 := numL_lt (l.take j)
        have h2 : (256 : Nat) ^ (l.take j).length ≤ 256 ^ 6 := Nat.pow_le_pow_right (by omega) (by rw [List.length_take]; omega)
        omega
      have hl := Lib.hid h.len
      have hi : j < k := by omega
      go_wp2
      refine ⟨⟨j + 1, by omega, by go_num, ?_⟩, by simp [intOf]; omega⟩
      rw [numL_next _ _ (by rw [hl.out]; omega)]
      go_num
    · obtain rfl : j = m := by omega
      obtain ⟨A2, hA2, h3⟩ : ∃ A2, (if c = j then A else Option.map (fun x => x.add j) A) = A2 ∧ Sl w A2 (k - j) (c - j) (l.drop j) := ⟨_, rfl, h.drop (by omega)⟩
      go_wp2_with (at_builtin; refine wp_append_b _ T22 rfl _ _ rfl w.heap.size _ 0 0 [] rfl (own_empty w 5) A2 (k - j) (c - j) _ rfl (h3.alloc _) (by omega) (by simp) ?_)
      intro A3 c3 w3 hown3 hb3
      go_wp2
      go_ret3
      exact ⟨_, _, _, rfl, by simpa using hown3, below_new _ hb3 (Nat.le_refl _)⟩
end Go.Proofs.YtljlliiedbedeaaDoor
