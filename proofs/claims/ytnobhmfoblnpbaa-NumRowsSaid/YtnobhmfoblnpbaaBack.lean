/- The law NumBack: for every input it returns true, and what came in reads as it did. -/
import Derived.Test.YtnobhmfoblnpbaaE13
import Derived.Test.YtnobhmfoblnpbaaE1
import Derived.Test.YtnobhmfoblnpbaaLaw
namespace Go.Proofs.Ytnobhmfoblnpbaa
open Go Go.RowKit Go.Proofs

theorem foldl_num (l : List UInt8) (a : Nat) : l.foldl (fun a b => 256 * a + b.toNat) a = a * 256 ^ l.length + numL l := by
  induction l generalizing a with
  | nil => simp [numL]
  | cons b l ih =>
    unfold numL
    rw [List.foldl_cons, List.foldl_cons, ih, ih (256 * 0 + b.toNat), List.length_cons, Nat.pow_succ, Nat.add_mul, Nat.add_mul]
    have e : 256 * a * 256 ^ l.length = a * (256 ^ l.length * 256) := by rw [Nat.mul_comm 256 a, Nat.mul_assoc, Nat.mul_comm 256]
    omega
theorem numL_cons (b : UInt8) (l : List UInt8) : numL (b :: l) = b.toNat * 256 ^ l.length + numL l := by
  have h := foldl_num l (256 * 0 + b.toNat)
  have e : (256 * 0 + b.toNat) * 256 ^ l.length = b.toNat * 256 ^ l.length := by rw [Nat.mul_zero, Nat.zero_add]
  rw [e] at h
  exact h
theorem low_nat (u k : Nat) : (low (u : Int) k).toNat = u / 256 ^ k % 256 := by
  unfold low
  have e : ((u : Int) / 2 ^ (8 * k) % 256) = ((u / 256 ^ k % 256 : Nat) : Int) := by
    rw [show (256 : Nat) ^ k = 2 ^ (8 * k) by rw [Nat.pow_mul], Int.natCast_emod, Int.natCast_ediv, Int.natCast_pow]
    rfl
  rw [e, Int.toNat_natCast, UInt8.toNat_ofNat']
  omega
theorem numL_dig (u k : Nat) : numL (dig (u : Int) k) = u % 256 ^ k := by
  induction k with
  | zero => simp [dig, numL, Nat.mod_one]
  | succ k ih =>
    rw [dig, numL_cons, dig_len, ih, low_nat, Nat.mod_pow_succ, Nat.mul_comm]
    omega
theorem and_range (x m : Int) (h0 : 0 ≤ m) (h1 : m < 9223372036854775808) : 0 ≤ bits .and .i64 x m ∧ bits .and .i64 x m ≤ m := by
  obtain ⟨k, rfl⟩ := Int.eq_ofNat_of_zero_le h0
  have hle : (BitVec.ofInt 64 x &&& BitVec.ofInt 64 (k : Int)).toNat ≤ k := by
    rw [BitVec.toNat_and, ofInt_small k (by omega)]
    exact Nat.and_le_right
  have e : bits .and .i64 x (k : Int) = ((BitVec.ofInt 64 x &&& BitVec.ofInt 64 (k : Int)).toNat : Int) := by
    show IntKind.i64.wrap ((BitVec.ofInt 64 x &&& BitVec.ofInt 64 (k : Int)).toNat : Int) = _
    exact IntWalk.i64_in _ (by omega)
  rw [e]
  omega
theorem back_take (v : Int) (m : Nat) (l : List UInt8) (h0 : 0 ≤ v) (h1 : v < (256 ^ m : Nat)) : (numL ((dig v m ++ l).take m) : Int) = v ∧ (dig v m ++ l).drop m = l := by
  obtain ⟨u, rfl⟩ := Int.eq_ofNat_of_zero_le h0
  have e := dig_len (u : Int) m
  refine ⟨?_, List.drop_left' e⟩
  rw [List.take_left' e, numL_dig, Nat.mod_eq_of_lt (by omega)]

/-- The law from the number on: v is laid in m bytes, and what stands behind it is l. -/
def Back (m : Int) : Prop := ∀ (A : Option Addr) (n c : Nat) (l : List UInt8) (x : Int) (w : World), Sl w A n c l →
    Calls Try.prog 6 #[.int .i64 m, .int .i64 x, .slice A n c] w fun e w' => e = .returned (.bool true) ∧ Below w.heap.size w w'

set_option maxHeartbeats 1000000 in
theorem back_1 : Back 1 := by
  intro A n c l x w h
  go_enter Try.func6, Try.ntmps6
  go_wp2_with fail
  refine (shown_any w).mono ?_
  rintro e w1 ⟨rfl, b1⟩
  have h1 := h.below b1
  go_wp2_with fail
  refine (few_any A n c l w1 h1).mono ?_
  rintro e w1' ⟨A2, n2, c2, rfl, rfl, h2⟩
  have hlen : n2 ≤ 1000 := by have := h2.len; rw [List.length_take] at this; omega
  generalize List.take 1000 l = l2 at h2
  go_wp2_with fail
  obtain ⟨v0, v1⟩ := and_range x 255 (by omega) (by omega)
  generalize bits .and .i64 x 255 = v at v0 v1 ⊢
  refine (put_any none 0 0 [] v 1 w1 (sl_nil _) (by omega)).mono ?_
  rintro e w3 ⟨A3, n3, c3, rfl, own3, b3⟩
  rw [show putS [] v 1 = dig v 1 from rfl] at own3
  obtain rfl : n3 = 1 := own3.len.symm
  go_wp2_with (at_builtin; refine wp_append_lit _ T22 rfl (.tmp 33) (.tmp 34) rfl w3.heap.size w3.heap.size rfl (own_empty w3 5) A3 1 c3 _ rfl (own3.sl.alloc _) (by omega) (by simp) ?_)
  intro A4 c4 w4 own4 b4
  have b4 := below_new _ (b4.mono (B' := w3.heap.size) (by simp)) (Nat.le_refl _)
  have h4 := (h2.below b3).below b4
  go_wp2_with (at_builtin; refine wp_append_b _ T22 rfl (.tmp 35) (.tmp 36) rfl w3.heap.size A4 1 c4 _ rfl own4 A2 n2 c2 l2 rfl h4 (by omega) b4.size ?_)
  intro A5 c5 w5 own5 b5
  have b45 := b4.trans b5
  have h5 := (own3.sl.below b45)
  obtain ⟨e1, e2⟩ := back_take v 1 l2 v0 (by omega)
  go_wp2_with fail
  refine (take_yes A5 (1 + n2) c5 _ 1 w5 own5.sl (by omega) (by omega) (by omega) (by omega)).mono ?_
  rintro e w6 ⟨A6, n6, c6, rfl, own6, b6⟩
  rw [show Int.toNat 1 = 1 from rfl] at own6 ⊢
  rw [e1]
  rw [e2] at own6
  have k1 := conv_bs own6.sl
  have k2 := conv_bs (((h2.below b3).below b45).below b6)
  have z1 := b1.size
  have z3 := b3.size
  have z4 := b45.size
  have t0 : Below w.heap.size w w6 := b1.trans ((b3.mono z1).trans ((b45.mono (by omega)).trans (b6.mono (by omega))))
  clear e1 e2
  go_wp2
  go_ret
  exact ⟨rfl, t0⟩
set_option maxHeartbeats 1000000 in
theorem back_2 : Back 2 := by
  intro A n c l x w h
  go_enter Try.func6, Try.ntmps6
  go_wp2_with fail
  refine (shown_any w).mono ?_
  rintro e w1 ⟨rfl, b1⟩
  have h1 := h.below b1
  go_wp2_with fail
  refine (few_any A n c l w1 h1).mono ?_
  rintro e w1' ⟨A2, n2, c2, rfl, rfl, h2⟩
  have hlen : n2 ≤ 1000 := by have := h2.len; rw [List.length_take] at this; omega
  generalize List.take 1000 l = l2 at h2
  go_wp2_with fail
  obtain ⟨v0, v1⟩ := and_range x 65535 (by omega) (by omega)
  generalize bits .and .i64 x 65535 = v at v0 v1 ⊢
  refine (put_any none 0 0 [] v 2 w1 (sl_nil _) (by omega)).mono ?_
  rintro e w3 ⟨A3, n3, c3, rfl, own3, b3⟩
  rw [show putS [] v 2 = dig v 2 from rfl] at own3
  obtain rfl : n3 = 2 := own3.len.symm
  go_wp2_with (at_builtin; refine wp_append_lit _ T22 rfl (.tmp 33) (.tmp 34) rfl w3.heap.size w3.heap.size rfl (own_empty w3 5) A3 2 c3 _ rfl (own3.sl.alloc _) (by omega) (by simp) ?_)
  intro A4 c4 w4 own4 b4
  have b4 := below_new _ (b4.mono (B' := w3.heap.size) (by simp)) (Nat.le_refl _)
  have h4 := (h2.below b3).below b4
  go_wp2_with (at_builtin; refine wp_append_b _ T22 rfl (.tmp 35) (.tmp 36) rfl w3.heap.size A4 2 c4 _ rfl own4 A2 n2 c2 l2 rfl h4 (by omega) b4.size ?_)
  intro A5 c5 w5 own5 b5
  have b45 := b4.trans b5
  have h5 := (own3.sl.below b45)
  obtain ⟨e1, e2⟩ := back_take v 2 l2 v0 (by omega)
  go_wp2_with fail
  refine (take_yes A5 (2 + n2) c5 _ 2 w5 own5.sl (by omega) (by omega) (by omega) (by omega)).mono ?_
  rintro e w6 ⟨A6, n6, c6, rfl, own6, b6⟩
  rw [show Int.toNat 2 = 2 from rfl] at own6 ⊢
  rw [e1]
  rw [e2] at own6
  have k1 := conv_bs own6.sl
  have k2 := conv_bs (((h2.below b3).below b45).below b6)
  have z1 := b1.size
  have z3 := b3.size
  have z4 := b45.size
  have t0 : Below w.heap.size w w6 := b1.trans ((b3.mono z1).trans ((b45.mono (by omega)).trans (b6.mono (by omega))))
  clear e1 e2
  go_wp2
  go_ret
  exact ⟨rfl, t0⟩
set_option maxHeartbeats 1000000 in
theorem back_3 : Back 3 := by
  intro A n c l x w h
  go_enter Try.func6, Try.ntmps6
  go_wp2_with fail
  refine (shown_any w).mono ?_
  rintro e w1 ⟨rfl, b1⟩
  have h1 := h.below b1
  go_wp2_with fail
  refine (few_any A n c l w1 h1).mono ?_
  rintro e w1' ⟨A2, n2, c2, rfl, rfl, h2⟩
  have hlen : n2 ≤ 1000 := by have := h2.len; rw [List.length_take] at this; omega
  generalize List.take 1000 l = l2 at h2
  go_wp2_with fail
  obtain ⟨v0, v1⟩ := and_range x 16777215 (by omega) (by omega)
  generalize bits .and .i64 x 16777215 = v at v0 v1 ⊢
  refine (put_any none 0 0 [] v 3 w1 (sl_nil _) (by omega)).mono ?_
  rintro e w3 ⟨A3, n3, c3, rfl, own3, b3⟩
  rw [show putS [] v 3 = dig v 3 from rfl] at own3
  obtain rfl : n3 = 3 := own3.len.symm
  go_wp2_with (at_builtin; refine wp_append_lit _ T22 rfl (.tmp 33) (.tmp 34) rfl w3.heap.size w3.heap.size rfl (own_empty w3 5) A3 3 c3 _ rfl (own3.sl.alloc _) (by omega) (by simp) ?_)
  intro A4 c4 w4 own4 b4
  have b4 := below_new _ (b4.mono (B' := w3.heap.size) (by simp)) (Nat.le_refl _)
  have h4 := (h2.below b3).below b4
  go_wp2_with (at_builtin; refine wp_append_b _ T22 rfl (.tmp 35) (.tmp 36) rfl w3.heap.size A4 3 c4 _ rfl own4 A2 n2 c2 l2 rfl h4 (by omega) b4.size ?_)
  intro A5 c5 w5 own5 b5
  have b45 := b4.trans b5
  have h5 := (own3.sl.below b45)
  obtain ⟨e1, e2⟩ := back_take v 3 l2 v0 (by omega)
  go_wp2_with fail
  refine (take_yes A5 (3 + n2) c5 _ 3 w5 own5.sl (by omega) (by omega) (by omega) (by omega)).mono ?_
  rintro e w6 ⟨A6, n6, c6, rfl, own6, b6⟩
  rw [show Int.toNat 3 = 3 from rfl] at own6 ⊢
  rw [e1]
  rw [e2] at own6
  have k1 := conv_bs own6.sl
  have k2 := conv_bs (((h2.below b3).below b45).below b6)
  have z1 := b1.size
  have z3 := b3.size
  have z4 := b45.size
  have t0 : Below w.heap.size w w6 := b1.trans ((b3.mono z1).trans ((b45.mono (by omega)).trans (b6.mono (by omega))))
  clear e1 e2
  go_wp2
  go_ret
  exact ⟨rfl, t0⟩
set_option maxHeartbeats 1000000 in
theorem back_4 : Back 4 := by
  intro A n c l x w h
  go_enter Try.func6, Try.ntmps6
  go_wp2_with fail
  refine (shown_any w).mono ?_
  rintro e w1 ⟨rfl, b1⟩
  have h1 := h.below b1
  go_wp2_with fail
  refine (few_any A n c l w1 h1).mono ?_
  rintro e w1' ⟨A2, n2, c2, rfl, rfl, h2⟩
  have hlen : n2 ≤ 1000 := by have := h2.len; rw [List.length_take] at this; omega
  generalize List.take 1000 l = l2 at h2
  go_wp2_with fail
  obtain ⟨v0, v1⟩ := and_range x 4294967295 (by omega) (by omega)
  generalize bits .and .i64 x 4294967295 = v at v0 v1 ⊢
  refine (put_any none 0 0 [] v 4 w1 (sl_nil _) (by omega)).mono ?_
  rintro e w3 ⟨A3, n3, c3, rfl, own3, b3⟩
  rw [show putS [] v 4 = dig v 4 from rfl] at own3
  obtain rfl : n3 = 4 := own3.len.symm
  go_wp2_with (at_builtin; refine wp_append_lit _ T22 rfl (.tmp 33) (.tmp 34) rfl w3.heap.size w3.heap.size rfl (own_empty w3 5) A3 4 c3 _ rfl (own3.sl.alloc _) (by omega) (by simp) ?_)
  intro A4 c4 w4 own4 b4
  have b4 := below_new _ (b4.mono (B' := w3.heap.size) (by simp)) (Nat.le_refl _)
  have h4 := (h2.below b3).below b4
  go_wp2_with (at_builtin; refine wp_append_b _ T22 rfl (.tmp 35) (.tmp 36) rfl w3.heap.size A4 4 c4 _ rfl own4 A2 n2 c2 l2 rfl h4 (by omega) b4.size ?_)
  intro A5 c5 w5 own5 b5
  have b45 := b4.trans b5
  have h5 := (own3.sl.below b45)
  obtain ⟨e1, e2⟩ := back_take v 4 l2 v0 (by omega)
  go_wp2_with fail
  refine (take_yes A5 (4 + n2) c5 _ 4 w5 own5.sl (by omega) (by omega) (by omega) (by omega)).mono ?_
  rintro e w6 ⟨A6, n6, c6, rfl, own6, b6⟩
  rw [show Int.toNat 4 = 4 from rfl] at own6 ⊢
  rw [e1]
  rw [e2] at own6
  have k1 := conv_bs own6.sl
  have k2 := conv_bs (((h2.below b3).below b45).below b6)
  have z1 := b1.size
  have z3 := b3.size
  have z4 := b45.size
  have t0 : Below w.heap.size w w6 := b1.trans ((b3.mono z1).trans ((b45.mono (by omega)).trans (b6.mono (by omega))))
  clear e1 e2
  go_wp2
  go_ret
  exact ⟨rfl, t0⟩
set_option maxHeartbeats 1000000 in
theorem back_5 : Back 5 := by
  intro A n c l x w h
  go_enter Try.func6, Try.ntmps6
  go_wp2_with fail
  refine (shown_any w).mono ?_
  rintro e w1 ⟨rfl, b1⟩
  have h1 := h.below b1
  go_wp2_with fail
  refine (few_any A n c l w1 h1).mono ?_
  rintro e w1' ⟨A2, n2, c2, rfl, rfl, h2⟩
  have hlen : n2 ≤ 1000 := by have := h2.len; rw [List.length_take] at this; omega
  generalize List.take 1000 l = l2 at h2
  go_wp2_with fail
  obtain ⟨v0, v1⟩ := and_range x 1099511627775 (by omega) (by omega)
  generalize bits .and .i64 x 1099511627775 = v at v0 v1 ⊢
  refine (put_any none 0 0 [] v 5 w1 (sl_nil _) (by omega)).mono ?_
  rintro e w3 ⟨A3, n3, c3, rfl, own3, b3⟩
  rw [show putS [] v 5 = dig v 5 from rfl] at own3
  obtain rfl : n3 = 5 := own3.len.symm
  go_wp2_with (at_builtin; refine wp_append_lit _ T22 rfl (.tmp 33) (.tmp 34) rfl w3.heap.size w3.heap.size rfl (own_empty w3 5) A3 5 c3 _ rfl (own3.sl.alloc _) (by omega) (by simp) ?_)
  intro A4 c4 w4 own4 b4
  have b4 := below_new _ (b4.mono (B' := w3.heap.size) (by simp)) (Nat.le_refl _)
  have h4 := (h2.below b3).below b4
  go_wp2_with (at_builtin; refine wp_append_b _ T22 rfl (.tmp 35) (.tmp 36) rfl w3.heap.size A4 5 c4 _ rfl own4 A2 n2 c2 l2 rfl h4 (by omega) b4.size ?_)
  intro A5 c5 w5 own5 b5
  have b45 := b4.trans b5
  have h5 := (own3.sl.below b45)
  obtain ⟨e1, e2⟩ := back_take v 5 l2 v0 (by omega)
  go_wp2_with fail
  refine (take_yes A5 (5 + n2) c5 _ 5 w5 own5.sl (by omega) (by omega) (by omega) (by omega)).mono ?_
  rintro e w6 ⟨A6, n6, c6, rfl, own6, b6⟩
  rw [show Int.toNat 5 = 5 from rfl] at own6 ⊢
  rw [e1]
  rw [e2] at own6
  have k1 := conv_bs own6.sl
  have k2 := conv_bs (((h2.below b3).below b45).below b6)
  have z1 := b1.size
  have z3 := b3.size
  have z4 := b45.size
  have t0 : Below w.heap.size w w6 := b1.trans ((b3.mono z1).trans ((b45.mono (by omega)).trans (b6.mono (by omega))))
  clear e1 e2
  go_wp2
  go_ret
  exact ⟨rfl, t0⟩
set_option maxHeartbeats 1000000 in
theorem back_6 : Back 6 := by
  intro A n c l x w h
  go_enter Try.func6, Try.ntmps6
  go_wp2_with fail
  refine (shown_any w).mono ?_
  rintro e w1 ⟨rfl, b1⟩
  have h1 := h.below b1
  go_wp2_with fail
  refine (few_any A n c l w1 h1).mono ?_
  rintro e w1' ⟨A2, n2, c2, rfl, rfl, h2⟩
  have hlen : n2 ≤ 1000 := by have := h2.len; rw [List.length_take] at this; omega
  generalize List.take 1000 l = l2 at h2
  go_wp2_with fail
  obtain ⟨v0, v1⟩ := and_range x 281474976710655 (by omega) (by omega)
  generalize bits .and .i64 x 281474976710655 = v at v0 v1 ⊢
  refine (put_any none 0 0 [] v 6 w1 (sl_nil _) (by omega)).mono ?_
  rintro e w3 ⟨A3, n3, c3, rfl, own3, b3⟩
  rw [show putS [] v 6 = dig v 6 from rfl] at own3
  obtain rfl : n3 = 6 := own3.len.symm
  go_wp2_with (at_builtin; refine wp_append_lit _ T22 rfl (.tmp 33) (.tmp 34) rfl w3.heap.size w3.heap.size rfl (own_empty w3 5) A3 6 c3 _ rfl (own3.sl.alloc _) (by omega) (by simp) ?_)
  intro A4 c4 w4 own4 b4
  have b4 := below_new _ (b4.mono (B' := w3.heap.size) (by simp)) (Nat.le_refl _)
  have h4 := (h2.below b3).below b4
  go_wp2_with (at_builtin; refine wp_append_b _ T22 rfl (.tmp 35) (.tmp 36) rfl w3.heap.size A4 6 c4 _ rfl own4 A2 n2 c2 l2 rfl h4 (by omega) b4.size ?_)
  intro A5 c5 w5 own5 b5
  have b45 := b4.trans b5
  have h5 := (own3.sl.below b45)
  obtain ⟨e1, e2⟩ := back_take v 6 l2 v0 (by omega)
  go_wp2_with fail
  refine (take_yes A5 (6 + n2) c5 _ 6 w5 own5.sl (by omega) (by omega) (by omega) (by omega)).mono ?_
  rintro e w6 ⟨A6, n6, c6, rfl, own6, b6⟩
  rw [show Int.toNat 6 = 6 from rfl] at own6 ⊢
  rw [e1]
  rw [e2] at own6
  have k1 := conv_bs own6.sl
  have k2 := conv_bs (((h2.below b3).below b45).below b6)
  have z1 := b1.size
  have z3 := b3.size
  have z4 := b45.size
  have t0 : Below w.heap.size w w6 := b1.trans ((b3.mono z1).trans ((b45.mono (by omega)).trans (b6.mono (by omega))))
  clear e1 e2
  go_wp2
  go_ret
  exact ⟨rfl, t0⟩
set_option maxHeartbeats 1000000 in
theorem back_7 : Back 7 := by
  intro A n c l x w h
  go_enter Try.func6, Try.ntmps6
  go_wp2_with fail
  refine (shown_any w).mono ?_
  rintro e w1 ⟨rfl, b1⟩
  have h1 := h.below b1
  go_wp2_with fail
  refine (few_any A n c l w1 h1).mono ?_
  rintro e w1' ⟨A2, n2, c2, rfl, rfl, h2⟩
  have hlen : n2 ≤ 1000 := by have := h2.len; rw [List.length_take] at this; omega
  generalize List.take 1000 l = l2 at h2
  go_wp2_with fail
  obtain ⟨v0, v1⟩ := and_range x 72057594037927935 (by omega) (by omega)
  generalize bits .and .i64 x 72057594037927935 = v at v0 v1 ⊢
  refine (put_any none 0 0 [] v 7 w1 (sl_nil _) (by omega)).mono ?_
  rintro e w3 ⟨A3, n3, c3, rfl, own3, b3⟩
  rw [show putS [] v 7 = dig v 7 from rfl] at own3
  obtain rfl : n3 = 7 := own3.len.symm
  go_wp2_with (at_builtin; refine wp_append_lit _ T22 rfl (.tmp 33) (.tmp 34) rfl w3.heap.size w3.heap.size rfl (own_empty w3 5) A3 7 c3 _ rfl (own3.sl.alloc _) (by omega) (by simp) ?_)
  intro A4 c4 w4 own4 b4
  have b4 := below_new _ (b4.mono (B' := w3.heap.size) (by simp)) (Nat.le_refl _)
  have h4 := (h2.below b3).below b4
  go_wp2_with (at_builtin; refine wp_append_b _ T22 rfl (.tmp 35) (.tmp 36) rfl w3.heap.size A4 7 c4 _ rfl own4 A2 n2 c2 l2 rfl h4 (by omega) b4.size ?_)
  intro A5 c5 w5 own5 b5
  have b45 := b4.trans b5
  have h5 := (own3.sl.below b45)
  obtain ⟨e1, e2⟩ := back_take v 7 l2 v0 (by omega)
  go_wp2_with fail
  refine (take_yes A5 (7 + n2) c5 _ 7 w5 own5.sl (by omega) (by omega) (by omega) (by omega)).mono ?_
  rintro e w6 ⟨A6, n6, c6, rfl, own6, b6⟩
  rw [show Int.toNat 7 = 7 from rfl] at own6 ⊢
  rw [e1]
  rw [e2] at own6
  have k1 := conv_bs own6.sl
  have k2 := conv_bs (((h2.below b3).below b45).below b6)
  have z1 := b1.size
  have z3 := b3.size
  have z4 := b45.size
  have t0 : Below w.heap.size w w6 := b1.trans ((b3.mono z1).trans ((b45.mono (by omega)).trans (b6.mono (by omega))))
  clear e1 e2
  go_wp2
  go_ret
  exact ⟨rfl, t0⟩
theorem back_none (m : Int) (hm : m < 1 ∨ 7 < m) : Back m := by
  intro A n c l x w h
  rcases hm with hm | hm
  all_goals
    go_enter Try.func6, Try.ntmps6
    go_wp2_with fail
    refine (shown_any w).mono ?_
    rintro e w1 ⟨rfl, b1⟩
    have h1 := h.below b1
    go_wp2_with fail
    refine (few_any A n c l w1 h1).mono ?_
    rintro e w1' ⟨A2, n2, c2, rfl, rfl, h2⟩
    go_wp2
    go_ret
    exact ⟨rfl, b1⟩

theorem numBack_walk (m x : Int) (A : Option Addr) (n c : Nat) (l : List UInt8) (w : World) (h : Sl w A n c l) :
    Calls Try.prog 6 #[.int .i64 m, .int .i64 x, .slice A n c] w fun e w' => e = .returned (.bool true) ∧ Below w.heap.size w w' := by
  by_cases hm : m < 1 ∨ 7 < m
  · exact back_none m hm A n c l x w h
  · have hc : m = 1 ∨ m = 2 ∨ m = 3 ∨ m = 4 ∨ m = 5 ∨ m = 6 ∨ m = 7 := by omega
    rcases hc with rfl | rfl | rfl | rfl | rfl | rfl | rfl
    · exact back_1 A n c l x w h
    · exact back_2 A n c l x w h
    · exact back_3 A n c l x w h
    · exact back_4 A n c l x w h
    · exact back_5 A n c l x w h
    · exact back_6 A n c l x w h
    · exact back_7 A n c l x w h
end Go.Proofs.Ytnobhmfoblnpbaa
