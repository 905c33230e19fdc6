/- The program's split cuts bytes behind those whose length stands ahead of them, or tells that they are not whole. -/
import Derived.Test.YtimlhhemfipooaaE8
namespace Go.Proofs.Ytimlhhemfipooaa
open Go Go.RowKit Go.Proofs

set_option maxHeartbeats 400000 in
theorem split_short (A : Option Addr) (k c : Nat) (n : Int) (w : World) (hn : (k : Int) < n) :
    Calls Try.prog 47 #[.slice A k c, .int .i64 n] w fun e w' => e = .returned (.tuple #[.slice none 0 0, .slice none 0 0, .bool false]) ∧ w = w' := by
  go_enter Try.func47, Try.ntmps47
  go_wp2
  go_ret3
  exact ⟨rfl, rfl⟩

set_option maxHeartbeats 400000 in
theorem split_cut (A : Option Addr) (k c : Nat) (l : List UInt8) (n : Int) (w : World) (h : Sl w A k c l) (h1 : 1 ≤ n) (h7 : n ≤ 6) (hn : n ≤ (k : Int)) (hs : k < n.toNat + numL (l.take n.toNat)) :
    Calls Try.prog 47 #[.slice A k c, .int .i64 n] w fun e w' => e = .returned (.tuple #[.slice none 0 0, .slice none 0 0, .bool false]) ∧ w = w' := by
  obtain ⟨m, rfl⟩ := Int.eq_ofNat_of_zero_le (show 0 ≤ n by omega)
  rw [Int.toNat_natCast] at hs
  have hc := h.cap
  have hm := h.max
  unfold maxLen at hm
  have hi1 : m ≤ c := by omega
  have h2 := h.take (k := m) (by omega)
  have hv : numL (l.take m) < 281474976710656 := by
    have h1 := numL_lt (l.take m)
    have h2 : (256 : Nat) ^ (l.take m).length ≤ 256 ^ 6 := Nat.pow_le_pow_right (by omega) (by rw [List.length_take]; omega)
    omega
  go_enter Try.func47, Try.ntmps47
  go_wp2_with (go_at_call 49; refine (number_any _ _ _ (l.take m) _ h2 (by omega)).mono ?_; rintro e w1 ⟨rfl, rfl⟩)
  go_ret3
  exact ⟨rfl, rfl⟩

set_option maxHeartbeats 400000 in
theorem split_yes (A : Option Addr) (k c : Nat) (l : List UInt8) (n : Int) (w : World) (h : Sl w A k c l) (h1 : 1 ≤ n) (h7 : n ≤ 6) (hn : n ≤ (k : Int)) (hs : n.toNat + numL (l.take n.toNat) ≤ k) :
    Calls Try.prog 47 #[.slice A k c, .int .i64 n] w fun e w' => ∃ A1 n1 c1 A2 n2 c2, e = .returned (.tuple #[.slice A1 n1 c1, .slice A2 n2 c2, .bool true]) ∧
      Sl w' A1 n1 c1 ((l.drop n.toNat).take (numL (l.take n.toNat))) ∧ Sl w' A2 n2 c2 (l.drop (n.toNat + numL (l.take n.toNat))) ∧ Below w.heap.size w w' := by
  obtain ⟨m, rfl⟩ := Int.eq_ofNat_of_zero_le (show 0 ≤ n by omega)
  rw [Int.toNat_natCast] at hs ⊢
  have hc := h.cap
  have hm := h.max
  unfold maxLen at hm
  have hi1 : m ≤ c := by omega
  have h2 := h.take (k := m) (by omega)
  generalize hv : numL (l.take m) = v at hs ⊢
  have Hv := Lib.hid hv
  clear hv
  have hi2 : m + v ≤ c := by omega
  obtain ⟨A1, hA1, h3⟩ : ∃ A1, (if c = m then A else Option.map (fun x => x.add m) A) = A1 ∧ Sl w A1 (k - m) (c - m) (l.drop m) := ⟨_, rfl, h.drop (by omega)⟩
  obtain ⟨A2, hA2, h4⟩ : ∃ A2, (if c = m + v then A else Option.map (fun x => x.add (m + v)) A) = A2 ∧ Sl w A2 (k - (m + v)) (c - (m + v)) (l.drop (m + v)) := ⟨_, rfl, h.drop (by omega)⟩
  have h5 := h3.take (k := v) (by omega)
  go_enter Try.func47, Try.ntmps47
  go_wp2_with (go_at_call 49; refine (number_any _ _ _ (l.take m) _ h2 (by omega)).mono ?_; rw [Hv.out]; rintro e w1 ⟨rfl, rfl⟩)
  go_quiet (fail)
  go_wp2
  · have hcm : c = m + v := by assumption
    subst hcm
    go_ret3
    rw [if_pos rfl] at hA2
    subst hA2
    rw [show m + v - m = v by omega] at h5
    rw [Nat.sub_self] at h4
    exact ⟨_, _, _, _, _, _, rfl, h5, h4, below_drewN (Below.refl _ _) _⟩
  · have hcm : ¬ c = m + v := by assumption
    go_ret3
    rw [if_neg hcm] at hA2
    subst hA2
    exact ⟨_, _, _, _, _, _, rfl, h5, h4, below_drewN (Below.refl _ _) _⟩
end Go.Proofs.Ytimlhhemfipooaa
