/- The program's Put lays any number behind any bytes as P1.1 says, for at most 2 to the 44 bytes. -/
import Derived.Test.YtimlhhemfipooaaE5
namespace Go.Proofs.Ytimlhhemfipooaa
open Go Go.RowKit Go.Proofs

/-- P1.1's bytes. -/
def putS (l : List UInt8) (x n : Int) : List UInt8 := if 1 ≤ n ∧ n ≤ 8 then l ++ dig x n.toNat else l

set_option maxHeartbeats 400000 in
theorem put_any (A : Option Addr) (k c : Nat) (l : List UInt8) (x n : Int) (w : World) (h : Sl w A k c l) (hk : k ≤ 17592186044416) :
    Calls Try.prog 41 #[.slice A k c, .int .i64 x, .int .i64 n] w fun e w' => ∃ A' n' c', e = .returned (.slice A' n' c') ∧ Own w' w.heap.size 5 A' n' c' (putS l x n) ∧ Below w.heap.size w w' := by
  have hl := h.len
  have Hl := Lib.hid hl
  clear hl
  by_cases h1 : 1 ≤ n
  · by_cases h8 : n ≤ 8
    · have hp := Lib.hid (show putS l x n = l ++ dig x n.toNat from if_pos ⟨h1, h8⟩)
      go_enter Try.func41, Try.ntmps41
      go_wp2_with (first
        | (go_at_call 45; refine (digits_any x n _ h1 h8).mono ?_; rintro e w1 ⟨A1, c1, rfl, hown1, hb1⟩)
        | (go_at_call 44; refine (join_any _ _ _ [l, dig x n.toNat] _ (parts2 26 (h.below hb1) hown1.sl) (by rw [tot2, dig_len, Hl.out]; omega)).mono ?_; rintro e w2 ⟨A2, n2, c2, rfl, hown2, hb2⟩))
      go_ret
      rw [cat2, ← hp.out] at hown2
      have hz := hb1.size
      exact ⟨_, _, _, rfl, hown2.less (by simp; omega), hb1.trans (((Below.refl _ _).alloc hz _).trans (hb2.mono (by simp; omega)))⟩
    · have hp := Lib.hid (show putS l x n = l from if_neg (by omega))
      go_enter Try.func41, Try.ntmps41
      go_wp2_with (go_at_call 44; refine (join_any _ _ _ [l] _ (parts1 26 h) (by rw [tot1, Hl.out]; omega)).mono ?_; rintro e w2 ⟨A2, n2, c2, rfl, hown2, hb2⟩)
      go_ret
      rw [cat1] at hown2
      rw [hp.out]
      exact ⟨_, _, _, rfl, hown2.less (by simp), ((Below.refl _ _).alloc (Nat.le_refl _) _).trans (hb2.mono (by simp))⟩
  · have hp := Lib.hid (show putS l x n = l from if_neg (by omega))
    go_enter Try.func41, Try.ntmps41
    go_wp2_with (go_at_call 44; refine (join_any _ _ _ [l] _ (parts1 26 h) (by rw [tot1, Hl.out]; omega)).mono ?_; rintro e w2 ⟨A2, n2, c2, rfl, hown2, hb2⟩)
    go_ret
    rw [cat1] at hown2
    rw [hp.out]
    exact ⟨_, _, _, rfl, hown2.less (by simp), ((Below.refl _ _).alloc (Nat.le_refl _) _).trans (hb2.mono (by simp))⟩
end Go.Proofs.Ytimlhhemfipooaa
