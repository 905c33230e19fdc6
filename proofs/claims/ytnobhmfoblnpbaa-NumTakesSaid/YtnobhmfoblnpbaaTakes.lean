/- The law NumTakes: for every input it returns true, and what came in reads as it did. -/
import Derived.Test.YtnobhmfoblnpbaaE14
import Derived.Test.YtnobhmfoblnpbaaE1
import Derived.Test.YtnobhmfoblnpbaaLaw
namespace Go.Proofs.Ytnobhmfoblnpbaa
open Go Go.RowKit Go.Proofs

/-- P1.1's answer of Take: the number, what is left, the error. -/
def takeS (l : List UInt8) (n : Int) : Int × List UInt8 × Int :=
  if n < 1 ∨ 7 < n then (0, [], 1) else if (l.length : Int) < n then (0, [], 2) else (numL (l.take n.toNat), l.drop n.toNat, 0)

theorem takeS_bad (l : List UInt8) (n : Int) (h : n < 1 ∨ 7 < n) : takeS l n = (0, [], 1) := if_pos h
theorem takeS_short (l : List UInt8) (n : Int) (h1 : 1 ≤ n) (h7 : n ≤ 7) (h : (l.length : Int) < n) : takeS l n = (0, [], 2) := by
  unfold takeS; rw [if_neg (by omega), if_pos h]
theorem takeS_yes (l : List UInt8) (n : Int) (h1 : 1 ≤ n) (h7 : n ≤ 7) (h : n ≤ (l.length : Int)) : takeS l n = ((numL (l.take n.toNat) : Int), l.drop n.toNat, 0) := by
  unfold takeS; rw [if_neg (by omega), if_neg (by omega)]

theorem take_any (A : Option Addr) (k c : Nat) (l : List UInt8) (n : Int) (w : World) (h : Sl w A k c l) (hk : k ≤ 17592186044416) :
    Calls Try.prog 13 #[.slice A k c, .int .i64 n] w fun e w' => ∃ A' n' c', e = .returned (.tuple #[.int .i64 (takeS l n).1, .slice A' n' c', .int .i64 (takeS l n).2.2]) ∧ Sl w' A' n' c' (takeS l n).2.1 ∧ Below w.heap.size w w' := by
  have hl := h.len
  by_cases hb : n < 1 ∨ 7 < n
  · rw [takeS_bad l n hb]
    refine (take_bad A k c n w hb).mono ?_
    rintro e w' ⟨rfl, rfl⟩
    exact ⟨_, _, _, rfl, sl_nil w, Below.refl _ _⟩
  · by_cases hs : (k : Int) < n
    · rw [takeS_short l n (by omega) (by omega) (by omega)]
      refine (take_short A k c n w (by omega) (by omega) hs).mono ?_
      rintro e w' ⟨rfl, rfl⟩
      exact ⟨_, _, _, rfl, sl_nil w, Below.refl _ _⟩
    · rw [takeS_yes l n (by omega) (by omega) (by omega)]
      refine (take_yes A k c l n w h hk (by omega) (by omega) (by omega)).mono ?_
      rintro e w' ⟨A', n', c', rfl, ho, hb⟩
      exact ⟨_, _, _, rfl, ho.sl, hb⟩
theorem reftake_any (A : Option Addr) (k c : Nat) (l : List UInt8) (n : Int) (w : World) (h : Sl w A k c l) (hk : k ≤ 17592186044416) :
    Calls Try.prog 14 #[.slice A k c, .int .i64 n] w fun e w' => ∃ A' n' c', e = .returned (.tuple #[.int .i64 (takeS l n).1, .slice A' n' c', .int .i64 (takeS l n).2.2]) ∧ Sl w' A' n' c' (takeS l n).2.1 ∧ Below w.heap.size w w' := by
  have hl := h.len
  by_cases hb : n < 1 ∨ 7 < n
  · rw [takeS_bad l n hb]
    refine (reftake_bad A k c n w hb).mono ?_
    rintro e w' ⟨rfl, rfl⟩
    exact ⟨_, _, _, rfl, sl_nil w, Below.refl _ _⟩
  · by_cases hs : (k : Int) < n
    · rw [takeS_short l n (by omega) (by omega) (by omega)]
      refine (reftake_short A k c n w (by omega) (by omega) hs).mono ?_
      rintro e w' ⟨rfl, rfl⟩
      exact ⟨_, _, _, rfl, sl_nil w, Below.refl _ _⟩
    · rw [takeS_yes l n (by omega) (by omega) (by omega)]
      refine (reftake_yes A k c l n w h hk (by omega) (by omega) (by omega)).mono ?_
      rintro e w' ⟨A', n', c', rfl, ho, hb⟩
      exact ⟨_, _, _, rfl, ho.sl, hb⟩

set_option maxHeartbeats 1000000 in
theorem numTakes_walk (A : Option Addr) (n c : Nat) (l : List UInt8) (k : Int) (w : World) (h : Sl w A n c l) :
    Calls Try.prog 4 #[.slice A n c, .int .i64 k] w fun e w' => e = .returned (.bool true) ∧ Below w.heap.size w w' := by
  go_enter Try.func4, Try.ntmps4
  go_wp2_with fail
  refine (shown_any w).mono ?_
  rintro e w1 ⟨rfl, hb1⟩
  have h1 := h.below hb1
  go_wp2_with fail
  refine (few_any A n c l w1 h1).mono ?_
  rintro e w1' ⟨A2, n2, c2, rfl, rfl, h2⟩
  have hlen : n2 ≤ 1000 := by have := h2.len; rw [List.length_take] at this; omega
  generalize List.take 1000 l = l2 at h2
  go_wp2_with (at_builtin; refine wp_append_b _ T22 rfl _ _ rfl w1.heap.size _ 0 0 [] rfl (own_empty w1 5) A2 n2 c2 l2 rfl (h2.alloc _) (by omega) (by simp) ?_)
  intro A3 c3 w3 hown3 hb3
  have hb3 := below_new _ hb3 (Nat.le_refl _)
  have hz1 := hb1.size
  have hz3 := hb3.size
  have h3 := hown3.sl
  go_wp2_with fail
  refine (take_any A3 n2 c3 l2 k w3 h3 (by omega)).mono ?_
  rintro e w4 ⟨A4, n4, c4, rfl, h4, hb4⟩
  have hz4 := hb4.size
  go_wp2_with fail
  refine (reftake_any A2 n2 c2 l2 k w4 ((h2.below hb3).below hb4) (by omega)).mono ?_
  rintro e w5 ⟨A5, n5, c5, rfl, h5, hb5⟩
  have hc4 := conv_bs (h4.below hb5)
  have hc5 := conv_bs h5
  have hfin : Below w.heap.size w w5 := hb1.trans ((hb3.mono hz1).trans ((hb4.mono (by omega)).trans (hb5.mono (by omega))))
  go_wp2
  go_ret
  exact ⟨rfl, hfin⟩
end Go.Proofs.Ytnobhmfoblnpbaa
