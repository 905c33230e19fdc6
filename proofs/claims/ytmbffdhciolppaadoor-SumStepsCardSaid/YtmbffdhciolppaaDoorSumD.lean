/- The law SumSteps: for every input it returns true, and what came in reads as it did. -/
import Derived.Test.YtmbffdhciolppaaDoorSumC
namespace Go.Proofs.YtmbffdhciolppaaDoor
open Go Go.RowKit Go.Proofs

theorem more_next (s : Nat) (l : List UInt8) (k : Nat) (h : k < l.length) : more (more s (l.take k)) [UInt8.ofNat (byt l k)] = more s (l.take (k + 1)) := by
  rw [more_append, take_next l k h]

set_option maxHeartbeats 2000000 in
theorem sumSteps_walk (s : Nat) (hs : s < 4294967296) (t : Nat) (ht : t < 4294967296) (A : Option Addr) (n c : Nat) (l : List UInt8) (w : World) (h : Sl w A n c l) (htab : Tab w) :
    Calls Tryd.prog 7 #[.int .u32 (s : Nat), .int .u32 (t : Nat), .slice A n c] w fun e w' => e = .returned (.bool true) ∧ Below w.heap.size w w' := by
  go_enter Tryd.func7, Tryd.ntmps7
  go_wp2_with fail
  refine (shown_any w htab).mono ?_
  rintro e w1 ⟨rfl, hb1⟩
  have h1 := h.below hb1
  have ht1 := htab.below hb1 htab.1
  go_wp2_with fail
  refine (few_any A n c l w1 h1).mono ?_
  rintro e w1' ⟨A2, n2, c2, rfl, rfl, h2⟩
  have hlen : n2 ≤ 600 := by have := h2.len; rw [List.length_take] at this; omega
  generalize List.take 600 l = l2 at h2
  have hc2 := h2.cap
  have hm2 := h2.max
  unfold maxLen at hm2
  have Hl := Lib.hid h2.len
  go_wp2_with fail
  go_loop [8, 9, 10] (fun x y i => ∃ k : Nat, k ≤ n2 ∧ i = .int .i64 k ∧ x = .int .u32 (more s (l2.take k) : Nat) ∧ y = .int .u32 (more t (l2.take k) : Nat)) (fun _ _ i => n2 - (intOf i).toNat)
  case atStart => exact ⟨0, Nat.zero_le _, rfl, by rw [List.take_zero, more_nil hs], by rw [List.take_zero, more_nil ht]⟩
  case round =>
    obtain ⟨k, hk, rfl, rfl, rfl⟩ := hrel
    by_cases hlt : k < n2
    · obtain ⟨ad, rfl, h3⟩ := h2.one hlt
      have Hx := Lib.hid (more_next s l2 k (by rw [Hl.out]; exact hlt))
      have Hy := Lib.hid (more_next t l2 k (by rw [Hl.out]; exact hlt))
      have hx := more_lt s (l2.take k)
      have hy := more_lt t (l2.take k)
      generalize more s (l2.take k) = x at hx Hx
      generalize more t (l2.take k) = y at hy Hy
      go_wp2_with fail
      refine (more_any x hx _ _ _ _ w1 h3 ht1).mono ?_
      rintro e w4 ⟨rfl, rfl⟩
      rw [Hx.out]
      go_wp2_with fail
      refine (more_any y hy _ _ _ _ w1 h3 ht1).mono ?_
      rintro e w4 ⟨rfl, rfl⟩
      rw [Hy.out]
      go_wp2
      exact ⟨⟨k + 1, by omega, by go_num, rfl, rfl⟩, by simp [intOf]; omega⟩
    · obtain rfl : k = n2 := by omega
      rw [show l2.take k = l2 from List.take_of_length_le (by rw [Hl.out]; omega)]
      go_wp2_with fail
      refine (more_any s hs _ _ _ _ w1 h2 ht1).mono ?_
      rintro e w4 ⟨rfl, rfl⟩
      go_wp2_with fail
      refine (more_any t ht _ _ _ _ w1 h2 ht1).mono ?_
      rintro e w4 ⟨rfl, rfl⟩
      by_cases hst : s = t
      · subst hst
        go_wp2
        go_ret
        exact ⟨by first | rfl | simp [go_sem], hb1⟩
      · have hne : ¬ more s l2 = more t l2 := fun e => hst (more_inj hs ht e)
        have hne1 : ((more s l2 : Nat) : Int) ≠ ((more t l2 : Nat) : Int) := by omega
        have hne2 : (s : Int) ≠ (t : Int) := by omega
        go_wp2
        go_ret
        have hd1 : (((more s l2 : Nat) : Int) == ((more t l2 : Nat) : Int)) = false := by simpa using hne1
        have hd2 : ((s : Int) == (t : Int)) = false := by simpa using hne2
        exact ⟨by simp only [go_sem, hd1, hd2]; simp, hb1⟩
end Go.Proofs.YtmbffdhciolppaaDoor
