/- The laws SuperAreas and SuperLabels: for every input they return true, and what came in reads as it did. -/
import Derived.Test.YtljlliiedbedeaaDoorSupO
namespace Go.Proofs.YtljlliiedbedeaaDoor
open Go Go.RowKit Go.Proofs

theorem sareas_int (x : Int) (n : Nat) (hx : x = (n : Int)) (hn : n ≤ 100000) (k : Nat) (hk : (n + 117) / 118 = k) (w : World) :
    Calls Tryd.prog 19 #[.int .i64 x] w fun e w' => e = .returned (.tuple #[.int .i64 (k : Int), .int .i64 (2 + 2 * (k : Int))]) ∧ w = w' := by
  subst hx
  exact sareas_any n hn k hk w
theorem srefareas_int (x : Int) (n : Nat) (hx : x = (n : Int)) (hn : n ≤ 100000) (k : Nat) (hk : (n + 117) / 118 = k) (w : World) :
    Calls Tryd.prog 20 #[.int .i64 x] w fun e w' => e = .returned (.tuple #[.int .i64 (k : Int), .int .i64 (2 + 2 * (k : Int))]) ∧ w = w' := by
  subst hx
  exact srefareas_any n hn k hk w
theorem rem_2017 (x : Int) : ∃ a : Nat, a < 2017 ∧ (x.tmod 2017 = (a : Int) ∨ x.tmod 2017 = -(a : Int) ∧ 0 < a) := by
  have h1 := Int.tmod_lt_of_pos x (show (0 : Int) < 2017 by omega)
  have h2 : -2017 < x.tmod 2017 := by
    have := Int.tmod_lt_of_pos (-x) (show (0 : Int) < 2017 by omega)
    rw [Int.neg_tmod] at this
    omega
  by_cases h : 0 ≤ x.tmod 2017
  · obtain ⟨a, ha⟩ := Int.eq_ofNat_of_zero_le h
    exact ⟨a, by omega, .inl ha⟩
  · obtain ⟨a, ha⟩ := Int.eq_ofNat_of_zero_le (show 0 ≤ -(x.tmod 2017) by omega)
    exact ⟨a, by omega, .inr ⟨by omega, by omega⟩⟩

set_option maxRecDepth 100000 in
set_option maxHeartbeats 4000000 in
theorem superAreas_walk (x0 : Int) (w : World) (ht : Tab w) :
    Calls Tryd.prog 9 #[.int .i64 x0] w fun e w' => e = .returned (.bool true) ∧ Below w.heap.size w w' := by
  obtain ⟨a, ha, hr⟩ := rem_2017 x0
  go_enter Tryd.func9, Tryd.ntmps9
  go_wp2_with fail
  refine (sshown_any w ht).mono ?_
  rintro e w2 ⟨rfl, W2⟩
  obtain ⟨k, hk⟩ : ∃ k, (32 + a + 117) / 118 = k := ⟨_, rfl⟩
  have Hk := Lib.hid hk
  have h1 : (32 : Int) + (a : Int) ≤ (k : Int) * 118 := by omega
  have h2 : ((k : Int) - 1) * 118 < 32 + (a : Int) := by omega
  have h3 : 2 + 2 * (k : Int) < 32 + (a : Int) := by omega
  have h4 : (k : Int) ≤ 1000 := by omega
  have h5 : (1 : Int) ≤ (k : Int) := by omega
  clear hk
  rcases hr with hr | ⟨hr, ha0⟩
  all_goals
    go_wp2_with fail
    refine (sareas_int _ (32 + a) (by omega) (by omega) k Hk.out w2).mono ?_
    rintro e w3 ⟨rfl, rfl⟩
    go_wp2
    go_ret
    exact ⟨by first | rfl | simp, W2⟩

set_option maxRecDepth 100000 in
set_option maxHeartbeats 4000000 in
theorem superLabels_walk (s : ByteArray) (x1 : Int) (w : World) (hm : s.size ≤ maxLen) (ht : Tab w) :
    Calls Tryd.prog 6 #[.string s, .int .i64 x1] w fun e w' => e = .returned (.bool true) ∧ Below w.heap.size w w' := by
  obtain ⟨a, ha, hr⟩ := rem_2017 x1
  obtain ⟨r, hlab⟩ : ∃ r, labL s = r := ⟨_, rfl⟩
  go_enter Tryd.func6, Tryd.ntmps6
  go_wp2_with fail
  refine (sshown_any w ht).mono ?_
  rintro e w2 ⟨rfl, W2⟩
  obtain ⟨k, hk⟩ : ∃ k, (32 + a + 117) / 118 = k := ⟨_, rfl⟩
  have Hk := Lib.hid hk
  clear hk
  rcases hr with hr | ⟨hr, ha0⟩
  all_goals
    go_wp2_with fail
    refine (sareas_int _ (32 + a) (by omega) (by omega) k Hk.out w2).mono ?_
    rintro e w3 ⟨rfl, rfl⟩
    go_wp2_with fail
    refine (srefareas_int _ (32 + a) (by omega) (by omega) k Hk.out w2).mono ?_
    rintro e w3 ⟨rfl, rfl⟩
    go_wp2_with fail
    refine (slabel_any s r hlab w2 hm).mono ?_
    rintro e w3 ⟨rfl, rfl⟩
    go_wp2_with fail
    refine (reflabel_any s r hlab w2 hm).mono ?_
    rintro e w3 ⟨rfl, rfl⟩
    go_wp2
    go_ret
    exact ⟨by first | rfl | simp, W2⟩
end Go.Proofs.YtljlliiedbedeaaDoor
