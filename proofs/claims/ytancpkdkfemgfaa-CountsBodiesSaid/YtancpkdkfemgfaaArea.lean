/- The code's and the reference's Areas alone (as SupO has them, under names of their own). -/
import Derived.Test.YtancpkdkfemgfaaE14
namespace Go.Proofs.Ytancpkdkfemgfaa
open Go Go.RowKit Go.Proofs

/-- How many sectors an area has. -/
def areaN (n : Nat) : Nat := (n + 117) / 118
set_option maxHeartbeats 1000000 in
theorem xareas_any (x : Int) (n : Nat) (hx : x = (n : Int)) (hn : n ≤ 100000) (k : Nat) (hk : areaN n = k) (w : World) :
    Calls Try.prog 33 #[.int .i64 x] w fun e w' => e = .returned (.tuple #[.int .i64 (k : Int), .int .i64 (2 + 2 * (k : Int))]) ∧ w = w' := by
  subst hx
  unfold areaN at hk
  have h1 : ((n : Int) + 118 - 1).tdiv 118 = (k : Int) := by
    rw [Int.tdiv_eq_ediv_of_nonneg (by omega)]
    omega
  have h2 : (k : Int) ≤ 1000 := by omega
  clear hk
  go_enter Try.func33, Try.ntmps33
  go_wp2
  go_ret2
  exact ⟨rfl, rfl⟩
set_option maxHeartbeats 1000000 in
theorem xrefareas_any (x : Int) (n : Nat) (hx : x = (n : Int)) (hn : n ≤ 100000) (k : Nat) (hk : areaN n = k) (w : World) :
    Calls Try.prog 25 #[.int .i64 x] w fun e w' => e = .returned (.tuple #[.int .i64 (k : Int), .int .i64 (2 + 2 * (k : Int))]) ∧ w = w' := by
  subst hx
  unfold areaN at hk
  have Hk := Lib.hid hk
  clear hk
  go_enter Try.func25, Try.ntmps25
  go_wp2_with fail
  go_loop [4] (fun i => ∃ q : Nat, q ≤ 1000 ∧ q * 118 ≤ n + 117 ∧ i = .int .i64 (q : Int)) (fun i => 1000 - (intOf i).toNat)
  case atStart => exact ⟨0, by omega, by omega, rfl⟩
  case round =>
    obtain ⟨q, hq, hq2, rfl⟩ := hrel
    by_cases hlt : q * 118 < n
    · have h1 : (q : Int) * 118 < (n : Int) := by omega
      go_wp2
      exact ⟨⟨q + 1, by omega, by omega, by go_num⟩, by simp [intOf]; omega⟩
    · have h1 : ¬ (q : Int) * 118 < (n : Int) := by omega
      have hqk : q = k := by have := Hk.out; omega
      subst hqk
      go_wp2
      go_ret2
      exact ⟨rfl, rfl⟩
end Go.Proofs.Ytancpkdkfemgfaa
