/- The reference's counts: New and Load of what may not be; Load of anything. -/
import Derived.Test.YtancpkdkfemgfaaCtG
namespace Go.Proofs.Ytancpkdkfemgfaa
open Go Go.RowKit Go.Proofs

set_option maxHeartbeats 1000000 in
theorem crefnew_bad (n : Int) (h : n < 32 ∨ 2048 < n) (w : World) :
    Calls Try.prog 11 #[.int .i64 n] w fun e w' => e = .returned (.tuple #[.pointer none, .int .i64 1]) ∧ w = w' := by
  by_cases h1 : n < 32
  · go_enter Try.func11, Try.ntmps11
    go_wp2
    go_ret2
    exact ⟨rfl, rfl⟩
  · have h2 : 2048 < n := by omega
    go_enter Try.func11, Try.ntmps11
    go_wp2
    go_ret2
    exact ⟨rfl, rfl⟩
set_option maxHeartbeats 1000000 in
theorem crefload_bad (n : Int) (h : n < 32 ∨ 2048 < n) (A : Option Addr) (m c : Nat) (w : World) :
    Calls Try.prog 29 #[.int .i64 n, .slice A m c] w fun e w' => e = .returned (.tuple #[.pointer none, .int .i64 1]) ∧ w = w' := by
  have H := Lib.hid h
  clear h
  go_enter Try.func29, Try.ntmps29
  go_wp2_with fail
  refine (crefnew_bad n H.out w).mono ?_
  rintro e w1 ⟨rfl, rfl⟩
  go_wp2
  go_ret2
  exact ⟨rfl, rfl⟩
set_option maxHeartbeats 1000000 in
theorem crefload_many (n : Nat) (h1 : 32 ≤ n) (h2 : n ≤ 2048) (A : Option Addr) (m c : Nat) (w : World) (hm : m ≠ areaN n) :
    Calls Try.prog 29 #[.int .i64 (n : Int), .slice A m c] w fun e w' => e = .returned (.tuple #[.pointer none, .int .i64 3]) ∧ Below w.heap.size w w' := by
  obtain ⟨k, hk⟩ : ∃ k, areaN n = k := ⟨_, rfl⟩
  rw [hk] at hm
  have Hk := Lib.hid hk
  have d0 : ¬ (m : Int) = (k : Int) := by omega
  have hb : ((m : Int) == (k : Int)) = false := by simpa using d0
  clear hk
  go_enter Try.func29, Try.ntmps29
  go_wp2_with fail
  refine (crefnew_any n h1 h2 w).mono ?_
  rintro e w1 ⟨p, rfl, R, B⟩
  go_wp2_with fail
  refine (xrefareas_any (n : Int) n rfl (by omega) k Hk.out w1).mono ?_
  rintro e w2 ⟨rfl, rfl⟩
  go_wp2
  go_ret2
  exact ⟨rfl, B⟩
/-- Load of anything. -/
theorem crefload_any (n : Int) (ls : List (List UInt8)) (A : Option Addr) (m c : Nat) {w : World} (H : Parts w A m c ls) :
    Calls Try.prog 29 #[.int .i64 n, .slice A m c] w fun e w' => ((loadE n ls = 0 ∧ ∃ p, e = .returned (.tuple #[.pointer (some ⟨p, 0, none⟩), .int .i64 0]) ∧ RC w' p (fun k => w.heap.size ≤ k) (loadC n.toNat ls)) ∨
      (loadE n ls ≠ 0 ∧ e = .returned (.tuple #[.pointer none, .int .i64 (loadE n ls)]))) ∧ Below w.heap.size w w' := by
  by_cases hn : 32 ≤ n ∧ n ≤ 2048
  · obtain ⟨k, rfl⟩ := Int.eq_ofNat_of_zero_le (show 0 ≤ n by omega)
    by_cases hm : m = areaN k
    · refine (crefload_in k ls (by omega) (by omega) A m c H hm).mono ?_
      have hl : ls.length = areaN k := H.len.trans hm
      rintro e w' ⟨⟨hg, p, rfl, R⟩ | ⟨hg, rfl⟩, B⟩
      · have hE : loadE (k : Int) ls = 0 := by unfold loadE; rw [Int.toNat_natCast, if_neg (fun h => h hn), if_neg (fun h => h.elim (fun h => h hl) (fun h => h hg))]
        exact ⟨.inl ⟨hE, p, rfl, R⟩, B⟩
      · have hE : loadE (k : Int) ls = 3 := by unfold loadE; rw [Int.toNat_natCast, if_neg (fun h => h hn), if_pos (.inr hg)]
        rw [hE]
        exact ⟨.inr ⟨by omega, rfl⟩, B⟩
    · refine (crefload_many k (by omega) (by omega) A m c w hm).mono ?_
      rintro e w' ⟨rfl, B⟩
      have hE : loadE (k : Int) ls = 3 := by unfold loadE; rw [Int.toNat_natCast, if_neg (fun h => h hn), if_pos (.inl (by rw [H.len]; exact hm))]
      rw [hE]
      exact ⟨.inr ⟨by omega, rfl⟩, B⟩
  · refine (crefload_bad n (by omega) A m c w).mono ?_
    rintro e w' ⟨rfl, rfl⟩
    have hE : loadE n ls = 1 := by unfold loadE; rw [if_pos hn]
    rw [hE]
    exact ⟨.inr ⟨by omega, rfl⟩, Below.refl _ _⟩
end Go.Proofs.Ytancpkdkfemgfaa
