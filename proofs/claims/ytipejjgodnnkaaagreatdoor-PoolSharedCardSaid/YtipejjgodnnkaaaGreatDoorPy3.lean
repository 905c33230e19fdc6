/- The program's Take takes a number off any bytes, or refuses, as P1.1 says, for at most 2 to the 44 bytes. The code's and the reference's Areas alone (as SupO has them, under names of their own). -/
import Derived.Test.YtipejjgodnnkaaaGreatDoorPy2
import Derived.Deep.RegionWith
import Derived.BigQuiet
import Derived.Deep.QuietTactic
namespace Go.Proofs.YtipejjgodnnkaaaGreatDoor
open Go Go.RowKit Go.Proofs

set_option maxHeartbeats 1000000 in
theorem take_yes (A : Option Addr) (k c : Nat) (l : List UInt8) (n : Int) (w : World) (h : Sl w A k c l) (hk : k ≤ 17592186044416) (h1 : 1 ≤ n) (h7 : n ≤ 7) (hn : n ≤ (k : Int)) :
    Calls Tryz.prog 185 #[.slice A k c, .int .i64 n] w fun e w' => ∃ A' n' c', e = .returned (.tuple #[.int .i64 (numL (l.take n.toNat)), .slice A' n' c', .int .i64 0]) ∧ Own w' w.heap.size 5 A' n' c' (l.drop n.toNat) ∧ Below w.heap.size w w' := by
  obtain ⟨m, rfl⟩ := Int.eq_ofNat_of_zero_le (show 0 ≤ n by omega)
  rw [Int.toNat_natCast]
  have hc := h.cap
  have hm := h.max
  unfold maxLen at hm
  have hi1 : (0 : Int) ≤ (m : Int) := by omega
  have hi2 : (m : Int) ≤ (c : Int) := by omega
  have hi3 : m ≤ c := by omega
  have hi4 : m ≤ k := by omega
  have h9 : decide ((k : Int) < (m : Int)) = false := by simp; omega
  go_enter Tryz.func185, Tryz.ntmps185
  go_wp2_with fail
  have h2 := h.take (k := m) (by omega)
  obtain ⟨A2, hA2, h3⟩ : ∃ A2, (if c = m then A else Option.map (fun x => x.add m) A) = A2 ∧ Sl w A2 (k - m) (c - m) (l.drop m) := ⟨_, rfl, h.drop (by omega)⟩
  have hlen := Lib.hid h3.len
  go_region_with (first
    | (go_at_call 211; go_loud (refine (number_any _ _ _ (l.take m) _ (by first | exact h2 | exact h2.alloc _) (by omega)).mono ?_; rintro e w1 ⟨rfl, rfl⟩))
    | (go_at_call 201; refine (join_any _ _ _ [l.drop m] _ (by exact parts1 (w := w.drew) 30 h3) (by rw [tot1, hlen.out]; omega)).mono ?_; rintro e w1 ⟨A1, n1, c1, rfl, hown1, hb1⟩))
  all_goals
    go_wp2
    go_ret3
    rw [cat1] at hown1
    refine ⟨_, _, _, rfl, hown1.less (by simp), ?_⟩
    exact ((Below.refl w.heap.size w).drew.alloc (Nat.le_refl _) _).trans (hb1.mono (by simp))

end Go.Proofs.YtipejjgodnnkaaaGreatDoor

namespace Go.Proofs.YtipejjgodnnkaaaGreatDoor
open Go Go.RowKit Go.Proofs

/-- How many sectors an area has. -/
def areaN (n : Nat) : Nat := (n + 117) / 118
set_option maxHeartbeats 1000000 in
theorem xareas_any (x : Int) (n : Nat) (hx : x = (n : Int)) (hn : n ≤ 100000) (k : Nat) (hk : areaN n = k) (w : World) :
    Calls Tryz.prog 145 #[.int .i64 x] w fun e w' => e = .returned (.tuple #[.int .i64 (k : Int), .int .i64 (2 + 2 * (k : Int))]) ∧ w = w' := by
  subst hx
  unfold areaN at hk
  have h1 : ((n : Int) + 118 - 1).tdiv 118 = (k : Int) := by
    rw [Int.tdiv_eq_ediv_of_nonneg (by omega)]
    omega
  have h2 : (k : Int) ≤ 1000 := by omega
  clear hk
  go_enter Tryz.func145, Tryz.ntmps145
  go_wp2
  go_ret2
  exact ⟨rfl, rfl⟩
end Go.Proofs.YtipejjgodnnkaaaGreatDoor
