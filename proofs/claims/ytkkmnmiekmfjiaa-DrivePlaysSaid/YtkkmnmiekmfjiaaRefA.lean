/- The reference's small calls: there, step, Fuse, Cached, Read. -/
import Derived.Test.YtkkmnmiekmfjiaaRef
import Derived.BigRegion
import Derived.BigQuiet
import Derived.Deep.QuietTactic
namespace Go.Proofs.Ytkkmnmiekmfjiaa
open Go Go.RowKit Go.Proofs

section
variable {w : World} {rp ro oc : Nat} {iv : Nat → Value} {vs : Nat → List Value} {S : Nat → Prop} {D : DM}
theorem RLay.c0 (L : RLay w rp ro oc iv vs S D) : w.cell? ⟨rp, 0, none⟩ = some (.slice (some ⟨ro, 0, none⟩) D.n oc) := by rw [cell_of_row w rp 0 _ _ _ L.me]; rfl
theorem RLay.c1 (L : RLay w rp ro oc iv vs S D) : w.cell? ⟨rp, 1, none⟩ = some (.bool D.off) := by rw [cell_of_row w rp 1 _ _ _ L.me]; rfl
theorem RLay.c2 (L : RLay w rp ro oc iv vs S D) : w.cell? ⟨rp, 2, none⟩ = some (.bool D.fused) := by rw [cell_of_row w rp 2 _ _ _ L.me]; rfl
theorem RLay.c3 (L : RLay w rp ro oc iv vs S D) : w.cell? ⟨rp, 3, none⟩ = some (.int .i64 D.left) := by rw [cell_of_row w rp 3 _ _ _ L.me]; rfl
theorem RLay.c4 (L : RLay w rp ro oc iv vs S D) : w.cell? ⟨rp, 4, none⟩ = some (.int .i64 D.steps) := by rw [cell_of_row w rp 4 _ _ _ L.me]; rfl
theorem RLay.fz (L : RLay w rp ro oc iv vs S D) (j : Nat) : w.frozen? ⟨rp, j, none⟩ = false := by simp [World.frozen?, L.me]
theorem RLay.off1 (L : RLay w rp ro oc iv vs S D) (b : Bool) : RLay (w.setCell ⟨rp, 1, none⟩ (.bool b)) rp ro oc iv vs S { D with off := b } :=
  L.struct b D.fused D.left D.steps L.left (by rw [setCell_at _ L.me]; rfl) fun k _ hn => Below.heap_setCell _ _ _ _ hn
theorem RLay.fused1 (L : RLay w rp ro oc iv vs S D) (b : Bool) : RLay (w.setCell ⟨rp, 2, none⟩ (.bool b)) rp ro oc iv vs S { D with fused := b } :=
  L.struct D.off b D.left D.steps L.left (by rw [setCell_at _ L.me]; rfl) fun k _ hn => Below.heap_setCell _ _ _ _ hn
theorem RLay.left1 (L : RLay w rp ro oc iv vs S D) (n : Nat) (hn : n ≤ 9223372036854775807) {x : Int} (hx : x = (n : Int)) : RLay (w.setCell ⟨rp, 3, none⟩ (.int .i64 x)) rp ro oc iv vs S { D with left := n } := by
  subst hx
  exact L.struct D.off D.fused n D.steps hn (by rw [setCell_at _ L.me]; rfl) fun k _ hn => Below.heap_setCell _ _ _ _ hn
theorem RLay.steps1 (L : RLay w rp ro oc iv vs S D) (n : Nat) {x : Int} (hx : x = (n : Int)) : RLay (w.setCell ⟨rp, 4, none⟩ (.int .i64 x)) rp ro oc iv vs S { D with steps := n } := by
  subst hx
  exact L.struct D.off D.fused D.left n L.left (by rw [setCell_at _ L.me]; rfl) fun k _ hn => Below.heap_setCell _ _ _ _ hn
theorem RLay.drew (L : RLay w rp ro oc iv vs S D) : RLay w.drew rp ro oc iv vs S D := L.keep fun _ _ _ => rfl

theorem there_any (L : RLay w rp ro oc iv vs S D) (s : Int) :
    Calls Try.prog 29 #[.pointer (some ⟨rp, 0, none⟩), .int .i64 s] w fun e w' => e = .returned (.bool (decide (0 ≤ s ∧ s < (D.n : Int)))) ∧ w = w' := by
  have c0 := L.c0
  go_enter Try.func29, Try.ntmps29
  by_cases h0 : 0 ≤ s
  · by_cases h1 : s < (D.n : Int)
    · go_wp2
      go_ret
      simp [h0, h1]
    · go_wp2
      go_ret
      simp [h1]
  · go_wp2
    go_ret
    simp
    intro; omega
set_option maxHeartbeats 1000000 in
theorem rstep_any (L : RLay w rp ro oc iv vs S D) (hst : D.steps ≤ 1000000000) :
    Calls Try.prog 30 #[.pointer (some ⟨rp, 0, none⟩)] w fun e w' => e = .returned (.int .i64 D.err) ∧ RLay w' rp ro oc iv vs S D.stepD ∧ Turn (fun k => k = rp) w w' := by
  have c1 := L.c1
  have c2 := L.c2
  have c3 := L.c3
  have c4 := L.c4
  have f1 := L.fz 1
  have f3 := L.fz 3
  have f4 := L.fz 4
  have hle := L.left
  obtain ⟨n, dur, cac, off, fused, left, steps, cap⟩ := D
  simp only at c1 c2 c3 c4 hst hle
  cases off with
  | true =>
    rw [show (DM.stepD ⟨n, dur, cac, true, fused, left, steps, cap⟩) = ⟨n, dur, cac, true, fused, left, steps, cap⟩ from rfl, show (DM.err ⟨n, dur, cac, true, fused, left, steps, cap⟩) = 4 from rfl]
    go_enter Try.func30, Try.ntmps30
    go_wp2
    go_ret
    exact ⟨rfl, L, Turn.refl _ _⟩
  | false =>
    cases fused with
    | true =>
      by_cases h0 : left = 0
      · subst h0
        rw [show (DM.stepD ⟨n, dur, cac, false, true, 0, steps, cap⟩) = ⟨n, dur, cac, true, true, 0, steps, cap⟩ from rfl, show (DM.err ⟨n, dur, cac, false, true, 0, steps, cap⟩) = 4 from rfl]
        go_enter Try.func30, Try.ntmps30
        go_wp2
        go_ret
        exact ⟨rfl, L.off1 true, turn_at _ _ _⟩
      · have hs : (DM.stop ⟨n, dur, cac, false, true, left, steps, cap⟩) = false := by simp [DM.stop, h0]
        have E1 : (DM.stepD ⟨n, dur, cac, false, true, left, steps, cap⟩) = ⟨n, dur, cac, false, true, left - 1, steps + 1, cap⟩ := by simp [DM.stepD, hs]
        have E2 : (DM.err ⟨n, dur, cac, false, true, left, steps, cap⟩) = 0 := by simp [DM.err, hs]
        rw [E1, E2]
        go_enter Try.func30, Try.ntmps30
        go_wp2
        go_ret
        exact ⟨rfl, (L.left1 (left - 1) (by omega) (by omega)).steps1 (steps + 1) (by omega), (turn_at _ _ _).then (turn_at _ _ _)⟩
    | false =>
      rw [show (DM.stepD ⟨n, dur, cac, false, false, left, steps, cap⟩) = ⟨n, dur, cac, false, false, left, steps + 1, cap⟩ from rfl, show (DM.err ⟨n, dur, cac, false, false, left, steps, cap⟩) = 0 from rfl]
      go_enter Try.func30, Try.ntmps30
      go_wp2
      go_ret
      exact ⟨rfl, L.steps1 (steps + 1) (by omega), turn_at _ _ _⟩

set_option maxHeartbeats 1000000 in
theorem rfuse_any (L : RLay w rp ro oc iv vs S D) (n : Int) (hn : n ≤ 9223372036854775807) :
    Calls Try.prog 16 #[.pointer (some ⟨rp, 0, none⟩), .int .i64 n] w fun e w' => e = .returned (.tuple #[]) ∧ RLay w' rp ro oc iv vs S (D.fuse n) ∧ Turn (fun k => k = rp) w w' := by
  have c2 := L.c2
  have c3 := L.c3
  have f2 := L.fz 2
  have f3 := L.fz 3
  by_cases h0 : 0 ≤ n
  · have hmax : max n 0 = n := by omega
    go_enter Try.func16, Try.ntmps16
    go_wp2
    go_end0
    exact ⟨rfl, by have := (L.fused1 true).left1 n.toNat (by omega) (x := n) (by omega); unfold DM.fuse; rw [show decide (0 ≤ n) = true by simpa using h0]; exact this, (turn_at _ _ _).then (turn_at _ _ _)⟩
  · have hmax : max n 0 = 0 := by omega
    go_enter Try.func16, Try.ntmps16
    go_wp2
    go_end0
    exact ⟨rfl, by have := (L.fused1 false).left1 n.toNat (by omega) (x := 0) (by omega); unfold DM.fuse; rw [show decide (0 ≤ n) = false by simpa using h0]; exact this, (turn_at _ _ _).then (turn_at _ _ _)⟩
end
end Go.Proofs.Ytkkmnmiekmfjiaa
