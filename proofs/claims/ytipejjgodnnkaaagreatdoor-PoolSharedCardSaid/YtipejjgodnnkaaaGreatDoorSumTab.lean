/- The table of layer 2 reads as the text lays it: what the row's condition gives the walks; the door's own heap meets it. -/
import Derived.Test.YtipejjgodnnkaaaGreatDoorSumA
import Derived.Test.YtipejjgodnnkaaaGreatDoorLaw2
import Derived.Stop.Joined
namespace Go.Proofs.YtipejjgodnnkaaaGreatDoor
open Go Go.RowKit Go.Proofs Go.ChangeShapes Go.WideShapes Go.ChangeAt

theorem own0 : ownKnob Tryz.prog.godebug = none := by kernel_rfl
theorem laid0 : laidOutB Tryz.prog = true := by kernel_rfl
abbrev LAID : List (String × DataW Unit) := [("cambium/sum.shifted", Rows.laid_cambium_sum_shifted)]

theorem door_met (os : Os) (args : Array Value) : laidMetH Tryz.prog LAID ((World.doorLaid Tryz.prog 400 os).forCall (fun _ _ => 0) ⟨#[], args, []⟩).memory :=
  laidMetH_of_parts3 (fuel := 8) (laidMet_of_run' 8 (by kernel_rfl) (by kernel_rfl)) (by kernel_rfl) (by kernel_rfl)

theorem laid_tab {W : World} (h : laidMetH Tryz.prog LAID W) : Tab W := by
  rw [MakeChecks.laidMetH_plain _ _ _ (by kernel_rfl)] at h
  have hc : ∀ k : Nat, k < 16 → W.cell? ⟨1, k, none⟩ = some (.int .u32 (([0, 274646895, 549293790, 820201905, 1098587580, 1361435347, 1640403810, 1905808397, 2197175160, 2460548119, 2722870694, 2987750089, 3280807620, 3553878443, 3811616794, 4084100981] : List Int).getD k 0)) := fun k hk =>
    laid_ints (zs := [0, 274646895, 549293790, 820201905, 1098587580, 1361435347, 1640403810, 1905808397, 2197175160, 2460548119, 2722870694, 2987750089, 3280807620, 3553878443, 3811616794, 4084100981]) (g := 1) (by kernel_rfl) (by kernel_rfl) Tryz.underlying272 Tryz.underlying176 (by kernel_rfl) h k hk
  have hz : ∀ k : Nat, k < 16 → ([0, 274646895, 549293790, 820201905, 1098587580, 1361435347, 1640403810, 1905808397, 2197175160, 2460548119, 2722870694, 2987750089, 3280807620, 3553878443, 3811616794, 4084100981] : List Int).getD k 0 = (st4 k : Nat) := by decide +kernel
  exact ⟨by have := World.block_lt_of_cell? W _ (hc 0 (by omega)); exact this, fun k hk => by rw [hc k hk, hz k hk]⟩
end Go.Proofs.YtipejjgodnnkaaaGreatDoor
