/- The program's TakeText takes a text off the front as P1.2 says where a whole one stands there. -/
import Derived.Test.YtnobhmfoblnpbaaE11
namespace Go.Proofs.Ytnobhmfoblnpbaa
open Go Go.RowKit Go.Proofs

set_option maxHeartbeats 1000000 in
theorem taketext_yes (A : Option Addr) (k c : Nat) (l : List UInt8) (w : World) (h : Sl w A k c l) (hk : k ≤ 17592186044416) (hw : Whole l 1) :
    Calls Try.prog 19 #[.slice A k c] w fun e w' => ∃ A2 n2 c2, e = .returned (.tuple #[.string ⟨(bodyS l 1).toArray⟩, .slice A2 n2 c2, .int .i64 0]) ∧
      Own w' w.heap.size 5 A2 n2 c2 (restS l 1) ∧ Below w.heap.size w w' := by
  have Hl := Lib.hid h.len
  have Hw := Lib.hid hw
  clear hw
  have hle1 := bodyS_le l 1
  have hle2 := restS_le l 1
  go_enter Try.func19, Try.ntmps19
  go_wp2_with (go_at_call 27; refine (split_ok _ _ _ l 1 _ h (by omega) (by omega) Hw.out).mono ?_; rintro e w1 ⟨A1, n1, c1, A2, n2, c2, rfl, h1, h2, hb1⟩)
  rw [show Int.toNat 1 = 1 from rfl] at h1 h2
  have hz := hb1.size
  have hc1 := conv_bs (w := w1.drew) h1
  have hc2 : ∀ o, (convert 22 9 (.slice A1 n1 c1)).run Try.prog (w1.alloc o).drew = .ok (.string ⟨(bodyS l 1).toArray⟩) (w1.alloc o).drew := fun o => conv_bs (w := (w1.alloc o).drew) (h1.alloc o)
  have hlen : (restS l 1).length ≤ 17592186044416 := by have := Hl.out; omega
  go_region_with (go_at_call 23; refine (join_any _ _ _ [restS l 1] _ (by first | exact parts1 (w := w1) 22 h2 | exact parts1 (w := w1.drew) 22 h2) (by rw [tot1]; omega)).mono ?_; rintro e w3 ⟨A3, n3, c3, rfl, hown3, hb3⟩; have hb3' : Below w1.heap.size w1 w3 := (by first | exact ((Below.refl _ w1).alloc (Nat.le_refl _) _).drew.trans (hb3.mono (by simp)) | exact ((Below.refl _ w1).drew.alloc (Nat.le_refl _) _).trans (hb3.mono (by simp))); have hc3 := conv_bs (h1.below hb3'))
  all_goals
    go_wp2
    go_ret3
    rw [cat1] at hown3
    exact ⟨_, _, _, rfl, hown3.less (by simp; omega), hb1.trans (hb3'.mono hz)⟩
end Go.Proofs.Ytnobhmfoblnpbaa
