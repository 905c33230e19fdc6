/- The document's examples of layer 1 hold in the program: the laws' helper shown returns true. -/
import Derived.Test.YtnobhmfoblnpbaaE12
namespace Go.Proofs.Ytnobhmfoblnpbaa
open Go Go.RowKit Go.Proofs

theorem ex1 : putS [] 258 2 = [1, 2] := by decide
theorem ex2 : numL ([1, 2] : List UInt8) = 258 := by decide
theorem ex3 : ¬ Whole ([2, 97] : List UInt8) 1 := by
  intro h
  have h2 := h.2
  revert h2
  decide
theorem ex4 : [] ++ (dig ((2 : Nat) : Int) 1 ++ [97, 98]) = ([2, 97, 98] : List UInt8) := by decide

set_option maxHeartbeats 1000000 in
theorem shown_any (w : World) : Calls Try.prog 9 #[] w fun e w' => e = .returned (.bool true) ∧ Below w.heap.size w w' := by
  go_enter Try.func9, Try.ntmps9
  go_wp2_with fail
  refine (put_any none 0 0 [] 258 2 w (sl_nil w) (by omega)).mono ?_
  rintro e w1 ⟨A1, n1, c1, rfl, hown1, hb1⟩
  rw [ex1] at hown1
  obtain rfl : n1 = 2 := hown1.len.symm
  have hs1 := hown1.sl
  go_wp2_with fail
  refine (take_yes A1 2 c1 [1, 2] 2 w1 hs1 (by omega) (by omega) (by omega) (by omega)).mono ?_
  rintro e w2 ⟨A2, n2, c2, rfl, hown2, hb2⟩
  have hn := hown2.len
  rw [show Int.toNat 2 = 2 from rfl] at hn ⊢
  simp only [List.drop_succ_cons, List.drop_zero, List.length_nil] at hn
  subst hn
  rw [show numL (List.take 2 ([1, 2] : List UInt8)) = 258 from ex2]
  go_wp2_with fail
  refine (take_short A1 2 c1 3 w2 (by omega) (by omega) (by omega)).mono ?_
  rintro e w3 ⟨rfl, rfl⟩
  go_wp2_with fail
  refine (puttext_yes none 0 0 [] ⟨#[97, 98]⟩ w2 (sl_nil w2) (by omega) (by simp [ByteArray.size])).mono ?_
  rintro e w4 ⟨A4, n4, c4, rfl, hown4, hb4⟩
  rw [show ([] : List UInt8) ++ (dig ((⟨#[97, 98]⟩ : ByteArray).size : Int) 1 ++ (⟨#[97, 98]⟩ : ByteArray).data.toList) = [2, 97, 98] from ex4] at hown4
  go_wp2_with fail
  have hlit := own_lit w4 5 [2, 97] #[.int .u8 2, .int .u8 97] rfl (by simp)
  refine (taketext_no _ 2 2 [2, 97] _ hlit.sl ex3).mono ?_
  rintro e w5 ⟨rfl, rfl⟩
  have hb5 : Below w4.heap.size w4 (w4.alloc (.cells #[.int .u8 2, .int .u8 97] 5)) := (Below.refl _ _).alloc (Nat.le_refl _) _
  have hc1 := conv_bs ((((hs1.below hb2).below hb4).below hb5))
  have hc2 := conv_bs (hown4.sl.below hb5)
  have hz1 := hb1.size
  have hz2 := hb2.size
  have hz4 := hb4.size
  have hfin : Below w.heap.size w (w4.alloc (.cells #[.int .u8 2, .int .u8 97] 5)) := hb1.trans ((hb2.mono hz1).trans ((hb4.mono (by omega)).trans (hb5.mono (by omega))))
  go_wp2
  go_ret
  exact ⟨rfl, hfin⟩
end Go.Proofs.Ytnobhmfoblnpbaa
