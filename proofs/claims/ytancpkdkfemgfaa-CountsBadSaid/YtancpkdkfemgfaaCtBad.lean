/- The law CountsBad: for every input it returns true, and what came in reads as it did. -/
import Derived.Test.YtancpkdkfemgfaaCuM
import Derived.Test.YtancpkdkfemgfaaCuN
import Derived.Test.YtancpkdkfemgfaaCtI
namespace Go.Proofs.Ytancpkdkfemgfaa
open Go Go.RowKit Go.Proofs

set_option maxRecDepth 10000 in
set_option maxHeartbeats 4000000 in
theorem countsBad_walk (A : Option Addr) (n c : Nat) (xs : List (Int × Int)) (a : Int) (w : World) (h : CtOps w A n c xs) (_ha : -9223372036854775808 ≤ a ∧ a ≤ 9223372036854775807) :
    Calls Try.prog 8 #[.slice A n c, .int .i64 a] w fun e w' => e = .returned (.bool true) ∧ Below w.heap.size w w' := by
  go_enter Try.func8, Try.ntmps8
  go_wp2_with fail
  refine (cshown_any w).mono ?_
  rintro e w1 ⟨rfl, B1⟩
  go_wp2_with fail
  refine (cnew_any 64 (by omega) (by omega) w1).mono ?_
  rintro e w2 ⟨p, rfl, R, B2⟩
  have B2' := B1.trans (B2.mono B1.size)
  go_wp2_with fail
  refine (cplay_any R A n c xs (h.below B2') (fun h0 g o e hg => by have := h.old h0 g o e; have := B1.size; have hg : w1.heap.size ≤ g := hg; omega)).mono ?_
  rintro e w3 ⟨rfl, R3, T3⟩
  have B3 : Below w.heap.size w w3 := B2'.trans (T3.below (fun _ hk => Nat.le_trans B1.size hk) B2'.size)
  have htop := Ct.top_play 64 xs
  clear R B2 T3
  generalize (Ct.zero 64).play xs = C at R3 htop
  obtain ⟨x, hx⟩ : ∃ x, C.get a = x := ⟨_, rfl⟩
  have hx2 : x ≤ 60 := by rw [← hx]; exact Ct.top_get htop (by omega) a
  have hx3 : 0 ≤ x := by rw [← hx]; exact (Ct.get_bounds R3.ok a).1
  have Hx := Lib.hid hx
  obtain ⟨m, hm⟩ : ∃ m, C.free = m := ⟨_, rfl⟩
  have Hm := Lib.hid hm
  have hm2 : m ≤ 2048 := by have := C.freeTo_le C.n; have := R3.ok.1; unfold Ct.free at hm; omega
  clear hx hm htop
  go_wp2_with fail
  refine (cget_any R3 a x Hx.out).mono ?_
  rintro e w4 ⟨rfl, rfl⟩
  go_wp2_with fail
  refine (cfreeAll_any R3 m Hm.out).mono ?_
  rintro e w4 ⟨rfl, rfl⟩
  by_cases h0 : x = 0
  · subst h0
    have hn := Lib.hid (Ct.not_raised Hx.out)
    go_wp2_with fail
    refine (cunref_eq R3 a 0 1 C ⟨hn.out.2.2.1, hn.out.2.2.2.1⟩ hn.out.2.2.2.2.1).mono ?_
    rintro e w5 ⟨rfl, R5, T5⟩
    have B5 : Below w.heap.size w w5 := B3.trans (T5.below (fun _ hk => Nat.le_trans B1.size hk) B3.size)
    clear R3 T5
    go_wp2_with fail
    refine (cref_eq R5 a 1 C hn.out.1 hn.out.2.1).mono ?_
    rintro e w6 ⟨rfl, R6, T6⟩
    have B6 : Below w.heap.size w w6 := B5.trans (T6.below (fun _ hk => Nat.le_trans B1.size hk) B5.size)
    clear R5 T6
    go_wp2_with fail
    refine (cget_any R6 a 0 Hx.out).mono ?_
    rintro e w7 ⟨rfl, rfl⟩
    go_wp2_with fail
    refine (cfreeAll_any R6 m Hm.out).mono ?_
    rintro e w7 ⟨rfl, rfl⟩
    go_wp2_with fail
    refine (cfresh_any R6 a false hn.out.2.2.2.2.2).mono ?_
    rintro e w7 ⟨rfl, rfl⟩
    go_wp2
    go_ret
    exact ⟨rfl, B6⟩
  · have hn := Lib.hid (Ct.raised (C := C) (a := a) (by rw [Hx.out]; exact h0) (by rw [Hx.out]; omega))
    have hn2 := Lib.hid (show (C.ref a).get a = x + 1 by rw [hn.out.2, Hx.out])
    go_wp2_with fail
    refine (cref_eq R3 a 0 (C.ref a) hn.out.1 rfl).mono ?_
    rintro e w5 ⟨rfl, R5, T5⟩
    have B5 : Below w.heap.size w w5 := B3.trans (T5.below (fun _ hk => Nat.le_trans B1.size hk) B3.size)
    clear R3 T5
    go_wp2_with fail
    refine (cget_any R5 a (x + 1) hn2.out).mono ?_
    rintro e w7 ⟨rfl, rfl⟩
    go_wp2
    go_ret
    exact ⟨rfl, B5⟩
end Go.Proofs.Ytancpkdkfemgfaa
