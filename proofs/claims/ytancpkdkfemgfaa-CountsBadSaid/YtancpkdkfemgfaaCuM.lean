/- Counts: the document's examples. -/
import Derived.Test.YtancpkdkfemgfaaCuK
import Derived.Test.YtancpkdkfemgfaaCuE
namespace Go.Proofs.Ytancpkdkfemgfaa
open Go Go.RowKit Go.Proofs

def sh0 : Ct := Ct.zero 32
def sh1 : Ct := sh0.alloc
def sh2 : Ct := sh1.alloc
def sh3 : Ct := sh2.ref 4
def sh4 : Ct := sh3.unref 5
def sh5 : Ct := sh4.commit
def sh6 : Ct := sh5.unref 4
def sh7 : Ct := sh6.unref 4
def sh8 : Ct := sh7.alloc
def sh9 : Ct := sh8.commit
def sh10 : Ct := sh9.alloc
theorem sh0_says : sh0.allocV = 4 ∧ sh0.allocE = 0 := by decide
theorem sh1_says : sh1.allocV = 5 ∧ sh1.allocE = 0 := by decide
theorem sh2_says : sh2.refE 4 = 0 := by decide
theorem sh3_says : sh3.unrefV 5 = 0 ∧ sh3.unrefE 5 = 0 := by decide
theorem sh4_says : sh4.free = 27 := by decide
theorem sh5_says : sh5.unrefV 4 = 1 ∧ sh5.unrefE 4 = 0 := by decide
theorem sh6_says : sh6.unrefV 4 = 0 ∧ sh6.unrefE 4 = 0 := by decide
theorem sh7_says : sh7.allocV = 5 ∧ sh7.allocE = 0 := by decide
theorem sh9_says : sh9.allocV = 4 ∧ sh9.allocE = 0 := by decide
section
variable {w : World} {p : Nat} {S : Nat → Prop} {C : Ct}
theorem calloc_eq (H : CC w p S C) (v e : Int) (D : Ct) (h : C.allocV = v ∧ C.allocE = e) (hD : C.alloc = D) :
    Calls Try.prog 13 #[.pointer (some ⟨p, 0, none⟩)] w fun x w' => x = .returned (.tuple #[.int .i64 v, .int .i64 e]) ∧ CC w' p S D ∧ Turn S w w' := by
  obtain ⟨rfl, rfl⟩ := h
  subst hD
  exact calloc_any H
theorem cref_eq (H : CC w p S C) (a e : Int) (D : Ct) (h : C.refE a = e) (hD : C.ref a = D) :
    Calls Try.prog 15 #[.pointer (some ⟨p, 0, none⟩), .int .i64 a] w fun x w' => x = .returned (.int .i64 e) ∧ CC w' p S D ∧ Turn S w w' := by
  subst h
  subst hD
  exact cref_any H a
theorem cunref_eq (H : CC w p S C) (a v e : Int) (D : Ct) (h : C.unrefV a = v ∧ C.unrefE a = e) (hD : C.unref a = D) :
    Calls Try.prog 17 #[.pointer (some ⟨p, 0, none⟩), .int .i64 a] w fun x w' => x = .returned (.tuple #[.int .i64 v, .int .i64 e]) ∧ CC w' p S D ∧ Turn S w w' := by
  obtain ⟨rfl, rfl⟩ := h
  subst hD
  exact cunref_any H a
theorem ccommit_eq (H : CC w p S C) (D : Ct) (hD : C.commit = D) :
    Calls Try.prog 19 #[.pointer (some ⟨p, 0, none⟩)] w fun x w' => x = .returned (.tuple #[]) ∧ CC w' p S D ∧ Turn S w w' := by
  subst hD
  exact ccommit_any H
end
set_option maxRecDepth 10000 in
set_option maxHeartbeats 4000000 in
theorem cshown_any (w : World) : Calls Try.prog 9 #[] w fun e w' => e = .returned (.bool true) ∧ Below w.heap.size w w' := by
  go_enter Try.func9, Try.ntmps9
  go_wp2_with fail
  refine (cnew_any 32 (by omega) (by omega) w).mono ?_
  rintro e w1 ⟨p, rfl, R, B⟩
  have R : CC w1 p (fun k => w.heap.size ≤ k) sh0 := R
  have hB : ∀ v : World, Turn (fun k => w.heap.size ≤ k) w1 v → Below w.heap.size w v := fun v T => B.trans (T.below (fun _ h => h) B.size)
  have HB := Lib.hid hB
  clear hB
  go_wp2_with fail
  refine (calloc_eq R 4 0 sh1 sh0_says rfl).mono ?_
  rintro e w2 ⟨rfl, R2, T2⟩
  clear R
  go_wp2_with fail
  refine (calloc_eq R2 5 0 sh2 sh1_says rfl).mono ?_
  rintro e w3 ⟨rfl, R3, T3⟩
  have T3 := T2.then T3
  clear R2 T2
  go_wp2_with fail
  refine (cref_eq R3 4 0 sh3 sh2_says rfl).mono ?_
  rintro e w4 ⟨rfl, R4, T4⟩
  have T4 := T3.then T4
  clear R3 T3
  go_wp2_with fail
  refine (cunref_eq R4 5 0 0 sh4 sh3_says rfl).mono ?_
  rintro e w5 ⟨rfl, R5, T5⟩
  have T5 := T4.then T5
  clear R4 T4
  go_wp2_with fail
  refine (cfreeAll_any R5 27 sh4_says).mono ?_
  rintro e w6 ⟨rfl, rfl⟩
  go_wp2_with fail
  refine (ccommit_eq R5 sh5 rfl).mono ?_
  rintro e w6 ⟨rfl, R6, T6⟩
  have T6 := T5.then T6
  clear R5 T5
  go_wp2_with fail
  refine (cunref_eq R6 4 1 0 sh6 sh5_says rfl).mono ?_
  rintro e w7 ⟨rfl, R7, T7⟩
  have T7 := T6.then T7
  clear R6 T6
  go_wp2_with fail
  refine (cunref_eq R7 4 0 0 sh7 sh6_says rfl).mono ?_
  rintro e w8 ⟨rfl, R8, T8⟩
  have T8 := T7.then T8
  clear R7 T7
  go_wp2_with fail
  refine (calloc_eq R8 5 0 sh8 sh7_says rfl).mono ?_
  rintro e w9 ⟨rfl, R9, T9⟩
  have T9 := T8.then T9
  clear R8 T8
  go_wp2_with fail
  refine (ccommit_eq R9 sh9 rfl).mono ?_
  rintro e w10 ⟨rfl, R10, T10⟩
  have T10 := T9.then T10
  clear R9 T9
  go_wp2_with fail
  refine (calloc_eq R10 4 0 sh10 sh9_says rfl).mono ?_
  rintro e w11 ⟨rfl, R11, T11⟩
  have T11 := T10.then T11
  clear R10 T10
  go_wp2
  go_ret
  exact ⟨rfl, HB.out _ T11⟩
end Go.Proofs.Ytancpkdkfemgfaa
