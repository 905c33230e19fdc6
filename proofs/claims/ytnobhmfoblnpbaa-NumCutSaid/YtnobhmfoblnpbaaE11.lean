/- The program's TakeBytes takes bytes off the front, or refuses, and its TakeText refuses, as P1.2 and P1.3 say. -/
import Derived.Test.YtnobhmfoblnpbaaE10
namespace Go.Proofs.Ytnobhmfoblnpbaa
open Go Go.RowKit Go.Proofs

/-- Is there a whole text (byte string) at the head of l, its length in m bytes? -/
def Whole (l : List UInt8) (m : Nat) : Prop := m ≤ l.length ∧ m + numL (l.take m) ≤ l.length

theorem split_no (A : Option Addr) (k c : Nat) (l : List UInt8) (n : Int) (w : World) (h : Sl w A k c l) (h1 : 1 ≤ n) (h7 : n ≤ 6) (hw : ¬ Whole l n.toNat) :
    Calls Try.prog 27 #[.slice A k c, .int .i64 n] w fun e w' => e = .returned (.tuple #[.slice none 0 0, .slice none 0 0, .bool false]) ∧ w = w' := by
  have hl := h.len
  rcases (by omega : (k : Int) < n ∨ n ≤ (k : Int)) with hk | hk
  · exact split_short A k c n w hk
  · refine split_cut A k c l n w h h1 h7 hk ?_
    unfold Whole at hw
    rcases Nat.lt_or_ge k (n.toNat + numL (l.take n.toNat)) with h2 | h2
    · exact h2
    · exact absurd ⟨by omega, by omega⟩ hw

set_option maxHeartbeats 400000 in
theorem taketext_no (A : Option Addr) (k c : Nat) (l : List UInt8) (w : World) (h : Sl w A k c l) (hw : ¬ Whole l 1) :
    Calls Try.prog 19 #[.slice A k c] w fun e w' => e = .returned (.tuple #[.string ⟨#[]⟩, .slice none 0 0, .int .i64 2]) ∧ w = w' := by
  have Hw := Lib.hid hw
  clear hw
  go_enter Try.func19, Try.ntmps19
  go_wp2_with (go_at_call 27; refine (split_no _ _ _ l 1 _ h (by omega) (by omega) Hw.out).mono ?_; rintro e w1 ⟨rfl, rfl⟩)
  go_ret3
  exact ⟨rfl, rfl⟩
set_option maxHeartbeats 400000 in
theorem takebytes_no (A : Option Addr) (k c : Nat) (l : List UInt8) (w : World) (h : Sl w A k c l) (hw : ¬ Whole l 2) :
    Calls Try.prog 21 #[.slice A k c] w fun e w' => e = .returned (.tuple #[.slice none 0 0, .slice none 0 0, .int .i64 2]) ∧ w = w' := by
  have Hw := Lib.hid hw
  clear hw
  go_enter Try.func21, Try.ntmps21
  go_wp2_with (go_at_call 27; refine (split_no _ _ _ l 2 _ h (by omega) (by omega) Hw.out).mono ?_; rintro e w1 ⟨rfl, rfl⟩)
  go_ret3
  exact ⟨rfl, rfl⟩

/-- What stands there, and what stands behind it. -/
def bodyS (l : List UInt8) (m : Nat) : List UInt8 := (l.drop m).take (numL (l.take m))
def restS (l : List UInt8) (m : Nat) : List UInt8 := l.drop (m + numL (l.take m))
theorem bodyS_le (l : List UInt8) (m : Nat) : (bodyS l m).length ≤ l.length := by unfold bodyS; simp; omega
theorem restS_le (l : List UInt8) (m : Nat) : (restS l m).length ≤ l.length := by unfold restS; simp

theorem split_ok (A : Option Addr) (k c : Nat) (l : List UInt8) (n : Int) (w : World) (h : Sl w A k c l) (h1 : 1 ≤ n) (h7 : n ≤ 6) (hw : Whole l n.toNat) :
    Calls Try.prog 27 #[.slice A k c, .int .i64 n] w fun e w' => ∃ A1 n1 c1 A2 n2 c2, e = .returned (.tuple #[.slice A1 n1 c1, .slice A2 n2 c2, .bool true]) ∧
      Sl w' A1 n1 c1 (bodyS l n.toNat) ∧ Sl w' A2 n2 c2 (restS l n.toNat) ∧ Below w.heap.size w w' := by
  have hl := h.len
  obtain ⟨ha, hb⟩ := hw
  exact split_yes A k c l n w h h1 h7 (by omega) (by omega)

set_option maxHeartbeats 400000 in
theorem takebytes_yes (A : Option Addr) (k c : Nat) (l : List UInt8) (w : World) (h : Sl w A k c l) (hk : k ≤ 17592186044416) (hw : Whole l 2) :
    Calls Try.prog 21 #[.slice A k c] w fun e w' => ∃ A1 n1 c1 A2 n2 c2, e = .returned (.tuple #[.slice A1 n1 c1, .slice A2 n2 c2, .int .i64 0]) ∧
      Own w' w.heap.size 5 A1 n1 c1 (bodyS l 2) ∧ Own w' w.heap.size 5 A2 n2 c2 (restS l 2) ∧ Below w.heap.size w w' := by
  have Hl := Lib.hid h.len
  have Hw := Lib.hid hw
  clear hw
  have hle1 := bodyS_le l 2
  have hle2 := restS_le l 2
  go_enter Try.func21, Try.ntmps21
  go_wp2_with (go_at_call 27; refine (split_ok _ _ _ l 2 _ h (by omega) (by omega) Hw.out).mono ?_; rintro e w1 ⟨A1, n1, c1, A2, n2, c2, rfl, h1, h2, hb1⟩)
  rw [show Int.toNat 2 = 2 from rfl] at h1 h2
  have hz := hb1.size
  refine (join_any _ _ _ [bodyS l 2] _ (parts1 22 h1) (by rw [tot1]; have := Hl.out; omega)).mono ?_
  rintro e w2 ⟨A3, n3, c3, rfl, hown3, hb3⟩
  rw [cat1] at hown3
  have hb3' := below_new _ (hb3.mono (B' := w1.heap.size) (by simp)) (Nat.le_refl _)
  have hz3 := hb3'.size
  go_wp2_with fail
  refine (join_any _ _ _ [restS l 2] _ (parts1 22 (h2.below hb3')) (by rw [tot1]; have := Hl.out; omega)).mono ?_
  rintro e w4 ⟨A4, n4, c4, rfl, hown4, hb4⟩
  rw [cat1] at hown4
  have hb4' := below_new _ (hb4.mono (B' := w2.heap.size) (by simp)) (Nat.le_refl _)
  go_wp2
  go_ret3
  exact ⟨_, _, _, _, _, _, rfl, (hown3.below hb4').less (by simp; omega), hown4.less (by simp; omega), hb1.trans ((hb3'.mono hz).trans (hb4'.mono (by omega)))⟩
end Go.Proofs.Ytnobhmfoblnpbaa
