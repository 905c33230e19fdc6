/- The law NumTexts: for every input it returns true, and what came in reads as it did. -/
import Derived.Test.YtnobhmfoblnpbaaE16
import Derived.Test.YtnobhmfoblnpbaaE13
import Derived.Test.YtnobhmfoblnpbaaE1
import Derived.Test.YtnobhmfoblnpbaaLaw
namespace Go.Proofs.Ytnobhmfoblnpbaa
open Go Go.RowKit Go.Proofs

/-- P1.2's and P1.3's answers. -/
def ptS (l x : List UInt8) (m most : Nat) : List UInt8 × Int := if x.length ≤ most then (l ++ (dig x.length m ++ x), 0) else ([], 7)
theorem ptS_yes (l x : List UInt8) (m most : Nat) (h : x.length ≤ most) : ptS l x m most = (l ++ (dig x.length m ++ x), 0) := if_pos h
theorem ptS_no (l x : List UInt8) (m most : Nat) (h : most < x.length) : ptS l x m most = ([], 7) := if_neg (by omega)
open Classical in
noncomputable def tkS (l : List UInt8) (m : Nat) : List UInt8 × List UInt8 × Int := if Whole l m then (bodyS l m, restS l m, 0) else ([], [], 2)
theorem tkS_yes (l : List UInt8) (m : Nat) (h : Whole l m) : tkS l m = (bodyS l m, restS l m, 0) := if_pos h
theorem tkS_no (l : List UInt8) (m : Nat) (h : ¬ Whole l m) : tkS l m = ([], [], 2) := if_neg h

theorem puttext_any (A : Option Addr) (k c : Nat) (l : List UInt8) (s : ByteArray) (w : World) (h : Sl w A k c l) (hk : k ≤ 17592186044416) :
    Calls Try.prog 15 #[.slice A k c, .string s] w fun e w' => ∃ A' n' c', e = .returned (.tuple #[.slice A' n' c', .int .i64 (ptS l s.data.toList 1 255).2]) ∧ Sl w' A' n' c' (ptS l s.data.toList 1 255).1 ∧ Below w.heap.size w w' := by
  have e : s.data.toList.length = s.size := by simp
  by_cases hs : s.size ≤ 255
  · rw [ptS_yes _ _ _ _ (by omega), e]
    refine (puttext_yes A k c l s w h hk hs).mono ?_
    rintro e w' ⟨A', n', c', rfl, ho, hb⟩
    exact ⟨_, _, _, rfl, ho.sl, hb⟩
  · rw [ptS_no _ _ _ _ (by omega)]
    refine (puttext_no A k c s w (by omega)).mono ?_
    rintro e w' ⟨rfl, rfl⟩
    exact ⟨_, _, _, rfl, sl_nil _, Below.refl _ _⟩
theorem refputtext_any (A : Option Addr) (k c : Nat) (l : List UInt8) (s : ByteArray) (w : World) (h : Sl w A k c l) (hk : k ≤ 17592186044416) :
    Calls Try.prog 16 #[.slice A k c, .string s] w fun e w' => ∃ A' n' c', e = .returned (.tuple #[.slice A' n' c', .int .i64 (ptS l s.data.toList 1 255).2]) ∧ Sl w' A' n' c' (ptS l s.data.toList 1 255).1 ∧ Below w.heap.size w w' := by
  have e : s.data.toList.length = s.size := by simp
  by_cases hs : s.size ≤ 255
  · rw [ptS_yes _ _ _ _ (by omega), e]
    refine (refputtext_yes A k c l s w h hk hs).mono ?_
    rintro e w' ⟨A', n', c', rfl, ho, hb⟩
    exact ⟨_, _, _, rfl, ho.sl, hb⟩
  · rw [ptS_no _ _ _ _ (by omega)]
    refine (refputtext_no A k c s w (by omega)).mono ?_
    rintro e w' ⟨rfl, hb⟩
    exact ⟨_, _, _, rfl, sl_nil _, hb⟩
theorem putbytes_any (A B : Option Addr) (k c n d : Nat) (l x : List UInt8) (w : World) (h : Sl w A k c l) (h' : Sl w B n d x) (hk : k ≤ 17592186044416) :
    Calls Try.prog 17 #[.slice A k c, .slice B n d] w fun e w' => ∃ A' n' c', e = .returned (.tuple #[.slice A' n' c', .int .i64 (ptS l x 2 65535).2]) ∧ Sl w' A' n' c' (ptS l x 2 65535).1 ∧ Below w.heap.size w w' := by
  have e := h'.len
  by_cases hs : n ≤ 65535
  · rw [ptS_yes _ _ _ _ (by omega), e]
    refine (putbytes_yes A B k c n d l x w h h' hk hs).mono ?_
    rintro e w' ⟨A', n', c', rfl, ho, hb⟩
    exact ⟨_, _, _, rfl, ho.sl, hb⟩
  · rw [ptS_no _ _ _ _ (by omega)]
    refine (putbytes_no A B k c n d w (by omega)).mono ?_
    rintro e w' ⟨rfl, rfl⟩
    exact ⟨_, _, _, rfl, sl_nil _, Below.refl _ _⟩
theorem refputbytes_any (A B : Option Addr) (k c n d : Nat) (l x : List UInt8) (w : World) (h : Sl w A k c l) (h' : Sl w B n d x) (hk : k ≤ 17592186044416) :
    Calls Try.prog 18 #[.slice A k c, .slice B n d] w fun e w' => ∃ A' n' c', e = .returned (.tuple #[.slice A' n' c', .int .i64 (ptS l x 2 65535).2]) ∧ Sl w' A' n' c' (ptS l x 2 65535).1 ∧ Below w.heap.size w w' := by
  have e := h'.len
  by_cases hs : n ≤ 65535
  · rw [ptS_yes _ _ _ _ (by omega), e]
    refine (refputbytes_yes A B k c n d l x w h h' hk hs).mono ?_
    rintro e w' ⟨A', n', c', rfl, ho, hb⟩
    exact ⟨_, _, _, rfl, ho.sl, hb⟩
  · rw [ptS_no _ _ _ _ (by omega)]
    refine (refputbytes_no A B k c n d w (by omega)).mono ?_
    rintro e w' ⟨rfl, rfl⟩
    exact ⟨_, _, _, rfl, sl_nil _, Below.refl _ _⟩
theorem taketext_any (A : Option Addr) (k c : Nat) (l : List UInt8) (w : World) (h : Sl w A k c l) (hk : k ≤ 17592186044416) :
    Calls Try.prog 19 #[.slice A k c] w fun e w' => ∃ A' n' c', e = .returned (.tuple #[.string ⟨(tkS l 1).1.toArray⟩, .slice A' n' c', .int .i64 (tkS l 1).2.2]) ∧ Sl w' A' n' c' (tkS l 1).2.1 ∧ Below w.heap.size w w' := by
  by_cases hw : Whole l 1
  · rw [tkS_yes _ _ hw]
    refine (taketext_yes A k c l w h hk hw).mono ?_
    rintro e w' ⟨A', n', c', rfl, ho, hb⟩
    exact ⟨_, _, _, rfl, ho.sl, hb⟩
  · rw [tkS_no _ _ hw]
    refine (taketext_no A k c l w h hw).mono ?_
    rintro e w' ⟨rfl, rfl⟩
    exact ⟨_, _, _, rfl, sl_nil _, Below.refl _ _⟩
theorem reftaketext_any (A : Option Addr) (k c : Nat) (l : List UInt8) (w : World) (h : Sl w A k c l) (hk : k ≤ 17592186044416) :
    Calls Try.prog 20 #[.slice A k c] w fun e w' => ∃ A' n' c', e = .returned (.tuple #[.string ⟨(tkS l 1).1.toArray⟩, .slice A' n' c', .int .i64 (tkS l 1).2.2]) ∧ Sl w' A' n' c' (tkS l 1).2.1 ∧ Below w.heap.size w w' := by
  by_cases hw : Whole l 1
  · rw [tkS_yes _ _ hw]
    refine (reftaketext_yes A k c l w h hk hw).mono ?_
    rintro e w' ⟨A', n', c', rfl, ho, hb⟩
    exact ⟨_, _, _, rfl, ho, hb⟩
  · rw [tkS_no _ _ hw]
    refine (reftaketext_no A k c l w h hk hw).mono ?_
    rintro e w' ⟨rfl, hb⟩
    exact ⟨_, _, _, rfl, sl_nil _, hb⟩
theorem takebytes_any (A : Option Addr) (k c : Nat) (l : List UInt8) (w : World) (h : Sl w A k c l) (hk : k ≤ 17592186044416) :
    Calls Try.prog 21 #[.slice A k c] w fun e w' => ∃ A1 n1 c1 A' n' c', e = .returned (.tuple #[.slice A1 n1 c1, .slice A' n' c', .int .i64 (tkS l 2).2.2]) ∧ Sl w' A1 n1 c1 (tkS l 2).1 ∧ Sl w' A' n' c' (tkS l 2).2.1 ∧ Below w.heap.size w w' := by
  by_cases hw : Whole l 2
  · rw [tkS_yes _ _ hw]
    refine (takebytes_yes A k c l w h hk hw).mono ?_
    rintro e w' ⟨A1, n1, c1, A', n', c', rfl, ho1, ho, hb⟩
    exact ⟨_, _, _, _, _, _, rfl, ho1.sl, ho.sl, hb⟩
  · rw [tkS_no _ _ hw]
    refine (takebytes_no A k c l w h hw).mono ?_
    rintro e w' ⟨rfl, rfl⟩
    exact ⟨_, _, _, _, _, _, rfl, sl_nil _, sl_nil _, Below.refl _ _⟩
theorem reftakebytes_any (A : Option Addr) (k c : Nat) (l : List UInt8) (w : World) (h : Sl w A k c l) (hk : k ≤ 17592186044416) :
    Calls Try.prog 22 #[.slice A k c] w fun e w' => ∃ A1 n1 c1 A' n' c', e = .returned (.tuple #[.slice A1 n1 c1, .slice A' n' c', .int .i64 (tkS l 2).2.2]) ∧ Sl w' A1 n1 c1 (tkS l 2).1 ∧ Sl w' A' n' c' (tkS l 2).2.1 ∧ Below w.heap.size w w' := by
  by_cases hw : Whole l 2
  · rw [tkS_yes _ _ hw]
    refine (reftakebytes_yes A k c l w h hk hw).mono ?_
    rintro e w' ⟨A1, n1, c1, A', n', c', rfl, ho1, ho, hb⟩
    exact ⟨_, _, _, _, _, _, rfl, ho1, ho, hb⟩
  · rw [tkS_no _ _ hw]
    refine (reftakebytes_no A k c l w h hk hw).mono ?_
    rintro e w' ⟨rfl, hb⟩
    exact ⟨_, _, _, _, _, _, rfl, sl_nil _, sl_nil _, hb⟩
end Go.Proofs.Ytnobhmfoblnpbaa
