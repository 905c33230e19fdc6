/- Counts, plain facts: what is written is read as it was. -/
import Derived.Test.YtancpkdkfemgfaaCtH
import Derived.Test.YtancpkdkfemgfaaKeyPl
namespace Go.Proofs.Ytancpkdkfemgfaa
open Go Go.RowKit Go.Proofs

theorem bodyTo_part (C : Ct) (m : Int) (n k : Nat) (h : k < n) : ((C.bodyTo m n).drop (2 * k)).take 2 = dig (C.get (m + (k : Int))) 2 := by
  induction n with
  | zero => omega
  | succ n ih =>
    show ((C.bodyTo m n ++ dig (C.get (m + (n : Int))) 2).drop (2 * k)).take 2 = _
    by_cases hk : k < n
    · rw [List.drop_append_of_le_length (by rw [C.bodyTo_len]; omega), List.take_append_of_le_length (by rw [List.length_drop, C.bodyTo_len]; omega)]
      exact ih hk
    · obtain rfl : k = n := by omega
      rw [List.drop_append, List.drop_eq_nil_of_le (by rw [C.bodyTo_len]; omega), C.bodyTo_len, Nat.sub_self, List.nil_append, List.drop_zero, List.take_of_length_le (by rw [dig_len]; omega)]
theorem Ct.body_x {C : Ct} (h : C.ok) {i k : Nat} (hi : i < areaN C.n) (hk : k < 118) : ldX (C.body (i : Int)) k = C.get ((i : Int) * 118 + (k : Int)) := by
  have hb : C.body (i : Int) = C.bodyTo ((i : Int) * 118) 118 := by unfold Ct.body; rw [if_pos ⟨by omega, by omega⟩]
  unfold ldX
  rw [hb, bodyTo_part C _ 118 k hk]
  have h1 := C.get_bounds h ((i : Int) * 118 + (k : Int))
  exact num_back _ 2 h1.1 (by have := h1.2; simp; omega)
theorem Ct.body_len {C : Ct} {i : Nat} (hi : i < areaN C.n) : (C.body (i : Int)).length = 236 := by
  unfold Ct.body
  rw [if_pos ⟨by omega, by omega⟩, C.bodyTo_len]
theorem put_now (C : Ct) (k : Nat) (x : Int) (a : Nat) (ha : a < C.n) : nm (C.put k x).now a = if a = k then x else nm C.now a := by
  show nm (C.now.set k x) a = _
  by_cases h : a = k
  · subst h
    rw [if_pos rfl, nm_set_same _ _ _ ha]
  · rw [if_neg h, nm_set_other _ _ _ _ (fun e => h e.symm)]
theorem rowTo_now (i : Nat) (l : List UInt8) (C : Ct) (k a : Nat) (ha : a < C.n) : nm (rowTo C.n i l C k).now a = if i * 118 ≤ a ∧ a < i * 118 + k then ldX l (a - i * 118) else nm C.now a := by
  induction k with
  | zero => rw [if_neg (by omega)]; rfl
  | succ k ih =>
    unfold rowTo
    by_cases hk : i * 118 + k < C.n
    · rw [if_pos hk, put_now _ _ _ _ (by rw [rowTo_n]; exact ha), ih]
      by_cases e : a = i * 118 + k
      · rw [if_pos e, if_pos (by omega), show a - i * 118 = k by omega]
      · rw [if_neg e]
        by_cases h2 : i * 118 ≤ a ∧ a < i * 118 + k
        · rw [if_pos h2, if_pos (by omega)]
        · rw [if_neg h2, if_neg (by omega)]
    · rw [if_neg hk, ih]
      by_cases h2 : i * 118 ≤ a ∧ a < i * 118 + k
      · rw [if_pos h2, if_pos (by omega)]
      · rw [if_neg h2, if_neg (by omega)]
theorem allTo_now (n : Nat) (ls : List (List UInt8)) (i a : Nat) (ha : a < n) : nm (allTo n ls i).now a = if a < i * 118 then ldX (nth ls (a / 118)) (a % 118) else 0 := by
  induction i with
  | zero =>
    rw [if_neg (by omega)]
    show nm (List.replicate n 0) a = 0
    unfold nm
    simp [ha]
  | succ i ih =>
    have h := rowTo_now i (nth ls i) (allTo n ls i) 118 a (by rw [allTo_n]; exact ha)
    rw [allTo_n, ih] at h
    refine (show nm (allTo n ls (i + 1)).now a = _ from h).trans ?_
    by_cases h1 : i * 118 ≤ a ∧ a < i * 118 + 118
    · rw [if_pos h1, if_pos (by omega), show a / 118 = i by omega, show a % 118 = a - i * 118 by omega]
    · rw [if_neg h1]
      by_cases h2 : a < i * 118
      · rw [if_pos h2, if_pos (by omega)]
      · rw [if_neg h2, if_neg (by omega)]
/-- The reserved sectors are not counted. -/
def Ct.res (C : Ct) : Prop := ∀ a, a < C.n → a < C.first → nm C.now a = 0
/-- All bodies. -/
def Ct.bodies (C : Ct) : List (List UInt8) := (List.range (areaN C.n)).map fun (i : Nat) => C.body (i : Int)
theorem Ct.bodies_at (C : Ct) {i : Nat} (h : i < areaN C.n) : nth C.bodies i = C.body (i : Int) := by
  unfold nth Ct.bodies
  rw [List.getD_eq_getElem?_getD, List.getElem?_map, List.getElem?_range h]
  rfl
theorem Ct.back_good {C : Ct} (h : C.ok) (hr : C.res) {i : Nat} (hi : i < areaN C.n) : rowGood C.n (2 + 2 * areaN C.n) i (nth C.bodies i) := by
  rw [C.bodies_at hi]
  refine ⟨Ct.body_len hi, fun k hk => ?_⟩
  unfold rowBad
  rw [Ct.body_x h hi hk]
  refine decide_eq_false ?_
  rintro ⟨h1, h2⟩
  refine h1 ?_
  unfold Ct.get
  split
  · rename_i h3
    have e : ((i : Int) * 118 + (k : Int)).toNat = i * 118 + k := by omega
    rw [e]
    rcases h2 with h2 | h2
    · exact hr _ (by omega) h2
    · omega
  · rfl
theorem Ct.back_loads {C : Ct} (h : C.ok) (hr : C.res) : loadE (C.n : Int) C.bodies = 0 ∧ loadC C.n C.bodies = C.commit := by
  have hl : C.bodies.length = areaN C.n := by unfold Ct.bodies; rw [List.length_map, List.length_range]
  constructor
  · unfold loadE
    rw [Int.toNat_natCast, if_neg (fun e => e (by have := h.1; omega)), if_neg]
    rintro (e | e)
    · exact e hl
    · exact e fun i hi => Ct.back_good h hr hi
  · have hnow : (allTo C.n C.bodies (areaN C.n)).now = C.now := by
      have h1 : (allTo C.n C.bodies (areaN C.n)).now.length = C.now.length := allTo_n _ _ _
      refine List.ext_getElem h1 fun a ha1 ha2 => ?_
      have ha : a < C.n := ha2
      have hw := allTo_now C.n C.bodies (areaN C.n) a ha
      have hda : a / 118 < areaN C.n := by unfold areaN; omega
      rw [if_pos (by unfold areaN; omega), C.bodies_at hda, Ct.body_x h hda (Nat.mod_lt _ (by omega))] at hw
      have e1 : ((a / 118 : Nat) : Int) * 118 + ((a % 118 : Nat) : Int) = (a : Int) := by omega
      rw [e1] at hw
      unfold Ct.get at hw
      rw [if_pos ⟨by omega, by omega⟩, Int.toNat_natCast] at hw
      unfold nm at hw
      simpa [ha1, ha2] using hw
    unfold loadC Ct.commit
    simp only [hnow]
end Go.Proofs.Ytancpkdkfemgfaa
