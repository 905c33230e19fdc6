/- Plain facts: what a text and its bytes come to when they are laid down one behind the other, and read again. -/
import Derived.Test.YtnobhmfoblnpbaaBack
namespace Go.Proofs.Ytnobhmfoblnpbaa
open Go Go.RowKit Go.Proofs

theorem whole_put (x r : List UInt8) (m : Nat) (hx : x.length < 256 ^ m) : Whole (dig x.length m ++ (x ++ r)) m ∧ bodyS (dig x.length m ++ (x ++ r)) m = x ∧ restS (dig x.length m ++ (x ++ r)) m = r := by
  have e := dig_len (x.length : Int) m
  have ht : (dig (x.length : Int) m ++ (x ++ r)).take m = dig x.length m := List.take_left' e
  have hv : numL ((dig (x.length : Int) m ++ (x ++ r)).take m) = x.length := by rw [ht, numL_dig, Nat.mod_eq_of_lt hx]
  have hd : (dig (x.length : Int) m ++ (x ++ r)).drop m = x ++ r := List.drop_left' e
  refine ⟨⟨?_, ?_⟩, ?_, ?_⟩
  · rw [List.length_append, e]; omega
  · rw [hv, List.length_append, List.length_append, e]; omega
  · unfold bodyS; rw [hv, hd]; exact List.take_left' rfl
  · unfold restS; rw [hv, ← List.drop_drop, hd]; exact List.drop_left' rfl
/-- A text laid down, and its bytes behind it. -/
def pair (s : ByteArray) : List UInt8 := dig s.size 1 ++ (s.data.toList ++ (dig s.size 2 ++ s.data.toList))
def encTo (ss : List ByteArray) : Nat → List UInt8
  | 0 => []
  | j + 1 => encTo ss j ++ pair (txt ss j)
def encR (ss : List ByteArray) (i : Nat) : Nat → List UInt8
  | 0 => []
  | k + 1 => pair (txt ss i) ++ encR ss (i + 1) k
theorem encR_snoc (ss : List ByteArray) (i k : Nat) : encR ss i (k + 1) = encR ss i k ++ pair (txt ss (i + k)) := by
  induction k generalizing i with
  | zero => simp [encR]
  | succ k ih =>
    rw [encR, ih (i + 1), encR, List.append_assoc, show i + 1 + k = i + (k + 1) by omega]
theorem encTo_eq (ss : List ByteArray) (n : Nat) : encTo ss n = encR ss 0 n := by
  induction n with
  | zero => rfl
  | succ n ih => rw [encTo, encR_snoc, ih, Nat.zero_add]
theorem pair_len (s : ByteArray) : (pair s).length = 3 + 2 * s.size := by
  unfold pair; simp [dig_len]; omega
theorem encTo_len (ss : List ByteArray) (n : Nat) (h : ∀ j, j < n → (txt ss j).size ≤ 255) : (encTo ss n).length ≤ 513 * n := by
  induction n with
  | zero => simp [encTo]
  | succ n ih =>
    have h1 := ih (fun j hj => h j (by omega))
    have h2 := h n (by omega)
    rw [encTo, List.length_append, pair_len]
    omega
theorem encR_len (ss : List ByteArray) (i n : Nat) (h : ∀ j, j < i + n → (txt ss j).size ≤ 255) : (encR ss i n).length ≤ 513 * n := by
  induction n generalizing i with
  | zero => simp [encR]
  | succ n ih =>
    have h1 := ih (i + 1) (fun j hj => h j (by omega))
    have h2 := h i (by omega)
    rw [encR, List.length_append, pair_len]
    omega
/-- All that was put so far is short. Kept shut. -/
def Shorts (ss : List ByteArray) (n : Nat) : Prop := ∀ j, j < n → (txt ss j).size ≤ 255
theorem Shorts.next {ss : List ByteArray} {n : Nat} (h : Shorts ss n) (h1 : (txt ss n).size ≤ 255) : Shorts ss (n + 1) := by
  intro j hj
  rcases (by omega : j < n ∨ j = n) with h2 | rfl
  · exact h j h2
  · exact h1
theorem text_take (s : ByteArray) (r : List UInt8) (h : s.size ≤ 255) : Whole (pair s ++ r) 1 ∧ bodyS (pair s ++ r) 1 = s.data.toList ∧ restS (pair s ++ r) 1 = dig s.size 2 ++ (s.data.toList ++ r) := by
  have e : s.data.toList.length = s.size := by simp
  have h1 := whole_put s.data.toList (dig s.size 2 ++ s.data.toList ++ r) 1 (by omega)
  rw [e] at h1
  unfold pair
  simpa [List.append_assoc] using h1
theorem bytes_take (s : ByteArray) (r : List UInt8) (h : s.size ≤ 255) : Whole (dig s.size 2 ++ (s.data.toList ++ r)) 2 ∧ bodyS (dig s.size 2 ++ (s.data.toList ++ r)) 2 = s.data.toList ∧ restS (dig s.size 2 ++ (s.data.toList ++ r)) 2 = r := by
  have e : s.data.toList.length = s.size := by simp
  have h1 := whole_put s.data.toList r 2 (by omega)
  rw [e] at h1
  exact h1
theorem back_string (s : ByteArray) : (⟨s.data.toList.toArray⟩ : ByteArray) = s := by cases s; simp
end Go.Proofs.Ytnobhmfoblnpbaa
