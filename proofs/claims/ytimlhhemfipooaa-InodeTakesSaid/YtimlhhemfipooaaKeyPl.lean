/- Plain facts of numbers as bytes, and of keys: the order of keys is the order of their bytes; nothing stands between a key and the next one. -/
import Derived.Test.YtimlhhemfipooaaE2
import Derived.Test.YtimlhhemfipooaaE4
namespace Go.Proofs.Ytimlhhemfipooaa
open Go Go.RowKit Go.Proofs

theorem foldl_numK (l : List UInt8) (a : Nat) : l.foldl (fun a b => 256 * a + b.toNat) a = a * 256 ^ l.length + numL l := by
  induction l generalizing a with
  | nil => simp [numL]
  | cons b l ih =>
    unfold numL
    rw [List.foldl_cons, List.foldl_cons, ih, ih (256 * 0 + b.toNat), List.length_cons, Nat.pow_succ, Nat.add_mul, Nat.add_mul]
    have e : 256 * a * 256 ^ l.length = a * (256 ^ l.length * 256) := by rw [Nat.mul_comm 256 a, Nat.mul_assoc, Nat.mul_comm 256]
    omega
theorem numL_consK (b : UInt8) (l : List UInt8) : numL (b :: l) = b.toNat * 256 ^ l.length + numL l := by
  have h := foldl_numK l (256 * 0 + b.toNat)
  have e : (256 * 0 + b.toNat) * 256 ^ l.length = b.toNat * 256 ^ l.length := by rw [Nat.mul_zero, Nat.zero_add]
  rw [e] at h
  exact h
theorem low_natK (u k : Nat) : (low (u : Int) k).toNat = u / 256 ^ k % 256 := by
  unfold low
  have e : ((u : Int) / 2 ^ (8 * k) % 256) = ((u / 256 ^ k % 256 : Nat) : Int) := by
    rw [show (256 : Nat) ^ k = 2 ^ (8 * k) by rw [Nat.pow_mul], Int.natCast_emod, Int.natCast_ediv, Int.natCast_pow]
    rfl
  rw [e, Int.toNat_natCast, UInt8.toNat_ofNat']
  omega
theorem numL_digK (u k : Nat) : numL (dig (u : Int) k) = u % 256 ^ k := by
  induction k with
  | zero => simp [dig, numL, Nat.mod_one]
  | succ k ih =>
    rw [dig, numL_consK, dig_len, ih, low_natK, Nat.mod_pow_succ, Nat.mul_comm]
    omega
/-- Bytes of one length that are the same number are the same. -/
theorem numL_injK : ∀ {a b : List UInt8}, a.length = b.length → numL a = numL b → a = b
  | [], [], _, _ => rfl
  | [], _ :: _, h, _ => by simp at h
  | _ :: _, [], h, _ => by simp at h
  | x :: a, y :: b, h, e => by
    have hl : a.length = b.length := by simpa using h
    rw [numL_consK, numL_consK, hl] at e
    have h1 := numL_lt a
    have h2 := numL_lt b
    rw [hl] at h1
    have hp : 0 < 256 ^ b.length := Nat.pow_pos (by omega)
    have d1 : (x.toNat * 256 ^ b.length + numL a) / 256 ^ b.length = x.toNat := by rw [Nat.mul_comm, Nat.mul_add_div hp, Nat.div_eq_of_lt h1]; omega
    have d2 : (y.toNat * 256 ^ b.length + numL b) / 256 ^ b.length = y.toNat := by rw [Nat.mul_comm, Nat.mul_add_div hp, Nat.div_eq_of_lt h2]; omega
    have hxy : x.toNat = y.toNat := by rw [← d1, ← d2, e]
    have hx := UInt8.toNat_inj.1 hxy
    subst hx
    have hr : numL a = numL b := by omega
    rw [numL_injK hl hr]

/-- A key as plain data. -/
structure Kd where
  obj : Int
  kind : Int
  off : Int
def Kd.may (k : Kd) : Bool := decide ((0 ≤ k.obj ∧ k.obj ≤ 2147483647) ∧ (0 ≤ k.kind ∧ k.kind ≤ 255) ∧ 0 ≤ k.off ∧ k.off ≤ 2147483647)
/-- P5.1's order. -/
def Kd.less (a b : Kd) : Bool := if a.obj = b.obj then if a.kind = b.kind then decide (a.off < b.off) else decide (a.kind < b.kind) else decide (a.obj < b.obj)
/-- P5.2's nine bytes. -/
def Kd.bytes (k : Kd) : List UInt8 := dig k.obj 4 ++ (dig k.kind 1 ++ dig k.off 4)
theorem Kd.bytes_len (k : Kd) : k.bytes.length = 9 := by simp [Kd.bytes, dig_len]
theorem num_back (x : Int) (m : Nat) (h0 : 0 ≤ x) (h1 : x < (256 ^ m : Nat)) : (numL (dig x m) : Int) = x := by
  obtain ⟨u, rfl⟩ := Int.eq_ofNat_of_zero_le h0
  rw [numL_digK, Nat.mod_eq_of_lt (by omega)]
/-- Bytes of one length stand in the order of their numbers. -/
theorem bytesLess_num : ∀ {a b : List UInt8}, a.length = b.length → Op.bytesLess a b = decide (numL a < numL b)
  | [], [], _ => by simp [Op.bytesLess, numL]
  | [], _ :: _, h => by simp at h
  | _ :: _, [], h => by simp at h
  | x :: a, y :: b, h => by
    have hl : a.length = b.length := by simpa using h
    rw [numL_consK, numL_consK, hl]
    have h1 := numL_lt a
    have h2 := numL_lt b
    rw [hl] at h1
    unfold Op.bytesLess
    rw [bytesLess_num hl]
    rcases Nat.lt_trichotomy x.toNat y.toNat with hxy | hxy | hxy
    · have e : (x.toNat + 1) * 256 ^ b.length ≤ y.toNat * 256 ^ b.length := Nat.mul_le_mul_right _ hxy
      rw [Nat.add_mul, Nat.one_mul] at e
      have hx : x < y := hxy
      rw [decide_eq_true hx, decide_eq_true (show x.toNat * 256 ^ b.length + numL a < y.toNat * 256 ^ b.length + numL b by omega)]; rfl
    · have hx := UInt8.toNat_inj.1 hxy
      subst hx
      have hn : ¬ x < x := by simp
      rw [decide_eq_false hn]
      simp
    · have e : (y.toNat + 1) * 256 ^ b.length ≤ x.toNat * 256 ^ b.length := Nat.mul_le_mul_right _ hxy
      rw [Nat.add_mul, Nat.one_mul] at e
      have hx : ¬ x < y := fun hh => by have : x.toNat < y.toNat := hh; omega
      have hne : (x == y) = false := by
        rw [beq_eq_false_iff_ne]
        intro e2; subst e2; omega
      rw [decide_eq_false hx, hne, decide_eq_false (show ¬ x.toNat * 256 ^ b.length + numL a < y.toNat * 256 ^ b.length + numL b by omega)]; rfl
theorem bytesLess_append : ∀ {a b : List UInt8} (x y : List UInt8), a.length = b.length → Op.bytesLess (a ++ x) (b ++ y) = (Op.bytesLess a b || (a == b && Op.bytesLess x y))
  | [], [], x, y, _ => by simp [Op.bytesLess]
  | [], _ :: _, _, _, h => by simp at h
  | _ :: _, [], _, _, h => by simp at h
  | p :: a, q :: b, x, y, h => by
    have hl : a.length = b.length := by simpa using h
    have ih := bytesLess_append x y hl
    show (decide (p < q) || (p == q && Op.bytesLess (a ++ x) (b ++ y))) = ((decide (p < q) || (p == q && Op.bytesLess a b)) || ((p :: a) == (q :: b) && Op.bytesLess x y))
    rw [ih, show ((p :: a) == (q :: b)) = (p == q && a == b) from rfl]
    cases decide (p < q) <;> cases (p == q) <;> cases Op.bytesLess a b <;> cases (a == b) <;> cases Op.bytesLess x y <;> rfl
theorem dig_same (x y : Int) (m : Nat) (hx0 : 0 ≤ x) (hx1 : x < (256 ^ m : Nat)) (hy0 : 0 ≤ y) (hy1 : y < (256 ^ m : Nat)) : (dig x m == dig y m) = decide (x = y) := by
  by_cases h : x = y
  · subst h; simp
  · rw [decide_eq_false h, beq_eq_false_iff_ne]
    intro e
    have := congrArg (fun l => (numL l : Int)) e
    simp only [num_back x m hx0 hx1, num_back y m hy0 hy1] at this
    exact h this
theorem dig_less (x y : Int) (m : Nat) (hx0 : 0 ≤ x) (hx1 : x < (256 ^ m : Nat)) (hy0 : 0 ≤ y) (hy1 : y < (256 ^ m : Nat)) : Op.bytesLess (dig x m) (dig y m) = decide (x < y) := by
  rw [bytesLess_num (by rw [dig_len, dig_len])]
  have h1 := num_back x m hx0 hx1
  have h2 := num_back y m hy0 hy1
  exact decide_eq_decide.2 (by omega)
/-- P5.4. -/
theorem Kd.sorts (a b : Kd) (ha : a.may = true) (hb : b.may = true) : Op.bytesLess a.bytes b.bytes = a.less b := by
  obtain ⟨⟨a1, a2⟩, ⟨a3, a4⟩, a5, a6⟩ := of_decide_eq_true ha
  obtain ⟨⟨b1, b2⟩, ⟨b3, b4⟩, b5, b6⟩ := of_decide_eq_true hb
  unfold Kd.bytes Kd.less
  rw [bytesLess_append _ _ (by rw [dig_len, dig_len]), bytesLess_append _ _ (by rw [dig_len, dig_len]), dig_less _ _ 4 a1 (by omega) b1 (by omega), dig_less _ _ 1 a3 (by omega) b3 (by omega), dig_less _ _ 4 a5 (by omega) b5 (by omega), dig_same _ _ 4 a1 (by omega) b1 (by omega), dig_same _ _ 1 a3 (by omega) b3 (by omega)]
  by_cases h1 : a.obj = b.obj
  · rw [if_pos h1, decide_eq_true h1, decide_eq_false (show ¬ a.obj < b.obj by omega)]
    by_cases h2 : a.kind = b.kind
    · rw [if_pos h2, decide_eq_true h2, decide_eq_false (show ¬ a.kind < b.kind by omega)]; simp
    · rw [if_neg h2, decide_eq_false h2]; simp
  · rw [if_neg h1, decide_eq_false h1]; simp
theorem Kd.bytes_same (a b : Kd) (ha : a.may = true) (hb : b.may = true) : (a.bytes == b.bytes) = decide (a.obj = b.obj ∧ a.kind = b.kind ∧ a.off = b.off) := by
  obtain ⟨⟨a1, a2⟩, ⟨a3, a4⟩, a5, a6⟩ := of_decide_eq_true ha
  obtain ⟨⟨b1, b2⟩, ⟨b3, b4⟩, b5, b6⟩ := of_decide_eq_true hb
  by_cases h : a.obj = b.obj ∧ a.kind = b.kind ∧ a.off = b.off
  · obtain ⟨h1, h2, h3⟩ := h
    unfold Kd.bytes
    rw [h1, h2, h3]
    simp
  · rw [decide_eq_false h, beq_eq_false_iff_ne]
    intro e
    unfold Kd.bytes at e
    obtain ⟨e1, e2⟩ := List.append_inj e (by rw [dig_len, dig_len])
    obtain ⟨e2, e3⟩ := List.append_inj e2 (by rw [dig_len, dig_len])
    have q1 := dig_same a.obj b.obj 4 a1 (by omega) b1 (by omega)
    have q2 := dig_same a.kind b.kind 1 a3 (by omega) b3 (by omega)
    have q3 := dig_same a.off b.off 4 a5 (by omega) b5 (by omega)
    rw [e1, beq_self_eq_true] at q1
    rw [e2, beq_self_eq_true] at q2
    rw [e3, beq_self_eq_true] at q3
    exact h ⟨of_decide_eq_true q1.symm, of_decide_eq_true q2.symm, of_decide_eq_true q3.symm⟩
/-- P5.3's next key; whether there is one. -/
def Kd.hasNext (k : Kd) : Bool := decide (k.off < 2147483647 ∨ k.kind < 255 ∨ k.obj < 2147483647)
def Kd.next (k : Kd) : Kd := if k.off < 2147483647 then ⟨k.obj, k.kind, k.off + 1⟩ else if k.kind < 255 then ⟨k.obj, k.kind + 1, 0⟩ else if k.obj < 2147483647 then ⟨k.obj + 1, 0, 0⟩ else ⟨0, 0, 0⟩
theorem Kd.total (a b : Kd) : (a.less b = true ∧ b.less a = false ∧ a ≠ b) ∨ (a.less b = false ∧ b.less a = true ∧ a ≠ b) ∨ (a.less b = false ∧ b.less a = false ∧ a = b) := by
  obtain ⟨o, k, f⟩ := a
  obtain ⟨o', k', f'⟩ := b
  unfold Kd.less
  simp only [Kd.mk.injEq, ne_eq]
  by_cases h1 : o = o'
  · by_cases h2 : k = k'
    · subst h1; subst h2
      by_cases h3 : f = f'
      · subst h3; simp
      · rcases Int.lt_or_gt_of_ne h3 with h | h
        · left; simp [h3, h]; omega
        · right; left; simp [h3, h]; omega
    · subst h1
      rcases Int.lt_or_gt_of_ne h2 with h | h
      · left; simp [h2, Ne.symm h2, h]; omega
      · right; left; simp [h2, Ne.symm h2, h]; omega
  · rcases Int.lt_or_gt_of_ne h1 with h | h
    · left; simp [h1, Ne.symm h1, h]; omega
    · right; left; simp [h1, Ne.symm h1, h]; omega
theorem Kd.less_iff (a b : Kd) : a.less b = true ↔ a.obj < b.obj ∨ (a.obj = b.obj ∧ (a.kind < b.kind ∨ (a.kind = b.kind ∧ a.off < b.off))) := by
  unfold Kd.less
  by_cases h1 : a.obj = b.obj
  · by_cases h2 : a.kind = b.kind
    · rw [if_pos h1, if_pos h2, decide_eq_true_iff]; omega
    · rw [if_pos h1, if_neg h2, decide_eq_true_iff]; omega
  · rw [if_neg h1, decide_eq_true_iff]; omega
def Kd.same (a b : Kd) : Bool := decide (a.obj = b.obj ∧ a.kind = b.kind ∧ a.off = b.off)
theorem Kd.same_iff (a b : Kd) : a.same b = true ↔ a.obj = b.obj ∧ a.kind = b.kind ∧ a.off = b.off := decide_eq_true_iff
theorem Kd.may_iff (k : Kd) : k.may = true ↔ (0 ≤ k.obj ∧ k.obj ≤ 2147483647) ∧ (0 ≤ k.kind ∧ k.kind ≤ 255) ∧ 0 ≤ k.off ∧ k.off ≤ 2147483647 := decide_eq_true_iff
/-- P5.3: nothing stands between a key and the next one. -/
theorem Kd.after (k o : Kd) (hk : k.may = true) (ho : o.may = true) (hn : k.hasNext = true) : k.next.may = true ∧ k.less k.next = true ∧ (o.same k = true ∨ o.same k.next = true ∨ o.less k = true ∨ k.next.less o = true) := by
  rw [Kd.may_iff] at hk ho ⊢
  rw [Kd.less_iff, Kd.same_iff, Kd.same_iff, Kd.less_iff, Kd.less_iff]
  have h := of_decide_eq_true hn
  unfold Kd.next
  split
  · dsimp only; omega
  split
  · dsimp only; omega
  split
  · dsimp only; omega
  · omega
theorem Kd.last (k o : Kd) (hk : k.may = true) (ho : o.may = true) (hn : k.hasNext = false) : o.same k = true ∨ o.less k = true := by
  rw [Kd.may_iff] at hk ho
  rw [Kd.less_iff, Kd.same_iff]
  have h := of_decide_eq_false hn
  omega
theorem Kd.trans (a b c : Kd) (h1 : a.less b = true) (h2 : b.less c = true) : a.less c = true := by
  rw [Kd.less_iff] at *
  omega
end Go.Proofs.Ytimlhhemfipooaa
