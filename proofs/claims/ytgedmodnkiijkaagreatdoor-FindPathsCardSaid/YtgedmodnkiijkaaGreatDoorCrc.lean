/- The plain numbers of CRC-32C: a step is linear and one to one; four steps are one look-up. Nothing here speaks of a program. -/
import Derived.Lib.Hide
namespace Go.Proofs.YtgedmodnkiijkaaGreatDoor

/-- One step of the register. -/
def st (r : Nat) : Nat := if r % 2 = 1 then (r / 2) ^^^ 2197175160 else r / 2
def st4 (r : Nat) : Nat := st (st (st (st r)))
def st8 (r : Nat) : Nat := st4 (st4 r)
/-- One byte. -/
def by8 (r : Nat) (b : UInt8) : Nat := st8 (r ^^^ b.toNat)
/-- All bytes. -/
def crcRun (r : Nat) (l : List UInt8) : Nat := l.foldl by8 r
/-- The sum that goes on. -/
def more (s : Nat) (l : List UInt8) : Nat := 4294967295 - crcRun (4294967295 - s) l

theorem xor_lt {a b : Nat} (ha : a < 4294967296) (hb : b < 4294967296) : a ^^^ b < 4294967296 := Nat.xor_lt_two_pow (n := 32) ha hb
theorem st_lt {r : Nat} (h : r < 4294967296) : st r < 4294967296 := by
  unfold st
  split
  · exact xor_lt (by omega) (by decide)
  · omega
theorem st4_lt {r : Nat} (h : r < 4294967296) : st4 r < 4294967296 := st_lt (st_lt (st_lt (st_lt h)))
theorem st8_lt {r : Nat} (h : r < 4294967296) : st8 r < 4294967296 := st4_lt (st4_lt h)
theorem by8_lt {r : Nat} (b : UInt8) (h : r < 4294967296) : by8 r b < 4294967296 := st8_lt (xor_lt h (by have := b.toNat_lt; omega))
theorem crcRun_lt {r : Nat} (l : List UInt8) (h : r < 4294967296) : crcRun r l < 4294967296 := by
  induction l generalizing r with
  | nil => exact h
  | cons b l ih => exact ih (by8_lt b h)

theorem xor_mod2 (a b : Nat) : (a ^^^ b) % 2 = (a % 2 + b % 2) % 2 := by
  have h := Nat.testBit_xor a b 0
  rw [Nat.testBit_zero, Nat.testBit_zero, Nat.testBit_zero] at h
  have hx := Nat.mod_two_eq_zero_or_one (a ^^^ b)
  rcases Nat.mod_two_eq_zero_or_one a with h1 | h1 <;> rcases Nat.mod_two_eq_zero_or_one b with h2 | h2 <;> rcases hx with h3 | h3 <;> rw [h1, h2, h3] at h <;> rw [h1, h2, h3] <;> revert h <;> decide
theorem xor_div2 (a b : Nat) : (a ^^^ b) / 2 = a / 2 ^^^ b / 2 := by
  apply Nat.eq_of_testBit_eq
  intro i
  rw [Nat.testBit_xor, ← Nat.testBit_succ, ← Nat.testBit_succ, ← Nat.testBit_succ, Nat.testBit_xor]
theorem st_xor (a b : Nat) : st (a ^^^ b) = st a ^^^ st b := by
  unfold st
  rw [xor_mod2, xor_div2]
  rcases Nat.mod_two_eq_zero_or_one a with ha | ha <;> rcases Nat.mod_two_eq_zero_or_one b with hb | hb <;> simp [ha, hb]
  · rw [Nat.xor_assoc]
  · rw [Nat.xor_assoc, Nat.xor_assoc, Nat.xor_comm (b / 2)]
  · rw [Nat.xor_assoc, Nat.xor_comm 2197175160, Nat.xor_assoc, Nat.xor_self, Nat.xor_zero]
theorem st4_xor (a b : Nat) : st4 (a ^^^ b) = st4 a ^^^ st4 b := by unfold st4; rw [st_xor, st_xor, st_xor, st_xor]
theorem split16 (r : Nat) : r / 16 * 16 ^^^ r % 16 = r := by
  apply Nat.eq_of_testBit_eq
  intro i
  have h1 := Nat.testBit_mul_two_pow (r / 16) (i := 4) (j := i)
  have h2 := Nat.testBit_mod_two_pow r 4 i
  have h3 := Nat.testBit_div_two_pow (n := 4) r (i - 4)
  rw [show (2 : Nat) ^ 4 = 16 from rfl] at h1 h2 h3
  rw [Nat.testBit_xor, h1, h2, h3]
  by_cases h : i < 4
  · simp [h, show ¬ 4 ≤ i by omega]
  · simp [h, show 4 ≤ i by omega]
theorem st4_even (q : Nat) : st4 (q * 16) = q := by
  unfold st4 st
  rw [if_neg (by omega : ¬ q * 16 % 2 = 1), if_neg (by omega : ¬ q * 16 / 2 % 2 = 1), if_neg (by omega : ¬ q * 16 / 2 / 2 % 2 = 1), if_neg (by omega : ¬ q * 16 / 2 / 2 / 2 % 2 = 1)]
  omega
/-- Four steps are a look-up. -/
theorem st4_look (r : Nat) : st4 r = r / 16 ^^^ st4 (r % 16) := by
  have h := st4_xor (r / 16 * 16) (r % 16)
  rw [split16, st4_even] at h
  exact h

theorem xor_cancel {a b c : Nat} (h : a ^^^ c = b ^^^ c) : a = b := by
  have h2 := congrArg (· ^^^ c) h
  simpa [Nat.xor_assoc] using h2
theorem top_xor {a : Nat} (h : a < 2147483648) : 2147483648 ≤ a ^^^ 2197175160 := by
  have h1 : (a ^^^ 2197175160).testBit 31 = true := by
    rw [Nat.testBit_xor, Nat.testBit_lt_two_pow (show a < 2 ^ 31 from h)]
    decide
  exact Nat.ge_two_pow_of_testBit h1
theorem st_inj {a b : Nat} (ha : a < 4294967296) (hb : b < 4294967296) (h : st a = st b) : a = b := by
  unfold st at h
  have ta := top_xor (a := a / 2) (by omega)
  have tb := top_xor (a := b / 2) (by omega)
  by_cases h1 : a % 2 = 1 <;> by_cases h2 : b % 2 = 1
  · rw [if_pos h1, if_pos h2] at h
    have := xor_cancel h
    omega
  · rw [if_pos h1, if_neg h2] at h; omega
  · rw [if_neg h1, if_pos h2] at h; omega
  · rw [if_neg h1, if_neg h2] at h; omega
theorem st4_inj {a b : Nat} (ha : a < 4294967296) (hb : b < 4294967296) (h : st4 a = st4 b) : a = b :=
  st_inj ha hb (st_inj (st_lt ha) (st_lt hb) (st_inj (st_lt (st_lt ha)) (st_lt (st_lt hb)) (st_inj (st_lt (st_lt (st_lt ha))) (st_lt (st_lt (st_lt hb))) h)))
theorem st8_inj {a b : Nat} (ha : a < 4294967296) (hb : b < 4294967296) (h : st8 a = st8 b) : a = b := st4_inj ha hb (st4_inj (st4_lt ha) (st4_lt hb) h)
theorem byte_lt (b : UInt8) : b.toNat < 4294967296 := by have := b.toNat_lt; omega
theorem by8_inj {a b : Nat} {c : UInt8} (ha : a < 4294967296) (hb : b < 4294967296) (h : by8 a c = by8 b c) : a = b :=
  xor_cancel (st8_inj (xor_lt ha (byte_lt c)) (xor_lt hb (byte_lt c)) h)
theorem by8_inj2 {a : Nat} {c d : UInt8} (ha : a < 4294967296) (h : by8 a c = by8 a d) : c = d := by
  have h2 := st8_inj (xor_lt ha (byte_lt c)) (xor_lt ha (byte_lt d)) h
  rw [Nat.xor_comm a, Nat.xor_comm a] at h2
  exact UInt8.toNat_inj.1 (xor_cancel h2)
theorem crcRun_inj {a b : Nat} {l : List UInt8} (ha : a < 4294967296) (hb : b < 4294967296) (h : crcRun a l = crcRun b l) : a = b := by
  induction l generalizing a b with
  | nil => exact h
  | cons c l ih => exact by8_inj ha hb (ih (by8_lt c ha) (by8_lt c hb) h)
theorem crcRun_append (r : Nat) (l m : List UInt8) : crcRun r (l ++ m) = crcRun (crcRun r l) m := by unfold crcRun; rw [List.foldl_append]
theorem crcRun_snoc (r : Nat) (l : List UInt8) (c : UInt8) : crcRun r (l ++ [c]) = by8 (crcRun r l) c := crcRun_append r l [c]

theorem more_lt (s : Nat) (l : List UInt8) : more s l < 4294967296 := by unfold more; omega
theorem more_append {s : Nat} (l m : List UInt8) : more (more s l) m = more s (l ++ m) := by
  unfold more
  have h := crcRun_lt l (r := 4294967295 - s) (by omega)
  rw [crcRun_append, show 4294967295 - (4294967295 - crcRun (4294967295 - s) l) = crcRun (4294967295 - s) l by omega]
/-- A byte that is turned turns the sum. -/
theorem more_turn {s : Nat} {l m : List UInt8} {c d : UInt8} (h : more s (l ++ c :: m) = more s (l ++ d :: m)) : c = d := by
  rw [← more_append, ← more_append] at h
  have hx := more_lt s l
  generalize more s l = x at h hx
  unfold more at h
  have h1 := crcRun_lt (c :: m) (r := 4294967295 - x) (by omega)
  have h2 := crcRun_lt (d :: m) (r := 4294967295 - x) (by omega)
  have h3 : crcRun (by8 (4294967295 - x) c) m = crcRun (by8 (4294967295 - x) d) m := by
    have : crcRun (4294967295 - x) (c :: m) = crcRun (4294967295 - x) (d :: m) := by omega
    exact this
  exact by8_inj2 (a := 4294967295 - x) (by omega) (crcRun_inj (by8_lt c (by omega)) (by8_lt d (by omega)) h3)
/-- All bits turned. -/
theorem xor_ones {s : Nat} (h : s < 4294967296) : s ^^^ 4294967295 = 4294967295 - s := by
  have h1 : (4294967295 - s) = (BitVec.ofNat 32 s ^^^ BitVec.allOnes 32).toNat := by
    rw [BitVec.xor_allOnes]; simp; omega
  rw [h1, BitVec.toNat_xor]
  simp
  rw [Nat.mod_eq_of_lt h]
end Go.Proofs.YtgedmodnkiijkaaGreatDoor
