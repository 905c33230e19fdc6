/- Plain facts about a number shifted by a byte and a byte laid under it. -/
import Derived.Test.YtimlhhemfipooaaBase
namespace Go.Proofs.Ytimlhhemfipooaa
open Go Go.RowKit Go.Proofs

theorem ofInt_small (a : Nat) (ha : a < 9223372036854775808) : (BitVec.ofInt 64 (a : Int)).toNat = a := by
  rw [BitVec.ofInt_natCast, BitVec.toNat_ofNat]; exact Nat.mod_eq_of_lt (by omega)
theorem or_byte_nat (a b : Nat) (hb : b < 256) : a * 256 ||| b = a * 256 + b := by
  have h := Nat.two_pow_add_eq_or_of_lt (i := 8) (b := b) (by omega) a
  rw [show (2 : Nat) ^ 8 = 256 from rfl] at h
  rw [Nat.mul_comm]; exact h.symm
theorem or_byte (a b : Nat) (ha : a < 36028797018963968) (hb : b < 256) : bits .or .i64 ((a : Int) * 256) (b : Int) = ((256 * a + b : Nat) : Int) := by
  show IntKind.i64.wrap ((BitVec.ofInt 64 ((a : Int) * 256) ||| BitVec.ofInt 64 (b : Int)).toNat : Int) = _
  rw [show ((a : Int) * 256) = ((a * 256 : Nat) : Int) by omega, BitVec.toNat_or, ofInt_small _ (by omega), ofInt_small _ (by omega), or_byte_nat _ _ hb, IntWalk.i64_in _ (by omega)]
  omega
end Go.Proofs.Ytimlhhemfipooaa
