/- What the reference's Read answers, as plain data; its takes as one contract each. -/
import Derived.Test.YtmebdjafnefneaaDoorNodeD
import Derived.Test.YtmebdjafnefneaaDoorSealJ
import Derived.Test.YtmebdjafnefneaaDoorTx
import Derived.Test.YtmebdjafnefneaaDoorRowG
namespace Go.Proofs.YtmebdjafnefneaaDoor
open Go Go.RowKit Go.Proofs

theorem convSB (s : ByteArray) (w : World) : (convert 9 29 (.string s)).run Tryd.prog w = .ok (.slice (some ⟨w.heap.size, 0, none⟩) s.size (grownCap w s.size 0 5)) (Lib.bytesWorld w 5 s) :=
  Lib.run_convert_string_bytes w 9 29 5 s Tryd.underlying9 Tryd.underlying29 Tryd.underlying5
def ttY (l : List UInt8) : Bool := decide (1 ≤ l.length ∧ 1 + numL (l.take 1) ≤ l.length)
/-- P1.2's answer of TakeText; kept shut. -/
def ttS (l : List UInt8) : List UInt8 := if ttY l = true then bodyT l 1 else []
def ttR (l : List UInt8) : List UInt8 := if ttY l = true then restT l 1 else []
def ttE (l : List UInt8) : Int := if ttY l = true then 0 else 2
theorem ttS_le (l : List UInt8) : (ttS l).length ≤ l.length := by
  unfold ttS
  split
  · exact bodyT_le l 1
  · simp
theorem ttR_le (l : List UInt8) : (ttR l).length ≤ l.length := by
  unfold ttR
  split
  · exact restT_le l 1
  · simp
theorem ktR_le (l : List UInt8) : (ktR l).length ≤ l.length := by
  unfold ktR
  split <;> simp
theorem reftt_any (A : Option Addr) (k c : Nat) (l : List UInt8) (S R : List UInt8) (E : Int) (hS : ttS l = S) (hR : ttR l = R) (hE : ttE l = E) (w : World) (h : Sl w A k c l) (hk : k ≤ 17592186044416) :
    Calls Tryd.prog 52 #[.slice A k c] w fun e w' => ∃ A2 n2 c2, e = .returned (.tuple #[.string ⟨S.toArray⟩, .slice A2 n2 c2, .int .i64 E]) ∧ Sl w' A2 n2 c2 R ∧ (∀ ad, A2 = some ad → w.heap.size ≤ ad.block) ∧ Below w.heap.size w w' := by
  subst hS hR hE
  by_cases hw : WholeT l 1
  · have hy : ttY l = true := decide_eq_true hw
    unfold ttS ttR ttE
    rw [hy, if_pos rfl, if_pos rfl, if_pos rfl]
    exact treftaketext_yes A k c l w h hk hw
  · have hy : ttY l = false := decide_eq_false hw
    unfold ttS ttR ttE
    rw [hy, if_neg (by simp), if_neg (by simp), if_neg (by simp)]
    refine (treftaketext_no A k c l w h hk hw).mono ?_
    rintro e w' ⟨rfl, hb⟩
    exact ⟨_, _, _, rfl, sl_nil _, fun ad h => (by cases h), hb⟩
def t2Y (l : List UInt8) : Bool := decide (2 ≤ l.length)
/-- P1.1's answer of Take of two bytes; kept shut. -/
def t2V (l : List UInt8) : Int := if t2Y l = true then (numL (l.take 2) : Int) else 0
def t2R (l : List UInt8) : List UInt8 := if t2Y l = true then l.drop 2 else []
def t2E (l : List UInt8) : Int := if t2Y l = true then 0 else 2
theorem t2R_le (l : List UInt8) : (t2R l).length ≤ l.length := by
  unfold t2R
  split <;> simp
theorem reft2_any (A : Option Addr) (k c : Nat) (l : List UInt8) (V : Int) (R : List UInt8) (E : Int) (hV : t2V l = V) (hR : t2R l = R) (hE : t2E l = E) (w : World) (h : Sl w A k c l) (hk : k ≤ 17592186044416) :
    Calls Tryd.prog 53 #[.slice A k c, .int .i64 2] w fun e w' => ∃ A2 n2 c2, e = .returned (.tuple #[.int .i64 V, .slice A2 n2 c2, .int .i64 E]) ∧ Sl w' A2 n2 c2 R ∧ (∀ ad, A2 = some ad → w.heap.size ≤ ad.block) ∧ Below w.heap.size w w' := by
  subst hV hR hE
  have hl := h.len
  by_cases hw : 2 ≤ k
  · have hy : t2Y l = true := decide_eq_true (by omega)
    unfold t2V t2R t2E
    rw [hy, if_pos rfl, if_pos rfl, if_pos rfl]
    refine (reftake_yes A k c l 2 w h hk (by omega) (by omega) (by omega)).mono ?_
    rintro e w' ⟨A', n', c', rfl, own, hb⟩
    exact ⟨_, _, _, rfl, own.sl, fun ad h => (own.block ad h).1, hb⟩
  · have hy : t2Y l = false := decide_eq_false (by omega)
    unfold t2V t2R t2E
    rw [hy, if_neg (by simp), if_neg (by simp), if_neg (by simp)]
    refine (reftake_short A k c 2 w (by omega) (by omega) (by omega)).mono ?_
    rintro e w' ⟨rfl, rfl⟩
    exact ⟨_, _, _, rfl, sl_nil _, fun ad h => (by cases h), Below.refl _ _⟩

/-- One item or kid is taken off the front. -/
def rnStep (N : Nd) (r : List UInt8) : Option (Nd × List UInt8) :=
  if ktE r = 0 then
    if N.lvl = 0 then if ttE (ktR r) = 0 then some (⟨N.lvl, N.items ++ [⟨ktK r, ttS (ktR r)⟩], N.kids⟩, ttR (ktR r)) else none
    else if t2E (ktR r) = 0 then some (⟨N.lvl, N.items, N.kids ++ [⟨ktK r, t2V (ktR r)⟩]⟩, t2R (ktR r)) else none
  else none
def rnTo (l : Int) (body : List UInt8) : Nat → Option (Nd × List UInt8)
  | 0 => some (⟨l, [], []⟩, body)
  | j + 1 => match rnTo l body j with
    | some (N, r) => rnStep N r
    | none => none
theorem rnTo_next (l : Int) (body : List UInt8) (j : Nat) (N : Nd) (r : List UInt8) (h : rnTo l body j = some (N, r)) : rnTo l body (j + 1) = rnStep N r := by
  show (match rnTo l body j with | some (N, r) => rnStep N r | none => none) = _
  rw [h]
theorem rnTo_none (l : Int) (body : List UInt8) (j k : Nat) (h : rnTo l body j = none) (hk : j ≤ k) : rnTo l body k = none := by
  induction k with
  | zero =>
    obtain rfl : j = 0 := by omega
    exact h
  | succ k ih =>
    rcases (by omega : j ≤ k ∨ j = k + 1) with h1 | rfl
    · show (match rnTo l body k with | some (N, r) => rnStep N r | none => none) = _
      rw [ih h1]
    · exact h
/-- How many rounds. -/
def rnCount (b : List UInt8) : Nat := min (opH b).count.toNat 20
def readFin (b : List UInt8) (addr gen : Int) : Option (Nd × List UInt8) → Option Nd
  | some (N, _) => if writeE N addr gen = 0 ∧ writeB N addr gen = b then some N else none
  | none => none
/-- P6.1's Read. -/
def readN (b : List UInt8) (addr : Int) : Option Nd := if opE b = 0 then readFin b addr (opH b).gen (rnTo (opH b).level (opB b) (rnCount b)) else none
def rnN (b : List UInt8) (addr : Int) : Nd := (readN b addr).getD ⟨0, [], []⟩
def rnE (b : List UInt8) (addr : Int) : Int := if (readN b addr).isSome = true then 0 else 3
theorem read_no {b : List UInt8} {addr : Int} (h : readN b addr = none) : rnN b addr = ⟨0, [], []⟩ ∧ rnE b addr = 3 := by
  unfold rnN rnE
  rw [h]
  exact ⟨rfl, rfl⟩
theorem read_yes {b : List UInt8} {addr : Int} {N : Nd} (h : readN b addr = some N) : rnN b addr = N ∧ rnE b addr = 0 := by
  unfold rnN rnE
  rw [h]
  exact ⟨rfl, rfl⟩
/-- The header of a block that is one may be. -/
theorem opH_ok {b : List UInt8} (h : opE b = 0) : (opH b).ok = true := by
  cases hb : okB b
  · obtain ⟨_, _, h3⟩ := op_no hb
    rw [h3] at h; omega
  · obtain ⟨h1, _, _⟩ := op_yes hb
    rw [h1]
    exact (of_decide_eq_true hb).2.2.1
end Go.Proofs.YtmebdjafnefneaaDoor
