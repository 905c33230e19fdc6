/- Plain facts about a number shifted by a byte and a byte laid under it. The program's number reads up to seven bytes as a number, the first the greatest, for every slice of at most seven bytes. The program's digits lays the lowest n bytes of any number, the greatest first, in a row of its own, for n from 1 to 8. Plain facts of numbers as bytes, and of keys: the order of keys is the order of their bytes; nothing stands between a key and the next one. The program's join lays its parts one behind the other in a row of its own, for parts of together at most 2 to the 45 bytes. The program's Put lays any number behind any bytes as P1.1 says, for at most 2 to the 44 bytes. A map whose keys are ints, as a plain list of its entries: get, put, del; and the operations on it. Nothing here speaks of one program. More words for slices: a literal of bytes that is marked as a text's; a part in the middle. Nothing here speaks of one program. -/
import Derived.Test.YtgedmodnkiijkaaGreatDoorFn1
import Derived.Test.YtgedmodnkiijkaaGreatDoorRows
import Derived.Maps.RangeRun
import Derived.Maps.Keyed
import Derived.Lib.SlBytesConst
namespace Go.Proofs.YtgedmodnkiijkaaGreatDoor
open Go Go.RowKit Go.Proofs

theorem ofInt_small (a : Nat) (ha : a < 9223372036854775808) : (BitVec.ofInt 64 (a : Int)).toNat = a := by
  rw [BitVec.ofInt_natCast, BitVec.toNat_ofNat]; exact Nat.mod_eq_of_lt (by omega)
theorem or_byte_nat (a b : Nat) (hb : b < 256) : a * 256 ||| b = a * 256 + b := by
  have h := Nat.two_pow_add_eq_or_of_lt (i := 8) (b := b) (by omega) a
  rw [show (2 : Nat) ^ 8 = 256 from rfl] at h
  rw [Nat.mul_comm]; exact h.symm
theorem or_byte (a b : Nat) (ha : a < 36028797018963968) (hb : b < 256) : bits .or .i64 ((a : Int) * 256) (b : Int) = ((256 * a + b : Nat) : Int) := by
  show IntKind.i64.wrap ((BitVec.ofInt 64 ((a : Int) * 256) ||| BitVec.ofInt 64 (b : Int)).toNat : Int) = _
  rw [show ((a : Int) * 256) = ((a * 256 : Nat) : Int) by omega, BitVec.toNat_or, ofInt_small _ (by omega), ofInt_small _ (by omega), or_byte_nat _ _ hb, IntWalk.i64_in _ (by omega)]
  omega
end Go.Proofs.YtgedmodnkiijkaaGreatDoor

namespace Go.Proofs.YtgedmodnkiijkaaGreatDoor
open Go Go.RowKit Go.Proofs

def numL (l : List UInt8) : Nat := l.foldl (fun a b => 256 * a + b.toNat) 0
theorem numL_snoc (l : List UInt8) (b : UInt8) : numL (l ++ [b]) = 256 * numL l + b.toNat := by simp [numL]
theorem numL_lt (l : List UInt8) : numL l < 256 ^ l.length := by
  suffices h : ∀ n (l : List UInt8), l.length = n → numL l < 256 ^ n from h _ l rfl
  intro n
  induction n with
  | zero => intro l hl; rw [List.eq_nil_of_length_eq_zero hl]; simp [numL]
  | succ n ih =>
    intro l hl
    have hne : l ≠ [] := by intro e; rw [e] at hl; simp at hl
    have hd := List.dropLast_concat_getLast hne
    have h1 := ih l.dropLast (by rw [List.length_dropLast]; omega)
    have h2 := (l.getLast hne).toNat_lt
    rw [← hd, numL_snoc, Nat.pow_succ]
    omega
theorem numL_next (l : List UInt8) (k : Nat) (h : k < l.length) : numL (l.take (k + 1)) = 256 * numL (l.take k) + byt l k := by
  rw [take_next l k h, numL_snoc]; have := byt_le l k; simp; omega

set_option maxHeartbeats 400000 in
theorem number_any (A : Option Addr) (n c : Nat) (l : List UInt8) (w : World) (h : Sl w A n c l) (h7 : n ≤ 7) :
    Calls Tryz.prog 136 #[.slice A n c] w fun e w' => e = .returned (.int .i64 (numL l)) ∧ w = w' := by
  have hc := h.cap
  have hm := h.max
  unfold maxLen at hm
  go_enter Tryz.func136, Tryz.ntmps136
  go_wp2
  go_loop [3, 8] (fun x i => ∃ k : Nat, k ≤ n ∧ i = .int .i64 k ∧ x = .int .i64 (numL (l.take k))) (fun _ i => n - (intOf i).toNat)
  case atStart => exact ⟨0, Nat.zero_le _, rfl, rfl⟩
  case round =>
    obtain ⟨k, hk, rfl, rfl⟩ := hrel
    by_cases hlt : k < n
    · obtain ⟨ad, rfl, hb, hcell⟩ := h.cell hlt
      have hb1 := byt_le l k
      have hx' : numL (l.take k) < 36028797018963968 := by
        have h1 := numL_lt (l.take k)
        have h2 : (256 : Nat) ^ (l.take k).length ≤ 256 ^ 6 := Nat.pow_le_pow_right (by omega) (by rw [List.length_take]; omega)
        omega
      go_wp2
      refine ⟨⟨k + 1, by omega, by go_num, ?_⟩, by simp [intOf]; omega⟩
      have hl := h.len
      rw [numL_next _ _ (by omega), ← or_byte _ _ hx' (by omega)]
    · go_wp2
      go_ret
      exact ⟨ret_int (by rw [List.take_of_length_le (by have := h.len; omega)]), rfl⟩
end Go.Proofs.YtgedmodnkiijkaaGreatDoor

namespace Go.Proofs.YtgedmodnkiijkaaGreatDoor
open Go Go.RowKit Go.Proofs

/-- The i-th byte of x from below. -/
def low (x : Int) (i : Nat) : UInt8 := UInt8.ofNat (x / 2 ^ (8 * i) % 256).toNat
/-- The k lowest bytes of x, the greatest first. -/
def dig (x : Int) : Nat → List UInt8
  | 0 => []
  | k + 1 => low x k :: dig x k
theorem dig_len (x : Int) (k : Nat) : (dig x k).length = k := by induction k with
  | zero => rfl
  | succ k ih => simp [dig, ih]
def part (x : Int) (n k : Nat) : List UInt8 := List.replicate (n - k) 0 ++ dig x k
theorem part_set (x : Int) (n k : Nat) (h : k < n) : (part x n k).set (n - 1 - k) (low x k) = part x n (k + 1) := by
  unfold part
  have e : n - k = n - (k + 1) + 1 := by omega
  rw [e, List.replicate_succ', List.append_assoc, List.set_append_right _ _ (by simp; omega)]
  simp [dig, show n - 1 - k - (n - (k + 1)) = 0 by omega]
theorem bv_low (x : Int) (k : Nat) : bv (low x k) = .int .u8 (x / 2 ^ (8 * k) % 256) := by
  unfold bv low
  rw [UInt8.toNat_ofNat']
  congr 1
  omega

set_option maxHeartbeats 400000 in
theorem digits_any (x m : Int) (w : World) (h1 : 1 ≤ m) (h8 : m ≤ 8) :
    Calls Tryz.prog 133 #[.int .i64 x, .int .i64 m] w fun e w' => ∃ A c, e = .returned (.slice A m.toNat c) ∧ Own w' w.heap.size 5 A m.toNat c (dig x m.toNat) ∧ Below w.heap.size w w' := by
  obtain ⟨n, rfl⟩ := Int.eq_ofNat_of_zero_le (show 0 ≤ m by omega)
  rw [Int.toNat_natCast]
  go_enter Tryz.func133, Tryz.ntmps133
  go_wp2_with (at_make; refine wp_make_b _ T22 rfl _ _ rfl _ _ n rfl rfl (by omega) ?_)
  intro w1 hown hb
  go_wp2
  go_loopw [11] (fun i wr => ∃ k : Nat, k ≤ n ∧ i = .int .i64 k ∧ Own wr w.heap.size 5 (some ⟨w.heap.size, 0, none⟩) n n (part x n k) ∧ Below w.heap.size w wr) (fun i _ => n - (intOf i).toNat)
  case atStart => exact ⟨0, Nat.zero_le _, rfl, by simpa [part, dig] using hown, hb⟩
  case round =>
    obtain ⟨k, hk, rfl, hown, hb⟩ := hrel
    by_cases hlt : k < n
    · obtain ⟨hc, hf⟩ := hown.at_ (n - 1 - k) (by omega)
      have hn := hown.set_ (n - 1 - k) (low x k)
      rw [part_set x n k hlt, bv_low] at hn
      go_wp2
      exact ⟨⟨k + 1, by omega, by go_num, hn, hb.setCell (Nat.le_refl _) _⟩, by simp [intOf]; omega⟩
    · obtain rfl : k = n := by omega
      go_wp2
      go_ret
      refine ⟨_, _, rfl, ?_, hb⟩
      simpa [part] using hown
end Go.Proofs.YtgedmodnkiijkaaGreatDoor

namespace Go.Proofs.YtgedmodnkiijkaaGreatDoor
open Go Go.RowKit Go.Proofs

theorem foldl_numK (l : List UInt8) (a : Nat) : l.foldl (fun a b => 256 * a + b.toNat) a = a * 256 ^ l.length + numL l := by
  induction l generalizing a with
  | nil => simp [numL]
  | cons b l ih =>
    unfold numL
    rw [List.foldl_cons, List.foldl_cons, ih, ih (256 * 0 + b.toNat), List.length_cons, Nat.pow_succ, Nat.add_mul, Nat.add_mul]
    have e : 256 * a * 256 ^ l.length = a * (256 ^ l.length * 256) := by rw [Nat.mul_comm 256 a, Nat.mul_assoc, Nat.mul_comm 256]
    omega
theorem numL_consK (b : UInt8) (l : List UInt8) : numL (b :: l) = b.toNat * 256 ^ l.length + numL l := by
  have h := foldl_numK l (256 * 0 + b.toNat)
  have e : (256 * 0 + b.toNat) * 256 ^ l.length = b.toNat * 256 ^ l.length := by rw [Nat.mul_zero, Nat.zero_add]
  rw [e] at h
  exact h
theorem low_natK (u k : Nat) : (low (u : Int) k).toNat = u / 256 ^ k % 256 := by
  unfold low
  have e : ((u : Int) / 2 ^ (8 * k) % 256) = ((u / 256 ^ k % 256 : Nat) : Int) := by
    rw [show (256 : Nat) ^ k = 2 ^ (8 * k) by rw [Nat.pow_mul], Int.natCast_emod, Int.natCast_ediv, Int.natCast_pow]
    rfl
  rw [e, Int.toNat_natCast, UInt8.toNat_ofNat']
  omega
theorem numL_digK (u k : Nat) : numL (dig (u : Int) k) = u % 256 ^ k := by
  induction k with
  | zero => simp [dig, numL, Nat.mod_one]
  | succ k ih =>
    rw [dig, numL_consK, dig_len, ih, low_natK, Nat.mod_pow_succ, Nat.mul_comm]
    omega
/-- A key as plain data. -/
structure Kd where
  obj : Int
  kind : Int
  off : Int
def Kd.may (k : Kd) : Bool := decide ((0 ≤ k.obj ∧ k.obj ≤ 2147483647) ∧ (0 ≤ k.kind ∧ k.kind ≤ 255) ∧ 0 ≤ k.off ∧ k.off ≤ 2147483647)
/-- P5.1's order. -/
def Kd.less (a b : Kd) : Bool := if a.obj = b.obj then if a.kind = b.kind then decide (a.off < b.off) else decide (a.kind < b.kind) else decide (a.obj < b.obj)
/-- P5.2's nine bytes. -/
def Kd.bytes (k : Kd) : List UInt8 := dig k.obj 4 ++ (dig k.kind 1 ++ dig k.off 4)
theorem Kd.bytes_len (k : Kd) : k.bytes.length = 9 := by simp [Kd.bytes, dig_len]
theorem num_back (x : Int) (m : Nat) (h0 : 0 ≤ x) (h1 : x < (256 ^ m : Nat)) : (numL (dig x m) : Int) = x := by
  obtain ⟨u, rfl⟩ := Int.eq_ofNat_of_zero_le h0
  rw [numL_digK, Nat.mod_eq_of_lt (by omega)]
/-- P5.3's next key; whether there is one. -/
def Kd.hasNext (k : Kd) : Bool := decide (k.off < 2147483647 ∨ k.kind < 255 ∨ k.obj < 2147483647)
def Kd.next (k : Kd) : Kd := if k.off < 2147483647 then ⟨k.obj, k.kind, k.off + 1⟩ else if k.kind < 255 then ⟨k.obj, k.kind + 1, 0⟩ else if k.obj < 2147483647 then ⟨k.obj + 1, 0, 0⟩ else ⟨0, 0, 0⟩
theorem Kd.total (a b : Kd) : (a.less b = true ∧ b.less a = false ∧ a ≠ b) ∨ (a.less b = false ∧ b.less a = true ∧ a ≠ b) ∨ (a.less b = false ∧ b.less a = false ∧ a = b) := by
  obtain ⟨o, k, f⟩ := a
  obtain ⟨o', k', f'⟩ := b
  unfold Kd.less
  simp only [Kd.mk.injEq, ne_eq]
  by_cases h1 : o = o'
  · by_cases h2 : k = k'
    · subst h1; subst h2
      by_cases h3 : f = f'
      · subst h3; simp
      · rcases Int.lt_or_gt_of_ne h3 with h | h
        · left; simp [h3, h]; omega
        · right; left; simp [h3, h]; omega
    · subst h1
      rcases Int.lt_or_gt_of_ne h2 with h | h
      · left; simp [h2, Ne.symm h2, h]; omega
      · right; left; simp [h2, Ne.symm h2, h]; omega
  · rcases Int.lt_or_gt_of_ne h1 with h | h
    · left; simp [h1, Ne.symm h1, h]; omega
    · right; left; simp [h1, Ne.symm h1, h]; omega
theorem Kd.less_iff (a b : Kd) : a.less b = true ↔ a.obj < b.obj ∨ (a.obj = b.obj ∧ (a.kind < b.kind ∨ (a.kind = b.kind ∧ a.off < b.off))) := by
  unfold Kd.less
  by_cases h1 : a.obj = b.obj
  · by_cases h2 : a.kind = b.kind
    · rw [if_pos h1, if_pos h2, decide_eq_true_iff]; omega
    · rw [if_pos h1, if_neg h2, decide_eq_true_iff]; omega
  · rw [if_neg h1, decide_eq_true_iff]; omega
def Kd.same (a b : Kd) : Bool := decide (a.obj = b.obj ∧ a.kind = b.kind ∧ a.off = b.off)
theorem Kd.same_iff (a b : Kd) : a.same b = true ↔ a.obj = b.obj ∧ a.kind = b.kind ∧ a.off = b.off := decide_eq_true_iff
theorem Kd.may_iff (k : Kd) : k.may = true ↔ (0 ≤ k.obj ∧ k.obj ≤ 2147483647) ∧ (0 ≤ k.kind ∧ k.kind ≤ 255) ∧ 0 ≤ k.off ∧ k.off ≤ 2147483647 := decide_eq_true_iff
/-- P5.3: nothing stands between a key and the next one. -/
theorem Kd.after (k o : Kd) (hk : k.may = true) (ho : o.may = true) (hn : k.hasNext = true) : k.next.may = true ∧ k.less k.next = true ∧ (o.same k = true ∨ o.same k.next = true ∨ o.less k = true ∨ k.next.less o = true) := by
  rw [Kd.may_iff] at hk ho ⊢
  rw [Kd.less_iff, Kd.same_iff, Kd.same_iff, Kd.less_iff, Kd.less_iff]
  have h := of_decide_eq_true hn
  unfold Kd.next
  split
  · dsimp only; omega
  split
  · dsimp only; omega
  split
  · dsimp only; omega
  · omega
theorem Kd.last (k o : Kd) (hk : k.may = true) (ho : o.may = true) (hn : k.hasNext = false) : o.same k = true ∨ o.less k = true := by
  rw [Kd.may_iff] at hk ho
  rw [Kd.less_iff, Kd.same_iff]
  have h := of_decide_eq_false hn
  omega
theorem Kd.trans (a b c : Kd) (h1 : a.less b = true) (h2 : b.less c = true) : a.less c = true := by
  rw [Kd.less_iff] at *
  omega
end Go.Proofs.YtgedmodnkiijkaaGreatDoor

namespace Go.Proofs.YtgedmodnkiijkaaGreatDoor
open Go Go.RowKit Go.Proofs

set_option maxHeartbeats 400000 in
theorem join_any (A : Option Addr) (k c : Nat) (ls : List (List UInt8)) (w : World) (h : Parts w A k c ls) (hb : tot ls k ≤ 35184372088832) :
    Calls Tryz.prog 132 #[.slice A k c] w fun e w' => ∃ A' n' c', e = .returned (.slice A' n' c') ∧ Own w' w.heap.size 5 A' n' c' (cat ls k) ∧ Below w.heap.size w w' := by
  have hkc : k ≤ c := h.2.1
  have hm : c ≤ maxLen := h.2.2.1
  unfold maxLen at hm
  have Hl := Lib.hid h.len
  go_enter Tryz.func132, Tryz.ntmps132
  go_wp2
  go_loop [3, 11] (fun s i => ∃ j : Nat, j ≤ k ∧ i = .int .i64 j ∧ s = .int .i64 (tot ls j : Nat)) (fun _ i => k - (intOf i).toNat)
  case atStart => exact ⟨0, Nat.zero_le _, rfl, by rw [tot_zero]; rfl⟩
  case round =>
    obtain ⟨j, hj, rfl, rfl⟩ := hrel
    by_cases hlt : j < k
    · obtain ⟨ad, B, n, d, rfl, hlt1, hcell, hs⟩ := h.cell hlt
      have hle := tot_le ls (j + 1) k (by omega)
      have hn := tot_next ls j (by rw [Hl.out]; omega)
      rw [hs.len] at hn
      have Hn := Lib.hid hn
      rw [hn] at hle
      clear hn
      go_wp2
      exact ⟨⟨j + 1, by omega, by go_num, by rw [Hn.out]; go_num⟩, by simp [intOf]; omega⟩
    · obtain rfl : j = k := by omega
      go_wp2_with (at_make; refine wp_make_c _ T22 rfl _ _ rfl _ _ (tot ls j) rfl rfl (by omega) ?_)
      intro w1 hown0 hb0
      go_wp2
      go_loopw [6, 24] (fun s i wr => ∃ (q : Nat) (A' : Option Addr) (n' c' : Nat), q ≤ j ∧ i = .int .i64 q ∧ s = .slice A' n' c' ∧ Own wr w.heap.size 5 A' n' c' (cat ls q) ∧ Below w.heap.size w wr) (fun _ i _ => j - (intOf i).toNat)
      case atStart => exact ⟨0, _, _, _, Nat.zero_le _, rfl, rfl, by rw [cat_zero]; exact hown0, hb0⟩
      case round =>
        obtain ⟨q, A', n', c', hq, rfl, rfl, hown, hb1⟩ := hrel
        by_cases hlt2 : q < j
        · have hle := tot_le ls (q + 1) j (by omega)
          have hn := tot_next ls q (by rw [Hl.out]; omega)
          obtain ⟨ad, B, n, d, rfl, hlt1, hcell, hs⟩ := (h.below hb1).cell hlt2
          rw [hs.len, show tot ls q = n' from hown.len] at hn
          rw [hn] at hle
          clear hn
          go_wp2_with (at_builtin; refine wp_append_b _ T22 rfl _ _ rfl w.heap.size A' n' c' _ rfl hown B n d _ rfl hs (by omega) hb1.size ?_)
          intro A2 c2 w2 hown2 hb2
          rw [← cat_next ls q (by rw [Hl.out]; omega)] at hown2
          go_wp2
          exact ⟨⟨q + 1, _, _, _, by omega, by go_num, rfl, hown2, hb1.trans hb2⟩, by simp [intOf]; omega⟩
        · obtain rfl : q = j := by omega
          go_wp2
          go_ret
          exact ⟨_, _, _, rfl, hown, hb1⟩
end Go.Proofs.YtgedmodnkiijkaaGreatDoor

namespace Go.Proofs.YtgedmodnkiijkaaGreatDoor
open Go Go.RowKit Go.Proofs

/-- P1.1's bytes. -/
def putS (l : List UInt8) (x n : Int) : List UInt8 := if 1 ≤ n ∧ n ≤ 8 then l ++ dig x n.toNat else l

set_option maxHeartbeats 400000 in
theorem put_any (A : Option Addr) (k c : Nat) (l : List UInt8) (x n : Int) (w : World) (h : Sl w A k c l) (hk : k ≤ 17592186044416) :
    Calls Tryz.prog 110 #[.slice A k c, .int .i64 x, .int .i64 n] w fun e w' => ∃ A' n' c', e = .returned (.slice A' n' c') ∧ Own w' w.heap.size 5 A' n' c' (putS l x n) ∧ Below w.heap.size w w' := by
  have hl := h.len
  have Hl := Lib.hid hl
  clear hl
  by_cases h1 : 1 ≤ n
  · by_cases h8 : n ≤ 8
    · have hp := Lib.hid (show putS l x n = l ++ dig x n.toNat from if_pos ⟨h1, h8⟩)
      go_enter Tryz.func110, Tryz.ntmps110
      go_wp2_with (first
        | (go_at_call 133; refine (digits_any x n _ h1 h8).mono ?_; rintro e w1 ⟨A1, c1, rfl, hown1, hb1⟩)
        | (go_at_call 132; refine (join_any _ _ _ [l, dig x n.toNat] _ (parts2 35 (h.below hb1) hown1.sl) (by rw [tot2, dig_len, Hl.out]; omega)).mono ?_; rintro e w2 ⟨A2, n2, c2, rfl, hown2, hb2⟩))
      go_ret
      rw [cat2, ← hp.out] at hown2
      have hz := hb1.size
      exact ⟨_, _, _, rfl, hown2.less (by simp; omega), hb1.trans (((Below.refl _ _).alloc hz _).trans (hb2.mono (by simp; omega)))⟩
    · have hp := Lib.hid (show putS l x n = l from if_neg (by omega))
      go_enter Tryz.func110, Tryz.ntmps110
      go_wp2_with (go_at_call 132; refine (join_any _ _ _ [l] _ (parts1 35 h) (by rw [tot1, Hl.out]; omega)).mono ?_; rintro e w2 ⟨A2, n2, c2, rfl, hown2, hb2⟩)
      go_ret
      rw [cat1] at hown2
      rw [hp.out]
      exact ⟨_, _, _, rfl, hown2.less (by simp), ((Below.refl _ _).alloc (Nat.le_refl _) _).trans (hb2.mono (by simp))⟩
  · have hp := Lib.hid (show putS l x n = l from if_neg (by omega))
    go_enter Tryz.func110, Tryz.ntmps110
    go_wp2_with (go_at_call 132; refine (join_any _ _ _ [l] _ (parts1 35 h) (by rw [tot1, Hl.out]; omega)).mono ?_; rintro e w2 ⟨A2, n2, c2, rfl, hown2, hb2⟩)
    go_ret
    rw [cat1] at hown2
    rw [hp.out]
    exact ⟨_, _, _, rfl, hown2.less (by simp), ((Below.refl _ _).alloc (Nat.le_refl _) _).trans (hb2.mono (by simp))⟩
end Go.Proofs.YtgedmodnkiijkaaGreatDoor

namespace Go.Proofs.YtgedmodnkiijkaaGreatDoor
open Go Go.RowKit
open Go.ChangeMaps (setBlock)

/-- An entry's key as a number. -/
def kI (e : MapEntry) : Int := match e.key with | .int _ z => z | _ => 0
def getE (s : Int) : List MapEntry → Option Value
  | [] => none
  | e :: r => if kI e = s then some e.val else getE s r
def putE (s : Int) (v : Value) (c : Nat) : List MapEntry → List MapEntry
  | [] => [{ key := .int .i64 s, val := v, born := c }]
  | e :: r => if kI e = s then { e with key := .int .i64 s, val := v } :: r else e :: putE s v c r
def delE (s : Int) : List MapEntry → List MapEntry
  | [] => []
  | e :: r => if kI e = s then r else e :: delE s r
/-- Entries that lie in order: each key an int, none twice, no stamp twice, each below the clock. -/
structure Ents (l : List MapEntry) (clock : Nat) : Prop where
  key : ∀ e ∈ l, e.key = .int .i64 (kI e)
  one : (l.map kI).Nodup
  born : (l.map (·.born)).Nodup
  clock : ∀ e ∈ l, e.born < clock

theorem kI_mk (s : Int) (v : Value) (c : Nat) : kI { key := .int .i64 s, val := v, born := c } = s := rfl
theorem getE_mem {s : Int} {v : Value} : ∀ {l : List MapEntry}, getE s l = some v → ∃ e ∈ l, kI e = s ∧ e.val = v
  | [], h => by cases h
  | e :: r, h => by
    unfold getE at h
    split at h
    · exact ⟨e, by simp, by assumption, by simpa using h⟩
    · obtain ⟨x, hx, h2⟩ := getE_mem h
      exact ⟨x, by simp [hx], h2⟩
theorem getE_none {s : Int} : ∀ {l : List MapEntry}, getE s l = none → ∀ e ∈ l, kI e ≠ s
  | [], _, e, he => by cases he
  | x :: r, h, e, he => by
    unfold getE at h
    split at h
    · cases h
    · rcases List.mem_cons.1 he with rfl | h2
      · assumption
      · exact getE_none h e h2
theorem getE_of_mem {l : List MapEntry} (hn : (l.map kI).Nodup) {e : MapEntry} (he : e ∈ l) : getE (kI e) l = some e.val := by
  induction l with
  | nil => cases he
  | cons x r ih =>
    unfold getE
    rw [List.map_cons, List.nodup_cons] at hn
    rcases List.mem_cons.1 he with rfl | h2
    · simp
    · rw [if_neg (fun h => hn.1 (by rw [h]; exact List.mem_map.2 ⟨e, h2, rfl⟩))]
      exact ih hn.2 h2
theorem getE_put (s : Int) (v : Value) (c : Nat) (z : Int) : ∀ l : List MapEntry, getE z (putE s v c l) = if z = s then some v else getE z l
  | [] => by
    unfold putE getE
    rw [kI_mk]
    by_cases h : s = z
    · simp [h]
    · have : ¬ z = s := fun e => h e.symm
      simp [h, this, getE]
  | e :: r => by
    unfold putE
    by_cases h : kI e = s
    · rw [if_pos h]
      by_cases hz : s = z
      · subst hz; simp [getE, kI]
      · have hz' : ¬ z = s := fun e => hz e.symm
        have hz2 : ¬ kI e = z := fun e => hz (h.symm.trans e)
        have hz3 : ¬ kI { e with key := .int .i64 s, val := v } = z := hz
        unfold getE
        rw [if_neg hz3, if_neg hz', if_neg hz2]
    · rw [if_neg h]
      unfold getE
      rw [getE_put s v c z r]
      by_cases hz : kI e = z
      · have : ¬ z = s := fun e2 => h (hz.trans e2)
        simp [hz, this]
      · simp [hz]
theorem getE_del {s : Int} (z : Int) : ∀ {l : List MapEntry}, (l.map kI).Nodup → getE z (delE s l) = if z = s then none else getE z l
  | [], _ => by simp [delE, getE]
  | e :: r, hn => by
    rw [List.map_cons, List.nodup_cons] at hn
    unfold delE
    by_cases h : kI e = s
    · rw [if_pos h]
      by_cases hz : z = s
      · rw [if_pos hz, hz]
        cases hg : getE s r with
        | none => rfl
        | some v =>
          obtain ⟨x, hx, h2, _⟩ := getE_mem hg
          exact absurd (List.mem_map.2 ⟨x, hx, h2.trans h.symm⟩) hn.1
      · rw [if_neg hz]
        have hr : getE z (e :: r) = getE z r := by
          show (if kI e = z then some e.val else getE z r) = _
          rw [if_neg (fun e2 => hz (e2.symm.trans h))]
        exact hr.symm
    · rw [if_neg h]
      unfold getE
      rw [getE_del z hn.2]
      by_cases hz : kI e = z
      · have : ¬ z = s := fun e2 => h (hz.trans e2)
        simp [hz, this]
      · simp [hz]
theorem mem_put {s : Int} {v : Value} {c : Nat} : ∀ {l : List MapEntry} {e : MapEntry}, e ∈ putE s v c l → e ∈ l ∨ (e.key = .int .i64 s ∧ (e.born = c ∨ ∃ x ∈ l, x.born = e.born))
  | [], e, h => by
    simp [putE] at h; subst h; exact .inr ⟨rfl, .inl rfl⟩
  | x :: r, e, h => by
    unfold putE at h
    split at h
    · rcases List.mem_cons.1 h with rfl | h2
      · exact .inr ⟨rfl, .inr ⟨x, by simp, rfl⟩⟩
      · exact .inl (by simp [h2])
    · rcases List.mem_cons.1 h with rfl | h2
      · exact .inl (by simp)
      · rcases mem_put h2 with h3 | ⟨h3, h4⟩
        · exact .inl (by simp [h3])
        · refine .inr ⟨h3, h4.imp id fun ⟨y, hy, h5⟩ => ⟨y, by simp [hy], h5⟩⟩
theorem mem_del {s : Int} : ∀ {l : List MapEntry} {e : MapEntry}, e ∈ delE s l → e ∈ l
  | [], e, h => by cases h
  | x :: r, e, h => by
    unfold delE at h
    split at h
    · simp [h]
    · rcases List.mem_cons.1 h with rfl | h2
      · simp
      · simp [mem_del h2]
theorem del_sub {s : Int} : ∀ (l : List MapEntry), List.Sublist (delE s l) l
  | [] => .slnil
  | x :: r => by
    unfold delE
    split
    · exact List.sublist_cons_self ..
    · exact (del_sub r).cons_cons x
theorem kI_put {s : Int} {v : Value} {c : Nat} : ∀ (l : List MapEntry), (putE s v c l).map kI = if getE s l = none then l.map kI ++ [s] else l.map kI
  | [] => by simp [putE, getE, kI]
  | x :: r => by
    unfold putE getE
    by_cases h : kI x = s
    · rw [if_pos h, if_pos h, if_neg (by simp)]
      simp [kI] at h ⊢
      exact h.symm
    · rw [if_neg h, if_neg h, List.map_cons, kI_put r]
      split <;> simp
theorem born_put {s : Int} {v : Value} {c : Nat} : ∀ (l : List MapEntry), (putE s v c l).map (·.born) = if getE s l = none then l.map (·.born) ++ [c] else l.map (·.born)
  | [] => by simp [putE, getE]
  | x :: r => by
    unfold putE getE
    by_cases h : kI x = s
    · rw [if_pos h, if_pos h, if_neg (by simp)]
      simp
    · rw [if_neg h, if_neg h, List.map_cons, born_put r]
      split <;> simp
theorem length_del {s : Int} : ∀ (l : List MapEntry), (delE s l).length = if getE s l = none then l.length else l.length - 1
  | [] => by simp [delE, getE]
  | x :: r => by
    unfold delE getE
    by_cases h : kI x = s
    · simp [h]
    · rw [if_neg h, if_neg h, List.length_cons, length_del r]
      split
      · simp
      · rename_i hg
        have : 0 < r.length := by
          rcases r with _ | ⟨a, b⟩
          · exact absurd rfl hg
          · simp
        simp; omega

theorem ents_nil : Ents [] 0 := ⟨by simp, by simp, by simp, by simp⟩
theorem Ents.put {l : List MapEntry} {clock : Nat} (h : Ents l clock) (s : Int) (v : Value) : Ents (putE s v clock l) (if getE s l = none then clock + 1 else clock) := by
  have hc : ∀ e ∈ putE s v clock l, e.born < clock + 1 := fun e he => by
    rcases mem_put he with h2 | ⟨_, h2 | ⟨x, hx, h2⟩⟩
    · have := h.clock e h2; omega
    · omega
    · have := h.clock x hx; omega
  refine ⟨fun e he => ?_, ?_, ?_, fun e he => ?_⟩
  · rcases mem_put he with h2 | ⟨h2, _⟩
    · exact h.key e h2
    · unfold kI; rw [h2]
  · rw [kI_put]
    split
    · rename_i hg
      rw [List.nodup_append]
      refine ⟨h.one, by simp, fun a ha b hb => ?_⟩
      obtain rfl : b = s := by simpa using hb
      obtain ⟨e, he, rfl⟩ := List.mem_map.1 ha
      exact getE_none hg e he
    · exact h.one
  · rw [born_put]
    split
    · rw [List.nodup_append]
      refine ⟨h.born, by simp, fun a ha b hb => ?_⟩
      obtain rfl : b = clock := by simpa using hb
      obtain ⟨e, he, rfl⟩ := List.mem_map.1 ha
      have := h.clock e he
      show e.born ≠ b
      omega
    · exact h.born
  · by_cases hg : getE s l = none
    · rw [if_pos hg]; exact hc e he
    · rw [if_neg hg]
      have hb : e.born ∈ (putE s v clock l).map (·.born) := List.mem_map.2 ⟨e, he, rfl⟩
      rw [born_put, if_neg hg] at hb
      obtain ⟨x, hx, h2⟩ := List.mem_map.1 hb
      have := h.clock x hx
      rw [← h2]; exact this
theorem Ents.del {l : List MapEntry} {clock : Nat} (h : Ents l clock) (s : Int) : Ents (delE s l) clock :=
  ⟨fun e he => h.key e (mem_del he), h.one.sublist ((del_sub l).map kI), h.born.sublist ((del_sub l).map _), fun e he => h.clock e (mem_del he)⟩

/-- Where the entry with key s stands. -/
theorem find_at (s : Int) : ∀ (l : List MapEntry) (i : Nat), (∀ e ∈ l, e.key = .int .i64 (kI e)) →
    (Instr.findNow (.int .i64) (.int .i64 s) l i = some none ∧ getE s l = none ∧ (∀ v c, putE s v c l = l ++ [{ key := .int .i64 s, val := v, born := c }]) ∧ delE s l = l) ∨
    ∃ j e, Instr.findNow (.int .i64) (.int .i64 s) l i = some (some (i + j, e.val)) ∧ l[j]? = some e ∧ e.key = .int .i64 s ∧ getE s l = some e.val ∧
      (∀ v c, putE s v c l = l.modify j fun e => { e with key := .int .i64 s, val := v }) ∧ delE s l = l.eraseIdx j
  | [], i, _ => .inl ⟨rfl, rfl, fun _ _ => rfl, rfl⟩
  | x :: r, i, hk => by
    have hx := hk x (by simp)
    by_cases h : kI x = s
    · refine .inr ⟨0, x, ?_, rfl, by rw [hx, h], by simp [getE, h], fun v c => by simp [putE, h], by simp [delE, h]⟩
      rw [Instr.findNow, hx, h]
      simp [Instr.sameNow]
    · have hs : Instr.findNow (.int .i64) (.int .i64 s) (x :: r) i = Instr.findNow (.int .i64) (.int .i64 s) r (i + 1) := by
        have hse : (s == kI x) = false := by rw [beq_eq_false_iff_ne]; exact fun e => h e.symm
        rw [Instr.findNow, hx]
        simp [Instr.sameNow, hse]
      rcases find_at s r (i + 1) (fun e he => hk e (by simp [he])) with ⟨h1, h2, h3, h4⟩ | ⟨j, e, h1, h2, h3, h4, h5, h6⟩
      · exact .inl ⟨hs.trans h1, by simp [getE, h, h2], fun v c => by simp [putE, h, h3], by simp [delE, h, h4]⟩
      · refine .inr ⟨j + 1, e, by rw [hs, h1]; congr 3; omega, by simpa using h2, h3, by simp [getE, h, h4], fun v c => by simp [putE, h, h5], by simp [delE, h, h6]⟩

section
variable {P : Program} {w : World} {t k e b clock : Nat} {l : List MapEntry}
/-- m[s] -/
theorem run_lookup_ints (E : Ents l clock) (ht : P.underlying t = some (.map k e)) (hk : P.underlying k = some (.int .i64)) {z : Value} (hz : (zeroValue e).run P w = .ok z w) (hb : w.heap[b]? = some (.map l.toArray clock)) (s : Int) :
    (Instr.lookup t (.map (some b)) (.int .i64 s) false).run P w = .ok ((getE s l).getD z) w := by
  have hc := fun em => MapKept.run_checkKey (P := P) (w := w) hk (k := .int .i64 s) rfl em 9999
  rcases find_at s l 0 E.key with ⟨h1, h2, _⟩ | ⟨j, x, h1, _, _, h4, _⟩
  · have hf := MapKept.run_findKey (P := P) (w := w) hk h1
    simp [Instr.lookup, run_underlying ht, MapKept.run_getObj_map hb, hc, hf, hz, h2]
  · have hf := MapKept.run_findKey (P := P) (w := w) hk h1
    simp [Instr.lookup, run_underlying ht, MapKept.run_getObj_map hb, hc, hf, h4]
/-- m[s] = v -/
theorem run_update_ints (E : Ents l clock) (ht : P.underlying t = some (.map k e)) (hk : P.underlying k = some (.int .i64)) (hb : w.heap[b]? = some (.map l.toArray clock)) (s : Int) (v : Value) :
    (Instr.mapUpdate t (.map (some b)) (.int .i64 s) v).run P w = .ok () (setBlock w b (.map (putE s v clock l).toArray (if getE s l = none then clock + 1 else clock))) := by
  have hc := fun em => MapKept.run_checkKey (P := P) (w := w) hk (k := .int .i64 s) rfl em 9999
  rcases find_at s l 0 E.key with ⟨h1, h2, h3, _⟩ | ⟨j, x, h1, hj, h3, h4, h5, _⟩
  · have hf := MapKept.run_findKey (P := P) (w := w) hk h1
    simp [Instr.mapUpdate, run_underlying ht, MapKept.run_getObj_map hb, hc, hf, h2, h3, MapKept.run_setObj_map _ hb, setBlock]
  · have hf := MapKept.run_findKey (P := P) (w := w) hk h1
    rw [Nat.zero_add] at hf
    have hks : (Instr.keyThatStays (.int .i64 s) (.int .i64 s)).run P w = .ok (.int .i64 s) w := by
      simp [Instr.keyThatStays, Instr.sameBits]
    simp [Instr.mapUpdate, run_underlying ht, MapKept.run_getObj_map hb, hc, hf, h4, h5, hj, h3, hks, MapKept.run_setObj_map _ hb, setBlock]
/-- delete(m, s) -/
theorem run_delete_ints (E : Ents l clock) (ht : P.underlying t = some (.map k e)) (hk : P.underlying k = some (.int .i64)) (hb : w.heap[b]? = some (.map l.toArray clock)) (s : Int) (u ty : TypeId) :
    (Builtin.delete_ #[t, u] ty #[.map (some b), .int .i64 s]).run P w = .ok (.tuple #[]) (setBlock w b (.map (delE s l).toArray clock)) := by
  have hc := fun em => MapKept.run_checkKey (P := P) (w := w) hk (k := .int .i64 s) rfl em 9999
  rcases find_at s l 0 E.key with ⟨h1, h2, _, h4⟩ | ⟨j, x, h1, hj, h3, _, _, h6⟩
  · have hf := MapKept.run_findKey (P := P) (w := w) hk h1
    simp [Builtin.delete_, run_underlying ht, MapKept.run_getObj_map hb, hc, hf, h4, MapKept.run_setObj_map _ hb, setBlock]
  · have hf := MapKept.run_findKey (P := P) (w := w) hk h1
    rw [Nat.zero_add] at hf
    simp [Builtin.delete_, run_underlying ht, MapKept.run_getObj_map hb, hc, hf, h6, MapKept.run_setObj_map _ hb, setBlock]
end
end Go.Proofs.YtgedmodnkiijkaaGreatDoor

namespace Go.Proofs.YtgedmodnkiijkaaGreatDoor
open Go Go.RowKit

/-- A new row of bytes, whatever its mark is. -/
theorem sl_mark (w : World) (e : TypeId) (fr : Nat × Nat) (l : List UInt8) (cs : Array Value) (h : cs.toList = l.map bv) (hm : l.length ≤ 16777216) : Sl (w.alloc (.cells cs e fr)) (some ⟨w.heap.size, 0, none⟩) l.length l.length l := by
  refine ⟨by simp, Nat.le_refl _, by unfold maxLen; omega, fun j u hu => ⟨_, rfl, by simp, ?_⟩⟩
  rw [Addr.add_lit, Nat.zero_add, World.cell?_alloc_mark, ← hu, ← h]
  simp

/-- One byte of a row, as a slice: 's[k:k+1]'. -/
theorem Sl.one {w : World} {A : Option Addr} {n c : Nat} {l : List UInt8} (h : Sl w A n c l) {k : Nat} (hk : k < n) : ∃ ad, A = some ad ∧ Sl w (some (ad.add k)) 1 (c - k) [UInt8.ofNat (byt l k)] := by
  obtain ⟨ad, rfl, hb, hc⟩ := h.cell hk
  refine ⟨ad, rfl, ⟨rfl, by have := h.cap; omega, by have := h.max; omega, fun j u hu => ?_⟩⟩
  rcases j with _ | j
  · refine ⟨_, rfl, by rw [addr_block]; exact hb, ?_⟩
    rw [addr_add, Nat.add_zero, hc]
    have hb := byt_le l k
    have e : u = bv (UInt8.ofNat (byt l k)) := by simpa using hu.symm
    rw [e]
    unfold bv
    rw [UInt8.toNat_ofNat', Nat.mod_eq_of_lt (by omega)]
  · simp at hu
end Go.Proofs.YtgedmodnkiijkaaGreatDoor
