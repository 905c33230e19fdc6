/- The program's digits lays the lowest n bytes of any number, the greatest first, in a row of its own, for n from 1 to 8. The program's join lays its parts one behind the other in a row of its own, for parts of together at most 2 to the 45 bytes. The program's Put lays any number behind any bytes as P1.1 says, for at most 2 to the 44 bytes. The program's number reads up to seven bytes as a number, the first the greatest, for every slice of at most seven bytes. Plain facts of numbers as bytes, and of keys: the order of keys is the order of their bytes; nothing stands between a key and the next one. -/
import Derived.Test.YtipejjgodnnkaaaGreatDoorPy1
import Derived.Test.YtipejjgodnnkaaaGreatDoorRows
namespace Go.Proofs.YtipejjgodnnkaaaGreatDoor
open Go Go.RowKit Go.Proofs

theorem T22 : ByteT Tryz.prog 30 5 := ⟨Tryz.underlying30, by kernel_rfl⟩

/-- The i-th byte of x from below. -/
def low (x : Int) (i : Nat) : UInt8 := UInt8.ofNat (x / 2 ^ (8 * i) % 256).toNat
/-- The k lowest bytes of x, the greatest first. -/
def dig (x : Int) : Nat → List UInt8
  | 0 => []
  | k + 1 => low x k :: dig x k
theorem dig_len (x : Int) (k : Nat) : (dig x k).length = k := by induction k with
  | zero => rfl
  | succ k ih => simp [dig, ih]
def part (x : Int) (n k : Nat) : List UInt8 := List.replicate (n - k) 0 ++ dig x k
theorem part_set (x : Int) (n k : Nat) (h : k < n) : (part x n k).set (n - 1 - k) (low x k) = part x n (k + 1) := by
  unfold part
  have e : n - k = n - (k + 1) + 1 := by omega
  rw [e, List.replicate_succ', List.append_assoc, List.set_append_right _ _ (by simp; omega)]
  simp [dig, show n - 1 - k - (n - (k + 1)) = 0 by omega]
theorem bv_low (x : Int) (k : Nat) : bv (low x k) = .int .u8 (x / 2 ^ (8 * k) % 256) := by
  unfold bv low
  rw [UInt8.toNat_ofNat']
  congr 1
  omega

set_option maxHeartbeats 400000 in
theorem digits_any (x m : Int) (w : World) (h1 : 1 ≤ m) (h8 : m ≤ 8) :
    Calls Tryz.prog 202 #[.int .i64 x, .int .i64 m] w fun e w' => ∃ A c, e = .returned (.slice A m.toNat c) ∧ Own w' w.heap.size 5 A m.toNat c (dig x m.toNat) ∧ Below w.heap.size w w' := by
  obtain ⟨n, rfl⟩ := Int.eq_ofNat_of_zero_le (show 0 ≤ m by omega)
  rw [Int.toNat_natCast]
  go_enter Tryz.func202, Tryz.ntmps202
  go_wp2_with (at_make; refine wp_make_b _ T22 rfl _ _ rfl _ _ n rfl rfl (by omega) ?_)
  intro w1 hown hb
  go_wp2
  go_loopw [11] (fun i wr => ∃ k : Nat, k ≤ n ∧ i = .int .i64 k ∧ Own wr w.heap.size 5 (some ⟨w.heap.size, 0, none⟩) n n (part x n k) ∧ Below w.heap.size w wr) (fun i _ => n - (intOf i).toNat)
  case atStart => exact ⟨0, Nat.zero_le _, rfl, by simpa [part, dig] using hown, hb⟩
  case round =>
    obtain ⟨k, hk, rfl, hown, hb⟩ := hrel
    by_cases hlt : k < n
    · obtain ⟨hc, hf⟩ := hown.at_ (n - 1 - k) (by omega)
      have hn := hown.set_ (n - 1 - k) (low x k)
      rw [part_set x n k hlt, bv_low] at hn
      go_wp2
      exact ⟨⟨k + 1, by omega, by go_num, hn, hb.setCell (Nat.le_refl _) _⟩, by simp [intOf]; omega⟩
    · obtain rfl : k = n := by omega
      go_wp2
      go_ret
      refine ⟨_, _, rfl, ?_, hb⟩
      simpa [part] using hown
end Go.Proofs.YtipejjgodnnkaaaGreatDoor

namespace Go.Proofs.YtipejjgodnnkaaaGreatDoor
open Go Go.RowKit Go.Proofs

set_option maxHeartbeats 400000 in
theorem join_any (A : Option Addr) (k c : Nat) (ls : List (List UInt8)) (w : World) (h : Parts w A k c ls) (hb : tot ls k ≤ 35184372088832) :
    Calls Tryz.prog 201 #[.slice A k c] w fun e w' => ∃ A' n' c', e = .returned (.slice A' n' c') ∧ Own w' w.heap.size 5 A' n' c' (cat ls k) ∧ Below w.heap.size w w' := by
  have hkc : k ≤ c := h.2.1
  have hm : c ≤ maxLen := h.2.2.1
  unfold maxLen at hm
  have Hl := Lib.hid h.len
  go_enter Tryz.func201, Tryz.ntmps201
  go_wp2
  go_loop [3, 11] (fun s i => ∃ j : Nat, j ≤ k ∧ i = .int .i64 j ∧ s = .int .i64 (tot ls j : Nat)) (fun _ i => k - (intOf i).toNat)
  case atStart => exact ⟨0, Nat.zero_le _, rfl, by rw [tot_zero]; rfl⟩
  case round =>
    obtain ⟨j, hj, rfl, rfl⟩ := hrel
    by_cases hlt : j < k
    · obtain ⟨ad, B, n, d, rfl, hlt1, hcell, hs⟩ := h.cell hlt
      have hle := tot_le ls (j + 1) k (by omega)
      have hn := tot_next ls j (by rw [Hl.out]; omega)
      rw [hs.len] at hn
      have Hn := Lib.hid hn
      rw [hn] at hle
      clear hn
      go_wp2
      exact ⟨⟨j + 1, by omega, by go_num, by rw [Hn.out]; go_num⟩, by simp [intOf]; omega⟩
    · obtain rfl : j = k := by omega
      go_wp2_with (at_make; refine wp_make_c _ T22 rfl _ _ rfl _ _ (tot ls j) rfl rfl (by omega) ?_)
      intro w1 hown0 hb0
      go_wp2
      go_loopw [6, 24] (fun s i wr => ∃ (q : Nat) (A' : Option Addr) (n' c' : Nat), q ≤ j ∧ i = .int .i64 q ∧ s = .slice A' n' c' ∧ Own wr w.heap.size 5 A' n' c' (cat ls q) ∧ Below w.heap.size w wr) (fun _ i _ => j - (intOf i).toNat)
      case atStart => exact ⟨0, _, _, _, Nat.zero_le _, rfl, rfl, by rw [cat_zero]; exact hown0, hb0⟩
      case round =>
        obtain ⟨q, A', n', c', hq, rfl, rfl, hown, hb1⟩ := hrel
        by_cases hlt2 : q < j
        · have hle := tot_le ls (q + 1) j (by omega)
          have hn := tot_next ls q (by rw [Hl.out]; omega)
          obtain ⟨ad, B, n, d, rfl, hlt1, hcell, hs⟩ := (h.below hb1).cell hlt2
          rw [hs.len, show tot ls q = n' from hown.len] at hn
          rw [hn] at hle
          clear hn
          go_wp2_with (at_builtin; refine wp_append_b _ T22 rfl _ _ rfl w.heap.size A' n' c' _ rfl hown B n d _ rfl hs (by omega) hb1.size ?_)
          intro A2 c2 w2 hown2 hb2
          rw [← cat_next ls q (by rw [Hl.out]; omega)] at hown2
          go_wp2
          exact ⟨⟨q + 1, _, _, _, by omega, by go_num, rfl, hown2, hb1.trans hb2⟩, by simp [intOf]; omega⟩
        · obtain rfl : q = j := by omega
          go_wp2
          go_ret
          exact ⟨_, _, _, rfl, hown, hb1⟩
end Go.Proofs.YtipejjgodnnkaaaGreatDoor

namespace Go.Proofs.YtipejjgodnnkaaaGreatDoor
open Go Go.RowKit Go.Proofs

/-- P1.1's bytes. -/
def putS (l : List UInt8) (x n : Int) : List UInt8 := if 1 ≤ n ∧ n ≤ 8 then l ++ dig x n.toNat else l

set_option maxHeartbeats 400000 in
theorem put_any (A : Option Addr) (k c : Nat) (l : List UInt8) (x n : Int) (w : World) (h : Sl w A k c l) (hk : k ≤ 17592186044416) :
    Calls Tryz.prog 174 #[.slice A k c, .int .i64 x, .int .i64 n] w fun e w' => ∃ A' n' c', e = .returned (.slice A' n' c') ∧ Own w' w.heap.size 5 A' n' c' (putS l x n) ∧ Below w.heap.size w w' := by
  have hl := h.len
  have Hl := Lib.hid hl
  clear hl
  by_cases h1 : 1 ≤ n
  · by_cases h8 : n ≤ 8
    · have hp := Lib.hid (show putS l x n = l ++ dig x n.toNat from if_pos ⟨h1, h8⟩)
      go_enter Tryz.func174, Tryz.ntmps174
      go_wp2_with (first
        | (go_at_call 202; refine (digits_any x n _ h1 h8).mono ?_; rintro e w1 ⟨A1, c1, rfl, hown1, hb1⟩)
        | (go_at_call 201; refine (join_any _ _ _ [l, dig x n.toNat] _ (parts2 30 (h.below hb1) hown1.sl) (by rw [tot2, dig_len, Hl.out]; omega)).mono ?_; rintro e w2 ⟨A2, n2, c2, rfl, hown2, hb2⟩))
      go_ret
      rw [cat2, ← hp.out] at hown2
      have hz := hb1.size
      exact ⟨_, _, _, rfl, hown2.less (by simp; omega), hb1.trans (((Below.refl _ _).alloc hz _).trans (hb2.mono (by simp; omega)))⟩
    · have hp := Lib.hid (show putS l x n = l from if_neg (by omega))
      go_enter Tryz.func174, Tryz.ntmps174
      go_wp2_with (go_at_call 201; refine (join_any _ _ _ [l] _ (parts1 30 h) (by rw [tot1, Hl.out]; omega)).mono ?_; rintro e w2 ⟨A2, n2, c2, rfl, hown2, hb2⟩)
      go_ret
      rw [cat1] at hown2
      rw [hp.out]
      exact ⟨_, _, _, rfl, hown2.less (by simp), ((Below.refl _ _).alloc (Nat.le_refl _) _).trans (hb2.mono (by simp))⟩
  · have hp := Lib.hid (show putS l x n = l from if_neg (by omega))
    go_enter Tryz.func174, Tryz.ntmps174
    go_wp2_with (go_at_call 201; refine (join_any _ _ _ [l] _ (parts1 30 h) (by rw [tot1, Hl.out]; omega)).mono ?_; rintro e w2 ⟨A2, n2, c2, rfl, hown2, hb2⟩)
    go_ret
    rw [cat1] at hown2
    rw [hp.out]
    exact ⟨_, _, _, rfl, hown2.less (by simp), ((Below.refl _ _).alloc (Nat.le_refl _) _).trans (hb2.mono (by simp))⟩
end Go.Proofs.YtipejjgodnnkaaaGreatDoor

namespace Go.Proofs.YtipejjgodnnkaaaGreatDoor
open Go Go.RowKit Go.Proofs

def numL (l : List UInt8) : Nat := l.foldl (fun a b => 256 * a + b.toNat) 0
theorem numL_snoc (l : List UInt8) (b : UInt8) : numL (l ++ [b]) = 256 * numL l + b.toNat := by simp [numL]
theorem numL_lt (l : List UInt8) : numL l < 256 ^ l.length := by
  suffices h : ∀ n (l : List UInt8), l.length = n → numL l < 256 ^ n from h _ l rfl
  intro n
  induction n with
  | zero => intro l hl; rw [List.eq_nil_of_length_eq_zero hl]; simp [numL]
  | succ n ih =>
    intro l hl
    have hne : l ≠ [] := by intro e; rw [e] at hl; simp at hl
    have hd := List.dropLast_concat_getLast hne
    have h1 := ih l.dropLast (by rw [List.length_dropLast]; omega)
    have h2 := (l.getLast hne).toNat_lt
    rw [← hd, numL_snoc, Nat.pow_succ]
    omega
theorem numL_next (l : List UInt8) (k : Nat) (h : k < l.length) : numL (l.take (k + 1)) = 256 * numL (l.take k) + byt l k := by
  rw [take_next l k h, numL_snoc]; have := byt_le l k; simp; omega

set_option maxHeartbeats 400000 in
theorem number_any (A : Option Addr) (n c : Nat) (l : List UInt8) (w : World) (h : Sl w A n c l) (h7 : n ≤ 7) :
    Calls Tryz.prog 211 #[.slice A n c] w fun e w' => e = .returned (.int .i64 (numL l)) ∧ w = w' := by
  have hc := h.cap
  have hm := h.max
  unfold maxLen at hm
  go_enter Tryz.func211, Tryz.ntmps211
  go_wp2
  go_loop [3, 8] (fun x i => ∃ k : Nat, k ≤ n ∧ i = .int .i64 k ∧ x = .int .i64 (numL (l.take k))) (fun _ i => n - (intOf i).toNat)
  case atStart => exact ⟨0, Nat.zero_le _, rfl, rfl⟩
  case round =>
    obtain ⟨k, hk, rfl, rfl⟩ := hrel
    by_cases hlt : k < n
    · obtain ⟨ad, rfl, hb, hcell⟩ := h.cell hlt
      have hb1 := byt_le l k
      have hx' : numL (l.take k) < 36028797018963968 := by
        have h1 := numL_lt (l.take k)
        have h2 : (256 : Nat) ^ (l.take k).length ≤ 256 ^ 6 := Nat.pow_le_pow_right (by omega) (by rw [List.length_take]; omega)
        omega
      go_wp2
      refine ⟨⟨k + 1, by omega, by go_num, ?_⟩, by simp [intOf]; omega⟩
      have hl := h.len
      rw [numL_next _ _ (by omega), ← or_byte _ _ hx' (by omega)]
    · go_wp2
      go_ret
      exact ⟨ret_int (by rw [List.take_of_length_le (by have := h.len; omega)]), rfl⟩
end Go.Proofs.YtipejjgodnnkaaaGreatDoor

namespace Go.Proofs.YtipejjgodnnkaaaGreatDoor
open Go Go.RowKit Go.Proofs

theorem foldl_numK (l : List UInt8) (a : Nat) : l.foldl (fun a b => 256 * a + b.toNat) a = a * 256 ^ l.length + numL l := by
  induction l generalizing a with
  | nil => simp [numL]
  | cons b l ih =>
    unfold numL
    rw [List.foldl_cons, List.foldl_cons, ih, ih (256 * 0 + b.toNat), List.length_cons, Nat.pow_succ, Nat.add_mul, Nat.add_mul]
    have e : 256 * a * 256 ^ l.length = a * (256 ^ l.length * 256) := by rw [Nat.mul_comm 256 a, Nat.mul_assoc, Nat.mul_comm 256]
    omega
theorem numL_consK (b : UInt8) (l : List UInt8) : numL (b :: l) = b.toNat * 256 ^ l.length + numL l := by
  have h := foldl_numK l (256 * 0 + b.toNat)
  have e : (256 * 0 + b.toNat) * 256 ^ l.length = b.toNat * 256 ^ l.length := by rw [Nat.mul_zero, Nat.zero_add]
  rw [e] at h
  exact h
theorem low_natK (u k : Nat) : (low (u : Int) k).toNat = u / 256 ^ k % 256 := by
  unfold low
  have e : ((u : Int) / 2 ^ (8 * k) % 256) = ((u / 256 ^ k % 256 : Nat) : Int) := by
    rw [show (256 : Nat) ^ k = 2 ^ (8 * k) by rw [Nat.pow_mul], Int.natCast_emod, Int.natCast_ediv, Int.natCast_pow]
    rfl
  rw [e, Int.toNat_natCast, UInt8.toNat_ofNat']
  omega
theorem numL_digK (u k : Nat) : numL (dig (u : Int) k) = u % 256 ^ k := by
  induction k with
  | zero => simp [dig, numL, Nat.mod_one]
  | succ k ih =>
    rw [dig, numL_consK, dig_len, ih, low_natK, Nat.mod_pow_succ, Nat.mul_comm]
    omega
/-- A key as plain data. -/
structure Kd where
  obj : Int
  kind : Int
  off : Int
def Kd.may (k : Kd) : Bool := decide ((0 ≤ k.obj ∧ k.obj ≤ 2147483647) ∧ (0 ≤ k.kind ∧ k.kind ≤ 255) ∧ 0 ≤ k.off ∧ k.off ≤ 2147483647)
/-- P5.1's order. -/
def Kd.less (a b : Kd) : Bool := if a.obj = b.obj then if a.kind = b.kind then decide (a.off < b.off) else decide (a.kind < b.kind) else decide (a.obj < b.obj)
/-- P5.2's nine bytes. -/
def Kd.bytes (k : Kd) : List UInt8 := dig k.obj 4 ++ (dig k.kind 1 ++ dig k.off 4)
theorem num_back (x : Int) (m : Nat) (h0 : 0 ≤ x) (h1 : x < (256 ^ m : Nat)) : (numL (dig x m) : Int) = x := by
  obtain ⟨u, rfl⟩ := Int.eq_ofNat_of_zero_le h0
  rw [numL_digK, Nat.mod_eq_of_lt (by omega)]
def Kd.next (k : Kd) : Kd := if k.off < 2147483647 then ⟨k.obj, k.kind, k.off + 1⟩ else if k.kind < 255 then ⟨k.obj, k.kind + 1, 0⟩ else if k.obj < 2147483647 then ⟨k.obj + 1, 0, 0⟩ else ⟨0, 0, 0⟩
theorem Kd.less_iff (a b : Kd) : a.less b = true ↔ a.obj < b.obj ∨ (a.obj = b.obj ∧ (a.kind < b.kind ∨ (a.kind = b.kind ∧ a.off < b.off))) := by
  unfold Kd.less
  by_cases h1 : a.obj = b.obj
  · by_cases h2 : a.kind = b.kind
    · rw [if_pos h1, if_pos h2, decide_eq_true_iff]; omega
    · rw [if_pos h1, if_neg h2, decide_eq_true_iff]; omega
  · rw [if_neg h1, decide_eq_true_iff]; omega
def Kd.same (a b : Kd) : Bool := decide (a.obj = b.obj ∧ a.kind = b.kind ∧ a.off = b.off)
theorem Kd.same_iff (a b : Kd) : a.same b = true ↔ a.obj = b.obj ∧ a.kind = b.kind ∧ a.off = b.off := decide_eq_true_iff
theorem Kd.trans (a b c : Kd) (h1 : a.less b = true) (h2 : b.less c = true) : a.less c = true := by
  rw [Kd.less_iff] at *
  omega
end Go.Proofs.YtipejjgodnnkaaaGreatDoor
