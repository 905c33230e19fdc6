/- The reference's Open. -/
import Derived.Test.YtljlliiedbedeaaDoorSealI
namespace Go.Proofs.YtljlliiedbedeaaDoor
open Go Go.RowKit Go.Proofs

theorem foldl_num' (l : List UInt8) (a : Nat) : l.foldl (fun a b => 256 * a + b.toNat) a = a * 256 ^ l.length + numL l := by
  induction l generalizing a with
  | nil => simp [numL]
  | cons b l ih =>
    unfold numL
    rw [List.foldl_cons, List.foldl_cons, ih, ih (256 * 0 + b.toNat), List.length_cons, Nat.pow_succ, Nat.add_mul, Nat.add_mul]
    have e : 256 * a * 256 ^ l.length = a * (256 ^ l.length * 256) := by rw [Nat.mul_comm 256 a, Nat.mul_assoc, Nat.mul_comm 256]
    omega
theorem numL_cons' (b : UInt8) (l : List UInt8) : numL (b :: l) = b.toNat * 256 ^ l.length + numL l := by
  have h := foldl_num' l (256 * 0 + b.toNat)
  have e : (256 * 0 + b.toNat) * 256 ^ l.length = b.toNat * 256 ^ l.length := by rw [Nat.mul_zero, Nat.zero_add]
  rw [e] at h
  exact h
theorem low_nat' (u k : Nat) : (low (u : Int) k).toNat = u / 256 ^ k % 256 := by
  unfold low
  have e : ((u : Int) / 2 ^ (8 * k) % 256) = ((u / 256 ^ k % 256 : Nat) : Int) := by
    rw [show (256 : Nat) ^ k = 2 ^ (8 * k) by rw [Nat.pow_mul], Int.natCast_emod, Int.natCast_ediv, Int.natCast_pow]
    rfl
  rw [e, Int.toNat_natCast, UInt8.toNat_ofNat']
  omega
theorem numL_dig' (u k : Nat) : numL (dig (u : Int) k) = u % 256 ^ k := by
  induction k with
  | zero => simp [dig, numL, Nat.mod_one]
  | succ k ih =>
    rw [dig, numL_cons', dig_len, ih, low_nat', Nat.mod_pow_succ, Nat.mul_comm]
    omega
/-- Bytes of one length that are the same number are the same. -/
theorem numL_inj : ∀ {a b : List UInt8}, a.length = b.length → numL a = numL b → a = b
  | [], [], _, _ => rfl
  | [], _ :: _, h, _ => by simp at h
  | _ :: _, [], h, _ => by simp at h
  | x :: a, y :: b, h, e => by
    have hl : a.length = b.length := by simpa using h
    rw [numL_cons', numL_cons', hl] at e
    have h1 := numL_lt a
    have h2 := numL_lt b
    rw [hl] at h1
    have hp : 0 < 256 ^ b.length := Nat.pow_pos (by omega)
    have d1 : (x.toNat * 256 ^ b.length + numL a) / 256 ^ b.length = x.toNat := by rw [Nat.mul_comm, Nat.mul_add_div hp, Nat.div_eq_of_lt h1]; omega
    have d2 : (y.toNat * 256 ^ b.length + numL b) / 256 ^ b.length = y.toNat := by rw [Nat.mul_comm, Nat.mul_add_div hp, Nat.div_eq_of_lt h2]; omega
    have hxy : x.toNat = y.toNat := by rw [← d1, ← d2, e]
    have hx := UInt8.toNat_inj.1 hxy
    subst hx
    have hr : numL a = numL b := by omega
    rw [numL_inj hl hr]
theorem sum_same (l : List UInt8) (hl : l.length = 256) : ((numL (l.take 4) : Int) = (more 0 (l.drop 4) : Int)) ↔ l.take 4 = sumB l := by
  have hlt := more_lt 0 (l.drop 4)
  have e : numL (sumB l) = more 0 (l.drop 4) := by unfold sumB; rw [numL_dig', Nat.mod_eq_of_lt (by omega)]
  constructor
  · intro h
    exact numL_inj (by rw [sumB_len, List.length_take, hl]; rfl) (by rw [e]; omega)
  · intro h
    rw [h, e]
theorem numL_zero : ∀ {a : List UInt8}, numL a = 0 ↔ allZ a = true
  | [] => by simp [numL, allZ]
  | x :: a => by
    have ih := @numL_zero a
    rw [numL_cons']
    have hp : 0 < 256 ^ a.length := Nat.pow_pos (by omega)
    have e : allZ (x :: a) = (decide (x = 0) && allZ a) := by unfold allZ; rw [List.all_cons]; congr 1
    rw [e, Bool.and_eq_true, decide_eq_true_eq, ← ih]
    constructor
    · intro h
      have h1 : x.toNat * 256 ^ a.length = 0 := by omega
      have h2 : x.toNat = 0 := by rcases Nat.mul_eq_zero.1 h1 with h | h <;> omega
      exact ⟨UInt8.toNat_inj.1 h2, by omega⟩
    · rintro ⟨rfl, h⟩
      simp [h]
theorem hdOf_at (l : List UInt8) : hdOf ((l.drop 4).take 11) = ⟨numL ((l.drop 4).take 1), numL ((l.drop 6).take 2), numL ((l.drop 8).take 2), numL ((l.drop 5).take 1), numL ((l.drop 10).take 5)⟩ := by
  unfold hdOf
  simp [List.take_take, List.drop_take, List.drop_drop]

/-- m bytes from p on, as a number. Kept shut. -/
def gN (l : List UInt8) (p m : Nat) : Nat := numL ((l.drop p).take m)
theorem hdOf_gN (l : List UInt8) : hdOf ((l.drop 4).take 11) = ⟨gN l 4 1, gN l 6 2, gN l 8 2, gN l 5 1, gN l 10 5⟩ := hdOf_at l
theorem rtake {l0 : List UInt8} (hl : l0.length = 256) (p m n n' : Nat) {A : Option Addr} {c : Nat} {w : World} (h : Sl w A n c (l0.drop p)) (wd : Int) (hw : wd = (m : Int)) (h1 : 1 ≤ m) (h7 : m ≤ 7) (hp : p + m ≤ 256) (hn' : n' + (p + m) = 256) :
    Calls Tryd.prog 33 #[.slice A n c, .int .i64 wd] w fun e w' => ∃ A' c', e = .returned (.tuple #[.int .i64 (gN l0 p m), .slice A' n' c', .int .i64 0]) ∧ Own w' w.heap.size 5 A' n' c' (l0.drop (p + m)) ∧ Below w.heap.size w w' := by
  have hln := h.len
  rw [List.length_drop, hl] at hln
  refine (reftake_yes A n c _ wd w h (by omega) (by omega) (by omega) (by omega)).mono ?_
  rintro e w' ⟨A', k', c', rfl, own, hb⟩
  subst hw
  rw [Int.toNat_natCast, List.drop_drop] at own
  rw [Int.toNat_natCast]
  have hk := own.len
  rw [List.length_drop, hl] at hk
  obtain rfl : k' = n' := by omega
  exact ⟨A', c', rfl, own, hb⟩
theorem setF {w v : World} {b r base n c : Nat} {h : Hd} {A : Option Addr} {l : List UInt8} (H : HB v b h) (own : Own v base 5 A n c l) (HZ : HB v r Hd.zero) (hB : Below w.heap.size w v) (k : Nat) (x : Int) (h1 : r < b) (h2 : w.heap.size ≤ b) (h3 : b < base) :
    HB (v.setCell ⟨b, foff k, none⟩ (.int .i64 x)) b (h.set k x) ∧ Sl (v.setCell ⟨b, foff k, none⟩ (.int .i64 x)) A n c l ∧ HB (v.setCell ⟨b, foff k, none⟩ (.int .i64 x)) r Hd.zero ∧ Below w.heap.size w (v.setCell ⟨b, foff k, none⟩ (.int .i64 x)) ∧ (v.setCell ⟨b, foff k, none⟩ (.int .i64 x)).heap.size = v.heap.size := by
  have hb : Below b v (v.setCell ⟨b, foff k, none⟩ (.int .i64 x)) := (Below.refl _ v).setCell (p := ⟨b, foff k, none⟩) (Nat.le_refl _) _
  exact ⟨H.set_ k x, (own.turn fun g hg _ => Below.heap_setCell _ _ _ _ (by show g ≠ b; omega)).sl, HZ.below hb h1, hB.trans (hb.mono h2), World.size_setCell ..⟩
def RefOpenSays (A : Option Addr) (n c : Nat) (l : List UInt8) (w : World) : Prop :=
    Calls Tryd.prog 32 #[.slice A n c] w fun e w' =>
      ∃ A' n' c', e = .returned (.tuple #[(opH l).v, .slice A' n' c', .int .i64 (opE l)]) ∧ Own w' w.heap.size 5 A' n' c' (opB l) ∧ Below w.heap.size w w'

set_option maxRecDepth 10000 in
set_option maxHeartbeats 4000000 in
theorem refopen_any (A : Option Addr) (n c : Nat) (l : List UInt8) (w : World) (hs : Sl w A n c l) : RefOpenSays A n c l w := by
  unfold RefOpenSays
  have hlen := hs.len
  have hcap := hs.cap
  have hm := hs.max
  unfold maxLen at hm
  have HZ := HB.zero w 51
  have hb0 : Below w.heap.size w (w.alloc (.cells #[.int .i64 0, .int .i64 0, .int .i64 0, .int .i64 0, .int .i64 0] 51)) := (Below.refl _ _).alloc (Nat.le_refl _) _
  have hz0 : w.heap.size < (w.alloc (.cells #[.int .i64 0, .int .i64 0, .int .i64 0, .int .i64 0, .int .i64 0] 51)).heap.size := by simp
  by_cases hn : n = 256
  · subst hn
    go_enter Tryd.func32, Tryd.ntmps32
    go_wp2_with fail
    generalize (w.alloc (.cells #[.int .i64 0, .int .i64 0, .int .i64 0, .int .i64 0, .int .i64 0] 51)) = w1 at HZ hb0 hz0 ⊢
    refine (rtake hlen 0 4 256 252 (hs.below hb0) 4 rfl (by omega) (by omega) (by omega) rfl).mono ?_
    rintro e w3 ⟨A3, c3, rfl, own3, hb3⟩
    have hz3 := hb3.size
    have HZ3 := HZ.below hb3 hz0
    have hB3 := hb0.trans (hb3.mono hb0.size)
    have hsame := sum_same l hlen
    have hlt := more_lt 0 (l.drop 4)
    obtain ⟨S, hS⟩ : ∃ S, more 0 (l.drop 4) = S := ⟨_, rfl⟩
    rw [hS] at hsame hlt
    change (((gN l 0 4 : Nat) : Int) = (S : Int)) ↔ _ at hsame
    go_wp2_with fail
    refine (refsum_any A3 252 c3 _ w3 own3.sl).mono ?_
    rw [show more 0 (l.drop (0 + 4)) = S from hS]
    rintro e wx ⟨rfl, rfl⟩
    obtain ⟨s0, hs0⟩ : ∃ s0, gN l 0 4 = s0 := ⟨_, rfl⟩
    rw [hs0] at hsame ⊢
    by_cases heq : (s0 : Int) = (S : Int)
    · have hsum := hsame.1 heq
      go_wp2_with fail
      generalize hw4 : w3.alloc _ = w4
      have H4 : HB w4 w3.heap.size Hd.zero := by rw [← hw4]; exact HB.zero w3 _
      have hb4 : Below w3.heap.size w3 w4 := by rw [← hw4]; exact (Below.refl _ _).alloc (Nat.le_refl _) _
      have hz4 : w4.heap.size = w3.heap.size + 1 := by rw [← hw4]; simp
      clear hw4
      have Z4 := HZ3.below hb4 (by omega)
      have B4 := hB3.trans (hb4.mono hB3.size)
      have s4 := own3.sl.below hb4
      clear hb4
      refine (rtake hlen 4 1 252 251 s4 1 rfl (by omega) (by omega) (by omega) rfl).mono ?_
      rintro e w5 ⟨A5, c5, rfl, own5, hb⟩
      have hz := hb.size
      have H := H4.below hb (by omega)
      have Z := Z4.below hb (by omega)
      have B := B4.trans (hb.mono B4.size)
      clear hb H4 Z4 s4
      obtain ⟨x0, hx0⟩ : ∃ x, gN l 4 1 = x := ⟨_, rfl⟩
      rw [hx0]
      obtain ⟨y, q⟩ : ∃ y, w5.cell? ⟨w3.heap.size, 0, none⟩ = some (.int .i64 y) := ⟨_, H.at_ 0⟩
      have f : w5.frozen? ⟨w3.heap.size, 0, none⟩ = false := H.fz 0
      go_wp2_with fail
      obtain ⟨H5, s5, Z5, B5, hzs⟩ := setF H own5 Z B 0 (x0 : Int) (by omega) (by omega) (by omega)
      change HB (w5.setCell ⟨w3.heap.size, 0, none⟩ (.int .i64 (x0 : Int))) _ _ at H5
      change Sl (w5.setCell ⟨w3.heap.size, 0, none⟩ (.int .i64 (x0 : Int))) _ _ _ _ at s5
      change HB (w5.setCell ⟨w3.heap.size, 0, none⟩ (.int .i64 (x0 : Int))) _ _ at Z5
      change Below _ _ (w5.setCell ⟨w3.heap.size, 0, none⟩ (.int .i64 (x0 : Int))) at B5
      change (w5.setCell ⟨w3.heap.size, 0, none⟩ (.int .i64 (x0 : Int))).heap.size = _ at hzs
      generalize w5.setCell ⟨w3.heap.size, 0, none⟩ (.int .i64 (x0 : Int)) = v5 at H5 s5 Z5 B5 hzs ⊢
      have hz5 : w3.heap.size < v5.heap.size := by omega
      clear H Z B q f hz hzs own5 y
      refine (rtake hlen 5 1 251 250 s5 1 rfl (by omega) (by omega) (by omega) rfl).mono ?_
      rintro e w6 ⟨A6, c6, rfl, own6, hb⟩
      have hz := hb.size
      have H := H5.below hb (by omega)
      have Z := Z5.below hb (by omega)
      have B := B5.trans (hb.mono B5.size)
      clear hb H5 Z5 s5
      obtain ⟨x1, hx1⟩ : ∃ x, gN l 5 1 = x := ⟨_, rfl⟩
      rw [hx1]
      obtain ⟨y, q⟩ : ∃ y, w6.cell? ⟨w3.heap.size, 3, none⟩ = some (.int .i64 y) := ⟨_, H.at_ 1⟩
      have f : w6.frozen? ⟨w3.heap.size, 3, none⟩ = false := H.fz 1
      go_wp2_with fail
      obtain ⟨H6, s6, Z6, B6, hzs⟩ := setF H own6 Z B 1 (x1 : Int) (by omega) (by omega) (by omega)
      change HB (w6.setCell ⟨w3.heap.size, 3, none⟩ (.int .i64 (x1 : Int))) _ _ at H6
      change Sl (w6.setCell ⟨w3.heap.size, 3, none⟩ (.int .i64 (x1 : Int))) _ _ _ _ at s6
      change HB (w6.setCell ⟨w3.heap.size, 3, none⟩ (.int .i64 (x1 : Int))) _ _ at Z6
      change Below _ _ (w6.setCell ⟨w3.heap.size, 3, none⟩ (.int .i64 (x1 : Int))) at B6
      change (w6.setCell ⟨w3.heap.size, 3, none⟩ (.int .i64 (x1 : Int))).heap.size = _ at hzs
      generalize w6.setCell ⟨w3.heap.size, 3, none⟩ (.int .i64 (x1 : Int)) = v6 at H6 s6 Z6 B6 hzs ⊢
      have hz6 : w3.heap.size < v6.heap.size := by omega
      clear H Z B q f hz hzs own6 y
      refine (rtake hlen 6 2 250 248 s6 2 rfl (by omega) (by omega) (by omega) rfl).mono ?_
      rintro e w7 ⟨A7, c7, rfl, own7, hb⟩
      have hz := hb.size
      have H := H6.below hb (by omega)
      have Z := Z6.below hb (by omega)
      have B := B6.trans (hb.mono B6.size)
      clear hb H6 Z6 s6
      obtain ⟨x2, hx2⟩ : ∃ x, gN l 6 2 = x := ⟨_, rfl⟩
      rw [hx2]
      obtain ⟨y, q⟩ : ∃ y, w7.cell? ⟨w3.heap.size, 1, none⟩ = some (.int .i64 y) := ⟨_, H.at_ 2⟩
      have f : w7.frozen? ⟨w3.heap.size, 1, none⟩ = false := H.fz 2
      go_wp2_with fail
      obtain ⟨H7, s7, Z7, B7, hzs⟩ := setF H own7 Z B 2 (x2 : Int) (by omega) (by omega) (by omega)
      change HB (w7.setCell ⟨w3.heap.size, 1, none⟩ (.int .i64 (x2 : Int))) _ _ at H7
      change Sl (w7.setCell ⟨w3.heap.size, 1, none⟩ (.int .i64 (x2 : Int))) _ _ _ _ at s7
      change HB (w7.setCell ⟨w3.heap.size, 1, none⟩ (.int .i64 (x2 : Int))) _ _ at Z7
      change Below _ _ (w7.setCell ⟨w3.heap.size, 1, none⟩ (.int .i64 (x2 : Int))) at B7
      change (w7.setCell ⟨w3.heap.size, 1, none⟩ (.int .i64 (x2 : Int))).heap.size = _ at hzs
      generalize w7.setCell ⟨w3.heap.size, 1, none⟩ (.int .i64 (x2 : Int)) = v7 at H7 s7 Z7 B7 hzs ⊢
      have hz7 : w3.heap.size < v7.heap.size := by omega
      clear H Z B q f hz hzs own7 y
      refine (rtake hlen 8 2 248 246 s7 2 rfl (by omega) (by omega) (by omega) rfl).mono ?_
      rintro e w8 ⟨A8, c8, rfl, own8, hb⟩
      have hz := hb.size
      have H := H7.below hb (by omega)
      have Z := Z7.below hb (by omega)
      have B := B7.trans (hb.mono B7.size)
      clear hb H7 Z7 s7
      obtain ⟨x3, hx3⟩ : ∃ x, gN l 8 2 = x := ⟨_, rfl⟩
      rw [hx3]
      obtain ⟨y, q⟩ : ∃ y, w8.cell? ⟨w3.heap.size, 2, none⟩ = some (.int .i64 y) := ⟨_, H.at_ 3⟩
      have f : w8.frozen? ⟨w3.heap.size, 2, none⟩ = false := H.fz 3
      go_wp2_with fail
      obtain ⟨H8, s8, Z8, B8, hzs⟩ := setF H own8 Z B 3 (x3 : Int) (by omega) (by omega) (by omega)
      change HB (w8.setCell ⟨w3.heap.size, 2, none⟩ (.int .i64 (x3 : Int))) _ _ at H8
      change Sl (w8.setCell ⟨w3.heap.size, 2, none⟩ (.int .i64 (x3 : Int))) _ _ _ _ at s8
      change HB (w8.setCell ⟨w3.heap.size, 2, none⟩ (.int .i64 (x3 : Int))) _ _ at Z8
      change Below _ _ (w8.setCell ⟨w3.heap.size, 2, none⟩ (.int .i64 (x3 : Int))) at B8
      change (w8.setCell ⟨w3.heap.size, 2, none⟩ (.int .i64 (x3 : Int))).heap.size = _ at hzs
      generalize w8.setCell ⟨w3.heap.size, 2, none⟩ (.int .i64 (x3 : Int)) = v8 at H8 s8 Z8 B8 hzs ⊢
      have hz8 : w3.heap.size < v8.heap.size := by omega
      clear H Z B q f hz hzs own8 y
      refine (rtake hlen 10 5 246 241 s8 5 rfl (by omega) (by omega) (by omega) rfl).mono ?_
      rintro e w9 ⟨A9, c9, rfl, own9, hb⟩
      have hz := hb.size
      have H := H8.below hb (by omega)
      have Z := Z8.below hb (by omega)
      have B := B8.trans (hb.mono B8.size)
      clear hb H8 Z8 s8
      obtain ⟨x4, hx4⟩ : ∃ x, gN l 10 5 = x := ⟨_, rfl⟩
      rw [hx4]
      obtain ⟨y, q⟩ : ∃ y, w9.cell? ⟨w3.heap.size, 4, none⟩ = some (.int .i64 y) := ⟨_, H.at_ 4⟩
      have f : w9.frozen? ⟨w3.heap.size, 4, none⟩ = false := H.fz 4
      go_wp2_with fail
      obtain ⟨H9, s9, Z9, B9, hzs⟩ := setF H own9 Z B 4 (x4 : Int) (by omega) (by omega) (by omega)
      change HB (w9.setCell ⟨w3.heap.size, 4, none⟩ (.int .i64 (x4 : Int))) _ _ at H9
      change Sl (w9.setCell ⟨w3.heap.size, 4, none⟩ (.int .i64 (x4 : Int))) _ _ _ _ at s9
      change HB (w9.setCell ⟨w3.heap.size, 4, none⟩ (.int .i64 (x4 : Int))) _ _ at Z9
      change Below _ _ (w9.setCell ⟨w3.heap.size, 4, none⟩ (.int .i64 (x4 : Int))) at B9
      change (w9.setCell ⟨w3.heap.size, 4, none⟩ (.int .i64 (x4 : Int))).heap.size = _ at hzs
      generalize w9.setCell ⟨w3.heap.size, 4, none⟩ (.int .i64 (x4 : Int)) = v9 at H9 s9 Z9 B9 hzs ⊢
      have hz9 : w3.heap.size < v9.heap.size := by omega
      clear H Z B q f hz hzs own9 y
      refine (rtake hlen 15 5 241 236 s9 5 rfl (by omega) (by omega) (by omega) rfl).mono ?_
      rintro e w10 ⟨A10, c10, rfl, own10, hb10⟩
      have hz10 := hb10.size
      have H10 := H9.below hb10 (by omega)
      have Z10 := Z9.below hb10 (by omega)
      have B10 := B9.trans (hb10.mono B9.size)
      clear hb10 H9 Z9 s9
      have hH : hdOf ((l.drop 4).take 11) = ⟨(x0 : Int), (x2 : Int), (x3 : Int), (x1 : Int), (x4 : Int)⟩ := by rw [hdOf_gN, hx0, hx1, hx2, hx3, hx4]
      change HB w10 w3.heap.size ⟨(x0 : Int), (x2 : Int), (x3 : Int), (x1 : Int), (x4 : Int)⟩ at H10
      rw [← hH] at H10
      have hzero : gN l 15 5 = 0 ↔ allZ ((l.drop 15).take 5) = true := numL_zero
      obtain ⟨x5, hx5⟩ : ∃ x, gN l 15 5 = x := ⟨_, rfl⟩
      rw [hx5] at hzero ⊢
      obtain ⟨H, hHH⟩ : ∃ H, hdOf ((l.drop 4).take 11) = H := ⟨_, rfl⟩
      rw [hHH] at H10
      clear hH
      cases hok : H.ok
      · have hno : okB l = false := decide_eq_false (fun h => by have := h.2.2.1; rw [hHH, hok] at this; cases this)
        by_cases hx : (x5 : Int) = 0
        · skip
          go_wp2_with (first
            | (refine wp_load_hd rfl (.tmp 8) rfl w3.heap.size rfl H (by first | exact H10 | exact H11) ?_)
            | (go_at_call 39; refine (refmay_any H _).mono ?_; rw [hok]; rintro e w11 ⟨rfl, hb11⟩; have hz11 := hb11.size; have H11 := H10.below hb11 (by omega); have Z11 := Z10.below hb11 (by omega); have B11 := B10.trans (hb11.mono B10.size); have s11 := own10.sl.below hb11)
            | (refine wp_store_hd rfl (.tmp 2) (.tmp 83) rfl w.heap.size rfl Hd.zero _ rfl Z11 (by omega) ?_; intro wz hrz hbz Tz)
            | fail)
          all_goals
            refine bodyPost_ret (results_cell3 Tryd.results32 rfl (load_hd hrz)) rfl ?_
            obtain ⟨h1, h2, h3⟩ := op_no hno
            rw [h1, h2, h3]
            exact ⟨_, _, _, rfl, own_nil _ _ _, B11.trans (hbz _ (Nat.le_refl _))⟩
        · have hxd : decide ((x5 : Int) = 0) = false := decide_eq_false hx
          go_wp2_with (first
            | (refine wp_load_hd rfl (.tmp 8) rfl w3.heap.size rfl H (by first | exact H10 | exact H11) ?_)
            | (go_at_call 39; refine (refmay_any H _).mono ?_; rw [hok]; rintro e w11 ⟨rfl, hb11⟩; have hz11 := hb11.size; have H11 := H10.below hb11 (by omega); have Z11 := Z10.below hb11 (by omega); have B11 := B10.trans (hb11.mono B10.size); have s11 := own10.sl.below hb11)
            | (refine wp_store_hd rfl (.tmp 2) (.tmp 83) rfl w.heap.size rfl Hd.zero _ rfl Z11 (by omega) ?_; intro wz hrz hbz Tz)
            | fail)
          all_goals
            refine bodyPost_ret (results_cell3 Tryd.results32 rfl (load_hd hrz)) rfl ?_
            obtain ⟨h1, h2, h3⟩ := op_no hno
            rw [h1, h2, h3]
            exact ⟨_, _, _, rfl, own_nil _ _ _, B11.trans (hbz _ (Nat.le_refl _))⟩
      · by_cases hx : (x5 : Int) = 0
        · have hzz := hzero.1 (by omega)
          have hyes : okB l = true := decide_eq_true ⟨hlen, hsum, by rw [hHH]; exact hok, hzz⟩
          go_wp2_with (first
            | (refine wp_load_hd rfl (.tmp 8) rfl w3.heap.size rfl H (by first | exact H10 | exact H11) ?_)
            | (go_at_call 39; refine (refmay_any H _).mono ?_; rw [hok]; rintro e w11 ⟨rfl, hb11⟩; have hz11 := hb11.size; have H11 := H10.below hb11 (by omega); have Z11 := Z10.below hb11 (by omega); have B11 := B10.trans (hb11.mono B10.size); have s11 := own10.sl.below hb11)
            | (refine wp_store_hd rfl (.tmp 2) (.tmp 84) rfl w.heap.size rfl H _ rfl Z11 (by omega) ?_; intro wz hrz hbz Tz)
            | fail)
          refine bodyPost_ret (results_cell3 Tryd.results32 rfl (load_hd hrz)) rfl ?_
          obtain ⟨h1, h2, h3⟩ := op_yes hyes
          rw [h1, h2, h3, hHH]
          exact ⟨_, _, _, rfl, ((own10.below hb11).turn fun g hg hl => Tz.block g hl (by show ¬ g = w.heap.size; omega)).less B9.size, B11.trans (hbz _ (Nat.le_refl _))⟩
        · have hno : okB l = false := decide_eq_false (fun h => hx (by have := hzero.2 h.2.2.2; omega))
          have hxd : decide ((x5 : Int) = 0) = false := decide_eq_false hx
          go_wp2_with (first
            | (refine wp_load_hd rfl (.tmp 8) rfl w3.heap.size rfl H (by first | exact H10 | exact H11) ?_)
            | (go_at_call 39; refine (refmay_any H _).mono ?_; rw [hok]; rintro e w11 ⟨rfl, hb11⟩; have hz11 := hb11.size; have H11 := H10.below hb11 (by omega); have Z11 := Z10.below hb11 (by omega); have B11 := B10.trans (hb11.mono B10.size); have s11 := own10.sl.below hb11)
            | (refine wp_store_hd rfl (.tmp 2) (.tmp 83) rfl w.heap.size rfl Hd.zero _ rfl Z11 (by omega) ?_; intro wz hrz hbz Tz)
            | fail)
          all_goals
            refine bodyPost_ret (results_cell3 Tryd.results32 rfl (load_hd hrz)) rfl ?_
            obtain ⟨h1, h2, h3⟩ := op_no hno
            rw [h1, h2, h3]
            exact ⟨_, _, _, rfl, own_nil _ _ _, B11.trans (hbz _ (Nat.le_refl _))⟩
    · have hne : decide ((s0 : Int) = (S : Int)) = false := decide_eq_false heq
      have hno : okB l = false := decide_eq_false (fun h => heq (hsame.2 h.2.1))
      obtain ⟨h1, h2, h3⟩ := op_no hno
      go_wp2_with (first
        | (refine wp_store_hd rfl (.tmp 2) (.tmp 27) rfl w.heap.size rfl Hd.zero _ rfl HZ3 (by omega) ?_; intro wz hrz hbz Tz)
        | fail)
      rw [h1, h2, h3]
      refine bodyPost_ret (results_cell3 Tryd.results32 rfl (load_hd hrz)) rfl ?_
      exact ⟨_, _, _, rfl, own_nil _ _ _, hB3.trans (hbz _ (Nat.le_refl _))⟩
  · have hno : okB l = false := decide_eq_false (fun h => hn (by omega))
    obtain ⟨h1, h2, h3⟩ := op_no hno
    rw [h1, h2, h3]
    have hn' : ¬ (n : Int) = 256 := by omega
    have hdn : decide ((n : Int) = 256) = false := decide_eq_false hn'
    go_enter Tryd.func32, Tryd.ntmps32
    go_wp2_with (first
      | (refine wp_store_hd rfl (.tmp 2) (.tmp 15) rfl w.heap.size rfl Hd.zero _ rfl (by exact HZ) (by exact hz0) ?_; intro w4 hr4 hb4 _)
      | fail)
    refine bodyPost_ret (results_cell3 Tryd.results32 rfl (load_hd hr4)) rfl ?_
    exact ⟨_, _, _, rfl, own_nil _ _ _, hb0.trans (hb4 _ (Nat.le_refl _))⟩
end Go.Proofs.YtljlliiedbedeaaDoor
