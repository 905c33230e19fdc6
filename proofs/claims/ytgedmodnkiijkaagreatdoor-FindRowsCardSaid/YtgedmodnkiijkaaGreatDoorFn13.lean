/- The program's Open, the other ways; Check. The reference's May and Seal. The reference's Open. What Check answers, as plain data. The document's examples of layer 4. Plain facts of sealed blocks: a block has one form; what was sealed; a byte that is turned. The reference's Write: a node's block. What the reference's Read answers, as plain data; its takes as one contract each. The reference's Read. The code's node: put, for items and for kids. -/
import Derived.Test.YtgedmodnkiijkaaGreatDoorFn2
import Derived.Test.YtgedmodnkiijkaaGreatDoorFn3
import Derived.Test.YtgedmodnkiijkaaGreatDoorFn4
import Derived.Test.YtgedmodnkiijkaaGreatDoorFn5
import Derived.Test.YtgedmodnkiijkaaGreatDoorFn6
import Derived.Test.YtgedmodnkiijkaaGreatDoorFn7
import Derived.Test.YtgedmodnkiijkaaGreatDoorFn12
import Derived.Laws.BitsAll
import Derived.Deep.RegionHeld3
namespace Go.Proofs.YtgedmodnkiijkaaGreatDoor
open Go Go.RowKit Go.Proofs

set_option maxRecDepth 10000 in
set_option maxHeartbeats 4000000 in
theorem open_ne (ad : Addr) (c : Nat) (l : List UInt8) (w : World) (hs : Sl w (some ad) 256 c l) (ht : Tab w) (heq : ¬ l.take 4 = sumB l) : OpenSays (some ad) 256 c l w := by
  unfold OpenSays
  have hlen := hs.len
  have hcap := hs.cap
  have hm := hs.max
  unfold maxLen at hm
  have HZ := HB.zero w 133
  have hb0 : Below w.heap.size w (w.alloc (.cells #[.int .i64 0, .int .i64 0, .int .i64 0, .int .i64 0, .int .i64 0] 133)) := (Below.refl _ _).alloc (Nat.le_refl _) _
  have hz0 : w.heap.size < (w.alloc (.cells #[.int .i64 0, .int .i64 0, .int .i64 0, .int .i64 0, .int .i64 0] 133)).heap.size := by simp
  have hno : okB l = false := decide_eq_false (fun h => heq h.2.1)
  have h1 : opH l = Hd.zero := by unfold opH; rw [if_neg (by rw [hno]; simp)]
  have h2 : opB l = [] := by unfold opB; rw [if_neg (by rw [hno]; simp)]
  have h3 : opE l = 3 := by unfold opE; rw [if_neg (by rw [hno]; simp)]
  rw [h1, h2, h3]
  have hsne : ¬ ((⟨(l.take 4).toArray⟩ : ByteArray) = ⟨(sumB l).toArray⟩) := fun h => heq (by injection h with h; simpa using h)
  have hsb : ((⟨(l.take 4).toArray⟩ : ByteArray).toList == (⟨(sumB l).toArray⟩ : ByteArray).toList) = false := by rw [ByteArray.toList_eq, ByteArray.toList_eq]; simpa using heq
  generalize hS : (⟨(sumB l).toArray⟩ : ByteArray) = S1 at hsne hsb
  generalize hS2 : (⟨(l.take 4).toArray⟩ : ByteArray) = S2 at hsne hsb
  go_enter Tryz.func81, Tryz.ntmps81
  go_wp2
  generalize (w.alloc (.cells #[.int .i64 0, .int .i64 0, .int .i64 0, .int .i64 0, .int .i64 0] 133)) = w1 at HZ hb0 hz0 ⊢
  have hs1 := hs.below hb0
  have ht1 := ht.below hb0 ht.1
  have k1 := str_bs (hs1.take (k := 4) (by omega)).drew
  rw [hS2] at k1
  go_region_with (first
    | (go_at_call 109; refine (summed_any _ 256 c l _ hs1.drew (by omega) ht1).mono ?_; rintro e w3 ⟨A3, n3, c3, rfl, own3, hb3⟩; have hb3' : Below w1.heap.size w1 w3 := Below.trans (Below.refl _ w1).drew hb3; have k2 := str_bs ((hs1.below hb3').take (k := 4) (by omega)); have k3 := str_bs own3.sl; rw [hS2] at k2; rw [hS] at k3)
    | fail)
  all_goals
    have HZ3 := HZ.below hb3' hz0
    have hz3 := hb3'.size
    go_wp2_with (first
      | (refine wp_store_hd rfl (.tmp 2) (.tmp 19) rfl w.heap.size rfl Hd.zero _ rfl (by exact HZ3) (by show w.heap.size < w3.heap.size; omega) ?_; intro w4 hr4 hb4 _)
      | fail)
    refine bodyPost_ret (results_cell3 Tryz.results81 rfl (load_hd hr4)) rfl ?_
    exact ⟨_, _, _, rfl, own_nil _ _ _, hb0.trans ((hb3'.mono (by omega)).trans (hb4 _ (Nat.le_refl _)))⟩

set_option maxRecDepth 10000 in
set_option maxHeartbeats 2000000 in
theorem open_any (A : Option Addr) (n c : Nat) (l : List UInt8) (w : World) (hs : Sl w A n c l) (ht : Tab w) : OpenSays A n c l w := by
  have hlen := hs.len
  by_cases hn : n = 256
  · subst hn
    obtain ⟨ad, rfl, _⟩ := hs.cell (k := 0) (by omega)
    by_cases heq : l.take 4 = sumB l
    · exact open_eq ad c l w hs ht heq
    · exact open_ne ad c l w hs ht heq
  · unfold OpenSays
    have hno : okB l = false := decide_eq_false (fun h => hn (by omega))
    have h1 : opH l = Hd.zero := by unfold opH; rw [if_neg (by rw [hno]; simp)]
    have h2 : opB l = [] := by unfold opB; rw [if_neg (by rw [hno]; simp)]
    have h3 : opE l = 3 := by unfold opE; rw [if_neg (by rw [hno]; simp)]
    rw [h1, h2, h3]
    have hn' : ¬ (n : Int) = 256 := by omega
    have hdn : decide ((n : Int) = 256) = false := decide_eq_false hn'
    have HZ := HB.zero w 133
    have hb0 : Below w.heap.size w (w.alloc (.cells #[.int .i64 0, .int .i64 0, .int .i64 0, .int .i64 0, .int .i64 0] 133)) := (Below.refl _ _).alloc (Nat.le_refl _) _
    have hz0 : w.heap.size < (w.alloc (.cells #[.int .i64 0, .int .i64 0, .int .i64 0, .int .i64 0, .int .i64 0] 133)).heap.size := by simp
    go_enter Tryz.func81, Tryz.ntmps81
    go_wp2
    generalize (w.alloc (.cells #[.int .i64 0, .int .i64 0, .int .i64 0, .int .i64 0, .int .i64 0] 133)) = w1 at HZ hb0 hz0 ⊢
    go_quiet (fail)
    go_wp2_with (first
      | (refine wp_store_hd rfl (.tmp 2) (.tmp 19) rfl w.heap.size rfl Hd.zero _ rfl (by exact HZ) (by exact hz0) ?_; intro w4 hr4 hb4 _)
      | fail)
    refine bodyPost_ret (results_cell3 Tryz.results81 rfl (load_hd hr4)) rfl ?_
    exact ⟨_, _, _, rfl, own_nil _ _ _, (below_drewN hb0 _).trans (hb4 _ (Nat.le_refl _))⟩
end Go.Proofs.YtgedmodnkiijkaaGreatDoor

namespace Go.Proofs.YtgedmodnkiijkaaGreatDoor
open Go Go.RowKit Go.Proofs

theorem put_in (l : List UInt8) (x n : Int) (h1 : 1 ≤ n) (h2 : n ≤ 8) : putS l x n = l ++ dig x n.toNat := if_pos ⟨h1, h2⟩
end Go.Proofs.YtgedmodnkiijkaaGreatDoor

namespace Go.Proofs.YtgedmodnkiijkaaGreatDoor
open Go Go.RowKit Go.Proofs

theorem foldl_num' (l : List UInt8) (a : Nat) : l.foldl (fun a b => 256 * a + b.toNat) a = a * 256 ^ l.length + numL l := by
  induction l generalizing a with
  | nil => simp [numL]
  | cons b l ih =>
    unfold numL
    rw [List.foldl_cons, List.foldl_cons, ih, ih (256 * 0 + b.toNat), List.length_cons, Nat.pow_succ, Nat.add_mul, Nat.add_mul]
    have e : 256 * a * 256 ^ l.length = a * (256 ^ l.length * 256) := by rw [Nat.mul_comm 256 a, Nat.mul_assoc, Nat.mul_comm 256]
    omega
theorem numL_cons' (b : UInt8) (l : List UInt8) : numL (b :: l) = b.toNat * 256 ^ l.length + numL l := by
  have h := foldl_num' l (256 * 0 + b.toNat)
  have e : (256 * 0 + b.toNat) * 256 ^ l.length = b.toNat * 256 ^ l.length := by rw [Nat.mul_zero, Nat.zero_add]
  rw [e] at h
  exact h
theorem low_nat' (u k : Nat) : (low (u : Int) k).toNat = u / 256 ^ k % 256 := by
  unfold low
  have e : ((u : Int) / 2 ^ (8 * k) % 256) = ((u / 256 ^ k % 256 : Nat) : Int) := by
    rw [show (256 : Nat) ^ k = 2 ^ (8 * k) by rw [Nat.pow_mul], Int.natCast_emod, Int.natCast_ediv, Int.natCast_pow]
    rfl
  rw [e, Int.toNat_natCast, UInt8.toNat_ofNat']
  omega
theorem numL_dig' (u k : Nat) : numL (dig (u : Int) k) = u % 256 ^ k := by
  induction k with
  | zero => simp [dig, numL, Nat.mod_one]
  | succ k ih =>
    rw [dig, numL_cons', dig_len, ih, low_nat', Nat.mod_pow_succ, Nat.mul_comm]
    omega
/-- m bytes from p on, as a number. Kept shut. -/
def gN (l : List UInt8) (p m : Nat) : Nat := numL ((l.drop p).take m)
end Go.Proofs.YtgedmodnkiijkaaGreatDoor

namespace Go.Proofs.YtgedmodnkiijkaaGreatDoor
open Go Go.RowKit Go.Proofs

/-- P4.2's answer of Check. -/
def ckOk (l : List UInt8) (k a : Int) : Bool := okB l && decide ((opH l).kind = k ∧ (opH l).addr = a)
end Go.Proofs.YtgedmodnkiijkaaGreatDoor

namespace Go.Proofs.YtgedmodnkiijkaaGreatDoor
open Go Go.RowKit Go.Proofs

/-- A block that was sealed is opened as it was. -/
theorem blk_parts (h : Hd) (l : List UInt8) (_hl : l.length ≤ 236) : (blkL h l).take 4 = dig (more 0 (restL h l) : Nat) 4 ∧ (blkL h l).drop 4 = restL h l :=
  ⟨List.take_left' (by rw [dig_len]), List.drop_left' (by rw [dig_len])⟩
theorem numL_one (x : Int) (m : Nat) (h0 : 0 ≤ x) (h1 : x < (256 ^ m : Nat)) : (numL (dig x m) : Int) = x := by
  obtain ⟨u, rfl⟩ := Int.eq_ofNat_of_zero_le h0
  rw [numL_dig', Nat.mod_eq_of_lt (by omega)]
theorem blk_hd (h : Hd) (l : List UInt8) (hok : h.ok = true) (hl : l.length ≤ 236) : hdOf (((blkL h l).drop 4).take 11) = h := by
  rw [(blk_parts h l hl).2]
  have e : (restL h l).take 11 = hdB h := List.take_left' (hdB_len h)
  rw [e]
  obtain ⟨⟨a1, a2⟩, ⟨b1, b2⟩, ⟨c1, c2⟩, ⟨d1, d2⟩, e1, e2⟩ := of_decide_eq_true hok
  obtain ⟨k, a, c, v, g⟩ := h
  unfold hdOf hdB
  dsimp only at *
  have t1 : (dig k 1 ++ (dig v 1 ++ (dig a 2 ++ (dig c 2 ++ dig g 5)))).take 1 = dig k 1 := List.take_left' (dig_len _ _)
  have t2 : ((dig k 1 ++ (dig v 1 ++ (dig a 2 ++ (dig c 2 ++ dig g 5)))).drop 1).take 1 = dig v 1 := by rw [List.drop_left' (dig_len _ _)]; exact List.take_left' (dig_len _ _)
  have t3 : ((dig k 1 ++ (dig v 1 ++ (dig a 2 ++ (dig c 2 ++ dig g 5)))).drop 2).take 2 = dig a 2 := by
    rw [← List.append_assoc, List.drop_left' (by simp [dig_len])]; exact List.take_left' (dig_len _ _)
  have t4 : ((dig k 1 ++ (dig v 1 ++ (dig a 2 ++ (dig c 2 ++ dig g 5)))).drop 4).take 2 = dig c 2 := by
    rw [← List.append_assoc, ← List.append_assoc, List.drop_left' (by simp [dig_len])]; exact List.take_left' (dig_len _ _)
  have t5 : ((dig k 1 ++ (dig v 1 ++ (dig a 2 ++ (dig c 2 ++ dig g 5)))).drop 6).take 5 = dig g 5 := by
    rw [← List.append_assoc, ← List.append_assoc, ← List.append_assoc, List.drop_left' (by simp [dig_len])]; exact List.take_of_length_le (by rw [dig_len]; omega)
  rw [t1, t2, t3, t4, t5, numL_one k 1 (by omega) (by omega), numL_one v 1 (by omega) (by omega), numL_one a 2 (by omega) (by omega), numL_one c 2 (by omega) (by omega), numL_one g 5 (by omega) (by omega)]
theorem blk_okB (h : Hd) (l : List UInt8) (hok : h.ok = true) (hl : l.length ≤ 236) : okB (blkL h l) = true := by
  obtain ⟨p1, p2⟩ := blk_parts h l hl
  refine decide_eq_true ⟨blkL_len h l hl, ?_, by rw [blk_hd h l hok hl]; exact hok, ?_⟩
  · unfold sumB
    rw [p1, p2]
  · have e : (blkL h l).drop 15 = List.replicate 5 0 ++ (l ++ List.replicate (236 - l.length) 0) := by
      have : (blkL h l).drop 15 = (restL h l).drop 11 := by rw [← p2, List.drop_drop]
      rw [this]
      exact List.drop_left' (hdB_len h)
    rw [e, List.take_left' (by simp)]
    rfl
theorem blk_body (h : Hd) (l : List UInt8) (hl : l.length ≤ 236) : (blkL h l).drop 20 = l ++ List.replicate (236 - l.length) 0 := by
  obtain ⟨p1, p2⟩ := blk_parts h l hl
  have : (blkL h l).drop 20 = (restL h l).drop 16 := by rw [← p2, List.drop_drop]
  rw [this]
  unfold restL
  rw [← List.append_assoc]
  exact List.drop_left' (by simp [hdB_len])
theorem blk_open (h : Hd) (l : List UInt8) (hok : h.ok = true) (hl : l.length ≤ 236) : opH (blkL h l) = h ∧ opB (blkL h l) = l ++ List.replicate (236 - l.length) 0 ∧ opE (blkL h l) = 0 := by
  obtain ⟨h1, h2, h3⟩ := op_yes (blk_okB h l hok hl)
  exact ⟨by rw [h1, blk_hd h l hok hl], by rw [h2, blk_body h l hl], h3⟩
theorem blk_check (h : Hd) (l : List UInt8) (hok : h.ok = true) (hl : l.length ≤ 236) (k a : Int) : ckOk (blkL h l) k a = decide (h.kind = k ∧ h.addr = a) := by
  unfold ckOk
  rw [blk_okB h l hok hl, (blk_open h l hok hl).1, Bool.true_and]
end Go.Proofs.YtgedmodnkiijkaaGreatDoor

namespace Go.Proofs.YtgedmodnkiijkaaGreatDoor
open Go Go.RowKit Go.Proofs

theorem allZ_rep {a : List UInt8} (h : allZ a = true) : a = List.replicate a.length 0 := by
  refine List.eq_replicate_iff.2 ⟨rfl, fun x hx => ?_⟩
  simpa using List.all_eq_true.1 h x hx
theorem run_take_seal (h : Hd) (l : List UInt8) (hE : sealE h l = 0) : h.ok = true ∧ l.length ≤ 236 ∧ sealB h l = blkL h l := by
  unfold sealE at hE
  unfold sealB
  split at hE
  · rename_i hok
    split at hE
    · rename_i hl
      exact ⟨hok, hl, by rw [if_pos hok, if_pos hl]⟩
    · cases hE
  · cases hE
/-- A block with one byte turned is none. -/
theorem block_turned (l : List UInt8) (k : Nat) (d : UInt8) (hk : k < l.length) (hd : d ≠ l[k]) (hok : okB l = true) : okB (l.set k d) = false := by
  obtain ⟨hl, hs, _, _⟩ := of_decide_eq_true hok
  refine decide_eq_false fun h => ?_
  have h2 := h.2.1
  by_cases h4 : k < 4
  · have e1 : (l.set k d).drop 4 = l.drop 4 := by rw [List.drop_set, if_pos h4]
    have e2 : sumB (l.set k d) = sumB l := by unfold sumB; rw [e1]
    rw [e2, ← hs] at h2
    have h3 := congrArg (fun x => x[k]?) h2
    simp only [List.getElem?_take, if_pos h4] at h3
    rw [List.getElem?_set_self hk, List.getElem?_eq_getElem hk] at h3
    injection h3 with h3
    exact hd h3
  · have e1 : (l.set k d).take 4 = l.take 4 := by rw [List.take_set_of_le (by omega)]
    rw [e1, hs] at h2
    unfold sumB at h2
    have h3 := congrArg numL h2
    have b1 := more_lt 0 (l.drop 4)
    have b2 := more_lt 0 ((l.set k d).drop 4)
    rw [numL_dig', numL_dig', Nat.mod_eq_of_lt (by omega), Nat.mod_eq_of_lt (by omega)] at h3
    have hk2 : k - 4 < (l.drop 4).length := by rw [List.length_drop]; omega
    have e3 : (l.set k d).drop 4 = (l.drop 4).set (k - 4) d := by rw [List.drop_set, if_neg h4]
    rw [e3, List.set_eq_take_append_cons_drop, if_pos hk2] at h3
    have hl2 : l.drop 4 = (l.drop 4).take (k - 4) ++ (l.drop 4)[k - 4] :: (l.drop 4).drop (k - 4 + 1) := by rw [List.getElem_cons_drop, List.take_append_drop]
    have h5 := (congrArg (more 0) hl2).symm.trans h3
    have h6 := more_turn h5
    apply hd
    rw [← h6, List.getElem_drop]
    congr 1
    omega
end Go.Proofs.YtgedmodnkiijkaaGreatDoor

namespace Go.Proofs.YtgedmodnkiijkaaGreatDoor
open Go Go.RowKit Go.Proofs

section
variable {P : Program} {t e : TypeId} (w : World)
end
def itBytes (x : Itm) : List UInt8 := x.k.bytes ++ (dig (x.v.length : Int) 1 ++ x.v)
def kidBytes (x : Kidd) : List UInt8 := x.k.bytes ++ dig x.a 2
def Nd.body (N : Nd) : List UInt8 := N.items.flatMap itBytes ++ N.kids.flatMap kidBytes
/-- The header of a node's block; P6.1's Write. -/
def Nd.head (N : Nd) (addr gen : Int) : Hd := ⟨if 0 < N.lvl then 4 else 3, addr, (N.items.length : Int) + (N.kids.length : Int), N.lvl, gen⟩
def writeB (N : Nd) (addr gen : Int) : List UInt8 := if N.may = true then sealB (N.head addr gen) N.body else []
def writeE (N : Nd) (addr gen : Int) : Int := if N.may = true then sealE (N.head addr gen) N.body else 1
theorem may_sizes {N : Nd} (h : N.may = true) : N.items.length ≤ 6 ∧ N.kids.length ≤ 12 ∧ (∀ j, j < N.items.length → (itAt N.items j).v.length ≤ 28) ∧ 0 ≤ N.lvl := by
  unfold Nd.may at h
  split at h
  · rename_i hl
    rw [Bool.and_eq_true, Bool.and_eq_true] at h
    obtain ⟨h1, _, h2⟩ := h
    have h2 := of_decide_eq_true h2
    refine ⟨h2.2.2, by omega, fun j hj => ?_, by omega⟩
    unfold itemsOk at h1
    exact of_decide_eq_true (List.all_eq_true.1 h1 _ (List.mem_of_getElem? (itAt_get hj)))
  · rw [Bool.and_eq_true, Bool.and_eq_true] at h
    obtain ⟨_, _, h2⟩ := h
    have h2 := of_decide_eq_true h2
    exact ⟨by omega, h2.2.2.2.2, fun j hj => by omega, by omega⟩

end Go.Proofs.YtgedmodnkiijkaaGreatDoor

namespace Go.Proofs.YtgedmodnkiijkaaGreatDoor
open Go Go.RowKit Go.Proofs

theorem convSB (s : ByteArray) (w : World) : (convert 9 35 (.string s)).run Tryz.prog w = .ok (.slice (some ⟨w.heap.size, 0, none⟩) s.size (grownCap w s.size 0 5)) (Lib.bytesWorld w 5 s) :=
  Lib.run_convert_string_bytes w 9 35 5 s Tryz.underlying9 Tryz.underlying35 Tryz.underlying5
def ttY (l : List UInt8) : Bool := decide (1 ≤ l.length ∧ 1 + numL (l.take 1) ≤ l.length)
/-- P1.2's answer of TakeText; kept shut. -/
def ttS (l : List UInt8) : List UInt8 := if ttY l = true then bodyT l 1 else []
def ttR (l : List UInt8) : List UInt8 := if ttY l = true then restT l 1 else []
def ttE (l : List UInt8) : Int := if ttY l = true then 0 else 2
theorem ttS_le (l : List UInt8) : (ttS l).length ≤ l.length := by
  unfold ttS
  split
  · exact bodyT_le l 1
  · simp
theorem ktR_le (l : List UInt8) : (ktR l).length ≤ l.length := by
  unfold ktR
  split <;> simp
def t2Y (l : List UInt8) : Bool := decide (2 ≤ l.length)
/-- P1.1's answer of Take of two bytes; kept shut. -/
def t2V (l : List UInt8) : Int := if t2Y l = true then (numL (l.take 2) : Int) else 0
def t2R (l : List UInt8) : List UInt8 := if t2Y l = true then l.drop 2 else []
def t2E (l : List UInt8) : Int := if t2Y l = true then 0 else 2
/-- One item or kid is taken off the front. -/
def rnStep (N : Nd) (r : List UInt8) : Option (Nd × List UInt8) :=
  if ktE r = 0 then
    if N.lvl = 0 then if ttE (ktR r) = 0 then some (⟨N.lvl, N.items ++ [⟨ktK r, ttS (ktR r)⟩], N.kids⟩, ttR (ktR r)) else none
    else if t2E (ktR r) = 0 then some (⟨N.lvl, N.items, N.kids ++ [⟨ktK r, t2V (ktR r)⟩]⟩, t2R (ktR r)) else none
  else none
def rnTo (l : Int) (body : List UInt8) : Nat → Option (Nd × List UInt8)
  | 0 => some (⟨l, [], []⟩, body)
  | j + 1 => match rnTo l body j with
    | some (N, r) => rnStep N r
    | none => none
theorem rnTo_next (l : Int) (body : List UInt8) (j : Nat) (N : Nd) (r : List UInt8) (h : rnTo l body j = some (N, r)) : rnTo l body (j + 1) = rnStep N r := by
  show (match rnTo l body j with | some (N, r) => rnStep N r | none => none) = _
  rw [h]
theorem rnTo_none (l : Int) (body : List UInt8) (j k : Nat) (h : rnTo l body j = none) (hk : j ≤ k) : rnTo l body k = none := by
  induction k with
  | zero =>
    obtain rfl : j = 0 := by omega
    exact h
  | succ k ih =>
    rcases (by omega : j ≤ k ∨ j = k + 1) with h1 | rfl
    · show (match rnTo l body k with | some (N, r) => rnStep N r | none => none) = _
      rw [ih h1]
    · exact h
/-- The header of a block that is one may be. -/
theorem opH_ok {b : List UInt8} (h : opE b = 0) : (opH b).ok = true := by
  cases hb : okB b
  · obtain ⟨_, _, h3⟩ := op_no hb
    rw [h3] at h; omega
  · obtain ⟨h1, _, _⟩ := op_yes hb
    rw [h1]
    exact (of_decide_eq_true hb).2.2.1
end Go.Proofs.YtgedmodnkiijkaaGreatDoor

namespace Go.Proofs.YtgedmodnkiijkaaGreatDoor
open Go Go.RowKit Go.Proofs

section
variable {w w' : World} {b : Nat} {l : Int} {A B : Option Addr} {n c m d : Nat}
theorem NB.keep (H : NB w b l A n c B m d) (h : w'.heap[b]? = w.heap[b]?) : NB w' b l A n c B m d := by
  obtain ⟨t, H⟩ := H
  exact ⟨t, h.trans H⟩
theorem NB.fz (H : NB w b l A n c B m d) (i : Nat) : w.frozen? ⟨b, i, none⟩ = false := by
  obtain ⟨t, H⟩ := H
  unfold World.frozen?
  rw [H]
  simp
theorem NB.set1 (H : NB w b l A n c B m d) (A' : Option Addr) (n' c' : Nat) : NB (w.setCell ⟨b, 1, none⟩ (.slice A' n' c')) b l A' n' c' B m d := by
  obtain ⟨t, H⟩ := H
  exact ⟨t, setCell_at _ H⟩
theorem NB.set2 (H : NB w b l A n c B m d) (A' : Option Addr) (n' c' : Nat) : NB (w.setCell ⟨b, 2, none⟩ (.slice A' n' c')) b l A n c A' n' c' := by
  obtain ⟨t, H⟩ := H
  exact ⟨t, setCell_at _ H⟩
theorem NB.there (H : NB w b l A n c B m d) : w.there b 0 3 := fun j hj => by
  obtain ⟨t, H⟩ := H
  refine ⟨?_, by unfold World.frozen?; rw [H]; simp⟩
  rw [cell_of_row _ _ _ _ _ _ H, Nat.zero_add, Array.getElem?_eq_getElem (by simpa using hj)]; rfl
theorem NB.stored (H : NB w b l A n c B m d) (l2 : Int) (A2 : Option Addr) (n2 c2 : Nat) (B2 : Option Addr) (m2 d2 : Nat) : NB (w.setCells b 0 [.int .i64 l2, .slice A2 n2 c2, .slice B2 m2 d2]) b l2 A2 n2 c2 B2 m2 d2 := by
  obtain ⟨t, H⟩ := H
  exact ⟨t, setCell_at _ (setCell_at _ (setCell_at _ H))⟩
end
theorem wp_store_nd {ops : Array Oper} {rest : List Oper} {o : Oper} {a : Act} {w : World} {Q : Exit → Act → World → Prop} (hg : o.guard = none) (x y : Operand) (hop : o.op = Op.store 56 x y)
    (b : Nat) (hx : a.eval x = .pointer (some ⟨b, 0, none⟩)) (l2 : Int) (A2 : Option Addr) (n2 c2 : Nat) (B2 : Option Addr) (m2 d2 : Nat) (hy : a.eval y = .agg #[.int .i64 l2, .slice A2 n2 c2, .slice B2 m2 d2]) {l : Int} {A B : Option Addr} {n c m d : Nat} (H : NB w b l A n c B m d)
    (hK : ∀ w', NB w' b l2 A2 n2 c2 B2 m2 d2 → Turn (fun g => g = b) w w' → wpList Tryz.prog ops Q rest (a.put o.dst undef) w') : wpList Tryz.prog ops Q (o :: rest) a w :=
  wpList_store_mid hg _ x y hop b 0 #[.int .i64 l2, .slice A2 n2 c2, .slice B2 m2 d2] hx hy H.there (by kernel_rfl) (by simp [Value.oneCell'])
    (hK _ (H.stored l2 A2 n2 c2 B2 m2 d2) (turn_setCells (S := fun g => g = b) rfl _ 0 w))
end Go.Proofs.YtgedmodnkiijkaaGreatDoor

namespace Go.Proofs.YtgedmodnkiijkaaGreatDoor
open Go Go.RowKit Go.Proofs

set_option maxRecDepth 100000 in
set_option maxHeartbeats 8000000 in
theorem cputitem_any (A : Option Addr) (n c : Nat) (l : List UInt8) (x : Itm) (B : Option Addr) (m d : Nat) (w : World) (h : Sl w A n c l) (hv : Sl w B m d x.v) (hm : m ≤ 28) (hn : n ≤ 100000) :
    Calls Tryz.prog 99 #[.slice A n c, .agg #[.int .i64 x.k.obj, .int .i64 x.k.kind, .int .i64 x.k.off, .slice B m d]] w fun e w' => ∃ A' n' c', e = .returned (.slice A' n' c') ∧ n' = n + 10 + m ∧ Own w' w.heap.size 5 A' n' c' (l ++ itBytes x) ∧ Below w.heap.size w w' := by
  have Hlen := Lib.hid h.len
  have Hvl := Lib.hid hv.len
  obtain ⟨X, hX⟩ : ∃ X : ByteArray, (⟨x.v.toArray⟩ : ByteArray) = X := ⟨_, rfl⟩
  have Xs : X.size = m := by rw [← hX, ← Hvl.out]; rfl
  have Xd := Lib.hid (show X.data.toList = x.v by rw [← hX])
  have hconv : ∀ w' : World, Below w.heap.size w w' → (convert 35 9 (.slice B m d)).run Tryz.prog w' = .ok (.string X) w' := fun w' hb => by
    have := convT (hv.below hb)
    rw [hX] at this
    exact this
  clear hX
  obtain ⟨k, hk⟩ : ∃ k, x.k = k := ⟨_, rfl⟩
  have Hk := Lib.hid hk
  rw [hk]
  clear hk
  go_enter Tryz.func99, Tryz.ntmps99
  go_wp2_with fail
  have b1 : Below w.heap.size w (w.alloc (.cells #[.int .i64 k.obj, .int .i64 k.kind, .int .i64 k.off, .slice B m d] 41)) := (Below.refl _ _).alloc (Nat.le_refl _) _
  have x0 : (w.alloc (.cells #[.int .i64 k.obj, .int .i64 k.kind, .int .i64 k.off, .slice B m d] 41)).heap[w.heap.size]? = some (.cells #[.int .i64 k.obj, .int .i64 k.kind, .int .i64 k.off, .slice B m d] 41 (0, 0)) := heap_alloc_new w _
  have z1 : w.heap.size < (w.alloc (.cells #[.int .i64 k.obj, .int .i64 k.kind, .int .i64 k.off, .slice B m d] 41)).heap.size := by simp
  generalize w.alloc (.cells #[.int .i64 k.obj, .int .i64 k.kind, .int .i64 k.off, .slice B m d] 41) = w1 at b1 x0 z1 ⊢
  have q0 : w1.cell? ⟨w.heap.size, 0, none⟩ = some (.int .i64 k.obj) := by rw [cell_of_row _ _ _ _ _ _ x0]; rfl
  have q1 : w1.cell? ⟨w.heap.size, 1, none⟩ = some (.int .i64 k.kind) := by rw [cell_of_row _ _ _ _ _ _ x0]; rfl
  have q2 : w1.cell? ⟨w.heap.size, 2, none⟩ = some (.int .i64 k.off) := by rw [cell_of_row _ _ _ _ _ _ x0]; rfl
  have q3 : w1.cell? ⟨w.heap.size, 3, none⟩ = some (.slice B m d) := by rw [cell_of_row _ _ _ _ _ _ x0]; rfl
  clear x0
  have hs1 := h.below b1
  have hS : ∀ w' : World, Below w1.heap.size w1 w' → w'.cell? ⟨w.heap.size, 0, none⟩ = some (.int .i64 k.obj) ∧ w'.cell? ⟨w.heap.size, 1, none⟩ = some (.int .i64 k.kind) ∧ w'.cell? ⟨w.heap.size, 2, none⟩ = some (.int .i64 k.off) ∧ w'.cell? ⟨w.heap.size, 3, none⟩ = some (.slice B m d) ∧ (convert 35 9 (.slice B m d)).run Tryz.prog w' = .ok (.string X) w' ∧ Below w1.heap.size w1 w' :=
    fun w' hb => ⟨(hb.cell (p := ⟨w.heap.size, _, none⟩) z1).trans q0, (hb.cell (p := ⟨w.heap.size, _, none⟩) z1).trans q1, (hb.cell (p := ⟨w.heap.size, _, none⟩) z1).trans q2, (hb.cell (p := ⟨w.heap.size, _, none⟩) z1).trans q3, hconv w' (b1.trans (hb.mono b1.size)), hb⟩
  have BD : Below w1.heap.size w1 w1.drew := (Below.refl _ w1).drew
  have zr : w1.heap.size ≤ w1.drew.heap.size := Nat.le_refl _
  have p0 : n ≤ 4398046511104 := by omega
  have pX : X.size ≤ 255 := by omega
  clear q0 q1 q2 q3
  have HconvC := Lib.hid hconv
  clear hconv
  go_region_held3 (fun w' => w'.cell? ⟨w.heap.size, 0, none⟩ = some (.int .i64 k.obj) ∧ w'.cell? ⟨w.heap.size, 1, none⟩ = some (.int .i64 k.kind) ∧ w'.cell? ⟨w.heap.size, 2, none⟩ = some (.int .i64 k.off) ∧ w'.cell? ⟨w.heap.size, 3, none⟩ = some (.slice B m d) ∧ (convert 35 9 (.slice B m d)).run Tryz.prog w' = .ok (.string X) w' ∧ Below w1.heap.size w1 w')
    (first | assumption | exact hS _ BD | exact hS _ bb5 | exact hS _ bb6)
    (first
      | (go_at_call 125; have hh := bb5; refine (tputtext_yes A5 n5 c5 _ X _ own5.sl p5 pX).mono ?_; rintro e w6 ⟨A6, n6, c6, rfl, own6, hb6⟩; have bb6 : Below w1.heap.size w1 w6 := bb5.trans (hb6.mono bb5.size))
      | (go_at_call 126; refine (kput_any A n c l k _ hs1.drew p0).mono ?_; rintro e w5 ⟨A5, n5, c5, rfl, own5, hb5⟩; have bb5 : Below w1.heap.size w1 w5 := BD.trans (hb5.mono zr); have l5 : n5 = n + 9 := (by have := own5.len; rw [List.length_append, Hlen.out, Kd.bytes_len] at this; omega); have p5 : n5 ≤ 17592186044416 := (by omega); have Hl5 := Lib.hid l5; clear l5)
      | fail)
  all_goals
    have e6 : l ++ k.bytes ++ (dig (X.size : Int) 1 ++ X.data.toList) = l ++ itBytes x := by
      unfold itBytes
      rw [Xd.out, Xs, Hvl.out, Hk.out, List.append_assoc]
    have l6 := Lib.hid (show n6 = n + 10 + m by have := own6.len; rw [List.length_append, List.length_append, List.length_append, Hlen.out, Kd.bytes_len, dig_len, Xd.out, Hvl.out] at this; omega)
    rw [e6] at own6
    have B6 := b1.trans (bb6.mono b1.size)
    have o6 := own6.less (show w.heap.size ≤ w5.heap.size from Nat.le_trans b1.size bb5.size)
    clear hS BD
    go_wp2
    go_ret
    exact ⟨_, _, _, rfl, l6.out, o6, B6⟩

set_option maxRecDepth 100000 in
set_option maxHeartbeats 8000000 in
theorem cputkid_any (A : Option Addr) (n c : Nat) (l : List UInt8) (x : Kidd) (w : World) (h : Sl w A n c l) (hn : n ≤ 100000) :
    Calls Tryz.prog 101 #[.slice A n c, .agg #[.int .i64 x.k.obj, .int .i64 x.k.kind, .int .i64 x.k.off, .int .i64 x.a]] w fun e w' => ∃ A' n' c', e = .returned (.slice A' n' c') ∧ n' = n + 11 ∧ Own w' w.heap.size 5 A' n' c' (l ++ kidBytes x) ∧ Below w.heap.size w w' := by
  have Hlen := Lib.hid h.len
  have hb0 : kidBytes x = x.k.bytes ++ dig x.a 2 := rfl
  obtain ⟨k, hk⟩ : ∃ k, x.k = k := ⟨_, rfl⟩
  obtain ⟨a, ha⟩ : ∃ a, x.a = a := ⟨_, rfl⟩
  rw [hk, ha] at hb0
  have Hb0 := Lib.hid hb0
  rw [hk, ha]
  clear hk ha hb0
  go_enter Tryz.func101, Tryz.ntmps101
  go_wp2_with fail
  have b1 : Below w.heap.size w (w.alloc (.cells #[.int .i64 k.obj, .int .i64 k.kind, .int .i64 k.off, .int .i64 a] 62)) := (Below.refl _ _).alloc (Nat.le_refl _) _
  have x0 : (w.alloc (.cells #[.int .i64 k.obj, .int .i64 k.kind, .int .i64 k.off, .int .i64 a] 62)).heap[w.heap.size]? = some (.cells #[.int .i64 k.obj, .int .i64 k.kind, .int .i64 k.off, .int .i64 a] 62 (0, 0)) := heap_alloc_new w _
  have z1 : w.heap.size < (w.alloc (.cells #[.int .i64 k.obj, .int .i64 k.kind, .int .i64 k.off, .int .i64 a] 62)).heap.size := by simp
  generalize w.alloc (.cells #[.int .i64 k.obj, .int .i64 k.kind, .int .i64 k.off, .int .i64 a] 62) = w1 at b1 x0 z1 ⊢
  have q0 : w1.cell? ⟨w.heap.size, 0, none⟩ = some (.int .i64 k.obj) := by rw [cell_of_row _ _ _ _ _ _ x0]; rfl
  have q1 : w1.cell? ⟨w.heap.size, 1, none⟩ = some (.int .i64 k.kind) := by rw [cell_of_row _ _ _ _ _ _ x0]; rfl
  have q2 : w1.cell? ⟨w.heap.size, 2, none⟩ = some (.int .i64 k.off) := by rw [cell_of_row _ _ _ _ _ _ x0]; rfl
  have q3 : w1.cell? ⟨w.heap.size, 3, none⟩ = some (.int .i64 a) := by rw [cell_of_row _ _ _ _ _ _ x0]; rfl
  clear x0
  have hs1 := h.below b1
  have hS : ∀ w' : World, Below w1.heap.size w1 w' → w'.cell? ⟨w.heap.size, 0, none⟩ = some (.int .i64 k.obj) ∧ w'.cell? ⟨w.heap.size, 1, none⟩ = some (.int .i64 k.kind) ∧ w'.cell? ⟨w.heap.size, 2, none⟩ = some (.int .i64 k.off) ∧ w'.cell? ⟨w.heap.size, 3, none⟩ = some (.int .i64 a) ∧ Below w1.heap.size w1 w' :=
    fun w' hb => ⟨(hb.cell (p := ⟨w.heap.size, _, none⟩) z1).trans q0, (hb.cell (p := ⟨w.heap.size, _, none⟩) z1).trans q1, (hb.cell (p := ⟨w.heap.size, _, none⟩) z1).trans q2, (hb.cell (p := ⟨w.heap.size, _, none⟩) z1).trans q3, hb⟩
  have BD : Below w1.heap.size w1 w1.drew := (Below.refl _ w1).drew
  have zr : w1.heap.size ≤ w1.drew.heap.size := Nat.le_refl _
  have p0 : n ≤ 4398046511104 := by omega
  have r1 : (1 : Int) ≤ 2 := by omega
  have r2 : (2 : Int) ≤ 8 := by omega
  clear q0 q1 q2 q3
  go_region_held3 (fun w' => w'.cell? ⟨w.heap.size, 0, none⟩ = some (.int .i64 k.obj) ∧ w'.cell? ⟨w.heap.size, 1, none⟩ = some (.int .i64 k.kind) ∧ w'.cell? ⟨w.heap.size, 2, none⟩ = some (.int .i64 k.off) ∧ w'.cell? ⟨w.heap.size, 3, none⟩ = some (.int .i64 a) ∧ Below w1.heap.size w1 w')
    (first | assumption | exact hS _ BD | exact hS _ bb5 | exact hS _ bb6)
    (first
      | (go_at_call 110; have hh := bb5; refine (putin_any A5 n5 c5 _ a 2 _ own5.sl p5 r1 r2).mono ?_; rintro e w6 ⟨A6, n6, c6, rfl, own6, hn6, hb6⟩; have bb6 : Below w1.heap.size w1 w6 := bb5.trans (hb6.mono bb5.size))
      | (go_at_call 126; refine (kput_any A n c l k _ hs1.drew p0).mono ?_; rintro e w5 ⟨A5, n5, c5, rfl, own5, hb5⟩; have bb5 : Below w1.heap.size w1 w5 := BD.trans (hb5.mono zr); have l5 : n5 = n + 9 := (by have := own5.len; rw [List.length_append, Hlen.out, Kd.bytes_len] at this; omega); have p5 : n5 ≤ 17592186044416 := (by omega); have Hl5 := Lib.hid l5; clear l5)
      | fail)
  all_goals
    have e6 : l ++ k.bytes ++ dig a (2 : Int).toNat = l ++ kidBytes x := by
      rw [Hb0.out, List.append_assoc]
      rfl
    have l6 := Lib.hid (show n6 = n + 11 by have := own6.len; rw [List.length_append, List.length_append, Hlen.out, Kd.bytes_len, dig_len] at this; rw [← this]; rfl)
    rw [e6] at own6
    have B6 := b1.trans (bb6.mono b1.size)
    have o6 := own6.less (show w.heap.size ≤ w5.heap.size from Nat.le_trans b1.size bb5.size)
    clear hS BD
    go_wp2
    go_ret
    exact ⟨_, _, _, rfl, l6.out, o6, B6⟩

/-- The bytes of the first j; kept shut. -/
def bI (xs : List Itm) (j : Nat) : List UInt8 := (xs.take j).flatMap itBytes
def bK (xs : List Kidd) (j : Nat) : List UInt8 := (xs.take j).flatMap kidBytes
theorem bI_next (xs : List Itm) (j : Nat) (h : j < xs.length) : bI xs (j + 1) = bI xs j ++ itBytes (itAt xs j) := by
  unfold bI
  have := itAt_get h
  rw [List.getElem?_eq_getElem h] at this
  rw [List.take_succ_eq_append_getElem h, List.flatMap_append, Option.some.inj this]
  simp
theorem bK_next (xs : List Kidd) (j : Nat) (h : j < xs.length) : bK xs (j + 1) = bK xs j ++ kidBytes (kidAt xs j) := by
  unfold bK
  have := kidAt_get h
  rw [List.getElem?_eq_getElem h] at this
  rw [List.take_succ_eq_append_getElem h, List.flatMap_append, Option.some.inj this]
  simp
theorem bI_all (xs : List Itm) : bI xs xs.length = xs.flatMap itBytes := by unfold bI; rw [List.take_length]
theorem bK_all (xs : List Kidd) : bK xs xs.length = xs.flatMap kidBytes := by unfold bK; rw [List.take_length]


set_option maxRecDepth 100000 in
set_option maxHeartbeats 8000000 in
theorem cputI_any (xs : List Itm) (A : Option Addr) (n c : Nat) (w : World) (hI : Itms w A n c xs) (hn : n ≤ 1000) (hv : ∀ j, j < n → (itAt xs j).v.length ≤ 28) :
    Calls Tryz.prog 98 #[.slice A n c, .func (.func 99) #[] #[]] w fun e w' => ∃ A' n' c', e = .returned (.slice A' n' c') ∧ n' ≤ 38 * n ∧ Sl w' A' n' c' (xs.flatMap itBytes) ∧ (∀ ad, A' = some ad → w.heap.size ≤ ad.block) ∧ Below w.heap.size w w' := by
  have Hlen := Lib.hid hI.len
  have Hv := Lib.hid hv
  clear hv
  obtain ⟨hb1, hb2⟩ := hI.bounds
  unfold maxLen at hb2
  go_enter Tryz.func98, Tryz.ntmps98
  go_wp2_with fail
  go_loopw [5, 10] (fun b i wr => ∃ (j q : Nat) (A' : Option Addr) (c' : Nat), j ≤ n ∧ q ≤ 38 * j ∧ i = .int .i64 (j : Int) ∧ b = .slice A' q c' ∧ Sl wr A' q c' (bI xs j) ∧ (∀ ad, A' = some ad → w.heap.size ≤ ad.block) ∧ Below w.heap.size w wr) (fun _ i _ => n - (intOf i).toNat)
  case atStart => exact ⟨0, 0, _, _, Nat.zero_le _, by omega, rfl, rfl, sl_nil _, (fun ad h => by cases h), Below.refl _ _⟩
  case round =>
    obtain ⟨j, q, A', c', hj, hq, rfl, rfl, hs, hO, hB⟩ := hrel
    by_cases hlt : j < n
    · have hIr := hI.below hB
      obtain ⟨g, o, B', m', d', hA, hg, c0, c1, c2, c3, hsl⟩ := hIr.cell hlt
      have hv28 := Hv.out j hlt
      rw [hsl.len] at hv28
      subst hA
      have Hnext := Lib.hid (bI_next xs j (by rw [Hlen.out]; exact hlt))
      obtain ⟨x, hx⟩ : ∃ x, itAt xs j = x := ⟨_, rfl⟩
      rw [hx] at c0 c1 c2 hsl Hnext
      clear hx
      go_wp2_with fail
      have bx : Below wr.heap.size wr (wr.alloc (.cells #[.int .i64 x.k.obj, .int .i64 x.k.kind, .int .i64 x.k.off, .slice B' m' d'] 41)) := (Below.refl _ _).alloc (Nat.le_refl _) _
      refine (cputitem_any A' q c' _ x B' m' d' _ (hs.below bx) (hsl.below bx) hv28 (by omega)).mono ?_
      rintro e w2 ⟨A2, n2, c2', rfl, hn2, own2, hb2'⟩
      have hB2 := hB.trans ((bx.trans (hb2'.mono bx.size)).mono hB.size)
      have hn3 : n2 ≤ 38 * (j + 1) := by omega
      have Hn2 := Lib.hid hn2
      clear hn2
      rw [← Hnext.out] at own2
      have hs2 := own2.sl
      have hO2 : ∀ ad, A2 = some ad → w.heap.size ≤ ad.block := fun ad h => by have h1 := (own2.block ad h).1; have h2 := hB.size; have h3 := bx.size; omega
      clear hO
      clear own2 bx
      go_wp2
      exact ⟨⟨j + 1, n2, A2, c2', by omega, hn3, by go_num, rfl, hs2, hO2, hB2⟩, by simp [intOf]; omega⟩
    · obtain rfl : j = n := by omega
      have e : bI xs j = xs.flatMap itBytes := by rw [← Hlen.out]; exact bI_all xs
      rw [e] at hs
      go_wp2
      go_ret
      exact ⟨_, _, _, rfl, hq, hs, hO, hB⟩

set_option maxRecDepth 100000 in
set_option maxHeartbeats 8000000 in
theorem cputK_any (xs : List Kidd) (A : Option Addr) (n c : Nat) (w : World) (hI : Kidl w A n c xs) (hn : n ≤ 1000) :
    Calls Tryz.prog 100 #[.slice A n c, .func (.func 101) #[] #[]] w fun e w' => ∃ A' n' c', e = .returned (.slice A' n' c') ∧ n' ≤ 11 * n ∧ Sl w' A' n' c' (xs.flatMap kidBytes) ∧ (∀ ad, A' = some ad → w.heap.size ≤ ad.block) ∧ Below w.heap.size w w' := by
  have Hlen := Lib.hid hI.len
  skip
  skip
  obtain ⟨hb1, hb2⟩ := hI.bounds
  unfold maxLen at hb2
  go_enter Tryz.func100, Tryz.ntmps100
  go_wp2_with fail
  go_loopw [5, 10] (fun b i wr => ∃ (j q : Nat) (A' : Option Addr) (c' : Nat), j ≤ n ∧ q ≤ 11 * j ∧ i = .int .i64 (j : Int) ∧ b = .slice A' q c' ∧ Sl wr A' q c' (bK xs j) ∧ (∀ ad, A' = some ad → w.heap.size ≤ ad.block) ∧ Below w.heap.size w wr) (fun _ i _ => n - (intOf i).toNat)
  case atStart => exact ⟨0, 0, _, _, Nat.zero_le _, by omega, rfl, rfl, sl_nil _, (fun ad h => by cases h), Below.refl _ _⟩
  case round =>
    obtain ⟨j, q, A', c', hj, hq, rfl, rfl, hs, hO, hB⟩ := hrel
    by_cases hlt : j < n
    · have hIr := hI.below hB
      obtain ⟨g, o, hA, hg, c0, c1, c2, c3⟩ := hIr.cell hlt
      subst hA
      have Hnext := Lib.hid (bK_next xs j (by rw [Hlen.out]; exact hlt))
      obtain ⟨x, hx⟩ : ∃ x, kidAt xs j = x := ⟨_, rfl⟩
      rw [hx] at c0 c1 c2 c3 Hnext
      clear hx
      go_wp2_with fail
      have bx : Below wr.heap.size wr (wr.alloc (.cells #[.int .i64 x.k.obj, .int .i64 x.k.kind, .int .i64 x.k.off, .int .i64 x.a] 62)) := (Below.refl _ _).alloc (Nat.le_refl _) _
      refine (cputkid_any A' q c' _ x _ (hs.below bx) (by omega)).mono ?_
      rintro e w2 ⟨A2, n2, c2', rfl, hn2, own2, hb2'⟩
      have hB2 := hB.trans ((bx.trans (hb2'.mono bx.size)).mono hB.size)
      have hn3 : n2 ≤ 11 * (j + 1) := by omega
      have Hn2 := Lib.hid hn2
      clear hn2
      rw [← Hnext.out] at own2
      have hs2 := own2.sl
      have hO2 : ∀ ad, A2 = some ad → w.heap.size ≤ ad.block := fun ad h => by have h1 := (own2.block ad h).1; have h2 := hB.size; have h3 := bx.size; omega
      clear hO
      clear own2 bx
      go_wp2
      exact ⟨⟨j + 1, n2, A2, c2', by omega, hn3, by go_num, rfl, hs2, hO2, hB2⟩, by simp [intOf]; omega⟩
    · obtain rfl : j = n := by omega
      have e : bK xs j = xs.flatMap kidBytes := by rw [← Hlen.out]; exact bK_all xs
      rw [e] at hs
      go_wp2
      go_ret
      exact ⟨_, _, _, rfl, hq, hs, hO, hB⟩
end Go.Proofs.YtgedmodnkiijkaaGreatDoor
