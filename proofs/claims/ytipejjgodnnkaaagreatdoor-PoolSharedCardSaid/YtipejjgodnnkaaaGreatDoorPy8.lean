/- The document's examples of layer 4. Plain facts of sealed blocks: a block has one form; what was sealed; a byte that is turned. -/
import Derived.Test.YtipejjgodnnkaaaGreatDoorPy5
import Derived.Test.YtipejjgodnnkaaaGreatDoorMore
import Derived.Laws.BitsAll
namespace Go.Proofs.YtipejjgodnnkaaaGreatDoor
open Go Go.RowKit Go.Proofs

/-- A block that was sealed is opened as it was. -/
theorem blk_parts (h : Hd) (l : List UInt8) (_hl : l.length ≤ 236) : (blkL h l).take 4 = dig (more 0 (restL h l) : Nat) 4 ∧ (blkL h l).drop 4 = restL h l :=
  ⟨List.take_left' (by rw [dig_len]), List.drop_left' (by rw [dig_len])⟩
theorem numL_one (x : Int) (m : Nat) (h0 : 0 ≤ x) (h1 : x < (256 ^ m : Nat)) : (numL (dig x m) : Int) = x := by
  obtain ⟨u, rfl⟩ := Int.eq_ofNat_of_zero_le h0
  rw [numL_dig', Nat.mod_eq_of_lt (by omega)]
theorem blk_hd (h : Hd) (l : List UInt8) (hok : h.ok = true) (hl : l.length ≤ 236) : hdOf (((blkL h l).drop 4).take 11) = h := by
  rw [(blk_parts h l hl).2]
  have e : (restL h l).take 11 = hdB h := List.take_left' (hdB_len h)
  rw [e]
  obtain ⟨⟨a1, a2⟩, ⟨b1, b2⟩, ⟨c1, c2⟩, ⟨d1, d2⟩, e1, e2⟩ := of_decide_eq_true hok
  obtain ⟨k, a, c, v, g⟩ := h
  unfold hdOf hdB
  dsimp only at *
  have t1 : (dig k 1 ++ (dig v 1 ++ (dig a 2 ++ (dig c 2 ++ dig g 5)))).take 1 = dig k 1 := List.take_left' (dig_len _ _)
  have t2 : ((dig k 1 ++ (dig v 1 ++ (dig a 2 ++ (dig c 2 ++ dig g 5)))).drop 1).take 1 = dig v 1 := by rw [List.drop_left' (dig_len _ _)]; exact List.take_left' (dig_len _ _)
  have t3 : ((dig k 1 ++ (dig v 1 ++ (dig a 2 ++ (dig c 2 ++ dig g 5)))).drop 2).take 2 = dig a 2 := by
    rw [← List.append_assoc, List.drop_left' (by simp [dig_len])]; exact List.take_left' (dig_len _ _)
  have t4 : ((dig k 1 ++ (dig v 1 ++ (dig a 2 ++ (dig c 2 ++ dig g 5)))).drop 4).take 2 = dig c 2 := by
    rw [← List.append_assoc, ← List.append_assoc, List.drop_left' (by simp [dig_len])]; exact List.take_left' (dig_len _ _)
  have t5 : ((dig k 1 ++ (dig v 1 ++ (dig a 2 ++ (dig c 2 ++ dig g 5)))).drop 6).take 5 = dig g 5 := by
    rw [← List.append_assoc, ← List.append_assoc, ← List.append_assoc, List.drop_left' (by simp [dig_len])]; exact List.take_of_length_le (by rw [dig_len]; omega)
  rw [t1, t2, t3, t4, t5, numL_one k 1 (by omega) (by omega), numL_one v 1 (by omega) (by omega), numL_one a 2 (by omega) (by omega), numL_one c 2 (by omega) (by omega), numL_one g 5 (by omega) (by omega)]
theorem blk_okB (h : Hd) (l : List UInt8) (hok : h.ok = true) (hl : l.length ≤ 236) : okB (blkL h l) = true := by
  obtain ⟨p1, p2⟩ := blk_parts h l hl
  refine decide_eq_true ⟨blkL_len h l hl, ?_, by rw [blk_hd h l hok hl]; exact hok, ?_⟩
  · unfold sumB
    rw [p1, p2]
  · have e : (blkL h l).drop 15 = List.replicate 5 0 ++ (l ++ List.replicate (236 - l.length) 0) := by
      have : (blkL h l).drop 15 = (restL h l).drop 11 := by rw [← p2, List.drop_drop]
      rw [this]
      exact List.drop_left' (hdB_len h)
    rw [e, List.take_left' (by simp)]
    rfl
theorem blk_body (h : Hd) (l : List UInt8) (hl : l.length ≤ 236) : (blkL h l).drop 20 = l ++ List.replicate (236 - l.length) 0 := by
  obtain ⟨p1, p2⟩ := blk_parts h l hl
  have : (blkL h l).drop 20 = (restL h l).drop 16 := by rw [← p2, List.drop_drop]
  rw [this]
  unfold restL
  rw [← List.append_assoc]
  exact List.drop_left' (by simp [hdB_len])
theorem blk_open (h : Hd) (l : List UInt8) (hok : h.ok = true) (hl : l.length ≤ 236) : opH (blkL h l) = h ∧ opB (blkL h l) = l ++ List.replicate (236 - l.length) 0 ∧ opE (blkL h l) = 0 := by
  obtain ⟨h1, h2, h3⟩ := op_yes (blk_okB h l hok hl)
  exact ⟨by rw [h1, blk_hd h l hok hl], by rw [h2, blk_body h l hl], h3⟩
theorem blk_check (h : Hd) (l : List UInt8) (hok : h.ok = true) (hl : l.length ≤ 236) (k a : Int) : ckOk (blkL h l) k a = decide (h.kind = k ∧ h.addr = a) := by
  unfold ckOk
  rw [blk_okB h l hok hl, (blk_open h l hok hl).1, Bool.true_and]
end Go.Proofs.YtipejjgodnnkaaaGreatDoor

namespace Go.Proofs.YtipejjgodnnkaaaGreatDoor
open Go Go.RowKit Go.Proofs

theorem allZ_rep {a : List UInt8} (h : allZ a = true) : a = List.replicate a.length 0 := by
  refine List.eq_replicate_iff.2 ⟨rfl, fun x hx => ?_⟩
  simpa using List.all_eq_true.1 h x hx
end Go.Proofs.YtipejjgodnnkaaaGreatDoor
