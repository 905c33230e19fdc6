/- Plain facts of sealed blocks: a block has one form; what was sealed; a byte that is turned. -/
import Derived.Test.YtljlliiedbedeaaDoorSealL
import Derived.Laws.BitsAll
namespace Go.Proofs.YtljlliiedbedeaaDoor
open Go Go.RowKit Go.Proofs

theorem dig_num (a : List UInt8) (m : Nat) (h : a.length = m) : dig (numL a : Nat) m = a := by
  subst h
  exact numL_inj (dig_len _ _) (by rw [numL_dig', Nat.mod_eq_of_lt (numL_lt a)])
theorem hdB_hdOf (r : List UInt8) (h : r.length = 11) : hdB (hdOf r) = r := by
  unfold hdB hdOf
  dsimp only
  rw [dig_num _ 1 (by simp; omega), dig_num _ 1 (by simp; omega), dig_num _ 2 (by simp; omega), dig_num _ 2 (by simp; omega), dig_num _ 5 (by simp; omega)]
  have e4 : (r.drop 6).take 5 = r.drop 6 := List.take_of_length_le (by simp; omega)
  have e3 : (r.drop 4).take 2 ++ r.drop 6 = r.drop 4 := by have := List.take_append_drop 2 (r.drop 4); rwa [List.drop_drop] at this
  have e2 : (r.drop 2).take 2 ++ r.drop 4 = r.drop 2 := by have := List.take_append_drop 2 (r.drop 2); rwa [List.drop_drop] at this
  have e1 : (r.drop 1).take 1 ++ r.drop 2 = r.drop 1 := by have := List.take_append_drop 1 (r.drop 1); rwa [List.drop_drop] at this
  rw [e4, e3, e2, e1, List.take_append_drop]
theorem allZ_rep {a : List UInt8} (h : allZ a = true) : a = List.replicate a.length 0 := by
  refine List.eq_replicate_iff.2 ⟨rfl, fun x hx => ?_⟩
  simpa using List.all_eq_true.1 h x hx
/-- A block has one form. -/
theorem form_of (l : List UInt8) (h : okB l = true) : sealE (opH l) (l.drop 20) = 0 ∧ sealB (opH l) (l.drop 20) = l := by
  obtain ⟨hl, hs, hk, hz⟩ := of_decide_eq_true h
  have hH := (op_yes h).1
  have hb : (l.drop 20).length ≤ 236 := by simp; omega
  unfold sealE sealB
  rw [hH, if_pos hk, if_pos hb, if_pos hk, if_pos hb]
  refine ⟨rfl, ?_⟩
  have hr : restL (hdOf ((l.drop 4).take 11)) (l.drop 20) = l.drop 4 := by
    unfold restL
    rw [hdB_hdOf _ (by simp; omega)]
    have z := allZ_rep hz
    rw [show ((l.drop 15).take 5).length = 5 by simp; omega] at z
    rw [← z, show 236 - (l.drop 20).length = 0 by simp; omega]
    have e2 : (l.drop 15).take 5 ++ l.drop 20 = l.drop 15 := by have := List.take_append_drop 5 (l.drop 15); rwa [List.drop_drop] at this
    have e1 : (l.drop 4).take 11 ++ l.drop 15 = l.drop 4 := by have := List.take_append_drop 11 (l.drop 4); rwa [List.drop_drop] at this
    simp only [List.replicate_zero, List.append_nil]
    rw [e2, e1]
  unfold blkL
  rw [hr]
  have : dig (more 0 (l.drop 4) : Nat) 4 = l.take 4 := hs.symm
  rw [this, List.take_append_drop]
theorem run_take_seal (h : Hd) (l : List UInt8) (hE : sealE h l = 0) : h.ok = true ∧ l.length ≤ 236 ∧ sealB h l = blkL h l := by
  unfold sealE at hE
  unfold sealB
  split at hE
  · rename_i hok
    split at hE
    · rename_i hl
      exact ⟨hok, hl, by rw [if_pos hok, if_pos hl]⟩
    · cases hE
  · cases hE
theorem seal_no (h : Hd) (l : List UInt8) (hE : ¬ sealE h l = 0) : sealB h l = [] := by
  unfold sealE at hE
  unfold sealB
  split
  · rename_i hok
    rw [if_pos hok] at hE
    split
    · rename_i hl
      rw [if_pos hl] at hE
      exact absurd rfl hE
    · rfl
  · rfl
theorem turn_byte (b c : UInt8) (hc : c ≠ 0) : b ^^^ c ≠ b := by
  intro h
  apply hc
  have h2 : b ^^^ (b ^^^ c) = b ^^^ b := by rw [h]
  rw [← UInt8.xor_assoc, UInt8.xor_self, UInt8.zero_xor] at h2
  exact h2
theorem bv_xor (x y : Nat) (hx : x ≤ 255) (hy : y ≤ 255) : bv (UInt8.ofNat x ^^^ UInt8.ofNat y) = .int .u8 (bits .xor .u8 (x : Int) (y : Int)) := by
  rw [u8_xor_nat x y (by omega) (by omega)]
  unfold bv
  rw [UInt8.toNat_xor, UInt8.toNat_ofNat', UInt8.toNat_ofNat', Nat.mod_eq_of_lt (by omega), Nat.mod_eq_of_lt (by omega)]
/-- A block with one byte turned is none. -/
theorem block_turned (l : List UInt8) (k : Nat) (d : UInt8) (hk : k < l.length) (hd : d ≠ l[k]) (hok : okB l = true) : okB (l.set k d) = false := by
  obtain ⟨hl, hs, _, _⟩ := of_decide_eq_true hok
  refine decide_eq_false fun h => ?_
  have h2 := h.2.1
  by_cases h4 : k < 4
  · have e1 : (l.set k d).drop 4 = l.drop 4 := by rw [List.drop_set, if_pos h4]
    have e2 : sumB (l.set k d) = sumB l := by unfold sumB; rw [e1]
    rw [e2, ← hs] at h2
    have h3 := congrArg (fun x => x[k]?) h2
    simp only [List.getElem?_take, if_pos h4] at h3
    rw [List.getElem?_set_self hk, List.getElem?_eq_getElem hk] at h3
    injection h3 with h3
    exact hd h3
  · have e1 : (l.set k d).take 4 = l.take 4 := by rw [List.take_set_of_le (by omega)]
    rw [e1, hs] at h2
    unfold sumB at h2
    have h3 := congrArg numL h2
    have b1 := more_lt 0 (l.drop 4)
    have b2 := more_lt 0 ((l.set k d).drop 4)
    rw [numL_dig', numL_dig', Nat.mod_eq_of_lt (by omega), Nat.mod_eq_of_lt (by omega)] at h3
    have hk2 : k - 4 < (l.drop 4).length := by rw [List.length_drop]; omega
    have e3 : (l.set k d).drop 4 = (l.drop 4).set (k - 4) d := by rw [List.drop_set, if_neg h4]
    rw [e3, List.set_eq_take_append_cons_drop, if_pos hk2] at h3
    have hl2 : l.drop 4 = (l.drop 4).take (k - 4) ++ (l.drop 4)[k - 4] :: (l.drop 4).drop (k - 4 + 1) := by rw [List.getElem_cons_drop, List.take_append_drop]
    have h5 := (congrArg (more 0) hl2).symm.trans h3
    have h6 := more_turn h5
    apply hd
    rw [← h6, List.getElem_drop]
    congr 1
    omega
theorem rem_nat (x : Int) : ∃ a : Nat, a < 256 ∧ (x.tmod 256 = (a : Int) ∨ x.tmod 256 = -(a : Int) ∧ 0 < a) := by
  have h1 := Int.tmod_lt_of_pos x (show (0 : Int) < 256 by omega)
  have h2 : -256 < x.tmod 256 := by
    have := Int.tmod_lt_of_pos (-x) (show (0 : Int) < 256 by omega)
    rw [Int.neg_tmod] at this
    omega
  by_cases h : 0 ≤ x.tmod 256
  · obtain ⟨a, ha⟩ := Int.eq_ofNat_of_zero_le h
    exact ⟨a, by omega, .inl ha⟩
  · obtain ⟨a, ha⟩ := Int.eq_ofNat_of_zero_le (show 0 ≤ -(x.tmod 256) by omega)
    exact ⟨a, by omega, .inr ⟨by omega, by omega⟩⟩
end Go.Proofs.YtljlliiedbedeaaDoor
