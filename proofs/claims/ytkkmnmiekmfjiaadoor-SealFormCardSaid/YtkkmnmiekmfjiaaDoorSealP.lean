/- The law SealForm: for every input it returns true, and what came in reads as it did. -/
import Derived.Test.YtkkmnmiekmfjiaaDoorSealO
import Derived.Test.YtkkmnmiekmfjiaaDoorLaw
namespace Go.Proofs.YtkkmnmiekmfjiaaDoor
open Go Go.RowKit Go.Proofs

theorem dig_num (a : List UInt8) (m : Nat) (h : a.length = m) : dig (numL a : Nat) m = a := by
  subst h
  exact numL_inj (dig_len _ _) (by rw [numL_dig', Nat.mod_eq_of_lt (numL_lt a)])
theorem hdB_hdOf (r : List UInt8) (h : r.length = 11) : hdB (hdOf r) = r := by
  unfold hdB hdOf
  dsimp only
  rw [dig_num _ 1 (by simp; omega), dig_num _ 1 (by simp; omega), dig_num _ 2 (by simp; omega), dig_num _ 2 (by simp; omega), dig_num _ 5 (by simp; omega)]
  have e4 : (r.drop 6).take 5 = r.drop 6 := List.take_of_length_le (by simp; omega)
  have e3 : (r.drop 4).take 2 ++ r.drop 6 = r.drop 4 := by have := List.take_append_drop 2 (r.drop 4); rwa [List.drop_drop] at this
  have e2 : (r.drop 2).take 2 ++ r.drop 4 = r.drop 2 := by have := List.take_append_drop 2 (r.drop 2); rwa [List.drop_drop] at this
  have e1 : (r.drop 1).take 1 ++ r.drop 2 = r.drop 1 := by have := List.take_append_drop 1 (r.drop 1); rwa [List.drop_drop] at this
  rw [e4, e3, e2, e1, List.take_append_drop]
theorem allZ_rep {a : List UInt8} (h : allZ a = true) : a = List.replicate a.length 0 := by
  refine List.eq_replicate_iff.2 ⟨rfl, fun x hx => ?_⟩
  simpa using List.all_eq_true.1 h x hx
/-- A block has one form. -/
theorem form_of (l : List UInt8) (h : okB l = true) : sealE (opH l) (l.drop 20) = 0 ∧ sealB (opH l) (l.drop 20) = l := by
  obtain ⟨hl, hs, hk, hz⟩ := of_decide_eq_true h
  have hH := (op_yes h).1
  have hb : (l.drop 20).length ≤ 236 := by simp; omega
  unfold sealE sealB
  rw [hH, if_pos hk, if_pos hb, if_pos hk, if_pos hb]
  refine ⟨rfl, ?_⟩
  have hr : restL (hdOf ((l.drop 4).take 11)) (l.drop 20) = l.drop 4 := by
    unfold restL
    rw [hdB_hdOf _ (by simp; omega)]
    have z := allZ_rep hz
    rw [show ((l.drop 15).take 5).length = 5 by simp; omega] at z
    rw [← z, show 236 - (l.drop 20).length = 0 by simp; omega]
    have e2 : (l.drop 15).take 5 ++ l.drop 20 = l.drop 15 := by have := List.take_append_drop 5 (l.drop 15); rwa [List.drop_drop] at this
    have e1 : (l.drop 4).take 11 ++ l.drop 15 = l.drop 4 := by have := List.take_append_drop 11 (l.drop 4); rwa [List.drop_drop] at this
    simp only [List.replicate_zero, List.append_nil]
    rw [e2, e1]
  unfold blkL
  rw [hr]
  have : dig (more 0 (l.drop 4) : Nat) 4 = l.take 4 := hs.symm
  rw [this, List.take_append_drop]

set_option maxRecDepth 10000 in
set_option maxHeartbeats 4000000 in
theorem sealForm_walk (A : Option Addr) (n c : Nat) (l : List UInt8) (w : World) (hs : Sl w A n c l) (ht : Tab w) :
    Calls Tryd.prog 7 #[.slice A n c] w fun e w' => e = .returned (.bool true) ∧ Below w.heap.size w w' := by
  have hO := fun w' (h' : Sl w' A n c l) (t' : Tab w') => open_says A n c l w' h' t'
  cases hok : okB l
  · obtain ⟨h1, h2, h3⟩ := op_no hok
    rw [h1, h2, h3] at hO
    go_enter Tryd.func7, Tryd.ntmps7
    go_wp2_with fail
    refine (shown_any w ht).mono ?_
    rintro e w2 ⟨rfl, hB2⟩
    go_wp2_with fail
    refine (hO w2 (hs.below hB2) (ht.below hB2 ht.1)).mono ?_
    rintro e w4 ⟨A4, n4, c4, rfl, own4, hb4⟩
    have hn4 : n4 = 0 := by have := own4.len; simpa using this.symm
    subst hn4
    have hB4 := hB2.trans (hb4.mono hB2.size)
    go_wp2_with (first
      | (refine wp_store_hd rfl (.tmp 4) (.tmp 13) rfl w4.heap.size rfl Hd.zero _ rfl (HB.zero w4 _) (by simp) ?_; intro w5 hr5 hb5 T5; obtain ⟨b45, hz45⟩ := over hb5; have d0 : w5.cell? ⟨w4.heap.size, 0, none⟩ = some (.int .i64 0) := hr5 0 _ rfl; have d1 : w5.cell? ⟨w4.heap.size, 1, none⟩ = some (.int .i64 0) := hr5 1 _ rfl; have d2 : w5.cell? ⟨w4.heap.size, 2, none⟩ = some (.int .i64 0) := hr5 2 _ rfl; have d3 : w5.cell? ⟨w4.heap.size, 3, none⟩ = some (.int .i64 0) := hr5 3 _ rfl; have d4 : w5.cell? ⟨w4.heap.size, 4, none⟩ = some (.int .i64 0) := hr5 4 _ rfl)
      | fail)
    go_ret
    exact ⟨by first | rfl | simp [go_sem], hB4.trans (b45.mono hB4.size)⟩
  · obtain ⟨h1, h2, h3⟩ := op_yes hok
    obtain ⟨f1, f2⟩ := form_of l hok
    rw [h2, h3] at hO
    clear h1 h2 h3
    obtain ⟨H, hH⟩ : ∃ H, opH l = H := ⟨_, rfl⟩
    rw [hH] at hO f1 f2
    go_enter Tryd.func7, Tryd.ntmps7
    go_wp2_with fail
    refine (shown_any w ht).mono ?_
    rintro e w2 ⟨rfl, hB2⟩
    go_wp2_with fail
    refine (hO w2 (hs.below hB2) (ht.below hB2 ht.1)).mono ?_
    rintro e w4 ⟨A4, n4, c4, rfl, own4, hb4⟩
    have hB4 := hB2.trans (hb4.mono hB2.size)
    go_wp2_with (first
      | (refine wp_store_hd rfl (.tmp 4) (.tmp 13) rfl w4.heap.size rfl H _ rfl (HB.zero w4 _) (by simp) ?_; intro w5 hr5 hb5 T5; obtain ⟨b45, hz45⟩ := over hb5)
      | (refine wp_load_hr rfl (.tmp 4) rfl w4.heap.size rfl H (by assumption) ?_)
      | fail)
    have hB5 := hB4.trans (b45.mono hB4.size)
    refine (seal_any H A4 n4 c4 _ w5 (own4.sl.below b45) (ht.below hB5 ht.1)).mono ?_
    rw [f1, f2]
    rintro e w6 ⟨A6, n6, c6, rfl, own6, _, hb6⟩
    have hB6 := hB5.trans (hb6.mono hB5.size)
    have k1 := str_bs own6.sl
    have k2 := str_bs (hs.below hB6)
    go_wp2
    go_ret
    exact ⟨by first | rfl | simp [go_sem], hB6⟩
end Go.Proofs.YtkkmnmiekmfjiaaDoor
