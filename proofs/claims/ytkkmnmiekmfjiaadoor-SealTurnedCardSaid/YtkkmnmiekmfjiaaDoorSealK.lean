/- The reference's Check. -/
import Derived.Test.YtkkmnmiekmfjiaaDoorSealJ
namespace Go.Proofs.YtkkmnmiekmfjiaaDoor
open Go Go.RowKit Go.Proofs

def RefCheckSays (A : Option Addr) (n c : Nat) (l : List UInt8) (k a : Int) (w : World) : Prop :=
    Calls Tryd.prog 14 #[.slice A n c, .int .i64 k, .int .i64 a] w fun e w' =>
      ∃ A' n' c', e = .returned (.tuple #[(ckH l k a).v, .slice A' n' c', .int .i64 (ckE l k a)]) ∧ Sl w' A' n' c' (ckB l k a) ∧ Below w.heap.size w w'
set_option maxHeartbeats 4000000 in
theorem refcheck_any (A : Option Addr) (n c : Nat) (l : List UInt8) (k a : Int) (w : World) (hs : Sl w A n c l) : RefCheckSays A n c l k a w := by
  unfold RefCheckSays
  have HZ := HB.zero w 23
  have hb0 : Below w.heap.size w (w.alloc (.cells #[.int .i64 0, .int .i64 0, .int .i64 0, .int .i64 0, .int .i64 0] 23)) := (Below.refl _ _).alloc (Nat.le_refl _) _
  have hz0 : w.heap.size < (w.alloc (.cells #[.int .i64 0, .int .i64 0, .int .i64 0, .int .i64 0, .int .i64 0] 23)).heap.size := by simp
  have hO := fun w' (h' : Sl w' A n c l) => refopen_any A n c l w' h'
  unfold RefOpenSays at hO
  cases hok : okB l
  · obtain ⟨h1, h2, h3⟩ := op_no hok
    have hno : ckOk l k a = false := by unfold ckOk; rw [hok]; rfl
    obtain ⟨g1, g2, g3⟩ := ck_no hno
    rw [g1, g2, g3]
    rw [h1, h2, h3] at hO
    go_enter Tryd.func14, Tryd.ntmps14
    go_wp2_with fail
    generalize (w.alloc (.cells #[.int .i64 0, .int .i64 0, .int .i64 0, .int .i64 0, .int .i64 0] 23)) = w1 at HZ hb0 hz0 ⊢
    go_wp2_with (first
      | (go_at_call 12; refine (hO _ (hs.below hb0)).mono ?_; rintro e w3 ⟨A3, n3, c3, rfl, own3, hb3⟩; have hz3 := hb3.size; have HZ3 := HZ.below hb3 hz0; have hB3 := hb0.trans (hb3.mono hb0.size))
      | (refine wp_store_hd rfl (.tmp 9) (.tmp 15) rfl w3.heap.size rfl Hd.zero _ rfl (HB.zero w3 _) (by simp) ?_; intro w6 hr6 hb6 Tz6; obtain ⟨hr6', hB6, HZ6, hz6⟩ := after6 hr6 hb6 HZ3 hB3 (by omega); have r0 := hr6 0 _ rfl; have r1 := hr6 1 _ rfl; simp only [Nat.zero_add] at r0 r1)
      | (refine wp_store_hd rfl (.tmp 6) (.tmp 32) rfl w.heap.size rfl Hd.zero _ rfl HZ6 (by omega) ?_; intro wz hrz hbz Tz)
      | fail)
    all_goals
      refine bodyPost_ret (results_cell3 Tryd.results14 rfl (load_hd hrz)) rfl ?_
      exact ⟨_, _, _, rfl, sl_nil _, hB6.trans (hbz _ (Nat.le_refl _))⟩
  · obtain ⟨h1, h2, h3⟩ := op_yes hok
    rw [h2, h3] at hO
    clear h1
    obtain ⟨H, hH⟩ : ∃ H, opH l = H := ⟨_, rfl⟩
    rw [hH] at hO
    by_cases hm : H.kind = k ∧ H.addr = a
    · have hyes : ckOk l k a = true := by unfold ckOk; rw [hok, hH, decide_eq_true hm]; rfl
      obtain ⟨g1, g2, g3⟩ := ck_yes hyes
      rw [g1, g2, g3, hH]
      obtain ⟨m1, m2⟩ := hm
      go_enter Tryd.func14, Tryd.ntmps14
      go_wp2_with fail
      generalize (w.alloc (.cells #[.int .i64 0, .int .i64 0, .int .i64 0, .int .i64 0, .int .i64 0] 23)) = w1 at HZ hb0 hz0 ⊢
      go_wp2_with (first
        | (go_at_call 12; refine (hO _ (hs.below hb0)).mono ?_; rintro e w3 ⟨A3, n3, c3, rfl, own3, hb3⟩; have hz3 := hb3.size; have HZ3 := HZ.below hb3 hz0; have hB3 := hb0.trans (hb3.mono hb0.size))
        | (refine wp_store_hd rfl (.tmp 9) (.tmp 15) rfl w3.heap.size rfl H _ rfl (HB.zero w3 _) (by simp) ?_; intro w6 hr6 hb6 Tz6; obtain ⟨hr6', hB6, HZ6, hz6⟩ := after6 hr6 hb6 HZ3 hB3 (by omega); have r0 := hr6 0 _ rfl; have r1 := hr6 1 _ rfl; simp only [Nat.zero_add] at r0 r1)
        | (refine wp_load_hr rfl (.tmp 9) rfl w3.heap.size rfl H (by assumption) ?_)
        | (refine wp_store_hd rfl (.tmp 6) (.tmp 33) rfl w.heap.size rfl H _ rfl HZ6 (by omega) ?_; intro wz hrz hbz Tz)
        | fail)
      refine bodyPost_ret (results_cell3 Tryd.results14 rfl (load_hd hrz)) rfl ?_
      have own6 := own3.turn (w' := wz) fun g hg hl => (Tz.block g (by omega) (by show ¬ g = w.heap.size; omega)).trans ((Tz6.block g (by rw [World.size_alloc]; omega) (by show ¬ g = w3.heap.size; omega)).trans (Below.heap_alloc _ _ _ hl))
      exact ⟨_, _, _, rfl, own6.sl, hB6.trans (hbz _ (Nat.le_refl _))⟩
    · have hno : ckOk l k a = false := by unfold ckOk; rw [hok, hH, decide_eq_false hm]; rfl
      obtain ⟨g1, g2, g3⟩ := ck_no hno
      rw [g1, g2, g3]
      by_cases m1 : H.kind = k
      · have m2 : ¬ H.addr = a := fun h => hm ⟨m1, h⟩
        have m3 : decide (H.addr = a) = false := decide_eq_false m2
        go_enter Tryd.func14, Tryd.ntmps14
        go_wp2_with fail
        generalize (w.alloc (.cells #[.int .i64 0, .int .i64 0, .int .i64 0, .int .i64 0, .int .i64 0] 23)) = w1 at HZ hb0 hz0 ⊢
        go_wp2_with (first
          | (go_at_call 12; refine (hO _ (hs.below hb0)).mono ?_; rintro e w3 ⟨A3, n3, c3, rfl, own3, hb3⟩; have hz3 := hb3.size; have HZ3 := HZ.below hb3 hz0; have hB3 := hb0.trans (hb3.mono hb0.size))
          | (refine wp_store_hd rfl (.tmp 9) (.tmp 15) rfl w3.heap.size rfl H _ rfl (HB.zero w3 _) (by simp) ?_; intro w6 hr6 hb6 Tz6; obtain ⟨hr6', hB6, HZ6, hz6⟩ := after6 hr6 hb6 HZ3 hB3 (by omega); have r0 := hr6 0 _ rfl; have r1 := hr6 1 _ rfl; simp only [Nat.zero_add] at r0 r1)
          | (refine wp_store_hd rfl (.tmp 6) (.tmp 32) rfl w.heap.size rfl Hd.zero _ rfl HZ6 (by omega) ?_; intro wz hrz hbz Tz)
          | fail)
        all_goals
          refine bodyPost_ret (results_cell3 Tryd.results14 rfl (load_hd hrz)) rfl ?_
          exact ⟨_, _, _, rfl, sl_nil _, hB6.trans (hbz _ (Nat.le_refl _))⟩
      · have m3 : decide (H.kind = k) = false := decide_eq_false m1
        go_enter Tryd.func14, Tryd.ntmps14
        go_wp2_with fail
        generalize (w.alloc (.cells #[.int .i64 0, .int .i64 0, .int .i64 0, .int .i64 0, .int .i64 0] 23)) = w1 at HZ hb0 hz0 ⊢
        go_wp2_with (first
          | (go_at_call 12; refine (hO _ (hs.below hb0)).mono ?_; rintro e w3 ⟨A3, n3, c3, rfl, own3, hb3⟩; have hz3 := hb3.size; have HZ3 := HZ.below hb3 hz0; have hB3 := hb0.trans (hb3.mono hb0.size))
          | (refine wp_store_hd rfl (.tmp 9) (.tmp 15) rfl w3.heap.size rfl H _ rfl (HB.zero w3 _) (by simp) ?_; intro w6 hr6 hb6 Tz6; obtain ⟨hr6', hB6, HZ6, hz6⟩ := after6 hr6 hb6 HZ3 hB3 (by omega); have r0 := hr6 0 _ rfl; have r1 := hr6 1 _ rfl; simp only [Nat.zero_add] at r0 r1)
          | (refine wp_store_hd rfl (.tmp 6) (.tmp 32) rfl w.heap.size rfl Hd.zero _ rfl HZ6 (by omega) ?_; intro wz hrz hbz Tz)
          | fail)
        all_goals
          refine bodyPost_ret (results_cell3 Tryd.results14 rfl (load_hd hrz)) rfl ?_
          exact ⟨_, _, _, rfl, sl_nil _, hB6.trans (hbz _ (Nat.le_refl _))⟩
end Go.Proofs.YtkkmnmiekmfjiaaDoor
