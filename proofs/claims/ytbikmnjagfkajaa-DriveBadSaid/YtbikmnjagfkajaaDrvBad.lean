/- The law DriveBad: for every input it returns true, and what came in reads as it did. -/
import Derived.Test.YtbikmnjagfkajaaDrvS
namespace Go.Proofs.Ytbikmnjagfkajaa
open Go Go.RowKit Go.Proofs

theorem bad_steps (s : Int) (x : List UInt8) (h : (DM.mk0 40).bad s x = true) : ((DM.mk0 40).writeD s x).steps = 0 ∧ ((DM.mk0 40).writeD s x).cnt = 0 ∧ (DM.mk0 40).writeE s x = 1 := by
  unfold DM.writeD DM.writeE
  rw [h]
  have e : (DM.mk0 40).cnt = 0 := by decide +kernel
  exact ⟨rfl, e, rfl⟩
theorem good_steps (s : Nat) (hs : s < 40) (x : List UInt8) (hx : x.length = 256) : ((DM.mk0 40).writeD s x).steps = 1 ∧ ((DM.mk0 40).writeD s x).cnt = 1 ∧ (DM.mk0 40).writeE s x = 0 := by
  have hb : (DM.mk0 40).bad s x = false := by
    unfold DM.bad
    rw [decide_eq_false_iff_not]
    intro h
    rcases h with h | h
    · exact h ⟨by omega, by show (s : Int) < ((40 : Nat) : Int); omega⟩
    · exact h hx
  have h0 : (DM.mk0 40).stop = false := rfl
  unfold DM.writeD DM.writeE
  rw [hb, h0]
  refine ⟨rfl, ?_, rfl⟩
  have e : ∀ k, (!(upd (DM.mk0 40).cac s ((DM.mk0 40).cac s ++ [x]) k).isEmpty) = decide (k = s) := fun k => by
    unfold upd
    by_cases h : k = s
    · simp [h]
    · simp [h, DM.mk0]
  show ((List.range 40).filter fun k => !(upd (DM.mk0 40).cac ((s : Int).toNat) ((DM.mk0 40).cac ((s : Int).toNat) ++ [x]) k).isEmpty).length = 1
  rw [Int.toNat_natCast]
  rw [show (fun k => !(upd (DM.mk0 40).cac s ((DM.mk0 40).cac s ++ [x]) k).isEmpty) = (fun k => decide (k = s)) from funext e]
  have : ∀ s < 40, ((List.range 40).filter fun k => decide (k = s)).length = 1 := by decide +kernel
  exact this s hs
theorem writeD_n (D : DM) (s : Int) (x : List UInt8) : (D.writeD s x).n = D.n := by
  unfold DM.writeD
  split
  · rfl
  split <;> rfl
theorem corrupt_steps (D : DM) (s a m : Int) : (D.corrupt s a m).steps = D.steps ∧ (D.corrupt s a m).cnt = D.cnt := by
  unfold DM.corrupt
  split
  · refine ⟨rfl, ?_⟩
    unfold DM.cnt DM.turn
    congr 2
    funext k
    unfold upd
    by_cases h : k = s.toNat
    · subst h; simp
    · simp [h]
  · exact ⟨rfl, rfl⟩
theorem readE_yes (s : Int) (h : 0 ≤ s ∧ s < 40) : (DM.mk0 40).readE s = 0 := by
  show (if (false : Bool) = true then (4 : Int) else if 0 ≤ s ∧ s < ((40 : Nat) : Int) then 0 else 1) = 0
  rw [if_neg (by simp), if_pos ⟨h.1, by omega⟩]
theorem readE_no (s : Int) (h : ¬ (0 ≤ s ∧ s < 40)) : (DM.mk0 40).readE s = 1 := by
  show (if (false : Bool) = true then (4 : Int) else if 0 ≤ s ∧ s < ((40 : Nat) : Int) then 0 else 1) = 1
  rw [if_neg (by simp), if_neg (by omega)]
theorem may_yes {D : DM} (e : D.n = 40) (s a m : Int) (h : (0 ≤ s ∧ s < 40) ∧ (0 ≤ a ∧ a < 256) ∧ (0 ≤ m ∧ m < 256)) : (if D.mayTurn s a m = true then (0 : Int) else 1) = 0 := by
  rw [if_pos]
  unfold DM.mayTurn
  rw [decide_eq_true_iff, e]
  exact ⟨⟨h.1.1, by omega⟩, h.2⟩
theorem may_no {D : DM} (e : D.n = 40) (s a m : Int) (h : ¬ ((0 ≤ s ∧ s < 40) ∧ (0 ≤ a ∧ a < 256) ∧ (0 ≤ m ∧ m < 256))) : (if D.mayTurn s a m = true then (0 : Int) else 1) = 1 := by
  rw [if_neg]
  unfold DM.mayTurn
  rw [decide_eq_true_iff, e]
  intro h2
  exact h ⟨⟨h2.1.1, by have := h2.1.2; omega⟩, h2.2⟩
set_option maxRecDepth 10000 in
set_option maxHeartbeats 2000000 in
theorem driveBad_walk (s n x0 x1 : Int) (w : World) (_ : -9223372036854775808 ≤ s ∧ s ≤ 9223372036854775807) (hn : -9223372036854775808 ≤ n ∧ n ≤ 9223372036854775807) (_ : -9223372036854775808 ≤ x0 ∧ x0 ≤ 9223372036854775807) (_ : -9223372036854775808 ≤ x1 ∧ x1 ≤ 9223372036854775807) :
    Calls Try.prog 8 #[.int .i64 s, .int .i64 n, .agg #[.int .i64 x0, .int .i64 x1]] w fun e w' => e = .returned (.bool true) ∧ Below w.heap.size w w' := by
  obtain ⟨k, hk⟩ : ∃ k, md n 301 = k := ⟨_, rfl⟩
  have hk300 : k ≤ 300 := by have := md_lt n (m := 301) (by omega); omega
  have zl : (zeros k).length = k := List.length_replicate
  by_cases his : 0 ≤ s ∧ s < 40
  · obtain ⟨hs0, hs1⟩ := his
    by_cases hkk : k = 256
    · subst hkk
      obtain ⟨s', rfl⟩ := Int.eq_ofNat_of_zero_le hs0
      by_cases h1 : x0 < 0
      · have HE : Hid ((DM.mk0 40).readE (s' : Int) = 0) := readE_yes _ (by omega)
        obtain ⟨hS0, hC0, hF0⟩ := good_steps s' (by omega) (zeros 256) zl
        have HF : Hid ((DM.mk0 40).writeE (s' : Int) (zeros 256) = 0) := hF0
        have HS : Hid (((DM.mk0 40).writeD (s' : Int) (zeros 256)).steps = 1) := hS0
        have HC : Hid (((DM.mk0 40).writeD (s' : Int) (zeros 256)).cnt = 1) := hC0
        clear hS0 hC0 hF0
        have HG : Hid ((if ((DM.mk0 40).writeD (s' : Int) (zeros 256)).mayTurn (s' : Int) x0 x1 = true then (0 : Int) else 1) = 1) := may_no (writeD_n _ _ _) _ _ _ (by omega)
        go_enter Try.func8, Try.ntmps8
        go_wp2_with fail
        refine (shown_any _).mono ?_
        rintro e w1 ⟨rfl, b1⟩
        have hz1 : w.heap.size + 1 ≤ w1.heap.size := by have := b1.size; simpa using this
        have hx0 : w1.cell? ⟨w.heap.size, 0, none⟩ = some (.int .i64 x0) := by rw [b1.cell (by simp)]; exact newCell w _ _ 0
        have hx1 : w1.cell? ⟨w.heap.size, 1, none⟩ = some (.int .i64 x1) := by rw [b1.cell (by simp)]; exact newCell w _ _ 1
        have bw := below_new _ (b1.mono (B' := w.heap.size) (by simp)) (Nat.le_refl _)
        clear b1
        go_wp2_with fail
        refine (run_new 40 (by unfold sectors; omega) w1).mono ?_
        rintro e w2 ⟨bp, rfl, R2, b2⟩
        have K2 : Kp w1.heap.size (fun _ => False) w1 w2 := kp_below b2
        clear b2
        go_wp2_with fail
        refine (kind_any n 301 hn (by omega) (by omega) w2).mono ?_
        rw [hk]
        rintro e w2' ⟨rfl, rfl⟩
        go_wp2_with fail
        refine (run_read R2 (s' : Int)).mono ?_
        rintro e w3 ⟨A3, n3, X3, rfl, _, x3, H3, R3, b3⟩
        rw [HE.out]
        replace K2 := K2.trans (kp_below b3)
        clear H3 R2 b3
        go_wp2_with (at_make; refine wp_make_z _ T22 rfl _ _ rfl _ _ 256 rfl rfl (by omega) ?_)
        intro w4 o4 b4
        go_wp2_with fail
        refine (run_write (R3.same b4) (s' : Int) _ _ _ _ o4.sl (m := 1) (by omega) (ok_mk0 40 1)).mono ?_
        rintro e w5 ⟨rfl, R5, k5⟩
        rw [HF.out]
        replace K2 := (K2.trans (kp_below b4)).trans (k5.mono fun _ _ h => h.elim)
        clear R3 b4 o4 k5
        have hc0 : w5.cell? ⟨w.heap.size, 0, none⟩ = some (.int .i64 x0) := by rw [K2.cell (show w.heap.size < w1.heap.size by omega) (.inl (show w.heap.size < w1.heap.size by omega))]; exact hx0
        have hc1 : w5.cell? ⟨w.heap.size, 1, none⟩ = some (.int .i64 x1) := by rw [K2.cell (show w.heap.size < w1.heap.size by omega) (.inl (show w.heap.size < w1.heap.size by omega))]; exact hx1
        have hok5 : ((DM.mk0 40).writeD (s' : Int) (zeros 256)).ok 3 := (ok_write (ok_mk0 40 1) _ _).mono (by omega)
        go_wp2_with fail
        refine (run_corrupt R5 (s' : Int) x0 x1 (m := 3) (by omega) hok5).mono ?_
        rw [HG.out]
        rintro e w6 ⟨rfl, R6, k6⟩
        replace K2 := K2.trans (k6.mono fun _ _ h => h.elim)
        have hd0 : w6.cell? ⟨w.heap.size, 0, none⟩ = some (.int .i64 x0) := by rw [K2.cell (show w.heap.size < w1.heap.size by omega) (.inl (show w.heap.size < w1.heap.size by omega))]; exact hx0
        have hd1 : w6.cell? ⟨w.heap.size, 1, none⟩ = some (.int .i64 x1) := by rw [K2.cell (show w.heap.size < w1.heap.size by omega) (.inl (show w.heap.size < w1.heap.size by omega))]; exact hx1
        have KF := bw.trans ((K2.below (Nat.le_refl _)).mono (show w.heap.size ≤ w1.heap.size by omega))
        clear R5 k6 hok5 K2 hc0 hc1 hx0 hx1
        go_wp2_with fail
        refine (run_steps R6).mono ?_
        rw [(corrupt_steps _ _ _ _).1, HS.out]
        rintro e w7 ⟨rfl, rfl⟩
        go_wp2_with fail
        refine (run_cached R6).mono ?_
        rw [(corrupt_steps _ _ _ _).2, HC.out]
        rintro e w7 ⟨rfl, rfl⟩
        go_wp2_with fail
        go_ret
        exact ⟨by first | rfl | (simp [go_sem]; done) | (simp [go_sem]; assumption), KF⟩
      by_cases h2 : 256 ≤ x0
      · have HE : Hid ((DM.mk0 40).readE (s' : Int) = 0) := readE_yes _ (by omega)
        obtain ⟨hS0, hC0, hF0⟩ := good_steps s' (by omega) (zeros 256) zl
        have HF : Hid ((DM.mk0 40).writeE (s' : Int) (zeros 256) = 0) := hF0
        have HS : Hid (((DM.mk0 40).writeD (s' : Int) (zeros 256)).steps = 1) := hS0
        have HC : Hid (((DM.mk0 40).writeD (s' : Int) (zeros 256)).cnt = 1) := hC0
        clear hS0 hC0 hF0
        have HG : Hid ((if ((DM.mk0 40).writeD (s' : Int) (zeros 256)).mayTurn (s' : Int) x0 x1 = true then (0 : Int) else 1) = 1) := may_no (writeD_n _ _ _) _ _ _ (by omega)
        go_enter Try.func8, Try.ntmps8
        go_wp2_with fail
        refine (shown_any _).mono ?_
        rintro e w1 ⟨rfl, b1⟩
        have hz1 : w.heap.size + 1 ≤ w1.heap.size := by have := b1.size; simpa using this
        have hx0 : w1.cell? ⟨w.heap.size, 0, none⟩ = some (.int .i64 x0) := by rw [b1.cell (by simp)]; exact newCell w _ _ 0
        have hx1 : w1.cell? ⟨w.heap.size, 1, none⟩ = some (.int .i64 x1) := by rw [b1.cell (by simp)]; exact newCell w _ _ 1
        have bw := below_new _ (b1.mono (B' := w.heap.size) (by simp)) (Nat.le_refl _)
        clear b1
        go_wp2_with fail
        refine (run_new 40 (by unfold sectors; omega) w1).mono ?_
        rintro e w2 ⟨bp, rfl, R2, b2⟩
        have K2 : Kp w1.heap.size (fun _ => False) w1 w2 := kp_below b2
        clear b2
        go_wp2_with fail
        refine (kind_any n 301 hn (by omega) (by omega) w2).mono ?_
        rw [hk]
        rintro e w2' ⟨rfl, rfl⟩
        go_wp2_with fail
        refine (run_read R2 (s' : Int)).mono ?_
        rintro e w3 ⟨A3, n3, X3, rfl, _, x3, H3, R3, b3⟩
        rw [HE.out]
        replace K2 := K2.trans (kp_below b3)
        clear H3 R2 b3
        go_wp2_with (at_make; refine wp_make_z _ T22 rfl _ _ rfl _ _ 256 rfl rfl (by omega) ?_)
        intro w4 o4 b4
        go_wp2_with fail
        refine (run_write (R3.same b4) (s' : Int) _ _ _ _ o4.sl (m := 1) (by omega) (ok_mk0 40 1)).mono ?_
        rintro e w5 ⟨rfl, R5, k5⟩
        rw [HF.out]
        replace K2 := (K2.trans (kp_below b4)).trans (k5.mono fun _ _ h => h.elim)
        clear R3 b4 o4 k5
        have hc0 : w5.cell? ⟨w.heap.size, 0, none⟩ = some (.int .i64 x0) := by rw [K2.cell (show w.heap.size < w1.heap.size by omega) (.inl (show w.heap.size < w1.heap.size by omega))]; exact hx0
        have hc1 : w5.cell? ⟨w.heap.size, 1, none⟩ = some (.int .i64 x1) := by rw [K2.cell (show w.heap.size < w1.heap.size by omega) (.inl (show w.heap.size < w1.heap.size by omega))]; exact hx1
        have hok5 : ((DM.mk0 40).writeD (s' : Int) (zeros 256)).ok 3 := (ok_write (ok_mk0 40 1) _ _).mono (by omega)
        go_wp2_with fail
        refine (run_corrupt R5 (s' : Int) x0 x1 (m := 3) (by omega) hok5).mono ?_
        rw [HG.out]
        rintro e w6 ⟨rfl, R6, k6⟩
        replace K2 := K2.trans (k6.mono fun _ _ h => h.elim)
        have hd0 : w6.cell? ⟨w.heap.size, 0, none⟩ = some (.int .i64 x0) := by rw [K2.cell (show w.heap.size < w1.heap.size by omega) (.inl (show w.heap.size < w1.heap.size by omega))]; exact hx0
        have hd1 : w6.cell? ⟨w.heap.size, 1, none⟩ = some (.int .i64 x1) := by rw [K2.cell (show w.heap.size < w1.heap.size by omega) (.inl (show w.heap.size < w1.heap.size by omega))]; exact hx1
        have KF := bw.trans ((K2.below (Nat.le_refl _)).mono (show w.heap.size ≤ w1.heap.size by omega))
        clear R5 k6 hok5 K2 hc0 hc1 hx0 hx1
        go_wp2_with fail
        refine (run_steps R6).mono ?_
        rw [(corrupt_steps _ _ _ _).1, HS.out]
        rintro e w7 ⟨rfl, rfl⟩
        go_wp2_with fail
        refine (run_cached R6).mono ?_
        rw [(corrupt_steps _ _ _ _).2, HC.out]
        rintro e w7 ⟨rfl, rfl⟩
        go_wp2_with fail
        go_ret
        exact ⟨by first | rfl | (simp [go_sem]; done) | (simp [go_sem]; assumption), KF⟩
      by_cases h3 : x1 < 0
      · have HE : Hid ((DM.mk0 40).readE (s' : Int) = 0) := readE_yes _ (by omega)
        obtain ⟨hS0, hC0, hF0⟩ := good_steps s' (by omega) (zeros 256) zl
        have HF : Hid ((DM.mk0 40).writeE (s' : Int) (zeros 256) = 0) := hF0
        have HS : Hid (((DM.mk0 40).writeD (s' : Int) (zeros 256)).steps = 1) := hS0
        have HC : Hid (((DM.mk0 40).writeD (s' : Int) (zeros 256)).cnt = 1) := hC0
        clear hS0 hC0 hF0
        have HG : Hid ((if ((DM.mk0 40).writeD (s' : Int) (zeros 256)).mayTurn (s' : Int) x0 x1 = true then (0 : Int) else 1) = 1) := may_no (writeD_n _ _ _) _ _ _ (by omega)
        go_enter Try.func8, Try.ntmps8
        go_wp2_with fail
        refine (shown_any _).mono ?_
        rintro e w1 ⟨rfl, b1⟩
        have hz1 : w.heap.size + 1 ≤ w1.heap.size := by have := b1.size; simpa using this
        have hx0 : w1.cell? ⟨w.heap.size, 0, none⟩ = some (.int .i64 x0) := by rw [b1.cell (by simp)]; exact newCell w _ _ 0
        have hx1 : w1.cell? ⟨w.heap.size, 1, none⟩ = some (.int .i64 x1) := by rw [b1.cell (by simp)]; exact newCell w _ _ 1
        have bw := below_new _ (b1.mono (B' := w.heap.size) (by simp)) (Nat.le_refl _)
        clear b1
        go_wp2_with fail
        refine (run_new 40 (by unfold sectors; omega) w1).mono ?_
        rintro e w2 ⟨bp, rfl, R2, b2⟩
        have K2 : Kp w1.heap.size (fun _ => False) w1 w2 := kp_below b2
        clear b2
        go_wp2_with fail
        refine (kind_any n 301 hn (by omega) (by omega) w2).mono ?_
        rw [hk]
        rintro e w2' ⟨rfl, rfl⟩
        go_wp2_with fail
        refine (run_read R2 (s' : Int)).mono ?_
        rintro e w3 ⟨A3, n3, X3, rfl, _, x3, H3, R3, b3⟩
        rw [HE.out]
        replace K2 := K2.trans (kp_below b3)
        clear H3 R2 b3
        go_wp2_with (at_make; refine wp_make_z _ T22 rfl _ _ rfl _ _ 256 rfl rfl (by omega) ?_)
        intro w4 o4 b4
        go_wp2_with fail
        refine (run_write (R3.same b4) (s' : Int) _ _ _ _ o4.sl (m := 1) (by omega) (ok_mk0 40 1)).mono ?_
        rintro e w5 ⟨rfl, R5, k5⟩
        rw [HF.out]
        replace K2 := (K2.trans (kp_below b4)).trans (k5.mono fun _ _ h => h.elim)
        clear R3 b4 o4 k5
        have hc0 : w5.cell? ⟨w.heap.size, 0, none⟩ = some (.int .i64 x0) := by rw [K2.cell (show w.heap.size < w1.heap.size by omega) (.inl (show w.heap.size < w1.heap.size by omega))]; exact hx0
        have hc1 : w5.cell? ⟨w.heap.size, 1, none⟩ = some (.int .i64 x1) := by rw [K2.cell (show w.heap.size < w1.heap.size by omega) (.inl (show w.heap.size < w1.heap.size by omega))]; exact hx1
        have hok5 : ((DM.mk0 40).writeD (s' : Int) (zeros 256)).ok 3 := (ok_write (ok_mk0 40 1) _ _).mono (by omega)
        go_wp2_with fail
        refine (run_corrupt R5 (s' : Int) x0 x1 (m := 3) (by omega) hok5).mono ?_
        rw [HG.out]
        rintro e w6 ⟨rfl, R6, k6⟩
        replace K2 := K2.trans (k6.mono fun _ _ h => h.elim)
        have hd0 : w6.cell? ⟨w.heap.size, 0, none⟩ = some (.int .i64 x0) := by rw [K2.cell (show w.heap.size < w1.heap.size by omega) (.inl (show w.heap.size < w1.heap.size by omega))]; exact hx0
        have hd1 : w6.cell? ⟨w.heap.size, 1, none⟩ = some (.int .i64 x1) := by rw [K2.cell (show w.heap.size < w1.heap.size by omega) (.inl (show w.heap.size < w1.heap.size by omega))]; exact hx1
        have KF := bw.trans ((K2.below (Nat.le_refl _)).mono (show w.heap.size ≤ w1.heap.size by omega))
        clear R5 k6 hok5 K2 hc0 hc1 hx0 hx1
        go_wp2_with fail
        refine (run_steps R6).mono ?_
        rw [(corrupt_steps _ _ _ _).1, HS.out]
        rintro e w7 ⟨rfl, rfl⟩
        go_wp2_with fail
        refine (run_cached R6).mono ?_
        rw [(corrupt_steps _ _ _ _).2, HC.out]
        rintro e w7 ⟨rfl, rfl⟩
        go_wp2_with fail
        go_ret
        exact ⟨by first | rfl | (simp [go_sem]; done) | (simp [go_sem]; assumption), KF⟩
      by_cases h4 : 256 ≤ x1
      · have HE : Hid ((DM.mk0 40).readE (s' : Int) = 0) := readE_yes _ (by omega)
        obtain ⟨hS0, hC0, hF0⟩ := good_steps s' (by omega) (zeros 256) zl
        have HF : Hid ((DM.mk0 40).writeE (s' : Int) (zeros 256) = 0) := hF0
        have HS : Hid (((DM.mk0 40).writeD (s' : Int) (zeros 256)).steps = 1) := hS0
        have HC : Hid (((DM.mk0 40).writeD (s' : Int) (zeros 256)).cnt = 1) := hC0
        clear hS0 hC0 hF0
        have HG : Hid ((if ((DM.mk0 40).writeD (s' : Int) (zeros 256)).mayTurn (s' : Int) x0 x1 = true then (0 : Int) else 1) = 1) := may_no (writeD_n _ _ _) _ _ _ (by omega)
        go_enter Try.func8, Try.ntmps8
        go_wp2_with fail
        refine (shown_any _).mono ?_
        rintro e w1 ⟨rfl, b1⟩
        have hz1 : w.heap.size + 1 ≤ w1.heap.size := by have := b1.size; simpa using this
        have hx0 : w1.cell? ⟨w.heap.size, 0, none⟩ = some (.int .i64 x0) := by rw [b1.cell (by simp)]; exact newCell w _ _ 0
        have hx1 : w1.cell? ⟨w.heap.size, 1, none⟩ = some (.int .i64 x1) := by rw [b1.cell (by simp)]; exact newCell w _ _ 1
        have bw := below_new _ (b1.mono (B' := w.heap.size) (by simp)) (Nat.le_refl _)
        clear b1
        go_wp2_with fail
        refine (run_new 40 (by unfold sectors; omega) w1).mono ?_
        rintro e w2 ⟨bp, rfl, R2, b2⟩
        have K2 : Kp w1.heap.size (fun _ => False) w1 w2 := kp_below b2
        clear b2
        go_wp2_with fail
        refine (kind_any n 301 hn (by omega) (by omega) w2).mono ?_
        rw [hk]
        rintro e w2' ⟨rfl, rfl⟩
        go_wp2_with fail
        refine (run_read R2 (s' : Int)).mono ?_
        rintro e w3 ⟨A3, n3, X3, rfl, _, x3, H3, R3, b3⟩
        rw [HE.out]
        replace K2 := K2.trans (kp_below b3)
        clear H3 R2 b3
        go_wp2_with (at_make; refine wp_make_z _ T22 rfl _ _ rfl _ _ 256 rfl rfl (by omega) ?_)
        intro w4 o4 b4
        go_wp2_with fail
        refine (run_write (R3.same b4) (s' : Int) _ _ _ _ o4.sl (m := 1) (by omega) (ok_mk0 40 1)).mono ?_
        rintro e w5 ⟨rfl, R5, k5⟩
        rw [HF.out]
        replace K2 := (K2.trans (kp_below b4)).trans (k5.mono fun _ _ h => h.elim)
        clear R3 b4 o4 k5
        have hc0 : w5.cell? ⟨w.heap.size, 0, none⟩ = some (.int .i64 x0) := by rw [K2.cell (show w.heap.size < w1.heap.size by omega) (.inl (show w.heap.size < w1.heap.size by omega))]; exact hx0
        have hc1 : w5.cell? ⟨w.heap.size, 1, none⟩ = some (.int .i64 x1) := by rw [K2.cell (show w.heap.size < w1.heap.size by omega) (.inl (show w.heap.size < w1.heap.size by omega))]; exact hx1
        have hok5 : ((DM.mk0 40).writeD (s' : Int) (zeros 256)).ok 3 := (ok_write (ok_mk0 40 1) _ _).mono (by omega)
        go_wp2_with fail
        refine (run_corrupt R5 (s' : Int) x0 x1 (m := 3) (by omega) hok5).mono ?_
        rw [HG.out]
        rintro e w6 ⟨rfl, R6, k6⟩
        replace K2 := K2.trans (k6.mono fun _ _ h => h.elim)
        have hd0 : w6.cell? ⟨w.heap.size, 0, none⟩ = some (.int .i64 x0) := by rw [K2.cell (show w.heap.size < w1.heap.size by omega) (.inl (show w.heap.size < w1.heap.size by omega))]; exact hx0
        have hd1 : w6.cell? ⟨w.heap.size, 1, none⟩ = some (.int .i64 x1) := by rw [K2.cell (show w.heap.size < w1.heap.size by omega) (.inl (show w.heap.size < w1.heap.size by omega))]; exact hx1
        have KF := bw.trans ((K2.below (Nat.le_refl _)).mono (show w.heap.size ≤ w1.heap.size by omega))
        clear R5 k6 hok5 K2 hc0 hc1 hx0 hx1
        go_wp2_with fail
        refine (run_steps R6).mono ?_
        rw [(corrupt_steps _ _ _ _).1, HS.out]
        rintro e w7 ⟨rfl, rfl⟩
        go_wp2_with fail
        refine (run_cached R6).mono ?_
        rw [(corrupt_steps _ _ _ _).2, HC.out]
        rintro e w7 ⟨rfl, rfl⟩
        go_wp2_with fail
        go_ret
        exact ⟨by first | rfl | (simp [go_sem]; done) | (simp [go_sem]; assumption), KF⟩
      · have HE : Hid ((DM.mk0 40).readE (s' : Int) = 0) := readE_yes _ (by omega)
        obtain ⟨hS0, hC0, hF0⟩ := good_steps s' (by omega) (zeros 256) zl
        have HF : Hid ((DM.mk0 40).writeE (s' : Int) (zeros 256) = 0) := hF0
        have HS : Hid (((DM.mk0 40).writeD (s' : Int) (zeros 256)).steps = 1) := hS0
        have HC : Hid (((DM.mk0 40).writeD (s' : Int) (zeros 256)).cnt = 1) := hC0
        clear hS0 hC0 hF0
        have HG : Hid ((if ((DM.mk0 40).writeD (s' : Int) (zeros 256)).mayTurn (s' : Int) x0 x1 = true then (0 : Int) else 1) = 0) := may_yes (writeD_n _ _ _) _ _ _ (by omega)
        go_enter Try.func8, Try.ntmps8
        go_wp2_with fail
        refine (shown_any _).mono ?_
        rintro e w1 ⟨rfl, b1⟩
        have hz1 : w.heap.size + 1 ≤ w1.heap.size := by have := b1.size; simpa using this
        have hx0 : w1.cell? ⟨w.heap.size, 0, none⟩ = some (.int .i64 x0) := by rw [b1.cell (by simp)]; exact newCell w _ _ 0
        have hx1 : w1.cell? ⟨w.heap.size, 1, none⟩ = some (.int .i64 x1) := by rw [b1.cell (by simp)]; exact newCell w _ _ 1
        have bw := below_new _ (b1.mono (B' := w.heap.size) (by simp)) (Nat.le_refl _)
        clear b1
        go_wp2_with fail
        refine (run_new 40 (by unfold sectors; omega) w1).mono ?_
        rintro e w2 ⟨bp, rfl, R2, b2⟩
        have K2 : Kp w1.heap.size (fun _ => False) w1 w2 := kp_below b2
        clear b2
        go_wp2_with fail
        refine (kind_any n 301 hn (by omega) (by omega) w2).mono ?_
        rw [hk]
        rintro e w2' ⟨rfl, rfl⟩
        go_wp2_with fail
        refine (run_read R2 (s' : Int)).mono ?_
        rintro e w3 ⟨A3, n3, X3, rfl, _, x3, H3, R3, b3⟩
        rw [HE.out]
        replace K2 := K2.trans (kp_below b3)
        clear H3 R2 b3
        go_wp2_with (at_make; refine wp_make_z _ T22 rfl _ _ rfl _ _ 256 rfl rfl (by omega) ?_)
        intro w4 o4 b4
        go_wp2_with fail
        refine (run_write (R3.same b4) (s' : Int) _ _ _ _ o4.sl (m := 1) (by omega) (ok_mk0 40 1)).mono ?_
        rintro e w5 ⟨rfl, R5, k5⟩
        rw [HF.out]
        replace K2 := (K2.trans (kp_below b4)).trans (k5.mono fun _ _ h => h.elim)
        clear R3 b4 o4 k5
        have hc0 : w5.cell? ⟨w.heap.size, 0, none⟩ = some (.int .i64 x0) := by rw [K2.cell (show w.heap.size < w1.heap.size by omega) (.inl (show w.heap.size < w1.heap.size by omega))]; exact hx0
        have hc1 : w5.cell? ⟨w.heap.size, 1, none⟩ = some (.int .i64 x1) := by rw [K2.cell (show w.heap.size < w1.heap.size by omega) (.inl (show w.heap.size < w1.heap.size by omega))]; exact hx1
        have hok5 : ((DM.mk0 40).writeD (s' : Int) (zeros 256)).ok 3 := (ok_write (ok_mk0 40 1) _ _).mono (by omega)
        go_wp2_with fail
        refine (run_corrupt R5 (s' : Int) x0 x1 (m := 3) (by omega) hok5).mono ?_
        rw [HG.out]
        rintro e w6 ⟨rfl, R6, k6⟩
        replace K2 := K2.trans (k6.mono fun _ _ h => h.elim)
        have hd0 : w6.cell? ⟨w.heap.size, 0, none⟩ = some (.int .i64 x0) := by rw [K2.cell (show w.heap.size < w1.heap.size by omega) (.inl (show w.heap.size < w1.heap.size by omega))]; exact hx0
        have hd1 : w6.cell? ⟨w.heap.size, 1, none⟩ = some (.int .i64 x1) := by rw [K2.cell (show w.heap.size < w1.heap.size by omega) (.inl (show w.heap.size < w1.heap.size by omega))]; exact hx1
        have KF := bw.trans ((K2.below (Nat.le_refl _)).mono (show w.heap.size ≤ w1.heap.size by omega))
        clear R5 k6 hok5 K2 hc0 hc1 hx0 hx1
        go_wp2_with fail
        refine (run_steps R6).mono ?_
        rw [(corrupt_steps _ _ _ _).1, HS.out]
        rintro e w7 ⟨rfl, rfl⟩
        go_wp2_with fail
        refine (run_cached R6).mono ?_
        rw [(corrupt_steps _ _ _ _).2, HC.out]
        rintro e w7 ⟨rfl, rfl⟩
        go_wp2_with fail
        go_ret
        exact ⟨by first | rfl | (simp [go_sem]; done) | (simp [go_sem]; assumption), KF⟩
    · have hkk' : ((k : Int) == 256) = false := by rw [beq_eq_false_iff_ne]; omega
      by_cases h1 : x0 < 0
      · have HE : Hid ((DM.mk0 40).readE s = 0) := readE_yes _ (by omega)
        have hbad : (DM.mk0 40).bad s (zeros k) = true := by unfold DM.bad; rw [decide_eq_true_iff, zl, show (DM.mk0 40).n = 40 from rfl]; exact .inr hkk
        obtain ⟨hS0, hC0, hF0⟩ := bad_steps s (zeros k) hbad
        have HF : Hid ((DM.mk0 40).writeE (s) (zeros k) = 1) := hF0
        have HS : Hid (((DM.mk0 40).writeD (s) (zeros k)).steps = 0) := hS0
        have HC : Hid (((DM.mk0 40).writeD (s) (zeros k)).cnt = 0) := hC0
        clear hS0 hC0 hF0 hbad
        have HG : Hid ((if ((DM.mk0 40).writeD s (zeros k)).mayTurn s x0 x1 = true then (0 : Int) else 1) = 1) := may_no (writeD_n _ _ _) _ _ _ (by omega)
        go_enter Try.func8, Try.ntmps8
        go_wp2_with fail
        refine (shown_any _).mono ?_
        rintro e w1 ⟨rfl, b1⟩
        have hz1 : w.heap.size + 1 ≤ w1.heap.size := by have := b1.size; simpa using this
        have hx0 : w1.cell? ⟨w.heap.size, 0, none⟩ = some (.int .i64 x0) := by rw [b1.cell (by simp)]; exact newCell w _ _ 0
        have hx1 : w1.cell? ⟨w.heap.size, 1, none⟩ = some (.int .i64 x1) := by rw [b1.cell (by simp)]; exact newCell w _ _ 1
        have bw := below_new _ (b1.mono (B' := w.heap.size) (by simp)) (Nat.le_refl _)
        clear b1
        go_wp2_with fail
        refine (run_new 40 (by unfold sectors; omega) w1).mono ?_
        rintro e w2 ⟨bp, rfl, R2, b2⟩
        have K2 : Kp w1.heap.size (fun _ => False) w1 w2 := kp_below b2
        clear b2
        go_wp2_with fail
        refine (kind_any n 301 hn (by omega) (by omega) w2).mono ?_
        rw [hk]
        rintro e w2' ⟨rfl, rfl⟩
        go_wp2_with fail
        refine (run_read R2 s).mono ?_
        rintro e w3 ⟨A3, n3, X3, rfl, _, x3, H3, R3, b3⟩
        rw [HE.out]
        replace K2 := K2.trans (kp_below b3)
        clear H3 R2 b3
        go_wp2_with (at_make; refine wp_make_z _ T22 rfl _ _ rfl _ _ k rfl rfl (by omega) ?_)
        intro w4 o4 b4
        go_wp2_with fail
        refine (run_write (R3.same b4) s _ _ _ _ o4.sl (m := 1) (by omega) (ok_mk0 40 1)).mono ?_
        rintro e w5 ⟨rfl, R5, k5⟩
        rw [HF.out]
        replace K2 := (K2.trans (kp_below b4)).trans (k5.mono fun _ _ h => h.elim)
        clear R3 b4 o4 k5
        have hc0 : w5.cell? ⟨w.heap.size, 0, none⟩ = some (.int .i64 x0) := by rw [K2.cell (show w.heap.size < w1.heap.size by omega) (.inl (show w.heap.size < w1.heap.size by omega))]; exact hx0
        have hc1 : w5.cell? ⟨w.heap.size, 1, none⟩ = some (.int .i64 x1) := by rw [K2.cell (show w.heap.size < w1.heap.size by omega) (.inl (show w.heap.size < w1.heap.size by omega))]; exact hx1
        have hok5 : ((DM.mk0 40).writeD s (zeros k)).ok 3 := (ok_write (ok_mk0 40 1) _ _).mono (by omega)
        go_wp2_with fail
        refine (run_corrupt R5 s x0 x1 (m := 3) (by omega) hok5).mono ?_
        rw [HG.out]
        rintro e w6 ⟨rfl, R6, k6⟩
        replace K2 := K2.trans (k6.mono fun _ _ h => h.elim)
        have hd0 : w6.cell? ⟨w.heap.size, 0, none⟩ = some (.int .i64 x0) := by rw [K2.cell (show w.heap.size < w1.heap.size by omega) (.inl (show w.heap.size < w1.heap.size by omega))]; exact hx0
        have hd1 : w6.cell? ⟨w.heap.size, 1, none⟩ = some (.int .i64 x1) := by rw [K2.cell (show w.heap.size < w1.heap.size by omega) (.inl (show w.heap.size < w1.heap.size by omega))]; exact hx1
        have KF := bw.trans ((K2.below (Nat.le_refl _)).mono (show w.heap.size ≤ w1.heap.size by omega))
        clear R5 k6 hok5 K2 hc0 hc1 hx0 hx1
        go_wp2_with fail
        refine (run_steps R6).mono ?_
        rw [(corrupt_steps _ _ _ _).1, HS.out]
        rintro e w7 ⟨rfl, rfl⟩
        go_wp2_with fail
        refine (run_cached R6).mono ?_
        rw [(corrupt_steps _ _ _ _).2, HC.out]
        rintro e w7 ⟨rfl, rfl⟩
        go_wp2_with fail
        go_ret
        exact ⟨by first | rfl | (simp [go_sem]; done) | (simp [go_sem]; assumption), KF⟩
      by_cases h2 : 256 ≤ x0
      · have HE : Hid ((DM.mk0 40).readE s = 0) := readE_yes _ (by omega)
        have hbad : (DM.mk0 40).bad s (zeros k) = true := by unfold DM.bad; rw [decide_eq_true_iff, zl, show (DM.mk0 40).n = 40 from rfl]; exact .inr hkk
        obtain ⟨hS0, hC0, hF0⟩ := bad_steps s (zeros k) hbad
        have HF : Hid ((DM.mk0 40).writeE (s) (zeros k) = 1) := hF0
        have HS : Hid (((DM.mk0 40).writeD (s) (zeros k)).steps = 0) := hS0
        have HC : Hid (((DM.mk0 40).writeD (s) (zeros k)).cnt = 0) := hC0
        clear hS0 hC0 hF0 hbad
        have HG : Hid ((if ((DM.mk0 40).writeD s (zeros k)).mayTurn s x0 x1 = true then (0 : Int) else 1) = 1) := may_no (writeD_n _ _ _) _ _ _ (by omega)
        go_enter Try.func8, Try.ntmps8
        go_wp2_with fail
        refine (shown_any _).mono ?_
        rintro e w1 ⟨rfl, b1⟩
        have hz1 : w.heap.size + 1 ≤ w1.heap.size := by have := b1.size; simpa using this
        have hx0 : w1.cell? ⟨w.heap.size, 0, none⟩ = some (.int .i64 x0) := by rw [b1.cell (by simp)]; exact newCell w _ _ 0
        have hx1 : w1.cell? ⟨w.heap.size, 1, none⟩ = some (.int .i64 x1) := by rw [b1.cell (by simp)]; exact newCell w _ _ 1
        have bw := below_new _ (b1.mono (B' := w.heap.size) (by simp)) (Nat.le_refl _)
        clear b1
        go_wp2_with fail
        refine (run_new 40 (by unfold sectors; omega) w1).mono ?_
        rintro e w2 ⟨bp, rfl, R2, b2⟩
        have K2 : Kp w1.heap.size (fun _ => False) w1 w2 := kp_below b2
        clear b2
        go_wp2_with fail
        refine (kind_any n 301 hn (by omega) (by omega) w2).mono ?_
        rw [hk]
        rintro e w2' ⟨rfl, rfl⟩
        go_wp2_with fail
        refine (run_read R2 s).mono ?_
        rintro e w3 ⟨A3, n3, X3, rfl, _, x3, H3, R3, b3⟩
        rw [HE.out]
        replace K2 := K2.trans (kp_below b3)
        clear H3 R2 b3
        go_wp2_with (at_make; refine wp_make_z _ T22 rfl _ _ rfl _ _ k rfl rfl (by omega) ?_)
        intro w4 o4 b4
        go_wp2_with fail
        refine (run_write (R3.same b4) s _ _ _ _ o4.sl (m := 1) (by omega) (ok_mk0 40 1)).mono ?_
        rintro e w5 ⟨rfl, R5, k5⟩
        rw [HF.out]
        replace K2 := (K2.trans (kp_below b4)).trans (k5.mono fun _ _ h => h.elim)
        clear R3 b4 o4 k5
        have hc0 : w5.cell? ⟨w.heap.size, 0, none⟩ = some (.int .i64 x0) := by rw [K2.cell (show w.heap.size < w1.heap.size by omega) (.inl (show w.heap.size < w1.heap.size by omega))]; exact hx0
        have hc1 : w5.cell? ⟨w.heap.size, 1, none⟩ = some (.int .i64 x1) := by rw [K2.cell (show w.heap.size < w1.heap.size by omega) (.inl (show w.heap.size < w1.heap.size by omega))]; exact hx1
        have hok5 : ((DM.mk0 40).writeD s (zeros k)).ok 3 := (ok_write (ok_mk0 40 1) _ _).mono (by omega)
        go_wp2_with fail
        refine (run_corrupt R5 s x0 x1 (m := 3) (by omega) hok5).mono ?_
        rw [HG.out]
        rintro e w6 ⟨rfl, R6, k6⟩
        replace K2 := K2.trans (k6.mono fun _ _ h => h.elim)
        have hd0 : w6.cell? ⟨w.heap.size, 0, none⟩ = some (.int .i64 x0) := by rw [K2.cell (show w.heap.size < w1.heap.size by omega) (.inl (show w.heap.size < w1.heap.size by omega))]; exact hx0
        have hd1 : w6.cell? ⟨w.heap.size, 1, none⟩ = some (.int .i64 x1) := by rw [K2.cell (show w.heap.size < w1.heap.size by omega) (.inl (show w.heap.size < w1.heap.size by omega))]; exact hx1
        have KF := bw.trans ((K2.below (Nat.le_refl _)).mono (show w.heap.size ≤ w1.heap.size by omega))
        clear R5 k6 hok5 K2 hc0 hc1 hx0 hx1
        go_wp2_with fail
        refine (run_steps R6).mono ?_
        rw [(corrupt_steps _ _ _ _).1, HS.out]
        rintro e w7 ⟨rfl, rfl⟩
        go_wp2_with fail
        refine (run_cached R6).mono ?_
        rw [(corrupt_steps _ _ _ _).2, HC.out]
        rintro e w7 ⟨rfl, rfl⟩
        go_wp2_with fail
        go_ret
        exact ⟨by first | rfl | (simp [go_sem]; done) | (simp [go_sem]; assumption), KF⟩
      by_cases h3 : x1 < 0
      · have HE : Hid ((DM.mk0 40).readE s = 0) := readE_yes _ (by omega)
        have hbad : (DM.mk0 40).bad s (zeros k) = true := by unfold DM.bad; rw [decide_eq_true_iff, zl, show (DM.mk0 40).n = 40 from rfl]; exact .inr hkk
        obtain ⟨hS0, hC0, hF0⟩ := bad_steps s (zeros k) hbad
        have HF : Hid ((DM.mk0 40).writeE (s) (zeros k) = 1) := hF0
        have HS : Hid (((DM.mk0 40).writeD (s) (zeros k)).steps = 0) := hS0
        have HC : Hid (((DM.mk0 40).writeD (s) (zeros k)).cnt = 0) := hC0
        clear hS0 hC0 hF0 hbad
        have HG : Hid ((if ((DM.mk0 40).writeD s (zeros k)).mayTurn s x0 x1 = true then (0 : Int) else 1) = 1) := may_no (writeD_n _ _ _) _ _ _ (by omega)
        go_enter Try.func8, Try.ntmps8
        go_wp2_with fail
        refine (shown_any _).mono ?_
        rintro e w1 ⟨rfl, b1⟩
        have hz1 : w.heap.size + 1 ≤ w1.heap.size := by have := b1.size; simpa using this
        have hx0 : w1.cell? ⟨w.heap.size, 0, none⟩ = some (.int .i64 x0) := by rw [b1.cell (by simp)]; exact newCell w _ _ 0
        have hx1 : w1.cell? ⟨w.heap.size, 1, none⟩ = some (.int .i64 x1) := by rw [b1.cell (by simp)]; exact newCell w _ _ 1
        have bw := below_new _ (b1.mono (B' := w.heap.size) (by simp)) (Nat.le_refl _)
        clear b1
        go_wp2_with fail
        refine (run_new 40 (by unfold sectors; omega) w1).mono ?_
        rintro e w2 ⟨bp, rfl, R2, b2⟩
        have K2 : Kp w1.heap.size (fun _ => False) w1 w2 := kp_below b2
        clear b2
        go_wp2_with fail
        refine (kind_any n 301 hn (by omega) (by omega) w2).mono ?_
        rw [hk]
        rintro e w2' ⟨rfl, rfl⟩
        go_wp2_with fail
        refine (run_read R2 s).mono ?_
        rintro e w3 ⟨A3, n3, X3, rfl, _, x3, H3, R3, b3⟩
        rw [HE.out]
        replace K2 := K2.trans (kp_below b3)
        clear H3 R2 b3
        go_wp2_with (at_make; refine wp_make_z _ T22 rfl _ _ rfl _ _ k rfl rfl (by omega) ?_)
        intro w4 o4 b4
        go_wp2_with fail
        refine (run_write (R3.same b4) s _ _ _ _ o4.sl (m := 1) (by omega) (ok_mk0 40 1)).mono ?_
        rintro e w5 ⟨rfl, R5, k5⟩
        rw [HF.out]
        replace K2 := (K2.trans (kp_below b4)).trans (k5.mono fun _ _ h => h.elim)
        clear R3 b4 o4 k5
        have hc0 : w5.cell? ⟨w.heap.size, 0, none⟩ = some (.int .i64 x0) := by rw [K2.cell (show w.heap.size < w1.heap.size by omega) (.inl (show w.heap.size < w1.heap.size by omega))]; exact hx0
        have hc1 : w5.cell? ⟨w.heap.size, 1, none⟩ = some (.int .i64 x1) := by rw [K2.cell (show w.heap.size < w1.heap.size by omega) (.inl (show w.heap.size < w1.heap.size by omega))]; exact hx1
        have hok5 : ((DM.mk0 40).writeD s (zeros k)).ok 3 := (ok_write (ok_mk0 40 1) _ _).mono (by omega)
        go_wp2_with fail
        refine (run_corrupt R5 s x0 x1 (m := 3) (by omega) hok5).mono ?_
        rw [HG.out]
        rintro e w6 ⟨rfl, R6, k6⟩
        replace K2 := K2.trans (k6.mono fun _ _ h => h.elim)
        have hd0 : w6.cell? ⟨w.heap.size, 0, none⟩ = some (.int .i64 x0) := by rw [K2.cell (show w.heap.size < w1.heap.size by omega) (.inl (show w.heap.size < w1.heap.size by omega))]; exact hx0
        have hd1 : w6.cell? ⟨w.heap.size, 1, none⟩ = some (.int .i64 x1) := by rw [K2.cell (show w.heap.size < w1.heap.size by omega) (.inl (show w.heap.size < w1.heap.size by omega))]; exact hx1
        have KF := bw.trans ((K2.below (Nat.le_refl _)).mono (show w.heap.size ≤ w1.heap.size by omega))
        clear R5 k6 hok5 K2 hc0 hc1 hx0 hx1
        go_wp2_with fail
        refine (run_steps R6).mono ?_
        rw [(corrupt_steps _ _ _ _).1, HS.out]
        rintro e w7 ⟨rfl, rfl⟩
        go_wp2_with fail
        refine (run_cached R6).mono ?_
        rw [(corrupt_steps _ _ _ _).2, HC.out]
        rintro e w7 ⟨rfl, rfl⟩
        go_wp2_with fail
        go_ret
        exact ⟨by first | rfl | (simp [go_sem]; done) | (simp [go_sem]; assumption), KF⟩
      by_cases h4 : 256 ≤ x1
      · have HE : Hid ((DM.mk0 40).readE s = 0) := readE_yes _ (by omega)
        have hbad : (DM.mk0 40).bad s (zeros k) = true := by unfold DM.bad; rw [decide_eq_true_iff, zl, show (DM.mk0 40).n = 40 from rfl]; exact .inr hkk
        obtain ⟨hS0, hC0, hF0⟩ := bad_steps s (zeros k) hbad
        have HF : Hid ((DM.mk0 40).writeE (s) (zeros k) = 1) := hF0
        have HS : Hid (((DM.mk0 40).writeD (s) (zeros k)).steps = 0) := hS0
        have HC : Hid (((DM.mk0 40).writeD (s) (zeros k)).cnt = 0) := hC0
        clear hS0 hC0 hF0 hbad
        have HG : Hid ((if ((DM.mk0 40).writeD s (zeros k)).mayTurn s x0 x1 = true then (0 : Int) else 1) = 1) := may_no (writeD_n _ _ _) _ _ _ (by omega)
        go_enter Try.func8, Try.ntmps8
        go_wp2_with fail
        refine (shown_any _).mono ?_
        rintro e w1 ⟨rfl, b1⟩
        have hz1 : w.heap.size + 1 ≤ w1.heap.size := by have := b1.size; simpa using this
        have hx0 : w1.cell? ⟨w.heap.size, 0, none⟩ = some (.int .i64 x0) := by rw [b1.cell (by simp)]; exact newCell w _ _ 0
        have hx1 : w1.cell? ⟨w.heap.size, 1, none⟩ = some (.int .i64 x1) := by rw [b1.cell (by simp)]; exact newCell w _ _ 1
        have bw := below_new _ (b1.mono (B' := w.heap.size) (by simp)) (Nat.le_refl _)
        clear b1
        go_wp2_with fail
        refine (run_new 40 (by unfold sectors; omega) w1).mono ?_
        rintro e w2 ⟨bp, rfl, R2, b2⟩
        have K2 : Kp w1.heap.size (fun _ => False) w1 w2 := kp_below b2
        clear b2
        go_wp2_with fail
        refine (kind_any n 301 hn (by omega) (by omega) w2).mono ?_
        rw [hk]
        rintro e w2' ⟨rfl, rfl⟩
        go_wp2_with fail
        refine (run_read R2 s).mono ?_
        rintro e w3 ⟨A3, n3, X3, rfl, _, x3, H3, R3, b3⟩
        rw [HE.out]
        replace K2 := K2.trans (kp_below b3)
        clear H3 R2 b3
        go_wp2_with (at_make; refine wp_make_z _ T22 rfl _ _ rfl _ _ k rfl rfl (by omega) ?_)
        intro w4 o4 b4
        go_wp2_with fail
        refine (run_write (R3.same b4) s _ _ _ _ o4.sl (m := 1) (by omega) (ok_mk0 40 1)).mono ?_
        rintro e w5 ⟨rfl, R5, k5⟩
        rw [HF.out]
        replace K2 := (K2.trans (kp_below b4)).trans (k5.mono fun _ _ h => h.elim)
        clear R3 b4 o4 k5
        have hc0 : w5.cell? ⟨w.heap.size, 0, none⟩ = some (.int .i64 x0) := by rw [K2.cell (show w.heap.size < w1.heap.size by omega) (.inl (show w.heap.size < w1.heap.size by omega))]; exact hx0
        have hc1 : w5.cell? ⟨w.heap.size, 1, none⟩ = some (.int .i64 x1) := by rw [K2.cell (show w.heap.size < w1.heap.size by omega) (.inl (show w.heap.size < w1.heap.size by omega))]; exact hx1
        have hok5 : ((DM.mk0 40).writeD s (zeros k)).ok 3 := (ok_write (ok_mk0 40 1) _ _).mono (by omega)
        go_wp2_with fail
        refine (run_corrupt R5 s x0 x1 (m := 3) (by omega) hok5).mono ?_
        rw [HG.out]
        rintro e w6 ⟨rfl, R6, k6⟩
        replace K2 := K2.trans (k6.mono fun _ _ h => h.elim)
        have hd0 : w6.cell? ⟨w.heap.size, 0, none⟩ = some (.int .i64 x0) := by rw [K2.cell (show w.heap.size < w1.heap.size by omega) (.inl (show w.heap.size < w1.heap.size by omega))]; exact hx0
        have hd1 : w6.cell? ⟨w.heap.size, 1, none⟩ = some (.int .i64 x1) := by rw [K2.cell (show w.heap.size < w1.heap.size by omega) (.inl (show w.heap.size < w1.heap.size by omega))]; exact hx1
        have KF := bw.trans ((K2.below (Nat.le_refl _)).mono (show w.heap.size ≤ w1.heap.size by omega))
        clear R5 k6 hok5 K2 hc0 hc1 hx0 hx1
        go_wp2_with fail
        refine (run_steps R6).mono ?_
        rw [(corrupt_steps _ _ _ _).1, HS.out]
        rintro e w7 ⟨rfl, rfl⟩
        go_wp2_with fail
        refine (run_cached R6).mono ?_
        rw [(corrupt_steps _ _ _ _).2, HC.out]
        rintro e w7 ⟨rfl, rfl⟩
        go_wp2_with fail
        go_ret
        exact ⟨by first | rfl | (simp [go_sem]; done) | (simp [go_sem]; assumption), KF⟩
      · have HE : Hid ((DM.mk0 40).readE s = 0) := readE_yes _ (by omega)
        have hbad : (DM.mk0 40).bad s (zeros k) = true := by unfold DM.bad; rw [decide_eq_true_iff, zl, show (DM.mk0 40).n = 40 from rfl]; exact .inr hkk
        obtain ⟨hS0, hC0, hF0⟩ := bad_steps s (zeros k) hbad
        have HF : Hid ((DM.mk0 40).writeE (s) (zeros k) = 1) := hF0
        have HS : Hid (((DM.mk0 40).writeD (s) (zeros k)).steps = 0) := hS0
        have HC : Hid (((DM.mk0 40).writeD (s) (zeros k)).cnt = 0) := hC0
        clear hS0 hC0 hF0 hbad
        have HG : Hid ((if ((DM.mk0 40).writeD s (zeros k)).mayTurn s x0 x1 = true then (0 : Int) else 1) = 0) := may_yes (writeD_n _ _ _) _ _ _ (by omega)
        go_enter Try.func8, Try.ntmps8
        go_wp2_with fail
        refine (shown_any _).mono ?_
        rintro e w1 ⟨rfl, b1⟩
        have hz1 : w.heap.size + 1 ≤ w1.heap.size := by have := b1.size; simpa using this
        have hx0 : w1.cell? ⟨w.heap.size, 0, none⟩ = some (.int .i64 x0) := by rw [b1.cell (by simp)]; exact newCell w _ _ 0
        have hx1 : w1.cell? ⟨w.heap.size, 1, none⟩ = some (.int .i64 x1) := by rw [b1.cell (by simp)]; exact newCell w _ _ 1
        have bw := below_new _ (b1.mono (B' := w.heap.size) (by simp)) (Nat.le_refl _)
        clear b1
        go_wp2_with fail
        refine (run_new 40 (by unfold sectors; omega) w1).mono ?_
        rintro e w2 ⟨bp, rfl, R2, b2⟩
        have K2 : Kp w1.heap.size (fun _ => False) w1 w2 := kp_below b2
        clear b2
        go_wp2_with fail
        refine (kind_any n 301 hn (by omega) (by omega) w2).mono ?_
        rw [hk]
        rintro e w2' ⟨rfl, rfl⟩
        go_wp2_with fail
        refine (run_read R2 s).mono ?_
        rintro e w3 ⟨A3, n3, X3, rfl, _, x3, H3, R3, b3⟩
        rw [HE.out]
        replace K2 := K2.trans (kp_below b3)
        clear H3 R2 b3
        go_wp2_with (at_make; refine wp_make_z _ T22 rfl _ _ rfl _ _ k rfl rfl (by omega) ?_)
        intro w4 o4 b4
        go_wp2_with fail
        refine (run_write (R3.same b4) s _ _ _ _ o4.sl (m := 1) (by omega) (ok_mk0 40 1)).mono ?_
        rintro e w5 ⟨rfl, R5, k5⟩
        rw [HF.out]
        replace K2 := (K2.trans (kp_below b4)).trans (k5.mono fun _ _ h => h.elim)
        clear R3 b4 o4 k5
        have hc0 : w5.cell? ⟨w.heap.size, 0, none⟩ = some (.int .i64 x0) := by rw [K2.cell (show w.heap.size < w1.heap.size by omega) (.inl (show w.heap.size < w1.heap.size by omega))]; exact hx0
        have hc1 : w5.cell? ⟨w.heap.size, 1, none⟩ = some (.int .i64 x1) := by rw [K2.cell (show w.heap.size < w1.heap.size by omega) (.inl (show w.heap.size < w1.heap.size by omega))]; exact hx1
        have hok5 : ((DM.mk0 40).writeD s (zeros k)).ok 3 := (ok_write (ok_mk0 40 1) _ _).mono (by omega)
        go_wp2_with fail
        refine (run_corrupt R5 s x0 x1 (m := 3) (by omega) hok5).mono ?_
        rw [HG.out]
        rintro e w6 ⟨rfl, R6, k6⟩
        replace K2 := K2.trans (k6.mono fun _ _ h => h.elim)
        have hd0 : w6.cell? ⟨w.heap.size, 0, none⟩ = some (.int .i64 x0) := by rw [K2.cell (show w.heap.size < w1.heap.size by omega) (.inl (show w.heap.size < w1.heap.size by omega))]; exact hx0
        have hd1 : w6.cell? ⟨w.heap.size, 1, none⟩ = some (.int .i64 x1) := by rw [K2.cell (show w.heap.size < w1.heap.size by omega) (.inl (show w.heap.size < w1.heap.size by omega))]; exact hx1
        have KF := bw.trans ((K2.below (Nat.le_refl _)).mono (show w.heap.size ≤ w1.heap.size by omega))
        clear R5 k6 hok5 K2 hc0 hc1 hx0 hx1
        go_wp2_with fail
        refine (run_steps R6).mono ?_
        rw [(corrupt_steps _ _ _ _).1, HS.out]
        rintro e w7 ⟨rfl, rfl⟩
        go_wp2_with fail
        refine (run_cached R6).mono ?_
        rw [(corrupt_steps _ _ _ _).2, HC.out]
        rintro e w7 ⟨rfl, rfl⟩
        go_wp2_with fail
        go_ret
        exact ⟨by first | rfl | (simp [go_sem]; done) | (simp [go_sem]; assumption), KF⟩
  · have hb0 : (0 ≤ s → 40 ≤ s) := by omega
    rcases Int.lt_or_le s 0 with hneg | hpos
    · have HE : Hid ((DM.mk0 40).readE s = 1) := readE_no _ (by omega)
      have hbad : (DM.mk0 40).bad s (zeros k) = true := by unfold DM.bad; rw [decide_eq_true_iff, zl, show (DM.mk0 40).n = 40 from rfl]; exact .inl (by show ¬ (0 ≤ s ∧ s < ((40 : Nat) : Int)); omega)
      obtain ⟨hS0, hC0, hF0⟩ := bad_steps s (zeros k) hbad
      have HF : Hid ((DM.mk0 40).writeE (s) (zeros k) = 1) := hF0
      have HS : Hid (((DM.mk0 40).writeD (s) (zeros k)).steps = 0) := hS0
      have HC : Hid (((DM.mk0 40).writeD (s) (zeros k)).cnt = 0) := hC0
      clear hS0 hC0 hF0 hbad
      have HG : Hid ((if ((DM.mk0 40).writeD s (zeros k)).mayTurn s x0 x1 = true then (0 : Int) else 1) = 1) := may_no (writeD_n _ _ _) _ _ _ (by omega)
      go_enter Try.func8, Try.ntmps8
      go_wp2_with fail
      refine (shown_any _).mono ?_
      rintro e w1 ⟨rfl, b1⟩
      have hz1 : w.heap.size + 1 ≤ w1.heap.size := by have := b1.size; simpa using this
      have hx0 : w1.cell? ⟨w.heap.size, 0, none⟩ = some (.int .i64 x0) := by rw [b1.cell (by simp)]; exact newCell w _ _ 0
      have hx1 : w1.cell? ⟨w.heap.size, 1, none⟩ = some (.int .i64 x1) := by rw [b1.cell (by simp)]; exact newCell w _ _ 1
      have bw := below_new _ (b1.mono (B' := w.heap.size) (by simp)) (Nat.le_refl _)
      clear b1
      go_wp2_with fail
      refine (run_new 40 (by unfold sectors; omega) w1).mono ?_
      rintro e w2 ⟨bp, rfl, R2, b2⟩
      have K2 : Kp w1.heap.size (fun _ => False) w1 w2 := kp_below b2
      clear b2
      go_wp2_with fail
      refine (kind_any n 301 hn (by omega) (by omega) w2).mono ?_
      rw [hk]
      rintro e w2' ⟨rfl, rfl⟩
      go_wp2_with fail
      refine (run_read R2 s).mono ?_
      rintro e w3 ⟨A3, n3, X3, rfl, _, x3, H3, R3, b3⟩
      rw [HE.out]
      replace K2 := K2.trans (kp_below b3)
      clear H3 R2 b3
      go_wp2_with (at_make; refine wp_make_z _ T22 rfl _ _ rfl _ _ k rfl rfl (by omega) ?_)
      intro w4 o4 b4
      go_wp2_with fail
      refine (run_write (R3.same b4) s _ _ _ _ o4.sl (m := 1) (by omega) (ok_mk0 40 1)).mono ?_
      rintro e w5 ⟨rfl, R5, k5⟩
      rw [HF.out]
      replace K2 := (K2.trans (kp_below b4)).trans (k5.mono fun _ _ h => h.elim)
      clear R3 b4 o4 k5
      have hc0 : w5.cell? ⟨w.heap.size, 0, none⟩ = some (.int .i64 x0) := by rw [K2.cell (show w.heap.size < w1.heap.size by omega) (.inl (show w.heap.size < w1.heap.size by omega))]; exact hx0
      have hc1 : w5.cell? ⟨w.heap.size, 1, none⟩ = some (.int .i64 x1) := by rw [K2.cell (show w.heap.size < w1.heap.size by omega) (.inl (show w.heap.size < w1.heap.size by omega))]; exact hx1
      have hok5 : ((DM.mk0 40).writeD s (zeros k)).ok 3 := (ok_write (ok_mk0 40 1) _ _).mono (by omega)
      go_wp2_with fail
      refine (run_corrupt R5 s x0 x1 (m := 3) (by omega) hok5).mono ?_
      rw [HG.out]
      rintro e w6 ⟨rfl, R6, k6⟩
      replace K2 := K2.trans (k6.mono fun _ _ h => h.elim)
      have hd0 : w6.cell? ⟨w.heap.size, 0, none⟩ = some (.int .i64 x0) := by rw [K2.cell (show w.heap.size < w1.heap.size by omega) (.inl (show w.heap.size < w1.heap.size by omega))]; exact hx0
      have hd1 : w6.cell? ⟨w.heap.size, 1, none⟩ = some (.int .i64 x1) := by rw [K2.cell (show w.heap.size < w1.heap.size by omega) (.inl (show w.heap.size < w1.heap.size by omega))]; exact hx1
      have KF := bw.trans ((K2.below (Nat.le_refl _)).mono (show w.heap.size ≤ w1.heap.size by omega))
      clear R5 k6 hok5 K2 hc0 hc1 hx0 hx1
      go_wp2_with fail
      refine (run_steps R6).mono ?_
      rw [(corrupt_steps _ _ _ _).1, HS.out]
      rintro e w7 ⟨rfl, rfl⟩
      go_wp2_with fail
      refine (run_cached R6).mono ?_
      rw [(corrupt_steps _ _ _ _).2, HC.out]
      rintro e w7 ⟨rfl, rfl⟩
      go_wp2_with fail
      go_ret
      exact ⟨by first | rfl | (simp [go_sem]; done) | (simp [go_sem]; assumption), KF⟩
    · have hpos2 : 40 ≤ s := by omega
      have HE : Hid ((DM.mk0 40).readE s = 1) := readE_no _ (by omega)
      have hbad : (DM.mk0 40).bad s (zeros k) = true := by unfold DM.bad; rw [decide_eq_true_iff, zl, show (DM.mk0 40).n = 40 from rfl]; exact .inl (by show ¬ (0 ≤ s ∧ s < ((40 : Nat) : Int)); omega)
      obtain ⟨hS0, hC0, hF0⟩ := bad_steps s (zeros k) hbad
      have HF : Hid ((DM.mk0 40).writeE (s) (zeros k) = 1) := hF0
      have HS : Hid (((DM.mk0 40).writeD (s) (zeros k)).steps = 0) := hS0
      have HC : Hid (((DM.mk0 40).writeD (s) (zeros k)).cnt = 0) := hC0
      clear hS0 hC0 hF0 hbad
      have HG : Hid ((if ((DM.mk0 40).writeD s (zeros k)).mayTurn s x0 x1 = true then (0 : Int) else 1) = 1) := may_no (writeD_n _ _ _) _ _ _ (by omega)
      go_enter Try.func8, Try.ntmps8
      go_wp2_with fail
      refine (shown_any _).mono ?_
      rintro e w1 ⟨rfl, b1⟩
      have hz1 : w.heap.size + 1 ≤ w1.heap.size := by have := b1.size; simpa using this
      have hx0 : w1.cell? ⟨w.heap.size, 0, none⟩ = some (.int .i64 x0) := by rw [b1.cell (by simp)]; exact newCell w _ _ 0
      have hx1 : w1.cell? ⟨w.heap.size, 1, none⟩ = some (.int .i64 x1) := by rw [b1.cell (by simp)]; exact newCell w _ _ 1
      have bw := below_new _ (b1.mono (B' := w.heap.size) (by simp)) (Nat.le_refl _)
      clear b1
      go_wp2_with fail
      refine (run_new 40 (by unfold sectors; omega) w1).mono ?_
      rintro e w2 ⟨bp, rfl, R2, b2⟩
      have K2 : Kp w1.heap.size (fun _ => False) w1 w2 := kp_below b2
      clear b2
      go_wp2_with fail
      refine (kind_any n 301 hn (by omega) (by omega) w2).mono ?_
      rw [hk]
      rintro e w2' ⟨rfl, rfl⟩
      go_wp2_with fail
      refine (run_read R2 s).mono ?_
      rintro e w3 ⟨A3, n3, X3, rfl, _, x3, H3, R3, b3⟩
      rw [HE.out]
      replace K2 := K2.trans (kp_below b3)
      clear H3 R2 b3
      go_wp2_with (at_make; refine wp_make_z _ T22 rfl _ _ rfl _ _ k rfl rfl (by omega) ?_)
      intro w4 o4 b4
      go_wp2_with fail
      refine (run_write (R3.same b4) s _ _ _ _ o4.sl (m := 1) (by omega) (ok_mk0 40 1)).mono ?_
      rintro e w5 ⟨rfl, R5, k5⟩
      rw [HF.out]
      replace K2 := (K2.trans (kp_below b4)).trans (k5.mono fun _ _ h => h.elim)
      clear R3 b4 o4 k5
      have hc0 : w5.cell? ⟨w.heap.size, 0, none⟩ = some (.int .i64 x0) := by rw [K2.cell (show w.heap.size < w1.heap.size by omega) (.inl (show w.heap.size < w1.heap.size by omega))]; exact hx0
      have hc1 : w5.cell? ⟨w.heap.size, 1, none⟩ = some (.int .i64 x1) := by rw [K2.cell (show w.heap.size < w1.heap.size by omega) (.inl (show w.heap.size < w1.heap.size by omega))]; exact hx1
      have hok5 : ((DM.mk0 40).writeD s (zeros k)).ok 3 := (ok_write (ok_mk0 40 1) _ _).mono (by omega)
      go_wp2_with fail
      refine (run_corrupt R5 s x0 x1 (m := 3) (by omega) hok5).mono ?_
      rw [HG.out]
      rintro e w6 ⟨rfl, R6, k6⟩
      replace K2 := K2.trans (k6.mono fun _ _ h => h.elim)
      have hd0 : w6.cell? ⟨w.heap.size, 0, none⟩ = some (.int .i64 x0) := by rw [K2.cell (show w.heap.size < w1.heap.size by omega) (.inl (show w.heap.size < w1.heap.size by omega))]; exact hx0
      have hd1 : w6.cell? ⟨w.heap.size, 1, none⟩ = some (.int .i64 x1) := by rw [K2.cell (show w.heap.size < w1.heap.size by omega) (.inl (show w.heap.size < w1.heap.size by omega))]; exact hx1
      have KF := bw.trans ((K2.below (Nat.le_refl _)).mono (show w.heap.size ≤ w1.heap.size by omega))
      clear R5 k6 hok5 K2 hc0 hc1 hx0 hx1
      go_wp2_with fail
      refine (run_steps R6).mono ?_
      rw [(corrupt_steps _ _ _ _).1, HS.out]
      rintro e w7 ⟨rfl, rfl⟩
      go_wp2_with fail
      refine (run_cached R6).mono ?_
      rw [(corrupt_steps _ _ _ _).2, HC.out]
      rintro e w7 ⟨rfl, rfl⟩
      go_wp2_with fail
      go_ret
      exact ⟨by first | rfl | (simp [go_sem]; done) | (simp [go_sem]; assumption), KF⟩
end Go.Proofs.Ytbikmnjagfkajaa
