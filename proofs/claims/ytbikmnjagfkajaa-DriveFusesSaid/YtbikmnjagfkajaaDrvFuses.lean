/- The law DriveFuses: for every input it returns true, and what came in reads as it did. -/
import Derived.Test.YtbikmnjagfkajaaDrvT
namespace Go.Proofs.Ytbikmnjagfkajaa
open Go Go.RowKit Go.Proofs

/-- A fuse of most steps, behind i that were tried. -/
structure Burns (D : DM) (most i : Nat) : Prop where
  n : D.n = 32
  off : D.off = decide (most < i)
  fused : D.fused = true
  left : D.left = most - i
  steps : D.steps = min i most
theorem Burns.stop {D : DM} {most i : Nat} (h : Burns D most i) : D.stop = decide (most ≤ i) := by
  unfold DM.stop
  rw [h.off, h.fused, h.left]
  by_cases h1 : most < i
  · simp [h1, Nat.le_of_lt h1]
  · by_cases h2 : most ≤ i
    · have : most - i = 0 := by omega
      simp [h1, h2, this]
    · have : ¬ (most - i = 0) := by omega
      simp [h1, h2, this]
theorem Burns.err {D : DM} {most i : Nat} (h : Burns D most i) : D.err = if i < most then 0 else 4 := by
  unfold DM.err
  rw [h.stop]
  by_cases h1 : i < most
  · rw [if_pos h1, if_neg (by simp; omega)]
  · rw [if_neg h1, if_pos (by simp; omega)]
theorem Burns.step {D : DM} {most i : Nat} (h : Burns D most i) : Burns D.stepD most (i + 1) := by
  have hs := h.stop
  refine ⟨h.n, ?_, h.fused, ?_, ?_⟩
  · show D.stop = _
    rw [hs]
    by_cases h1 : most ≤ i
    · rw [decide_eq_true h1, decide_eq_true (by omega)]
    · rw [decide_eq_false h1, decide_eq_false (by omega)]
  · show (if D.stop then D.left else if D.fused then D.left - 1 else D.left) = _
    rw [hs, h.fused, h.left]
    by_cases h1 : most ≤ i
    · rw [if_pos (by simpa using h1)]; omega
    · rw [if_neg (by simpa using h1)]; simp; omega
  · show (if D.stop then D.steps else D.steps + 1) = _
    rw [hs, h.steps]
    by_cases h1 : most ≤ i
    · rw [if_pos (by simpa using h1)]; omega
    · rw [if_neg (by simpa using h1)]; omega
theorem Burns.same {D D' : DM} {most i : Nat} (h : Burns D most i) (e1 : D'.n = D.n) (e2 : D'.off = D.off) (e3 : D'.fused = D.fused) (e4 : D'.left = D.left) (e5 : D'.steps = D.steps) : Burns D' most i :=
  ⟨e1.trans h.n, e2.trans h.off, e3.trans h.fused, e4.trans h.left, e5.trans h.steps⟩
theorem Burns.write {D : DM} {most i : Nat} (h : Burns D most i) {s : Nat} (hs : s < 32) {x : List UInt8} (hx : x.length = 256) : D.writeE s x = (if i < most then 0 else 4) ∧ Burns (D.writeD s x) most (i + 1) := by
  have hb : D.bad s x = false := by
    unfold DM.bad
    rw [decide_eq_false_iff_not, h.n]
    intro h2
    rcases h2 with h2 | h2
    · exact h2 ⟨by omega, by omega⟩
    · exact h2 hx
  unfold DM.writeE DM.writeD
  rw [hb, if_neg Bool.false_ne_true, if_neg Bool.false_ne_true]
  refine ⟨h.err, ?_⟩
  split
  · exact h.step
  · exact h.step.same rfl rfl rfl rfl rfl
theorem Burns.flush {D : DM} {most i : Nat} (h : Burns D most i) : Burns D.flushD most (i + 1) := by
  unfold DM.flushD
  split
  · exact h.step
  · exact h.step.same rfl rfl rfl rfl rfl

set_option maxRecDepth 10000 in
set_option maxHeartbeats 4000000 in
theorem driveFuses_walk (x0 : Int) (A : Option Addr) (n c : Nat) (ps : List (Int × Int)) (w : World) (h0 : i64 x0) (h : Pairs w A n c ps) :
    Calls Try.prog 5 #[.int .i64 x0, .slice A n c] w fun e w' => e = .returned (.bool true) ∧ Below w.heap.size w w' := by
  have hnc := h.2.1
  have hcm := h.2.2.1
  unfold maxLen at hcm
  have hmd0 := md_lt x0 (m := 41) (by omega)
  have C0 := fun w => kind_any x0 41 h0 (by omega) (by omega) w
  generalize md x0 41 = most at *
  go_enter Try.func5, Try.ntmps5
  go_wp2_with fail
  refine (shown_any _).mono ?_
  rintro e w1 ⟨rfl, b1⟩
  have hp := h.below b1
  have hz1 := b1.size
  clear h
  go_wp2_with fail
  refine (run_new 32 (by unfold sectors; omega) w1).mono ?_
  rintro e w2 ⟨bp, rfl, R2, b2⟩
  go_wp2_with fail
  refine (C0 _).mono ?_
  rintro e w2' ⟨rfl, rfl⟩
  go_wp2_with fail
  refine (run_fuse R2 (most : Int) (by omega)).mono ?_
  rintro e w3 ⟨rfl, R3, k3⟩
  have K3 := (kp_below (B := w1.heap.size) (X := fun _ => False) b2).trans k3
  have hB3 : Burns ((DM.mk0 32).fuse (most : Int)) most 0 := by
    refine ⟨rfl, by simp [DM.fuse, DM.mk0], ?_, ?_, by simp [DM.fuse, DM.mk0]⟩
    · show decide (0 ≤ (most : Int)) = true
      simp
    · show (most : Int).toNat = most - 0
      simp
  have hok3 : ((DM.mk0 32).fuse (most : Int)).ok 0 := ok_fuse (ok_mk0 32 0) _
  clear R2 b2 k3 C0
  go_wp2_with fail
  go_loopw [9] (fun i wr => ∃ (k : Nat) (D : DM), k ≤ n ∧ k ≤ 60 ∧ i = .int .i64 k ∧ Run wr w1.heap.size (fun _ => False) bp D ∧ D.ok k ∧ Burns D most k ∧ Kp w1.heap.size (fun _ => False) w1 wr) (fun i _ => n - (intOf i).toNat)
  case atStart => exact ⟨0, _, Nat.zero_le _, by omega, rfl, R3, hok3, hB3, K3⟩
  case round =>
    clear R3 K3 hB3 hok3
    obtain ⟨k, D, hkn, hk60, rfl, R, hok, hbu, K⟩ := hrel
    by_cases hgo : k < n ∧ k < 60
    · obtain ⟨hlt, hlt2⟩ := hgo
      obtain ⟨g, o, x, hx, rfl, hg, hc1, hc2, hb1, hb2⟩ := hp.at_ hlt
      obtain ⟨xa, xb⟩ := x
      have hd1 : wr.cell? ⟨g, o + k * 2, none⟩ = some (.int .i64 xa) := (K.cell (p := ⟨g, _, none⟩) hg (.inl hg)).trans hc1
      have hd2 : wr.cell? ⟨g, o + k * 2 + 1, none⟩ = some (.int .i64 xb) := (K.cell (p := ⟨g, _, none⟩) hg (.inl hg)).trans hc2
      have hix := fun w => run_index_pair w g o n c k hlt
      simp only at hb1 hb2
      have hmd := md_lt xa (m := 40) (by omega)
      have C1 := fun w => kind_any xa 40 hb1 (by omega) (by omega) w
      generalize md xa 40 = s at *
      clear hc1 hc2 hp hx
      by_cases hs : 32 ≤ s
      · have hs' : (32 : Int) ≤ (s : Int) := by omega
        have HF := run_flush R (m := k) (by omega) hok
        rw [hbu.err] at HF
        by_cases hm : k < most
        · rw [if_pos hm] at HF
          have hmin : min ((k : Int) + 1) (most : Int) = (k : Int) + 1 := by omega
          go_wp2_with fail
          refine (C1 _).mono ?_
          rintro e wq ⟨rfl, rfl⟩
          go_wp2_with fail
          refine HF.mono ?_
          rintro e w9 ⟨rfl, R9, k9⟩
          have H9 := hbu.flush
          have e1 : D.flushD.off = false := by rw [H9.off, decide_eq_false (by omega)]
          have e2 : D.flushD.steps = k + 1 := by rw [H9.steps]; omega
          have hlm : (k : Int) < (most : Int) := by omega
          go_wp2_with fail
          refine (run_on R9).mono ?_
          rw [e1]
          rintro e wq ⟨rfl, rfl⟩
          go_wp2_with fail
          refine (run_steps R9).mono ?_
          rw [e2]
          rintro e wq ⟨rfl, rfl⟩
          go_wp2_with fail
          exact ⟨⟨k + 1, _, by omega, by omega, by go_num, R9, ok_flush hok, H9, K.trans k9⟩, by simp [intOf]; omega⟩
        · rw [if_neg hm] at HF
          have hmin : min ((k : Int) + 1) (most : Int) = (most : Int) := by omega
          go_wp2_with fail
          refine (C1 _).mono ?_
          rintro e wq ⟨rfl, rfl⟩
          go_wp2_with fail
          refine HF.mono ?_
          rintro e w9 ⟨rfl, R9, k9⟩
          have H9 := hbu.flush
          have e1 : D.flushD.off = true := by rw [H9.off, decide_eq_true (by omega)]
          have e2 : D.flushD.steps = most := by rw [H9.steps]; omega
          have hlm : ¬ (k : Int) < (most : Int) := by omega
          go_wp2_with fail
          refine (run_on R9).mono ?_
          rw [e1]
          rintro e wq ⟨rfl, rfl⟩
          go_wp2_with fail
          refine (run_steps R9).mono ?_
          rw [e2]
          rintro e wq ⟨rfl, rfl⟩
          go_wp2_with fail
          exact ⟨⟨k + 1, _, by omega, by omega, by go_num, R9, ok_flush hok, H9, K.trans k9⟩, by simp [intOf]; omega⟩
      · have hs' : ¬ (32 : Int) ≤ (s : Int) := by omega
        have hs2 : s < 32 := by omega
        by_cases hm : k < most
        · have HE : Hid (D.writeE s (fill xb) = 0) := by have h := (hbu.write hs2 (fill_len xb)).1; rw [if_pos hm] at h; exact h
          have hmin : min ((k : Int) + 1) (most : Int) = (k : Int) + 1 := by omega
          go_wp2_with fail
          refine (C1 _).mono ?_
          rintro e wq ⟨rfl, rfl⟩
          go_wp2_with fail
          refine (filled_any xb _).mono ?_
          rintro e w8 ⟨rfl, o8, b8⟩
          go_wp2_with fail
          refine (run_write (R.same b8) s _ _ _ _ o8.sl (m := k) (by omega) hok).mono ?_
          rw [HE.out]
          rintro e w9 ⟨rfl, R9, k9⟩
          have H9 := (hbu.write hs2 (fill_len xb)).2
          have e1 : (D.writeD s (fill xb)).off = false := by rw [H9.off, decide_eq_false (by omega)]
          have e2 : (D.writeD s (fill xb)).steps = k + 1 := by rw [H9.steps]; omega
          have hlm : (k : Int) < (most : Int) := by omega
          go_wp2_with fail
          refine (run_on R9).mono ?_
          rw [e1]
          rintro e wq ⟨rfl, rfl⟩
          go_wp2_with fail
          refine (run_steps R9).mono ?_
          rw [e2]
          rintro e wq ⟨rfl, rfl⟩
          go_wp2_with fail
          exact ⟨⟨k + 1, _, by omega, by omega, by go_num, R9, ok_write hok _ _, H9, (K.trans (kp_below b8)).trans k9⟩, by simp [intOf]; omega⟩
        · have HE : Hid (D.writeE s (fill xb) = 4) := by have h := (hbu.write hs2 (fill_len xb)).1; rw [if_neg hm] at h; exact h
          have hmin : min ((k : Int) + 1) (most : Int) = (most : Int) := by omega
          go_wp2_with fail
          refine (C1 _).mono ?_
          rintro e wq ⟨rfl, rfl⟩
          go_wp2_with fail
          refine (filled_any xb _).mono ?_
          rintro e w8 ⟨rfl, o8, b8⟩
          go_wp2_with fail
          refine (run_write (R.same b8) s _ _ _ _ o8.sl (m := k) (by omega) hok).mono ?_
          rw [HE.out]
          rintro e w9 ⟨rfl, R9, k9⟩
          have H9 := (hbu.write hs2 (fill_len xb)).2
          have e1 : (D.writeD s (fill xb)).off = true := by rw [H9.off, decide_eq_true (by omega)]
          have e2 : (D.writeD s (fill xb)).steps = most := by rw [H9.steps]; omega
          have hlm : ¬ (k : Int) < (most : Int) := by omega
          go_wp2_with fail
          refine (run_on R9).mono ?_
          rw [e1]
          rintro e wq ⟨rfl, rfl⟩
          go_wp2_with fail
          refine (run_steps R9).mono ?_
          rw [e2]
          rintro e wq ⟨rfl, rfl⟩
          go_wp2_with fail
          exact ⟨⟨k + 1, _, by omega, by omega, by go_num, R9, ok_write hok _ _, H9, (K.trans (kp_below b8)).trans k9⟩, by simp [intOf]; omega⟩
    · have hcase : ¬ (k < n) ∨ (k < n ∧ ¬ k < 60) := by omega
      clear hgo hp
      have hcn : (D.crash []).n = 32 := (crashTo_n D [] D.n).trans hbu.n
      have hfi : (D.crash []).fine := ⟨hcn, rfl, rfl⟩
      have hokc : (D.crash []).ok k := ok_crash hok []
      have HW : Hid ((D.crash []).writeE (0 : Nat) (fill 5) = 0) := (hfi.write (s := 0) (by omega) (fill_len 5)).1
      have hon : (D.crash []).off = false := rfl
      have KB := b1.trans ((K.below (Nat.le_refl _)).mono hz1)
      have hzk := K.size
      by_cases hm : most < k
      · have hoff : D.off = true := by rw [hbu.off, decide_eq_true hm]
        have HR : Hid (D.readE 0 = 4) := by unfold Hid DM.readE; rw [hoff, if_pos rfl]
        rcases hcase with hlt | ⟨hlt, hlt2⟩
        all_goals (
          go_wp2_with fail
          refine (run_read R 0).mono ?_
          rw [HR.out]
          rintro e w4 ⟨A4, n4, X4, rfl, _, _, _, R4, b4⟩
          go_wp2_with fail
          refine (run_on R4).mono ?_
          rw [hoff]
          rintro e wq ⟨rfl, rfl⟩
          go_wp2_with fail
          refine (run_crash R4 none 0 0 [] (ints_nil _) (fun ad h => by cases h) (m := k) (by omega) hok).mono ?_
          rintro e w5 ⟨rfl, R5, k5⟩
          have KF := (KB.trans (b4.mono (by omega))).trans ((k5.below R4.1).mono hz1)
          go_wp2_with fail
          refine (run_on R5).mono ?_
          rw [hon]
          rintro e wq ⟨rfl, rfl⟩
          go_wp2_with fail
          refine (filled_any 5 _).mono ?_
          rintro e w6 ⟨rfl, o6, b6⟩
          go_wp2_with fail
          refine (run_write (R5.same b6) 0 _ _ _ _ o6.sl (m := k) (by omega) hokc).mono ?_
          rw [show (D.crash []).writeE 0 (fill 5) = 0 from HW.out]
          rintro e w7 ⟨rfl, R7, k7⟩
          have hz6 := b6.size
          have hz5 := k5.size
          have hz4 := b4.size
          have KG := (KF.trans (b6.mono (by omega))).trans ((k7.below (by have := R5.1; omega)).mono hz1)
          go_wp2_with fail
          go_ret
          exact ⟨by first | rfl | (simp [go_sem]; done), KG⟩)
      · have hoff : D.off = false := by rw [hbu.off, decide_eq_false hm]
        have HR : Hid (D.readE 0 = 0) := by unfold Hid DM.readE; rw [hoff, hbu.n, if_neg Bool.false_ne_true, if_pos (by omega)]
        have hlt : ¬ (k < n) := by omega
        clear hcase
        all_goals (
          go_wp2_with fail
          refine (run_read R 0).mono ?_
          rw [HR.out]
          rintro e w4 ⟨A4, n4, X4, rfl, _, _, _, R4, b4⟩
          go_wp2_with fail
          refine (run_on R4).mono ?_
          rw [hoff]
          rintro e wq ⟨rfl, rfl⟩
          go_wp2_with fail
          refine (run_crash R4 none 0 0 [] (ints_nil _) (fun ad h => by cases h) (m := k) (by omega) hok).mono ?_
          rintro e w5 ⟨rfl, R5, k5⟩
          have KF := (KB.trans (b4.mono (by omega))).trans ((k5.below R4.1).mono hz1)
          go_wp2_with fail
          refine (run_on R5).mono ?_
          rw [hon]
          rintro e wq ⟨rfl, rfl⟩
          go_wp2_with fail
          refine (filled_any 5 _).mono ?_
          rintro e w6 ⟨rfl, o6, b6⟩
          go_wp2_with fail
          refine (run_write (R5.same b6) 0 _ _ _ _ o6.sl (m := k) (by omega) hokc).mono ?_
          rw [show (D.crash []).writeE 0 (fill 5) = 0 from HW.out]
          rintro e w7 ⟨rfl, R7, k7⟩
          have hz6 := b6.size
          have hz5 := k5.size
          have hz4 := b4.size
          have KG := (KF.trans (b6.mono (by omega))).trans ((k7.below (by have := R5.1; omega)).mono hz1)
          go_wp2_with fail
          go_ret
          exact ⟨by first | rfl | (simp [go_sem]; done), KG⟩)
end Go.Proofs.Ytbikmnjagfkajaa
