/- The law DriveTurns: for every input it returns true, and what came in reads as it did. -/
import Derived.Test.YtbikmnjagfkajaaDrvT
namespace Go.Proofs.Ytbikmnjagfkajaa
open Go Go.RowKit Go.Proofs

theorem newest_turn (D : DM) (s a m : Nat) : (D.turn s a m).newest s = turnB a m (D.newest s) := by
  unfold DM.newest DM.turn
  simp only [upd_same]
  rcases List.eq_nil_or_concat (D.cac s) with h | ⟨l, x, h⟩
  · rw [h]; rfl
  · rw [h]; simp
theorem turn_turn (a m : Nat) (l : List UInt8) : turnB a m (turnB a m l) = l := by
  unfold turnB
  by_cases h : a < l.length
  · have e1 : UInt8.ofNat (byt l a) = l[a] := by unfold byt; rw [List.getD_eq_getElem?_getD, List.getElem?_eq_getElem h]; simp
    have e2 : UInt8.ofNat (byt (l.set a (UInt8.ofNat (byt l a) ^^^ UInt8.ofNat m)) a) = UInt8.ofNat (byt l a) ^^^ UInt8.ofNat m := by
      unfold byt; rw [List.getD_eq_getElem?_getD, List.getElem?_set_self h]
      show UInt8.ofNat (UInt8.ofNat (byt l a) ^^^ UInt8.ofNat m).toNat = _
      rw [UInt8.ofNat_toNat]; rfl
    rw [e2, List.set_set, e1, UInt8.xor_assoc, UInt8.xor_self, UInt8.xor_zero, List.set_getElem_self]
  · rw [List.set_eq_of_length_le (l := l) (by omega), List.set_eq_of_length_le (by omega)]

theorem byt_eq (l : List UInt8) (k : Nat) : byt l k = (l.getD k 0).toNat := rfl
theorem byt_turn (a m : Nat) (l : List UInt8) (ha : a < l.length) (hm : m ≤ 255) : (byt (turnB a m l) a : Int) = bits .xor .u8 (byt l a : Int) (m : Int) := by
  have h := bv_xor (byt l a) m (byt_le _ _) hm
  unfold bv at h
  injection h with _ h
  rw [← h, byt_eq (turnB a m l), turnB, List.getD_eq_getElem?_getD, List.getElem?_set_self ha]; rfl
theorem byt_turn_other (a m k : Nat) (l : List UInt8) (h : k ≠ a) : byt (turnB a m l) k = byt l k := by
  rw [byt_eq, byt_eq, turnB, List.getD_eq_getElem?_getD, List.getElem?_set_ne (fun e => h e.symm), List.getD_eq_getElem?_getD]
set_option maxRecDepth 10000 in
set_option maxHeartbeats 4000000 in
theorem driveTurns_walk (A : Option Addr) (n c : Nat) (ps : List (Int × Int)) (x0 x1 x2 : Int) (w : World) (h : Pairs w A n c ps) (h0 : i64 x0) (h1 : i64 x1) (h2 : i64 x2) :
    Calls Try.prog 6 #[.slice A n c, .agg #[.int .i64 x0, .int .i64 x1, .int .i64 x2]] w fun e w' => e = .returned (.bool true) ∧ Below w.heap.size w w' := by
  have hnc := h.2.1
  have hcm := h.2.2.1
  unfold maxLen at hcm
  go_enter Try.func6, Try.ntmps6
  go_wp2_with fail
  refine (shown_any _).mono ?_
  rintro e w1 ⟨rfl, b1⟩
  have hz1 : w.heap.size + 1 ≤ w1.heap.size := by have := b1.size; simpa using this
  have hx0 : w1.cell? ⟨w.heap.size, 0, none⟩ = some (.int .i64 x0) := by rw [b1.cell (by simp)]; exact newCell w _ _ 0
  have hx1 : w1.cell? ⟨w.heap.size, 1, none⟩ = some (.int .i64 x1) := by rw [b1.cell (by simp)]; exact newCell w _ _ 1
  have hx2 : w1.cell? ⟨w.heap.size, 2, none⟩ = some (.int .i64 x2) := by rw [b1.cell (by simp)]; exact newCell w _ _ 2
  have bw := below_new _ (b1.mono (B' := w.heap.size) (by simp)) (Nat.le_refl _)
  have hp := h.below bw
  clear b1 h
  go_wp2_with fail
  refine (run_new 32 (by unfold sectors; omega) w1).mono ?_
  rintro e w2 ⟨bp, rfl, R2, b2⟩
  have K2 : Kp w1.heap.size (fun _ => False) w1 w2 := kp_below b2
  go_wp2_with fail
  go_loopw [8] (fun i wr => ∃ (k : Nat) (D : DM), k ≤ n ∧ k ≤ 20 ∧ i = .int .i64 k ∧ Run wr w1.heap.size (fun _ => False) bp D ∧ D.ok k ∧ D.fine ∧ Kp w1.heap.size (fun _ => False) w1 wr) (fun i _ => n - (intOf i).toNat)
  case atStart => exact ⟨0, _, Nat.zero_le _, by omega, rfl, R2, ok_mk0 32 0, fine_mk0, K2⟩
  case round =>
    clear K2 R2 b2
    obtain ⟨k, D, hkn, hk20, rfl, R, hok, hfi, K⟩ := hrel
    by_cases hgo : k < n ∧ k < 20
    · obtain ⟨hlt, hlt2⟩ := hgo
      obtain ⟨g, o, x, hx, rfl, hg, hc1, hc2, hb1, hb2⟩ := hp.at_ hlt
      have hS : ∀ w', Kp w1.heap.size (fun _ => False) w1 w' → w'.cell? ⟨g, o + k * 2, none⟩ = some (.int .i64 x.1) ∧ w'.cell? ⟨g, o + k * 2 + 1, none⟩ = some (.int .i64 x.2) ∧ Kp w1.heap.size (fun _ => False) w1 w' := fun w' k =>
        ⟨(k.cell (p := ⟨g, _, none⟩) hg (.inl hg)).trans hc1, (k.cell (p := ⟨g, _, none⟩) hg (.inl hg)).trans hc2, k⟩
      have hix := fun w => run_index_pair w g o n c k hlt
      have RD : Run wr.drew w1.heap.size (fun _ => False) bp D := R.same ((Below.refl _ _).drew)
      have KD : Kp w1.heap.size (fun _ => False) w1 wr.drew := K.trans (kp_below ((Below.refl _ _).drew))
      clear hc1 hc2 hx0 hx1 hx2 hp hx
      obtain ⟨xa, xb⟩ := x
      simp only at hS hb1 hb2
      have hmd := md_lt xa (m := 32) (by omega)
      go_wp2_with fail
      go_region_held3 (fun w' => w'.cell? ⟨g, o + k * 2, none⟩ = some (.int .i64 xa) ∧ w'.cell? ⟨g, o + k * 2 + 1, none⟩ = some (.int .i64 xb) ∧ Kp w1.heap.size (fun _ => False) w1 w')
        (first | assumption | exact hS _ KD | (go_split_ands; exact hS _ (Kp.trans ‹Kp w1.heap.size (fun _ => False) w1 _› (kp_below ‹Below (World.heap _).size _ _›))) | (go_split_ands; exact hS _ (Kp.trans ‹Kp w1.heap.size (fun _ => False) w1 _› ‹Kp w1.heap.size (fun _ => False) _ _›)))
        (first
          | (go_at_call 12; refine (kind_any xa 32 hb1 (by omega) (by omega) _).mono ?_; rintro e w' ⟨rfl, rfl⟩)
          | (go_at_call 13; refine (filled_any _ _).mono ?_; rintro e w' ⟨rfl, o', b'⟩)
          | (go_at_call 14; refine (run_write (RD.same ‹Below (World.heap _).size _ _›) _ _ _ _ _ (Own.sl ‹Own _ _ _ _ _ _ _›) (by omega) hok).mono ?_; rintro e w' ⟨rfl, R', k'⟩))
      all_goals (
        go_wp2_with fail
        go_split_ands
        exact ⟨⟨k + 1, _, by omega, by omega, by go_num, ‹Run _ w1.heap.size (fun _ => False) bp (D.writeD _ _)›, ok_write hok _ _, hfi.writeD hmd (fill_len _), ‹Kp w1.heap.size (fun _ => False) w1 _›⟩, by simp [intOf]; omega⟩)
    · have hcase : ¬ (k < n) ∨ (k < n ∧ ¬ k < 20) := by omega
      clear hgo hp
      have hy0 : wr.cell? ⟨w.heap.size, 0, none⟩ = some (.int .i64 x0) := by rw [K.cell (show w.heap.size < w1.heap.size by omega) (.inl (show w.heap.size < w1.heap.size by omega))]; exact hx0
      have hy1 : wr.cell? ⟨w.heap.size, 1, none⟩ = some (.int .i64 x1) := by rw [K.cell (show w.heap.size < w1.heap.size by omega) (.inl (show w.heap.size < w1.heap.size by omega))]; exact hx1
      have hy2 : wr.cell? ⟨w.heap.size, 2, none⟩ = some (.int .i64 x2) := by rw [K.cell (show w.heap.size < w1.heap.size by omega) (.inl (show w.heap.size < w1.heap.size by omega))]; exact hx2
      clear hx0 hx1 hx2
      have hs := md_lt x0 (m := 32) (by omega)
      have ha := md_lt x1 (m := 256) (by omega)
      have hm := md_lt x2 (m := 256) (by omega)
      have C1 := fun w => kind_any x0 32 h0 (by omega) (by omega) w
      have C2 := fun w => kind_any x1 256 h1 (by omega) (by omega) w
      have C3 := fun w => kind_any x2 256 h2 (by omega) (by omega) w
      generalize md x0 32 = s at *
      generalize md x1 256 = a at *
      generalize md x2 256 = m at *
      have hmay : D.mayTurn s a m = true := by unfold DM.mayTurn; rw [decide_eq_true_iff, hfi.n]; omega
      have hcor : D.corrupt s a m = D.turn s a m := by unfold DM.corrupt; rw [hmay, if_pos rfl]; simp
      have hfi2 : (D.turn s a m).fine := ⟨hfi.n, hfi.off, hfi.fused⟩
      have hmay2 : (D.turn s a m).mayTurn s a m = true := hmay
      have hcor2 : (D.turn s a m).corrupt s a m = (D.turn s a m).turn s a m := by unfold DM.corrupt; rw [hmay2, if_pos rfl]; simp
      have hfi3 : ((D.turn s a m).turn s a m).fine := ⟨hfi.n, hfi.off, hfi.fused⟩
      have hok2 : (D.turn s a m).ok k := by have := ok_corrupt hok s a m; rw [hcor] at this; exact this
      have e1 := newest_turn D s a m
      have e2 := newest_turn (D.turn s a m) s a m
      rw [e1, turn_turn] at e2
      have KB := bw.trans ((K.below (Nat.le_refl _)).mono (show w.heap.size ≤ w1.heap.size by omega))
      have E1 := Lib.hid hmay
      have E2 := Lib.hid hcor
      have E3 := Lib.hid hmay2
      have E4 := Lib.hid hcor2
      have E5 := Lib.hid e1
      have E6 := Lib.hid e2
      clear hmay hcor hmay2 hcor2 e1 e2
      rcases hcase with hlt | ⟨hlt, hlt2⟩
      all_goals (
        go_wp2_with fail
        refine (C1 _).mono ?_
        rintro e wq ⟨rfl, rfl⟩
        go_wp2_with fail
        refine (C2 _).mono ?_
        rintro e wq ⟨rfl, rfl⟩
        go_wp2_with fail
        refine (C3 _).mono ?_
        rintro e wq ⟨rfl, rfl⟩
        clear C1 C2 C3 hy0 hy1 hy2
        go_wp2_with fail
        refine (run_read R s).mono ?_
        rintro e w3 ⟨A3, n3, X3, rfl, _, x3, H3, R3, b3⟩
        rw [(hfi.read hs).1]
        rw [(hfi.read hs).2] at H3
        clear R
        go_wp2_with fail
        refine (run_corrupt R3 s a m (m := k) (by omega) hok).mono ?_
        rw [E1.out, if_pos rfl, E2.out]
        rintro e w4 ⟨rfl, R4, k4⟩
        have H4 := H3.kp k4
        go_wp2_with fail
        refine (run_read R4 s).mono ?_
        rintro e w5 ⟨A5, n5, X5, rfl, _, x5, H5, R5, b5⟩
        rw [(hfi2.read hs).1]
        rw [(hfi2.read hs).2, E5.out] at H5
        replace H4 := (H4.below b5).more x5
        have KB5 := ((KB.trans (b3.mono KB.size)).trans ((k4.below (by have := R3.1; omega)).mono (show w.heap.size ≤ w1.heap.size by omega))).trans (b5.mono (by have := KB.size; have := b3.size; have := k4.size; omega))
        have hl3 : n3 = 256 := by have := H4.1.len; have h6 := R5.2.2; obtain ⟨S, ⟨_, _, _, _, _, L6⟩, _⟩ := h6; have h7 := L6.newest_len s; rw [E5.out, turnB_len] at h7; omega
        have hl5 : n5 = 256 := by have := H5.1.len; rw [turnB_len] at this; have := H4.1.len; omega
        subst hl3 hl5
        clear H3 R3 R4 k4 b3 b5 KB K
        have hmod : (m : Int) % 256 = (m : Int) := by omega
        generalize hlw : D.newest s = lw at *
        have KW : ∀ B', B' ≤ w.heap.size → Below B' w w5 := fun B' hB => KB5.mono hB
        go_wp2_with fail
        go_loopw [17] (fun i wr => ∃ q : Nat, q ≤ 256 ∧ i = .int .i64 q ∧ wr = w5) (fun i _ => 256 - (intOf i).toNat)
        case atStart => exact ⟨0, by omega, rfl, rfl⟩
        case round =>
          obtain ⟨q, hq, rfl, rfl⟩ := hrel
          by_cases hq2 : q < 256
          · obtain ⟨ad3, rfl, _, c3⟩ := H4.1.cell (k := q) hq2
            obtain ⟨ad5, rfl, _, c5⟩ := H5.1.cell (k := q) hq2
            by_cases hqa : q = a
            · subst hqa
              rw [byt_turn _ _ _ (by have := H4.1.len; omega) (by omega)] at c5
              go_wp2_with fail
              exact ⟨⟨q + 1, by omega, by go_num, by first | rfl | trivial⟩, by simp [intOf]; omega⟩
            · rw [byt_turn_other _ _ _ _ hqa] at c5
              have hqa' : ((q : Int) == (a : Int)) = false := by rw [beq_eq_false_iff_ne]; omega
              go_wp2_with fail
              exact ⟨⟨q + 1, by omega, by go_num, by first | rfl | trivial⟩, by simp [intOf]; omega⟩
          · obtain rfl : q = 256 := by omega
            go_wp2_with fail
            refine (run_corrupt R5 s a m (m := k) (by omega) hok2).mono ?_
            rw [E3.out, if_pos rfl, E4.out]
            rintro e w6 ⟨rfl, R6, k6⟩
            have H6 := H4.kp k6
            go_wp2_with fail
            refine (run_read R6 s).mono ?_
            rintro e w7 ⟨A7, n7, X7, rfl, _, x7, H7, R7, b7⟩
            rw [(hfi3.read hs).1]
            rw [(hfi3.read hs).2, E6.out] at H7
            replace H6 := (H6.below b7).more x7
            have KF := (KB5.trans ((k6.below R5.1).mono (show w.heap.size ≤ w1.heap.size by omega))).trans (b7.mono (by have := KB5.size; have := k6.size; omega))
            have k1 := conv_bs H6.1
            have k2 := conv_bs H7.1
            clear H4 H5 H6 H7 R5 R6 R7 k6 b7
            go_wp2_with fail
            go_ret
            exact ⟨by first | rfl | (simp [go_sem]; done), KF⟩)
end Go.Proofs.Ytbikmnjagfkajaa
