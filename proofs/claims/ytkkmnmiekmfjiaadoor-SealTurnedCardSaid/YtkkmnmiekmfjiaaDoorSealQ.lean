/- The law SealBack: for every input it returns true, and what came in reads as it did. -/
import Derived.Test.YtkkmnmiekmfjiaaDoorSealO
import Derived.Test.YtkkmnmiekmfjiaaDoorLaw
namespace Go.Proofs.YtkkmnmiekmfjiaaDoor
open Go Go.RowKit Go.Proofs

theorem run_take_seal (h : Hd) (l : List UInt8) (hE : sealE h l = 0) : h.ok = true ∧ l.length ≤ 236 ∧ sealB h l = blkL h l := by
  unfold sealE at hE
  unfold sealB
  split at hE
  · rename_i hok
    split at hE
    · rename_i hl
      exact ⟨hok, hl, by rw [if_pos hok, if_pos hl]⟩
    · cases hE
  · cases hE
theorem seal_no (h : Hd) (l : List UInt8) (hE : ¬ sealE h l = 0) : sealB h l = [] := by
  unfold sealE at hE
  unfold sealB
  split
  · rename_i hok
    rw [if_pos hok] at hE
    split
    · rename_i hl
      rw [if_pos hl] at hE
      exact absurd rfl hE
    · rfl
  · rfl

set_option maxRecDepth 10000 in
set_option maxHeartbeats 4000000 in
theorem sealBack_walk (h : Hd) (A : Option Addr) (n c : Nat) (l : List UInt8) (x0 x1 : Int) (w : World) (hs : Sl w A n c l) (ht : Tab w) :
    Calls Tryd.prog 5 #[.agg #[.int .i64 h.kind, .int .i64 h.addr, .int .i64 h.count, .int .i64 h.level, .int .i64 h.gen], .slice A n c, .agg #[.int .i64 x0, .int .i64 x1]] w fun e w' => e = .returned (.bool true) ∧ Below w.heap.size w w' := by
  have hlen := hs.len
  go_enter Tryd.func5, Tryd.ntmps5
  go_wp2_with fail
  have H1 : HB ((w.alloc (.cells #[.int .i64 h.kind, .int .i64 h.addr, .int .i64 h.count, .int .i64 h.level, .int .i64 h.gen] 23)).alloc (.cells #[.int .i64 x0, .int .i64 x1] 34)) w.heap.size h := HB.below ⟨_, heap_alloc_new w _⟩ ((Below.refl _ _).alloc (Nat.le_refl _) _) (by simp)
  have hb1 : Below w.heap.size w ((w.alloc (.cells #[.int .i64 h.kind, .int .i64 h.addr, .int .i64 h.count, .int .i64 h.level, .int .i64 h.gen] 23)).alloc (.cells #[.int .i64 x0, .int .i64 x1] 34)) := ((Below.refl _ _).alloc (Nat.le_refl _) _).alloc (by simp) _
  have X1 : ((w.alloc (.cells #[.int .i64 h.kind, .int .i64 h.addr, .int .i64 h.count, .int .i64 h.level, .int .i64 h.gen] 23)).alloc (.cells #[.int .i64 x0, .int .i64 x1] 34)).heap[w.heap.size + 1]? = some (.cells #[.int .i64 x0, .int .i64 x1] 34 (0, 0)) := by
    have := heap_alloc_new (w.alloc (.cells #[.int .i64 h.kind, .int .i64 h.addr, .int .i64 h.count, .int .i64 h.level, .int .i64 h.gen] 23)) (.cells #[.int .i64 x0, .int .i64 x1] 34)
    rwa [World.size_alloc] at this
  have z1 : ((w.alloc (.cells #[.int .i64 h.kind, .int .i64 h.addr, .int .i64 h.count, .int .i64 h.level, .int .i64 h.gen] 23)).alloc (.cells #[.int .i64 x0, .int .i64 x1] 34)).heap.size = w.heap.size + 2 := by simp
  generalize (w.alloc (.cells #[.int .i64 h.kind, .int .i64 h.addr, .int .i64 h.count, .int .i64 h.level, .int .i64 h.gen] 23)).alloc (.cells #[.int .i64 x0, .int .i64 x1] 34) = w1 at H1 hb1 X1 z1 ⊢
  refine (shown_any w1 (ht.below hb1 ht.1)).mono ?_
  rintro e w2 ⟨rfl, hb2⟩
  have hB2 := hb1.trans (hb2.mono hb1.size)
  have H2 := H1.below hb2 (by omega)
  have X2 := (hb2.block (w.heap.size + 1) (by omega)).trans X1
  have z2 := hb2.size
  have hs2 := hs.below hB2
  clear H1 X1 hb2
  go_wp2_with (first
    | (refine wp_load_hd rfl (.tmp 3) rfl w.heap.size rfl h H2 ?_)
    | fail)
  refine (seal_any h A n c l w2 hs2 (ht.below hB2 ht.1)).mono ?_
  rintro e w3 ⟨A3, n3, c3, rfl, own3, hf, hb3⟩
  have hB3 := hB2.trans (hb3.mono hB2.size)
  have H3 := H2.below hb3 (by omega)
  have X3 := (hb3.block (w.heap.size + 1) (by omega)).trans X2
  have z3 := hb3.size
  clear H2 X2
  obtain ⟨E, hE⟩ : ∃ E, sealE h l = E := ⟨_, rfl⟩
  rw [hE] at hf ⊢
  by_cases h0 : E = 0
  · subst h0
    obtain ⟨g, rfl, rfl, rfl⟩ := hf rfl
    obtain ⟨hok, hl, hB⟩ := run_take_seal h l hE
    rw [hB] at own3
    obtain ⟨p1, p2, p3⟩ := blk_open h l hok hl
    have q0 : w3.cell? ⟨w.heap.size, 0, none⟩ = some (.int .i64 h.kind) := H3.at_ 0
    go_wp2_with fail
    have hO := open_says (some ⟨g, 0, none⟩) 256 256 _ w3 own3.sl (ht.below hB3 ht.1)
    rw [p1, p2, p3] at hO
    refine hO.mono ?_
    rintro e w4 ⟨A4, n4, c4, rfl, own4, hb4⟩
    have hn4 : n4 = 236 := by have := own4.len; simp at this; omega
    subst hn4
    have hB4 := hB3.trans (hb4.mono hB3.size)
    have H4 := H3.below hb4 (by omega)
    have X4 := (hb4.block (w.heap.size + 1) (by omega)).trans X3
    have z4 := hb4.size
    have own34 := own3.below hb4
    clear H3 X3 hO q0
    have q0 : w4.cell? ⟨w.heap.size, 0, none⟩ = some (.int .i64 h.kind) := H4.at_ 0
    have q1 : w4.cell? ⟨w.heap.size, 1, none⟩ = some (.int .i64 h.addr) := H4.at_ 2
    go_wp2_with (first
      | (refine wp_store_hd rfl (.tmp 10) (.tmp 38) rfl w4.heap.size rfl h _ rfl (HB.zero w4 _) (by simp) ?_; intro w5 hr5 hb5 T5; obtain ⟨b45, hz45⟩ := over hb5; replace q0 := (b45.cell (p := ⟨w.heap.size, 0, none⟩) (by show w.heap.size < _; omega)).trans q0; replace q1 := (b45.cell (p := ⟨w.heap.size, 1, none⟩) (by show w.heap.size < _; omega)).trans q1)
      | fail)
    have hB5 := hB4.trans (b45.mono hB4.size)
    have H5 := H4.below b45 (by omega)
    have X5 := (b45.block (w.heap.size + 1) (by omega)).trans X4
    have own35 := own34.below b45
    have own45 := own4.below b45
    clear H4 X4 q0 q1
    have hC := check_says (some ⟨g, 0, none⟩) 256 256 _ h.kind h.addr w5 own35.sl (ht.below hB5 ht.1)
    obtain ⟨c1, c2, c3'⟩ := ck_yes (l := blkL h l) (k := h.kind) (a := h.addr) (by rw [blk_check h l hok hl]; exact decide_eq_true ⟨rfl, rfl⟩)
    rw [c1, c2, c3', p1] at hC
    refine hC.mono ?_
    rintro e w6 ⟨A6, n6, c6, rfl, own6, hb6⟩
    have hB6 := hB5.trans (hb6.mono hB5.size)
    have H6 := H5.below hb6 (by omega)
    have X6 := (hb6.block (w.heap.size + 1) (by omega)).trans X5
    have hr6 := range_below hr5 hb6 (by omega)
    have own36 := own35.below hb6
    have own46 := own45.below hb6
    have z6 := hb6.size
    clear H5 X5 hC hr5
    have y0 : w6.cell? ⟨w.heap.size + 1, 0, none⟩ = some (.int .i64 x0) := by rw [cell_of_row _ _ _ _ _ _ X6]; rfl
    have y1 : w6.cell? ⟨w.heap.size + 1, 1, none⟩ = some (.int .i64 x1) := by rw [cell_of_row _ _ _ _ _ _ X6]; rfl
    go_wp2_with (first
      | (refine wp_store_hd rfl (.tmp 13) (.tmp 48) rfl w6.heap.size rfl h _ rfl (HB.zero w6 _) (by simp) ?_; intro w7 hr7 hb7 T7; obtain ⟨b67, hz67⟩ := over hb7; replace y0 := (b67.cell (p := ⟨w.heap.size + 1, 0, none⟩) (by show w.heap.size + 1 < _; omega)).trans y0; replace y1 := (b67.cell (p := ⟨w.heap.size + 1, 1, none⟩) (by show w.heap.size + 1 < _; omega)).trans y1)
      | fail)
    have hB7 := hB6.trans (b67.mono hB6.size)
    have H7 := H6.below b67 (by omega)
    have X7 := (b67.block (w.heap.size + 1) (by omega)).trans X6
    have hr77 := range_below hr6 b67 (by omega)
    have own37 := own36.below b67
    have own47 := own46.below b67
    clear H6 X6 hr6 y0 y1 hr7
    have hC := check_says (some ⟨g, 0, none⟩) 256 256 _ x0 x1 w7 own37.sl (ht.below hB7 ht.1)
    have hck := blk_check h l hok hl x0 x1
    obtain ⟨K, hK⟩ : ∃ K, ckH (blkL h l) x0 x1 = K := ⟨_, rfl⟩
    obtain ⟨F, hFF⟩ : ∃ F, ckE (blkL h l) x0 x1 = F := ⟨_, rfl⟩
    have hFy : h.kind = x0 ∧ h.addr = x1 → F = 0 := fun hh => by
      rw [← hFF]; unfold ckE; rw [hck, if_pos (decide_eq_true hh)]
    have hFn : ¬ (h.kind = x0 ∧ h.addr = x1) → F = 3 := fun hh => by
      rw [← hFF]; unfold ckE; rw [hck, if_neg (by simpa using hh)]
    rw [hK, hFF] at hC
    refine hC.mono ?_
    rintro e w8 ⟨A8, n8, c8, rfl, own8, hb8⟩
    have hB8 := hB7.trans (hb8.mono hB7.size)
    have H8 := H7.below hb8 (by omega)
    have X8 := (hb8.block (w.heap.size + 1) (by omega)).trans X7
    have hr8 := range_below hr77 hb8 (by omega)
    have own48 := own47.below hb8
    have z8 := hb8.size
    clear H7 X7 hr77 hC
    have hn236 : n ≤ 236 := by omega
    obtain ⟨ad, rfl, hadl, _⟩ := own48.sl.cell (k := 0) (by omega)
    have hc4 := own48.sl.cap
    have hc4m := own48.sl.max
    unfold maxLen at hc4m
    go_wp2_with (first
      | (refine wp_store_hd rfl (.tmp 16) (.tmp 58) rfl w8.heap.size rfl K _ rfl (HB.zero w8 _) (by simp) ?_; intro w9 hr9 hb9 T9; obtain ⟨b89, hz89⟩ := over hb9)
      | fail)
    have hB9 := hB8.trans (b89.mono hB8.size)
    have H9 := H8.below b89 (by omega)
    have X9 := (b89.block (w.heap.size + 1) (by omega)).trans X8
    obtain ⟨d0, d1, d2, d3, d4⟩ := five_cells (range_below hr8 b89 (by omega))
    have own49 := own48.below b89
    clear H8 X8 hr8 own48 hr9 own37 hck
    have u0 : w9.cell? ⟨w.heap.size, 0, none⟩ = some (.int .i64 h.kind) := H9.at_ 0
    have u1 : w9.cell? ⟨w.heap.size, 1, none⟩ = some (.int .i64 h.addr) := H9.at_ 2
    have u2 : w9.cell? ⟨w.heap.size, 2, none⟩ = some (.int .i64 h.count) := H9.at_ 3
    have u3 : w9.cell? ⟨w.heap.size, 3, none⟩ = some (.int .i64 h.level) := H9.at_ 1
    have u4 : w9.cell? ⟨w.heap.size, 4, none⟩ = some (.int .i64 h.gen) := H9.at_ 4
    have y0 : w9.cell? ⟨w.heap.size + 1, 0, none⟩ = some (.int .i64 x0) := by rw [cell_of_row _ _ _ _ _ _ X9]; rfl
    have y1 : w9.cell? ⟨w.heap.size + 1, 1, none⟩ = some (.int .i64 x1) := by rw [cell_of_row _ _ _ _ _ _ X9]; rfl
    have sb := own49.sl.take (k := n) (by omega)
    have eb : (l ++ List.replicate (236 - l.length) 0).take n = l := List.take_left' hlen
    rw [eb] at sb
    have k1 := fun m => str_bs (sb.drewN m)
    have k2 := fun m => str_bs ((hs.below hB9).drewN m)
    have hzero : ∀ k, n ≤ k → k < 236 → w9.cell? (ad.add k) = some (.int .u8 0) := fun k h1 h2 => by
      obtain ⟨ad', e1, _, hc⟩ := own49.sl.cell (k := k) h2
      injection e1 with e1
      subst e1
      rw [hc]
      have : byt (l ++ List.replicate (236 - l.length) 0) k = 0 := by
        unfold byt
        rw [List.getD_eq_getElem?_getD, List.getElem?_append_right (by omega), List.getElem?_replicate, if_pos (by omega)]
        rfl
      rw [this]; rfl
    have hni : (n : Int) ≤ (c4 : Int) := by omega
    have hni0 : (0 : Int) ≤ (n : Int) := by omega
    clear sb eb own49 H9 X9 p1 p2 p3
    go_quiet (fail)
    go_wp2
    go_loop [19] (fun i => ∃ k : Nat, n ≤ k ∧ k ≤ 236 ∧ i = .int .i64 (k : Int)) (fun i => 236 - (intOf i).toNat)
    case atStart => exact ⟨n, Nat.le_refl _, hn236, rfl⟩
    case round =>
      obtain ⟨k, hk1, hk2, rfl⟩ := hrel
      by_cases hk : k < 236
      · have hz := hzero k hk1 hk
        have hki : (0 : Int) ≤ (k : Int) := by omega
        go_wp2
        exact ⟨⟨k + 1, by omega, by omega, by go_num⟩, by simp [intOf]; omega⟩
      · by_cases hh : h.kind = x0 ∧ h.addr = x1
        · have hF0 := hFy hh
          subst hF0
          obtain ⟨m1, m2⟩ := hh
          subst m1
          subst m2
          clear hzero k1 k2
          go_wp2
          go_ret
          exact ⟨by first | rfl | (simp [go_sem]; done) | simp [go_sem, m2], below_drewN hB9 _⟩
        · have hF3 := hFn hh
          subst hF3
          clear hzero k1 k2 hFy hFn
          by_cases m1 : h.kind = x0
          · subst m1
            have m2 : ¬ x1 = h.addr := fun e => hh ⟨rfl, e.symm⟩
            have m3 : decide (x1 = h.addr) = false := decide_eq_false m2
            clear hh
            go_wp2
            go_ret
            exact ⟨by first | rfl | (simp [go_sem]; done) | simp [go_sem, m2], below_drewN hB9 _⟩
          · have m2 : ¬ x0 = h.kind := fun e => m1 e.symm
            have m3 : decide (x0 = h.kind) = false := decide_eq_false m2
            clear hh
            go_wp2
            go_ret
            exact ⟨by first | rfl | (simp [go_sem]; done) | simp [go_sem, m2], below_drewN hB9 _⟩
  · have hB := seal_no h l (by rw [hE]; exact h0)
    rw [hB] at own3
    have hn3 : n3 = 0 := by have := own3.len; simpa using this.symm
    subst hn3
    have hEd : decide (E = 0) = false := decide_eq_false h0
    go_wp2
    go_ret
    exact ⟨by first | rfl | simp [go_sem], hB3⟩
end Go.Proofs.YtkkmnmiekmfjiaaDoor
