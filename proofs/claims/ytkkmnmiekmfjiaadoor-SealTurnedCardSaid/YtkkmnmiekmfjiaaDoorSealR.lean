/- The law SealTurned: for every input it returns true, and what came in reads as it did. -/
import Derived.Test.YtkkmnmiekmfjiaaDoorSealQ
import Derived.Test.YtkkmnmiekmfjiaaDoorLaw
namespace Go.Proofs.YtkkmnmiekmfjiaaDoor
open Go Go.RowKit Go.Proofs

theorem turn_byte (b c : UInt8) (hc : c ≠ 0) : b ^^^ c ≠ b := by
  intro h
  apply hc
  have h2 : b ^^^ (b ^^^ c) = b ^^^ b := by rw [h]
  rw [← UInt8.xor_assoc, UInt8.xor_self, UInt8.zero_xor] at h2
  exact h2
theorem bv_xor (x y : Nat) (hx : x ≤ 255) (hy : y ≤ 255) : bv (UInt8.ofNat x ^^^ UInt8.ofNat y) = .int .u8 (bits .xor .u8 (x : Int) (y : Int)) := by
  rw [u8_xor_nat x y (by omega) (by omega)]
  unfold bv
  rw [UInt8.toNat_xor, UInt8.toNat_ofNat', UInt8.toNat_ofNat', Nat.mod_eq_of_lt (by omega), Nat.mod_eq_of_lt (by omega)]
/-- A block with one byte turned is none. -/
theorem block_turned (l : List UInt8) (k : Nat) (d : UInt8) (hk : k < l.length) (hd : d ≠ l[k]) (hok : okB l = true) : okB (l.set k d) = false := by
  obtain ⟨hl, hs, _, _⟩ := of_decide_eq_true hok
  refine decide_eq_false fun h => ?_
  have h2 := h.2.1
  by_cases h4 : k < 4
  · have e1 : (l.set k d).drop 4 = l.drop 4 := by rw [List.drop_set, if_pos h4]
    have e2 : sumB (l.set k d) = sumB l := by unfold sumB; rw [e1]
    rw [e2, ← hs] at h2
    have h3 := congrArg (fun x => x[k]?) h2
    simp only [List.getElem?_take, if_pos h4] at h3
    rw [List.getElem?_set_self hk, List.getElem?_eq_getElem hk] at h3
    injection h3 with h3
    exact hd h3
  · have e1 : (l.set k d).take 4 = l.take 4 := by rw [List.take_set_of_le (by omega)]
    rw [e1, hs] at h2
    unfold sumB at h2
    have h3 := congrArg numL h2
    have b1 := more_lt 0 (l.drop 4)
    have b2 := more_lt 0 ((l.set k d).drop 4)
    rw [numL_dig', numL_dig', Nat.mod_eq_of_lt (by omega), Nat.mod_eq_of_lt (by omega)] at h3
    have hk2 : k - 4 < (l.drop 4).length := by rw [List.length_drop]; omega
    have e3 : (l.set k d).drop 4 = (l.drop 4).set (k - 4) d := by rw [List.drop_set, if_neg h4]
    rw [e3, List.set_eq_take_append_cons_drop, if_pos hk2] at h3
    have hl2 : l.drop 4 = (l.drop 4).take (k - 4) ++ (l.drop 4)[k - 4] :: (l.drop 4).drop (k - 4 + 1) := by rw [List.getElem_cons_drop, List.take_append_drop]
    have h5 := (congrArg (more 0) hl2).symm.trans h3
    have h6 := more_turn h5
    apply hd
    rw [← h6, List.getElem_drop]
    congr 1
    omega
theorem rem_nat (x : Int) : ∃ a : Nat, a < 256 ∧ (x.tmod 256 = (a : Int) ∨ x.tmod 256 = -(a : Int) ∧ 0 < a) := by
  have h1 := Int.tmod_lt_of_pos x (show (0 : Int) < 256 by omega)
  have h2 : -256 < x.tmod 256 := by
    have := Int.tmod_lt_of_pos (-x) (show (0 : Int) < 256 by omega)
    rw [Int.neg_tmod] at this
    omega
  by_cases h : 0 ≤ x.tmod 256
  · obtain ⟨a, ha⟩ := Int.eq_ofNat_of_zero_le h
    exact ⟨a, by omega, .inl ha⟩
  · obtain ⟨a, ha⟩ := Int.eq_ofNat_of_zero_le (show 0 ≤ -(x.tmod 256) by omega)
    exact ⟨a, by omega, .inr ⟨by omega, by omega⟩⟩

set_option maxRecDepth 10000 in
set_option maxHeartbeats 4000000 in
theorem sealTurned_walk (h : Hd) (A : Option Addr) (n c : Nat) (l : List UInt8) (x0 x1 : Int) (w : World) (hs : Sl w A n c l) (ht : Tab w) :
    Calls Tryd.prog 6 #[.agg #[.int .i64 h.kind, .int .i64 h.addr, .int .i64 h.count, .int .i64 h.level, .int .i64 h.gen], .slice A n c, .agg #[.int .i64 x0, .int .i64 x1]] w fun e w' => e = .returned (.bool true) ∧ Below w.heap.size w w' := by
  have hlen := hs.len
  go_enter Tryd.func6, Tryd.ntmps6
  go_wp2_with fail
  have H1 : HB ((w.alloc (.cells #[.int .i64 h.kind, .int .i64 h.addr, .int .i64 h.count, .int .i64 h.level, .int .i64 h.gen] 23)).alloc (.cells #[.int .i64 x0, .int .i64 x1] 34)) w.heap.size h := HB.below ⟨_, heap_alloc_new w _⟩ ((Below.refl _ _).alloc (Nat.le_refl _) _) (by simp)
  have hb1 : Below w.heap.size w ((w.alloc (.cells #[.int .i64 h.kind, .int .i64 h.addr, .int .i64 h.count, .int .i64 h.level, .int .i64 h.gen] 23)).alloc (.cells #[.int .i64 x0, .int .i64 x1] 34)) := ((Below.refl _ _).alloc (Nat.le_refl _) _).alloc (by simp) _
  have X1 : ((w.alloc (.cells #[.int .i64 h.kind, .int .i64 h.addr, .int .i64 h.count, .int .i64 h.level, .int .i64 h.gen] 23)).alloc (.cells #[.int .i64 x0, .int .i64 x1] 34)).heap[w.heap.size + 1]? = some (.cells #[.int .i64 x0, .int .i64 x1] 34 (0, 0)) := by
    have := heap_alloc_new (w.alloc (.cells #[.int .i64 h.kind, .int .i64 h.addr, .int .i64 h.count, .int .i64 h.level, .int .i64 h.gen] 23)) (.cells #[.int .i64 x0, .int .i64 x1] 34)
    rwa [World.size_alloc] at this
  have z1 : ((w.alloc (.cells #[.int .i64 h.kind, .int .i64 h.addr, .int .i64 h.count, .int .i64 h.level, .int .i64 h.gen] 23)).alloc (.cells #[.int .i64 x0, .int .i64 x1] 34)).heap.size = w.heap.size + 2 := by simp
  generalize (w.alloc (.cells #[.int .i64 h.kind, .int .i64 h.addr, .int .i64 h.count, .int .i64 h.level, .int .i64 h.gen] 23)).alloc (.cells #[.int .i64 x0, .int .i64 x1] 34) = w1 at H1 hb1 X1 z1 ⊢
  refine (shown_any w1 (ht.below hb1 ht.1)).mono ?_
  rintro e w2 ⟨rfl, hb2⟩
  have hB2 := hb1.trans (hb2.mono hb1.size)
  have H2 := H1.below hb2 (by omega)
  have X2 := (hb2.block (w.heap.size + 1) (by omega)).trans X1
  have z2 := hb2.size
  have hs2 := hs.below hB2
  clear H1 X1 hb2
  go_wp2_with (first
    | (refine wp_load_hd rfl (.tmp 3) rfl w.heap.size rfl h H2 ?_)
    | fail)
  refine (seal_any h A n c l w2 hs2 (ht.below hB2 ht.1)).mono ?_
  rintro e w3 ⟨A3, n3, c3, rfl, own3, hf, hb3⟩
  have hB3 := hB2.trans (hb3.mono hB2.size)
  have H3 := H2.below hb3 (by omega)
  have X3 := (hb3.block (w.heap.size + 1) (by omega)).trans X2
  have z3 := hb3.size
  clear H2 X2
  obtain ⟨E, hE⟩ : ∃ E, sealE h l = E := ⟨_, rfl⟩
  rw [hE] at hf ⊢
  by_cases h0 : E = 0
  · subst h0
    obtain ⟨g, rfl, rfl, rfl⟩ := hf rfl
    obtain ⟨hok, hl, hB⟩ := run_take_seal h l hE
    rw [hB] at own3
    obtain ⟨p1, p2, p3⟩ := blk_open h l hok hl
    have hokB := blk_okB h l hok hl
    have hbl := blkL_len h l hl
    obtain ⟨L, hL⟩ : ∃ L, blkL h l = L := ⟨_, rfl⟩
    rw [hL] at own3 hokB hbl
    clear p1 p2 p3 hf hB hE
    obtain ⟨a, ha, hr⟩ := rem_nat x0
    have y0 : w3.cell? ⟨w.heap.size + 1, 0, none⟩ = some (.int .i64 x0) := by rw [cell_of_row _ _ _ _ _ _ X3]; rfl
    have y1 : w3.cell? ⟨w.heap.size + 1, 1, none⟩ = some (.int .i64 x1) := by rw [cell_of_row _ _ _ _ _ _ X3]; rfl
    have hgb := (own3.block _ rfl).1
    have hO1 := fun w' (o' : Own w' w2.heap.size 5 (some ⟨g, 0, none⟩) 256 256 L) (t' : Tab w') => open_says (some ⟨g, 0, none⟩) a 256 _ w' (o'.sl.take (k := a) (by omega)) t'
    obtain ⟨n1, n2, n3⟩ := op_no (l := L.take a) (decide_eq_false fun hh => by have := hh.1; rw [List.length_take] at this; omega)
    rw [n1, n2, n3] at hO1
    rcases hr with hr | ⟨hr, ha0⟩
    all_goals
      go_wp2_with fail
      obtain ⟨bb, hbb⟩ := Int.eq_ofNat_of_zero_le (show 0 ≤ x1 % 256 by omega)
      have hb255 : bb ≤ 255 := by omega
      rw [hbb]
      refine (hO1 w3 own3 (ht.below hB3 ht.1)).mono ?_
      rintro e w4 ⟨A4, n4, c4, rfl, own4, hb4⟩
      have hB4 := hB3.trans (hb4.mono hB3.size)
      have own34 := own3.below hb4
      have z4 := hb4.size
      clear hbb H3 X3 y0 y1 hr hO1 n1 n2 n3
      go_wp2_with (first
        | (refine wp_store_hd rfl (.tmp 12) (.tmp 60) rfl w4.heap.size rfl Hd.zero _ rfl (HB.zero w4 _) (by simp) ?_; intro w5 hr5 hb5 T5; obtain ⟨b45, hz45⟩ := over hb5; have own35 := own34.below b45)
        | (at_builtin; refine wp_append_b _ T22 rfl _ _ rfl w5.heap.size _ 0 0 [] rfl (own_empty w5 5) (some ⟨g, 0, none⟩) 256 256 L rfl (own35.sl.alloc _) (by omega) (by simp) ?_)
        | fail)
      intro A6 c6 w6 own6 hb6
      have hb6 := below_new _ hb6 (Nat.le_refl _)
      have hB5 := hB4.trans (b45.mono hB4.size)
      have hB6 := hB5.trans (hb6.mono hB5.size)
      have z6 := hb6.size
      have hone := own_one w6 5 (UInt8.ofNat bb) (.int .u8 (bb : Int)) (by unfold bv; rw [UInt8.toNat_ofNat', Nat.mod_eq_of_lt (by omega)])
      have own6' := own6.alloc (.cells #[.int .u8 (bb : Int)] 5)
      clear hr5 own6 own34
      go_wp2_with (first
        | (at_builtin; refine wp_append_b _ T22 rfl _ _ rfl w5.heap.size A6 256 c6 L rfl own6' _ 1 1 [UInt8.ofNat bb] rfl hone.sl (by omega) (by simp; omega) ?_)
        | fail)
      intro A7 c7 w7 own7 hb7
      have b67 := below_new _ hb7 z6
      have b57 := hb6.trans b67
      have hB7 := hB5.trans (b57.mono hB5.size)
      have own37 := own35.below b57
      have z7 := b57.size
      clear own35 own6' hone hb7 b67
      have hO2 := open_says A7 257 c7 _ w7 own7.sl (ht.below hB7 ht.1)
      obtain ⟨n1, n2, n3⟩ := op_no (l := L ++ [UInt8.ofNat bb]) (decide_eq_false fun hh => by have := hh.1; simp at this; omega)
      rw [n1, n2, n3] at hO2
      clear n1 n2 n3
      go_wp2_with fail
      refine hO2.mono ?_
      rintro e w8 ⟨A8, n8, c8, rfl, own8, hb8⟩
      have hB8 := hB7.trans (hb8.mono hB7.size)
      have own38 := own37.below hb8
      have z8 := hb8.size
      have hX : ∀ (w9 : World) (o9 : Own w9 w2.heap.size 5 (some ⟨g, 0, none⟩) 256 256 L) (y : Nat) (Y : Int), Y = (y : Int) → y ≤ 255 → y ≠ 0 → ∃ L', okB L' = false ∧ Own (w9.setCell ⟨g, a, none⟩ (.int .u8 (bits .xor .u8 (byt L a : Int) Y))) w2.heap.size 5 (some ⟨g, 0, none⟩) 256 256 L' := by
        intro w9 o9 y Y hY hy hy0
        subst hY
        have hxa := byt_le L a
        have o := o9.set_ a (UInt8.ofNat (byt L a) ^^^ UInt8.ofNat y)
        rw [bv_xor _ _ hxa hy] at o
        have hal : a < L.length := by omega
        have e : UInt8.ofNat (byt L a) = L[a] := by unfold byt; rw [List.getD_eq_getElem?_getD, List.getElem?_eq_getElem hal]; simp
        refine ⟨_, block_turned L a _ hal ?_ hokB, o⟩
        rw [e]
        refine turn_byte _ _ fun e2 => hy0 ?_
        have e3 := congrArg UInt8.toNat e2
        rw [UInt8.toNat_ofNat', Nat.mod_eq_of_lt (by omega)] at e3
        exact e3
      clear hO2 own7 own37 own8
      by_cases hb0 : bb = 0
      · subst hb0
        go_wp2_with (first
          | (refine wp_store_hd rfl (.tmp 15) (.tmp 71) rfl w8.heap.size rfl Hd.zero _ rfl (HB.zero w8 _) (by simp) ?_; intro w9 hr9 hb9 T9; obtain ⟨b89, hz89⟩ := over hb9; have own39 := own38.below b89; obtain ⟨hcx, hfx⟩ := own39.at_ a ha; have hai : (a : Int) < 256 := (by omega))
          | fail)
        have hB9 := hB8.trans (b89.mono hB8.size)
        obtain ⟨L', hno, o10⟩ := hX w9 own39 1 1 rfl (by omega) (by omega)
        have hB10 : Below w.heap.size w (w9.setCell ⟨g, a, none⟩ (.int .u8 (bits .xor .u8 (byt L a : Int) 1))) := hB9.trans ((Below.refl _ w9).setCell (p := ⟨g, a, none⟩) (by show w.heap.size ≤ g; omega) _)
        have hO3 := open_says (some ⟨g, 0, none⟩) 256 256 _ _ o10.sl (ht.below hB10 ht.1)
        obtain ⟨n1, n2, n3⟩ := op_no hno
        rw [n1, n2, n3] at hO3
        refine hO3.mono ?_
        rintro e w11 ⟨A11, n11, c11, rfl, own11, hb11⟩
        have hB11 := hB10.trans (hb11.mono hB10.size)
        clear hO3 n1 n2 n3 hX own11 o10 own39 own38
        go_wp2_with (first
          | (refine wp_store_hd rfl (.tmp 18) (.tmp 88) rfl w11.heap.size rfl Hd.zero _ rfl (HB.zero w11 _) (by simp) ?_; intro w12 hr12 hb12 T12; obtain ⟨b1112, hz12⟩ := over hb12)
          | fail)
        go_ret
        exact ⟨by first | rfl | (simp [go_sem]; done), hB11.trans (b1112.mono hB11.size)⟩
      · have hbi : ((bb : Int) == 0) = false := by simpa using hb0
        have hbd : decide ((bb : Int) = 0) = false := by simpa using hb0
        go_wp2_with (first
          | (refine wp_store_hd rfl (.tmp 15) (.tmp 71) rfl w8.heap.size rfl Hd.zero _ rfl (HB.zero w8 _) (by simp) ?_; intro w9 hr9 hb9 T9; obtain ⟨b89, hz89⟩ := over hb9; have own39 := own38.below b89; obtain ⟨hcx, hfx⟩ := own39.at_ a ha; have hai : (a : Int) < 256 := (by omega))
          | fail)
        have hB9 := hB8.trans (b89.mono hB8.size)
        obtain ⟨L', hno, o10⟩ := hX w9 own39 bb (bb : Int) rfl hb255 hb0
        have hB10 : Below w.heap.size w (w9.setCell ⟨g, a, none⟩ (.int .u8 (bits .xor .u8 (byt L a : Int) (bb : Int)))) := hB9.trans ((Below.refl _ w9).setCell (p := ⟨g, a, none⟩) (by show w.heap.size ≤ g; omega) _)
        have hO3 := open_says (some ⟨g, 0, none⟩) 256 256 _ _ o10.sl (ht.below hB10 ht.1)
        obtain ⟨n1, n2, n3⟩ := op_no hno
        rw [n1, n2, n3] at hO3
        refine hO3.mono ?_
        rintro e w11 ⟨A11, n11, c11, rfl, own11, hb11⟩
        have hB11 := hB10.trans (hb11.mono hB10.size)
        clear hO3 n1 n2 n3 hX own11 o10 own39 own38
        go_wp2_with (first
          | (refine wp_store_hd rfl (.tmp 18) (.tmp 88) rfl w11.heap.size rfl Hd.zero _ rfl (HB.zero w11 _) (by simp) ?_; intro w12 hr12 hb12 T12; obtain ⟨b1112, hz12⟩ := over hb12)
          | fail)
        go_ret
        exact ⟨by first | rfl | (simp [go_sem]; done), hB11.trans (b1112.mono hB11.size)⟩
  · have hB := seal_no h l (by rw [hE]; exact h0)
    rw [hB] at own3
    have hn3 : n3 = 0 := by have := own3.len; simpa using this.symm
    subst hn3
    have hEd : decide (E = 0) = false := decide_eq_false h0
    go_wp2
    go_ret
    exact ⟨by first | rfl | (simp [go_sem]; done) | simp [go_sem, h0], hB3⟩
end Go.Proofs.YtkkmnmiekmfjiaaDoor
