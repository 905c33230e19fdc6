/- The law SuperBack: for every input it returns true, and what came in reads as it did. -/
import Derived.Test.YtljlliiedbedeaaDoorSupO
import Derived.Laws.BitsAllLaws
namespace Go.Proofs.YtljlliiedbedeaaDoor
open Go Go.RowKit Go.Proofs

/-- The block that holds two numbers. -/
def PB (w : World) (b : Nat) (x y : Int) : Prop := ∃ t, w.heap[b]? = some (.cells #[.int .i64 x, .int .i64 y] t (0, 0))
theorem PB.new (w : World) (x y : Int) (t : TypeId) : PB (w.alloc (.cells #[.int .i64 x, .int .i64 y] t)) w.heap.size x y := ⟨t, heap_alloc_new w _⟩
theorem PB.block {w w' : World} {b : Nat} {x y : Int} (H : PB w b x y) (h : w'.heap[b]? = w.heap[b]?) : PB w' b x y := by
  obtain ⟨t, H⟩ := H
  exact ⟨t, h.trans H⟩
theorem PB.below {w w' : World} {b : Nat} {x y : Int} (H : PB w b x y) {E : Nat} (hb : Below E w w') (hB : b < E) : PB w' b x y := H.block (hb.block b hB)
theorem PB.lt {w : World} {b : Nat} {x y : Int} (H : PB w b x y) : b < w.heap.size := by
  obtain ⟨t, H⟩ := H
  exact (Array.getElem?_eq_some_iff.1 H).1
theorem PB.c0 {w : World} {b : Nat} {x y : Int} (H : PB w b x y) : w.cell? ⟨b, 0, none⟩ = some (.int .i64 x) := by
  obtain ⟨t, H⟩ := H
  rw [cell_of_row _ _ _ _ _ _ H]; rfl
theorem PB.c1 {w : World} {b : Nat} {x y : Int} (H : PB w b x y) : w.cell? ⟨b, 1, none⟩ = some (.int .i64 y) := by
  obtain ⟨t, H⟩ := H
  rw [cell_of_row _ _ _ _ _ _ H]; rfl
/-- A byte of a good block is turned. -/
theorem own_turned {w : World} {base g : Nat} {L : List UInt8} (o9 : Own w base 5 (some ⟨g, 0, none⟩) 256 256 L) (hok : okB L = true) (a : Nat) (ha : a < 256) (y : Nat) (Y : Int) (hY : Y = (y : Int)) (hy : y ≤ 255) (hy0 : y ≠ 0) :
    ∃ L', okB L' = false ∧ Own (w.setCell ⟨g, a, none⟩ (.int .u8 (bits .xor .u8 (byt L a : Int) Y))) base 5 (some ⟨g, 0, none⟩) 256 256 L' := by
  subst hY
  have hbl := ok_len hok
  have hxa := byt_le L a
  have o := o9.set_ a (UInt8.ofNat (byt L a) ^^^ UInt8.ofNat y)
  rw [bv_xor _ _ hxa hy] at o
  have hal : a < L.length := by omega
  have e : UInt8.ofNat (byt L a) = L[a] := by unfold byt; rw [List.getD_eq_getElem?_getD, List.getElem?_eq_getElem hal]; simp
  refine ⟨_, block_turned L a _ hal ?_ hok, o⟩
  rw [e]
  refine turn_byte _ _ fun e2 => hy0 ?_
  have e3 := congrArg UInt8.toNat e2
  rw [UInt8.toNat_ofNat', Nat.mod_eq_of_lt (by omega)] at e3
  exact e3
theorem sr_bad {l : List UInt8} (h : okB l = false) (t : Int) : srOk l t = false := by unfold srOk; rw [h, Bool.false_and]
theorem set_block (w : World) (g a : Nat) (v : Value) {k : Nat} (h : k ≠ g) : (w.setCell ⟨g, a, none⟩ v).heap[k]? = w.heap[k]? := Below.heap_setCell _ _ _ _ (by show k ≠ g; exact h)
attribute [local go_sem ↓] ldS_shut ldA_shut alS_shut bdS_shut ldX_shut
set_option maxRecDepth 100000 in
set_option maxHeartbeats 16000000 in
theorem superBack_walk (S : Sp) (slot y0 y1 : Int) (w : World) (hf : S.fine) (ht : Tab w) :
    Calls Tryd.prog 7 #[.agg S.vs.toArray, .int .i64 slot, .agg #[.int .i64 y0, .int .i64 y1]] w fun e w' => e = .returned (.bool true) ∧ Below w.heap.size w w' := by
  have hal := alS_run true
  have heq := eql_sp S
  have hgd := grd_sp
  have H0 := SB.new w S 26
  have b0 : Below w.heap.size w (w.alloc (.cells S.vs.toArray 26)) := (Below.refl _ _).alloc (Nat.le_refl _) _
  have z0 : (w.alloc (.cells S.vs.toArray 26)).heap.size = w.heap.size + 1 := by simp
  go_enter Tryd.func7, Tryd.ntmps7
  go_wp2_with fail
  generalize w.alloc (.cells S.vs.toArray 26) = w0 at H0 b0 z0 ⊢
  rw [← z0]
  have P1 := PB.new w0 y0 y1 44
  have b1 : Below w0.heap.size w0 (w0.alloc (.cells #[.int .i64 y0, .int .i64 y1] 44)) := (Below.refl _ _).alloc (Nat.le_refl _) _
  generalize w0.alloc (.cells #[.int .i64 y0, .int .i64 y1] 44) = w1 at P1 b1 ⊢
  have H1 := H0.below b1 H0.lt
  have W1 := b0.trans (b1.mono b0.size)
  obtain ⟨pb, hpb⟩ : ∃ pb, w0.heap.size = pb := ⟨_, rfl⟩
  rw [hpb] at P1 ⊢
  have hwp : w.heap.size < pb := by omega
  clear H0 b0 b1 z0 hpb
  refine (sshown_any w1 (ht.below W1 ht.1)).mono ?_
  rintro e w2 ⟨rfl, hb2⟩
  have H2 := H1.below hb2 H1.lt
  have P2 := P1.below hb2 P1.lt
  have W2 := W1.trans (hb2.mono W1.size)
  have l2 := H2.ld
  clear H1 P1 W1 hb2
  go_wp2_with fail
  refine (swrite_any S slot hf w2 (ht.below W2 ht.1)).mono ?_
  rintro e w3 ⟨A3, n3, c3, rfl, own3, hg3, hb3⟩
  have H3 := H2.below hb3 H2.lt
  have P3 := P2.below hb3 P2.lt
  have W3 := W2.trans (hb3.mono W2.size)
  have hp2 : pb < w2.heap.size := P2.lt
  clear H2 P2 l2 hb3
  obtain ⟨q, hq⟩ : ∃ q, swOk S slot = q := ⟨_, rfl⟩
  cases q
  · obtain ⟨h1, h2⟩ := sw_no hq
    rw [h1]
    rw [h2] at own3
    have hn3 : n3 = 0 := by have := own3.len; simpa using this.symm
    subst hn3
    clear hg3 own3
    go_wp2
    go_ret
    exact ⟨by first | rfl | simp, W3⟩
  · obtain ⟨h1, h2, _, _⟩ := sw_yes hq
    have hokB := (sw_back hq).1
    obtain ⟨r1, r2⟩ := sr_written hq
    have r3 := (sr_yes r1).2
    have hsl : 0 ≤ slot ∧ slot ≤ 1 := by
      have := hq
      unfold swOk at this
      rw [Bool.and_eq_true] at this
      exact of_decide_eq_true this.2
    have ro := sr_other (t := 1 - slot) hq (by omega)
    obtain ⟨u1, u2⟩ := sr_no ro
    obtain ⟨g, rfl, rfl, rfl⟩ := hg3 hq
    rw [h1]
    obtain ⟨L, hL⟩ : ∃ L, swB S slot = L := ⟨_, rfl⟩
    rw [hL] at own3 hokB r2 r3 u1 u2
    have hgb := (own3.block _ rfl).1
    clear hL h1 h2 hg3 hq r1 ro
    go_wp2_with fail
    refine Calls.mono (sread_any (some ⟨g, 0, none⟩) 256 256 L slot w3 own3.sl (ht.below W3 ht.1)) ?_
    rw [r2, r3]
    rintro e w4 ⟨rfl, hb4⟩
    have H4 := H3.below hb4 H3.lt
    have P4 := P3.below hb4 P3.lt
    have W4 := W3.trans (hb4.mono W3.size)
    have own4 := own3.below hb4
    have R4 := SB.new w4 Sp.zero 26
    have b4 : Below w4.heap.size w4 (w4.alloc (.cells Sp.zero.vs.toArray 26)) := (Below.refl _ _).alloc (Nat.le_refl _) _
    have hg4 := (own4.block _ rfl).2
    clear H3 P3 own3 hb4 W3
    go_wp2_with (first
      | (refine wp_store_sp rfl _ _ rfl w4.heap.size rfl S Sp.zero rfl R4 ?_; intro w5 R5 hb5 T5)
      | fail)
    have bb5 := b4.trans (hb5 _ (Nat.le_refl _))
    have H5 := H4.below bb5 H4.lt
    have P5 := P4.below bb5 P4.lt
    have W5 := W4.trans (bb5.mono W4.size)
    have own5 := own4.below bb5
    obtain ⟨rb, hrb⟩ : ∃ rb, w4.heap.size = rb := ⟨_, rfl⟩
    rw [hrb] at R5 hg4 ⊢
    clear H4 P4 W4 own4 R4 b4 hb5 T5 bb5 hrb
    refine Calls.mono (sread_any (some ⟨g, 0, none⟩) 256 256 L (1 - slot) w5 own5.sl (ht.below W5 ht.1)) ?_
    rw [u1, u2]
    rintro e w6 ⟨rfl, hb6⟩
    have Z6 := SB.new w6 Sp.zero 26
    have b6 : Below w6.heap.size w6 (w6.alloc (.cells Sp.zero.vs.toArray 26)) := (Below.refl _ _).alloc (Nat.le_refl _) _
    obtain ⟨a, ha, hr⟩ := rem_nat y0
    obtain ⟨bb, hbb⟩ := Int.eq_ofNat_of_zero_le (show 0 ≤ y1 % 256 by omega)
    have hb255 : bb ≤ 255 := by omega
    have hai : (a : Int) < 256 := by omega
    have hai0 : (0 : Int) ≤ (a : Int) := by omega
    have Hbb := Lib.hid hbb
    have hgr : g ≠ rb := by omega
    have hgw : g ≠ w.heap.size := by omega
    have hgp : g ≠ pb := by omega
    rcases hr with hr | ⟨hr, ha0⟩
    all_goals
      by_cases hb0 : bb = 0
      · have hbz : y1 % 256 = 0 := by rw [hbb, hb0]; rfl
        clear hbb
        go_wp2_with (first
          | (refine wp_store_sp rfl _ _ rfl w6.heap.size rfl Sp.zero Sp.zero rfl Z6 ?_; intro w7 R7 hb7 T7; have bb7 := hb6.trans ((b6.trans (hb7 _ (Nat.le_refl _))).mono hb6.size); have H7 := H5.below bb7 H5.lt; have P7 := P5.below bb7 P5.lt; have W7 := W5.trans (bb7.mono W5.size); have own7 := own5.below bb7; have R57 := R5.below bb7 R5.lt; have p0 := P7.c0; have p1 := P7.c1; obtain ⟨hcx, hfx⟩ := own7.at_ a ha)
          | fail)
        obtain ⟨L', hno, o8⟩ := own_turned own7 hokB a ha 1 1 rfl (by omega) (by omega)
        have W8 : Below w.heap.size w (w7.setCell ⟨g, a, none⟩ (.int .u8 (bits .xor .u8 (byt L a : Int) 1))) := W7.trans ((Below.refl _ w7).setCell (p := ⟨g, a, none⟩) (by show w.heap.size ≤ g; omega) _)
        have H8 := H7.block (set_block w7 g a (.int .u8 (bits .xor .u8 (byt L a : Int) 1)) (Ne.symm hgw))
        have R8 := R57.block (set_block w7 g a (.int .u8 (bits .xor .u8 (byt L a : Int) 1)) (Ne.symm hgr))
        refine Calls.mono (sread_any (some ⟨g, 0, none⟩) 256 256 L' slot _ o8.sl (ht.below W8 ht.1)) ?_
        obtain ⟨v1, v2⟩ := sr_no (sr_bad hno slot)
        rw [v1, v2]
        rintro e w9 ⟨rfl, hb9⟩
        have H9 := H8.below hb9 H8.lt
        have R9 := R8.below hb9 R8.lt
        have W9 := W8.trans (hb9.mono W8.size)
        have Z9 := SB.new w9 Sp.zero 26
        have b9 : Below w9.heap.size w9 (w9.alloc (.cells Sp.zero.vs.toArray 26)) := (Below.refl _ _).alloc (Nat.le_refl _) _
        clear p0 p1 hcx hfx H8 R8 o8 W8 H7 P7 W7 own7 R57
        go_wp2_with (first
          | (refine wp_store_sp rfl _ _ rfl w9.heap.size rfl Sp.zero Sp.zero rfl Z9 ?_; intro w10 R10 hb10 T10; have bb10 := b9.trans (hb10 _ (Nat.le_refl _)); have W10 := W9.trans (bb10.mono W9.size); have l1 := (H9.below bb10 H9.lt).ld; have l2 := (R9.below bb10 R9.lt).ld)
          | fail)
        go_ret
        exact ⟨by first | rfl | simp, W10⟩
      · have hbi : ((bb : Int) == 0) = false := by simpa using hb0
        have hbd : decide ((bb : Int) = 0) = false := by simpa using hb0
        have hbn : ¬ (bb : Int) = 0 := by omega
        go_wp2_with (first
          | (refine wp_store_sp rfl _ _ rfl w6.heap.size rfl Sp.zero Sp.zero rfl Z6 ?_; intro w7 R7 hb7 T7; have bb7 := hb6.trans ((b6.trans (hb7 _ (Nat.le_refl _))).mono hb6.size); have H7 := H5.below bb7 H5.lt; have P7 := P5.below bb7 P5.lt; have W7 := W5.trans (bb7.mono W5.size); have own7 := own5.below bb7; have R57 := R5.below bb7 R5.lt; have p0 := P7.c0; have p1 := P7.c1; obtain ⟨hcx, hfx⟩ := own7.at_ a ha)
          | fail)
        obtain ⟨L', hno, o8⟩ := own_turned own7 hokB a ha bb (bb : Int) rfl hb255 hb0
        have W8 : Below w.heap.size w (w7.setCell ⟨g, a, none⟩ (.int .u8 (bits .xor .u8 (byt L a : Int) (bb : Int)))) := W7.trans ((Below.refl _ w7).setCell (p := ⟨g, a, none⟩) (by show w.heap.size ≤ g; omega) _)
        have H8 := H7.block (set_block w7 g a (.int .u8 (bits .xor .u8 (byt L a : Int) (bb : Int))) (Ne.symm hgw))
        have R8 := R57.block (set_block w7 g a (.int .u8 (bits .xor .u8 (byt L a : Int) (bb : Int))) (Ne.symm hgr))
        refine Calls.mono (sread_any (some ⟨g, 0, none⟩) 256 256 L' slot _ o8.sl (ht.below W8 ht.1)) ?_
        obtain ⟨v1, v2⟩ := sr_no (sr_bad hno slot)
        rw [v1, v2]
        rintro e w9 ⟨rfl, hb9⟩
        have H9 := H8.below hb9 H8.lt
        have R9 := R8.below hb9 R8.lt
        have W9 := W8.trans (hb9.mono W8.size)
        have Z9 := SB.new w9 Sp.zero 26
        have b9 : Below w9.heap.size w9 (w9.alloc (.cells Sp.zero.vs.toArray 26)) := (Below.refl _ _).alloc (Nat.le_refl _) _
        clear p0 p1 hcx hfx H8 R8 o8 W8 H7 P7 W7 own7 R57
        go_wp2_with (first
          | (refine wp_store_sp rfl _ _ rfl w9.heap.size rfl Sp.zero Sp.zero rfl Z9 ?_; intro w10 R10 hb10 T10; have bb10 := b9.trans (hb10 _ (Nat.le_refl _)); have W10 := W9.trans (bb10.mono W9.size); have l1 := (H9.below bb10 H9.lt).ld; have l2 := (R9.below bb10 R9.lt).ld)
          | fail)
        go_ret
        exact ⟨by first | rfl | simp, W10⟩
end Go.Proofs.YtljlliiedbedeaaDoor
