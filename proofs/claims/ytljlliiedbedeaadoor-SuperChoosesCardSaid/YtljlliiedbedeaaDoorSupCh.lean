/- The law SuperChooses: for every input it returns true, and what came in reads as it did. -/
import Derived.Test.YtljlliiedbedeaaDoorSupBk
namespace Go.Proofs.YtljlliiedbedeaaDoor
open Go Go.RowKit Go.Proofs

attribute [local go_sem ↓] ldS_shut ldA_shut alS_shut bdS_shut ldX_shut
set_option maxRecDepth 100000 in
set_option maxHeartbeats 16000000 in
theorem superChooses_walk (SS TT : Sp) (y0 y1 : Int) (w : World) (hf : SS.fine) (hg : TT.fine) (ht : Tab w) :
    Calls Tryd.prog 8 #[.agg SS.vs.toArray, .agg TT.vs.toArray, .agg #[.int .i64 y0, .int .i64 y1]] w fun e w' => e = .returned (.bool true) ∧ Below w.heap.size w w' := by
  have hal := alS_run true
  have heq := eql_sp TT
  have hne := neq_sp
  have hgd := grd_sp
  have S0 := SB.new w SS 26
  have b0 : Below w.heap.size w (w.alloc (.cells SS.vs.toArray 26)) := (Below.refl _ _).alloc (Nat.le_refl _) _
  have z0 : (w.alloc (.cells SS.vs.toArray 26)).heap.size = w.heap.size + 1 := by simp
  go_enter Tryd.func8, Tryd.ntmps8
  go_wp2_with fail
  generalize w.alloc (.cells SS.vs.toArray 26) = w0 at S0 b0 z0 ⊢
  have T0 := SB.new w0 TT 26
  have b1 : Below w0.heap.size w0 (w0.alloc (.cells TT.vs.toArray 26)) := (Below.refl _ _).alloc (Nat.le_refl _) _
  have z1 : (w0.alloc (.cells TT.vs.toArray 26)).heap.size = w.heap.size + 2 := by simp; omega
  rw [z0] at T0
  generalize w0.alloc (.cells TT.vs.toArray 26) = wa at T0 b1 z1 ⊢
  have P1 := PB.new wa y0 y1 44
  have b2 : Below wa.heap.size wa (wa.alloc (.cells #[.int .i64 y0, .int .i64 y1] 44)) := (Below.refl _ _).alloc (Nat.le_refl _) _
  rw [z1] at P1
  generalize wa.alloc (.cells #[.int .i64 y0, .int .i64 y1] 44) = w1 at P1 b2 ⊢
  have S1 := (S0.below b1 S0.lt).below b2 (by omega)
  have T1 := T0.below b2 (by omega)
  have W1 := b0.trans ((b1.mono b0.size).trans (b2.mono (by omega)))
  obtain ⟨tb, htb⟩ : ∃ tb, w.heap.size + 1 = tb := ⟨_, rfl⟩
  rw [htb] at T1 ⊢
  rw [show w.heap.size + 2 = tb + 1 by omega] at P1
  obtain ⟨pb, hpb⟩ : ∃ pb, tb + 1 = pb := ⟨_, rfl⟩
  rw [hpb] at P1 ⊢
  have hwt : w.heap.size < tb := by omega
  have htp : tb < pb := by omega
  clear S0 T0 b0 b1 b2 z0 z1 htb hpb
  refine (sshown_any w1 (ht.below W1 ht.1)).mono ?_
  rintro e w2 ⟨rfl, hb2⟩
  have S2 := S1.below hb2 S1.lt
  have T2 := T1.below hb2 T1.lt
  have P2 := P1.below hb2 P1.lt
  have W2 := W1.trans (hb2.mono W1.size)
  have l2 := S2.ld
  clear S1 T1 P1 W1 hb2
  go_wp2_with fail
  refine (swrite_any SS 0 hf w2 (ht.below W2 ht.1)).mono ?_
  rintro e w3 ⟨A3, n3, c3, rfl, ownA, hgA, hb3⟩
  have S3 := S2.below hb3 S2.lt
  have T3 := T2.below hb3 T2.lt
  have P3 := P2.below hb3 P2.lt
  have W3 := W2.trans (hb3.mono W2.size)
  have l3 := T3.ld
  have hp2 : pb < w2.heap.size := P2.lt
  clear S2 T2 P2 l2 hb3
  obtain ⟨EA, hEA⟩ : ∃ EA, swE SS 0 = EA := ⟨_, rfl⟩
  rw [hEA]
  go_wp2_with fail
  refine (swrite_any TT 1 hg w3 (ht.below W3 ht.1)).mono ?_
  rintro e w4 ⟨B4, m4, d4, rfl, ownB4, hgB, hb4⟩
  have S4 := S3.below hb4 S3.lt
  have T4 := T3.below hb4 T3.lt
  have P4 := P3.below hb4 P3.lt
  have W4 := W3.trans (hb4.mono W3.size)
  have ownA4 := ownA.below hb4
  have h34 := hb4.size
  obtain ⟨EB, hEB⟩ : ∃ EB, swE TT 1 = EB := ⟨_, rfl⟩
  rw [hEB]
  obtain ⟨q, hq⟩ : ∃ q, swOk SS 0 = q := ⟨_, rfl⟩
  cases q
  · have e1 : EA = 1 := by rw [← hEA]; exact (sw_no hq).1
    subst e1
    clear l3
    go_wp2
    go_ret
    exact ⟨by first | rfl | simp, W4⟩
  · have e1 : EA = 0 := by rw [← hEA]; exact (sw_yes hq).1
    subst e1
    obtain ⟨p, hp⟩ : ∃ p, swOk TT 1 = p := ⟨_, rfl⟩
    cases p
    · have e2 : EB = 1 := by rw [← hEB]; exact (sw_no hp).1
      subst e2
      clear l3
      go_wp2
      go_ret
      exact ⟨by first | rfl | simp, W4⟩
    · have e2 : EB = 0 := by rw [← hEB]; exact (sw_yes hp).1
      subst e2
      obtain ⟨ga, rfl, rfl, rfl⟩ := hgA hq
      obtain ⟨gb, rfl, rfl, rfl⟩ := hgB hp
      have hokA := (sw_back hq).1
      obtain ⟨rA, rAS⟩ := sr_written hq
      obtain ⟨rB, rBS⟩ := sr_written hp
      have hTg : 1 ≤ TT.gen := by
        have := hp
        unfold swOk at this
        rw [Bool.and_eq_true] at this
        exact (may_parts this.1).1.1
      obtain ⟨LA, hLA⟩ : ∃ LA, swB SS 0 = LA := ⟨_, rfl⟩
      obtain ⟨LB, hLB⟩ : ∃ LB, swB TT 1 = LB := ⟨_, rfl⟩
      rw [hLA] at ownA ownA4 hokA rA rAS
      rw [hLB] at ownB4 rB rBS
      have hga := (ownA.block _ rfl).1
      have hga3 := (ownA.block _ rfl).2
      have hgb := (ownB4.block _ rfl).1
      clear hgA hgB hLA hLB hEA hEB hq hp ownA hb4 S3 T3 P3 W3 l3
      go_wp2_with fail
      refine Calls.mono (snewer_any (some ⟨ga, 0, none⟩) 256 256 LA (some ⟨gb, 0, none⟩) 256 256 LB w4 ownA4.sl ownB4.sl (ht.below W4 ht.1)) ?_
      have hK1 := fun h => sn_1 (a := LA) (b := LB) (by rw [rA]; simp) h
      have hK0 := fun h => sn_0 (a := LA) (b := LB) (by rw [rA]; simp) h
      rw [rAS, rBS] at hK1 hK0
      obtain ⟨gS, hgS⟩ : ∃ gS, SS.gen = gS := ⟨_, rfl⟩
      obtain ⟨gT, hgT⟩ : ∃ gT, TT.gen = gT := ⟨_, rfl⟩
      obtain ⟨a, ha, hr⟩ := rem_nat y0
      obtain ⟨bb, hbb⟩ := Int.eq_ofNat_of_zero_le (show 0 ≤ y1 % 256 by omega)
      have hb255 : bb ≤ 255 := by omega
      have hai : (a : Int) < 256 := by omega
      have hai0 : (0 : Int) ≤ (a : Int) := by omega
      have Hbb := Lib.hid hbb
      have hgaB : ga < w3.heap.size := hga3
      have hgt : ga ≠ tb := by omega
      by_cases hlt : SS.gen < TT.gen
      · obtain ⟨e1, e2, e3⟩ := hK1 hlt
        have dl : decide (gS < gT) = true := decide_eq_true (by omega)
        rw [e1, e2, e3]
        rintro e w5 ⟨rfl, hb5⟩
        have S5 := S4.below hb5 S4.lt
        have T5 := T4.below hb5 T4.lt
        have P5 := P4.below hb5 P4.lt
        have W5 := W4.trans (hb5.mono W4.size)
        have ownA5 := ownA4.below hb5
        have ownB5 := ownB4.below hb5
        have N5 := SB.new w5 Sp.zero 26
        have b5 : Below w5.heap.size w5 (w5.alloc (.cells Sp.zero.vs.toArray 26)) := (Below.refl _ _).alloc (Nat.le_refl _) _
        clear e1 e2 e3 S4 T4 P4 W4 ownA4 ownB4 hb5 hK1 hK0 hlt
        rcases hr with hr | ⟨hr, ha0⟩
        all_goals
          by_cases hb0 : bb = 0
          · have hbz : y1 % 256 = 0 := by rw [hbb, hb0]; rfl
            clear hbb
            go_wp2_with (first
              | (have hk := lt7; refine wp_store_sp rfl _ _ rfl w6.heap.size rfl TT SS rfl V7 ?_; intro w8 V8 hb8 Q8; have bb8 := bb7.trans (hb8 _ (Nat.le_refl _)); replace lv := V8.ld; replace lc := (N6.below bb8 N6.lt).ld; clear g1 g2 lt7; have c6 := bb6.trans (bb8.mono bb6.size); have TT6 := T5.below c6 T5.lt; have P6 := P5.below c6 P5.lt; have W6 := W5.trans (c6.mono W5.size); have ownA := ownA5.below c6; have ownB := ownB5.below c6; have p0 := P6.c0; have p1 := P6.c1; obtain ⟨hcx, hfx⟩ := ownA.at_ a ha)
              | (have hh := N6; refine wp_store_sp rfl _ _ rfl w6.heap.size rfl SS Sp.zero rfl V6 ?_; intro w7 V7 hb7 Q7; have bb7 := b6.trans (hb7 _ (Nat.le_refl _)); have g1 := (S6.below bb7 S6.lt).c0; have g2 := (T6.below bb7 T6.lt).c0; rw [hgS] at g1; rw [hgT] at g2; have lt7 := (T6.below bb7 T6.lt).ld; have lv := V7.ld; have lc := (N6.below bb7 N6.lt).ld)
              | (refine wp_store_sp rfl _ _ rfl w5.heap.size rfl TT Sp.zero rfl N5 ?_; intro w6 N6 hb6 Q6; have bb6 := b5.trans (hb6 _ (Nat.le_refl _)); have S6 := S5.below bb6 S5.lt; have T6 := T5.below bb6 T5.lt; have V6 := SB.new w6 Sp.zero 26; have b6 : Below w6.heap.size w6 (w6.alloc (.cells Sp.zero.vs.toArray 26)) := (Below.refl _ _).alloc (Nat.le_refl _) _; have ls6 := S6.ld)
              | fail)
            obtain ⟨L', hno, o8⟩ := own_turned ownA hokA a ha 1 1 rfl (by omega) (by omega)
            have W8 : Below w.heap.size w (w8.setCell ⟨ga, a, none⟩ (.int .u8 (bits .xor .u8 (byt LA a : Int) 1))) := W6.trans ((Below.refl _ w8).setCell (p := ⟨ga, a, none⟩) (by show w.heap.size ≤ ga; omega) _)
            have T8 := TT6.block (set_block w8 ga a (.int .u8 (bits .xor .u8 (byt LA a : Int) 1)) (Ne.symm hgt))
            have ownB8 := own_set ownB hgaB (j := a) (.int .u8 (bits .xor .u8 (byt LA a : Int) 1))
            clear hcx hfx p0 p1
            refine Calls.mono (snewer_any (some ⟨ga, 0, none⟩) 256 256 L' (some ⟨gb, 0, none⟩) 256 256 LB _ o8.sl ownB8.sl (ht.below W8 ht.1)) ?_
            have hbad := sr_bad hno 0
            obtain ⟨e1, e2, e3⟩ := sn_1 (a := L') (b := LB) (by rw [hbad, rB]; simp) (by rw [(sr_no hbad).1, rBS]; show (0 : Int) < TT.gen; omega)
            rw [e1, e2, e3, rBS]
            rintro e w9 ⟨rfl, hb9⟩
            have T9 := T8.below hb9 T8.lt
            have W9 := W8.trans (hb9.mono W8.size)
            have o9 := o8.below hb9
            have R9 := SB.new w9 Sp.zero 26
            have b9 : Below w9.heap.size w9 (w9.alloc (.cells Sp.zero.vs.toArray 26)) := (Below.refl _ _).alloc (Nat.le_refl _) _
            clear T8 W8 o8 ownB8 hb9 e1 e2 e3
            go_wp2_with (first
              | (refine wp_store_sp rfl _ _ rfl w9.heap.size rfl TT Sp.zero rfl R9 ?_; intro w10 R10 hb10 Q10; have bb10 := b9.trans (hb10 _ (Nat.le_refl _)); have W10 := W9.trans (bb10.mono W9.size); have T10 := T9.below bb10 T9.lt; have o10 := o9.below bb10)
              | fail)
            clear R9 b9 hb10 Q10 bb10 W9 T9 o9
            refine Calls.mono (snewer_any (some ⟨ga, 0, none⟩) 256 256 L' none 0 0 [] w10 o10.sl (sl_nil _) (ht.below W10 ht.1)) ?_
            obtain ⟨f1, f2, f3⟩ := sn_2 (a := L') (b := []) hbad (sr_nil 1)
            rw [f1, f2, f3]
            rintro e w11 ⟨rfl, hb11⟩
            have T11 := T10.below hb11 T10.lt
            have R11 := R10.below hb11 R10.lt
            have W11 := W10.trans (hb11.mono W10.size)
            have Z11 := SB.new w11 Sp.zero 26
            have b11 : Below w11.heap.size w11 (w11.alloc (.cells Sp.zero.vs.toArray 26)) := (Below.refl _ _).alloc (Nat.le_refl _) _
            clear T10 W10 o10 hb11
            go_wp2_with (first
              | (refine wp_store_sp rfl _ _ rfl w11.heap.size rfl Sp.zero Sp.zero rfl Z11 ?_; intro w12 R12 hb12 Q12; have bb12 := b11.trans (hb12 _ (Nat.le_refl _)); have W12 := W11.trans (bb12.mono W11.size); have l1 := (T11.below bb12 T11.lt).ld; have l2 := (R11.below bb12 R11.lt).ld)
              | fail)
            go_ret
            exact ⟨by first | rfl | simp, W12⟩
          · have hbi : ((bb : Int) == 0) = false := by simpa using hb0
            have hbd : decide ((bb : Int) = 0) = false := by simpa using hb0
            have hbn : ¬ (bb : Int) = 0 := by omega
            go_wp2_with (first
              | (have hk := lt7; refine wp_store_sp rfl _ _ rfl w6.heap.size rfl TT SS rfl V7 ?_; intro w8 V8 hb8 Q8; have bb8 := bb7.trans (hb8 _ (Nat.le_refl _)); replace lv := V8.ld; replace lc := (N6.below bb8 N6.lt).ld; clear g1 g2 lt7; have c6 := bb6.trans (bb8.mono bb6.size); have TT6 := T5.below c6 T5.lt; have P6 := P5.below c6 P5.lt; have W6 := W5.trans (c6.mono W5.size); have ownA := ownA5.below c6; have ownB := ownB5.below c6; have p0 := P6.c0; have p1 := P6.c1; obtain ⟨hcx, hfx⟩ := ownA.at_ a ha)
              | (have hh := N6; refine wp_store_sp rfl _ _ rfl w6.heap.size rfl SS Sp.zero rfl V6 ?_; intro w7 V7 hb7 Q7; have bb7 := b6.trans (hb7 _ (Nat.le_refl _)); have g1 := (S6.below bb7 S6.lt).c0; have g2 := (T6.below bb7 T6.lt).c0; rw [hgS] at g1; rw [hgT] at g2; have lt7 := (T6.below bb7 T6.lt).ld; have lv := V7.ld; have lc := (N6.below bb7 N6.lt).ld)
              | (refine wp_store_sp rfl _ _ rfl w5.heap.size rfl TT Sp.zero rfl N5 ?_; intro w6 N6 hb6 Q6; have bb6 := b5.trans (hb6 _ (Nat.le_refl _)); have S6 := S5.below bb6 S5.lt; have T6 := T5.below bb6 T5.lt; have V6 := SB.new w6 Sp.zero 26; have b6 : Below w6.heap.size w6 (w6.alloc (.cells Sp.zero.vs.toArray 26)) := (Below.refl _ _).alloc (Nat.le_refl _) _; have ls6 := S6.ld)
              | fail)
            obtain ⟨L', hno, o8⟩ := own_turned ownA hokA a ha bb (bb : Int) rfl hb255 hb0
            have W8 : Below w.heap.size w (w8.setCell ⟨ga, a, none⟩ (.int .u8 (bits .xor .u8 (byt LA a : Int) (bb : Int)))) := W6.trans ((Below.refl _ w8).setCell (p := ⟨ga, a, none⟩) (by show w.heap.size ≤ ga; omega) _)
            have T8 := TT6.block (set_block w8 ga a (.int .u8 (bits .xor .u8 (byt LA a : Int) (bb : Int))) (Ne.symm hgt))
            have ownB8 := own_set ownB hgaB (j := a) (.int .u8 (bits .xor .u8 (byt LA a : Int) (bb : Int)))
            clear hcx hfx p0 p1
            refine Calls.mono (snewer_any (some ⟨ga, 0, none⟩) 256 256 L' (some ⟨gb, 0, none⟩) 256 256 LB _ o8.sl ownB8.sl (ht.below W8 ht.1)) ?_
            have hbad := sr_bad hno 0
            obtain ⟨e1, e2, e3⟩ := sn_1 (a := L') (b := LB) (by rw [hbad, rB]; simp) (by rw [(sr_no hbad).1, rBS]; show (0 : Int) < TT.gen; omega)
            rw [e1, e2, e3, rBS]
            rintro e w9 ⟨rfl, hb9⟩
            have T9 := T8.below hb9 T8.lt
            have W9 := W8.trans (hb9.mono W8.size)
            have o9 := o8.below hb9
            have R9 := SB.new w9 Sp.zero 26
            have b9 : Below w9.heap.size w9 (w9.alloc (.cells Sp.zero.vs.toArray 26)) := (Below.refl _ _).alloc (Nat.le_refl _) _
            clear T8 W8 o8 ownB8 hb9 e1 e2 e3
            go_wp2_with (first
              | (refine wp_store_sp rfl _ _ rfl w9.heap.size rfl TT Sp.zero rfl R9 ?_; intro w10 R10 hb10 Q10; have bb10 := b9.trans (hb10 _ (Nat.le_refl _)); have W10 := W9.trans (bb10.mono W9.size); have T10 := T9.below bb10 T9.lt; have o10 := o9.below bb10)
              | fail)
            clear R9 b9 hb10 Q10 bb10 W9 T9 o9
            refine Calls.mono (snewer_any (some ⟨ga, 0, none⟩) 256 256 L' none 0 0 [] w10 o10.sl (sl_nil _) (ht.below W10 ht.1)) ?_
            obtain ⟨f1, f2, f3⟩ := sn_2 (a := L') (b := []) hbad (sr_nil 1)
            rw [f1, f2, f3]
            rintro e w11 ⟨rfl, hb11⟩
            have T11 := T10.below hb11 T10.lt
            have R11 := R10.below hb11 R10.lt
            have W11 := W10.trans (hb11.mono W10.size)
            have Z11 := SB.new w11 Sp.zero 26
            have b11 : Below w11.heap.size w11 (w11.alloc (.cells Sp.zero.vs.toArray 26)) := (Below.refl _ _).alloc (Nat.le_refl _) _
            clear T10 W10 o10 hb11
            go_wp2_with (first
              | (refine wp_store_sp rfl _ _ rfl w11.heap.size rfl Sp.zero Sp.zero rfl Z11 ?_; intro w12 R12 hb12 Q12; have bb12 := b11.trans (hb12 _ (Nat.le_refl _)); have W12 := W11.trans (bb12.mono W11.size); have l1 := (T11.below bb12 T11.lt).ld; have l2 := (R11.below bb12 R11.lt).ld)
              | fail)
            go_ret
            exact ⟨by first | rfl | simp, W12⟩
      · obtain ⟨e1, e2, e3⟩ := hK0 hlt
        have dl : decide (gS < gT) = false := decide_eq_false (by omega)
        rw [e1, e2, e3]
        rintro e w5 ⟨rfl, hb5⟩
        have S5 := S4.below hb5 S4.lt
        have T5 := T4.below hb5 T4.lt
        have P5 := P4.below hb5 P4.lt
        have W5 := W4.trans (hb5.mono W4.size)
        have ownA5 := ownA4.below hb5
        have ownB5 := ownB4.below hb5
        have N5 := SB.new w5 Sp.zero 26
        have b5 : Below w5.heap.size w5 (w5.alloc (.cells Sp.zero.vs.toArray 26)) := (Below.refl _ _).alloc (Nat.le_refl _) _
        clear e1 e2 e3 S4 T4 P4 W4 ownA4 ownB4 hb5 hK1 hK0 hlt
        rcases hr with hr | ⟨hr, ha0⟩
        all_goals
          by_cases hb0 : bb = 0
          · have hbz : y1 % 256 = 0 := by rw [hbb, hb0]; rfl
            clear hbb
            go_wp2_with (first
              | (have hh := N6; refine wp_store_sp rfl _ _ rfl w6.heap.size rfl SS Sp.zero rfl V6 ?_; intro w7 V7 hb7 Q7; have bb7 := b6.trans (hb7 _ (Nat.le_refl _)); have g1 := (S6.below bb7 S6.lt).c0; have g2 := (T6.below bb7 T6.lt).c0; rw [hgS] at g1; rw [hgT] at g2; have lt7 := (T6.below bb7 T6.lt).ld; have lv := V7.ld; have lc := (N6.below bb7 N6.lt).ld; have c6 := bb6.trans (bb7.mono bb6.size); have TT6 := T5.below c6 T5.lt; have P6 := P5.below c6 P5.lt; have W6 := W5.trans (c6.mono W5.size); have ownA := ownA5.below c6; have ownB := ownB5.below c6; have p0 := P6.c0; have p1 := P6.c1; obtain ⟨hcx, hfx⟩ := ownA.at_ a ha)
              | (refine wp_store_sp rfl _ _ rfl w5.heap.size rfl SS Sp.zero rfl N5 ?_; intro w6 N6 hb6 Q6; have bb6 := b5.trans (hb6 _ (Nat.le_refl _)); have S6 := S5.below bb6 S5.lt; have T6 := T5.below bb6 T5.lt; have V6 := SB.new w6 Sp.zero 26; have b6 : Below w6.heap.size w6 (w6.alloc (.cells Sp.zero.vs.toArray 26)) := (Below.refl _ _).alloc (Nat.le_refl _) _; have ls6 := S6.ld)
              | fail)
            obtain ⟨L', hno, o8⟩ := own_turned ownA hokA a ha 1 1 rfl (by omega) (by omega)
            have W8 : Below w.heap.size w (w7.setCell ⟨ga, a, none⟩ (.int .u8 (bits .xor .u8 (byt LA a : Int) 1))) := W6.trans ((Below.refl _ w7).setCell (p := ⟨ga, a, none⟩) (by show w.heap.size ≤ ga; omega) _)
            have T8 := TT6.block (set_block w7 ga a (.int .u8 (bits .xor .u8 (byt LA a : Int) 1)) (Ne.symm hgt))
            have ownB8 := own_set ownB hgaB (j := a) (.int .u8 (bits .xor .u8 (byt LA a : Int) 1))
            clear hcx hfx p0 p1
            refine Calls.mono (snewer_any (some ⟨ga, 0, none⟩) 256 256 L' (some ⟨gb, 0, none⟩) 256 256 LB _ o8.sl ownB8.sl (ht.below W8 ht.1)) ?_
            have hbad := sr_bad hno 0
            obtain ⟨e1, e2, e3⟩ := sn_1 (a := L') (b := LB) (by rw [hbad, rB]; simp) (by rw [(sr_no hbad).1, rBS]; show (0 : Int) < TT.gen; omega)
            rw [e1, e2, e3, rBS]
            rintro e w9 ⟨rfl, hb9⟩
            have T9 := T8.below hb9 T8.lt
            have W9 := W8.trans (hb9.mono W8.size)
            have o9 := o8.below hb9
            have R9 := SB.new w9 Sp.zero 26
            have b9 : Below w9.heap.size w9 (w9.alloc (.cells Sp.zero.vs.toArray 26)) := (Below.refl _ _).alloc (Nat.le_refl _) _
            clear T8 W8 o8 ownB8 hb9 e1 e2 e3
            go_wp2_with (first
              | (refine wp_store_sp rfl _ _ rfl w9.heap.size rfl TT Sp.zero rfl R9 ?_; intro w10 R10 hb10 Q10; have bb10 := b9.trans (hb10 _ (Nat.le_refl _)); have W10 := W9.trans (bb10.mono W9.size); have T10 := T9.below bb10 T9.lt; have o10 := o9.below bb10)
              | fail)
            clear R9 b9 hb10 Q10 bb10 W9 T9 o9
            refine Calls.mono (snewer_any (some ⟨ga, 0, none⟩) 256 256 L' none 0 0 [] w10 o10.sl (sl_nil _) (ht.below W10 ht.1)) ?_
            obtain ⟨f1, f2, f3⟩ := sn_2 (a := L') (b := []) hbad (sr_nil 1)
            rw [f1, f2, f3]
            rintro e w11 ⟨rfl, hb11⟩
            have T11 := T10.below hb11 T10.lt
            have R11 := R10.below hb11 R10.lt
            have W11 := W10.trans (hb11.mono W10.size)
            have Z11 := SB.new w11 Sp.zero 26
            have b11 : Below w11.heap.size w11 (w11.alloc (.cells Sp.zero.vs.toArray 26)) := (Below.refl _ _).alloc (Nat.le_refl _) _
            clear T10 W10 o10 hb11
            go_wp2_with (first
              | (refine wp_store_sp rfl _ _ rfl w11.heap.size rfl Sp.zero Sp.zero rfl Z11 ?_; intro w12 R12 hb12 Q12; have bb12 := b11.trans (hb12 _ (Nat.le_refl _)); have W12 := W11.trans (bb12.mono W11.size); have l1 := (T11.below bb12 T11.lt).ld; have l2 := (R11.below bb12 R11.lt).ld)
              | fail)
            go_ret
            exact ⟨by first | rfl | simp, W12⟩
          · have hbi : ((bb : Int) == 0) = false := by simpa using hb0
            have hbd : decide ((bb : Int) = 0) = false := by simpa using hb0
            have hbn : ¬ (bb : Int) = 0 := by omega
            go_wp2_with (first
              | (have hh := N6; refine wp_store_sp rfl _ _ rfl w6.heap.size rfl SS Sp.zero rfl V6 ?_; intro w7 V7 hb7 Q7; have bb7 := b6.trans (hb7 _ (Nat.le_refl _)); have g1 := (S6.below bb7 S6.lt).c0; have g2 := (T6.below bb7 T6.lt).c0; rw [hgS] at g1; rw [hgT] at g2; have lt7 := (T6.below bb7 T6.lt).ld; have lv := V7.ld; have lc := (N6.below bb7 N6.lt).ld; have c6 := bb6.trans (bb7.mono bb6.size); have TT6 := T5.below c6 T5.lt; have P6 := P5.below c6 P5.lt; have W6 := W5.trans (c6.mono W5.size); have ownA := ownA5.below c6; have ownB := ownB5.below c6; have p0 := P6.c0; have p1 := P6.c1; obtain ⟨hcx, hfx⟩ := ownA.at_ a ha)
              | (refine wp_store_sp rfl _ _ rfl w5.heap.size rfl SS Sp.zero rfl N5 ?_; intro w6 N6 hb6 Q6; have bb6 := b5.trans (hb6 _ (Nat.le_refl _)); have S6 := S5.below bb6 S5.lt; have T6 := T5.below bb6 T5.lt; have V6 := SB.new w6 Sp.zero 26; have b6 : Below w6.heap.size w6 (w6.alloc (.cells Sp.zero.vs.toArray 26)) := (Below.refl _ _).alloc (Nat.le_refl _) _; have ls6 := S6.ld)
              | fail)
            obtain ⟨L', hno, o8⟩ := own_turned ownA hokA a ha bb (bb : Int) rfl hb255 hb0
            have W8 : Below w.heap.size w (w7.setCell ⟨ga, a, none⟩ (.int .u8 (bits .xor .u8 (byt LA a : Int) (bb : Int)))) := W6.trans ((Below.refl _ w7).setCell (p := ⟨ga, a, none⟩) (by show w.heap.size ≤ ga; omega) _)
            have T8 := TT6.block (set_block w7 ga a (.int .u8 (bits .xor .u8 (byt LA a : Int) (bb : Int))) (Ne.symm hgt))
            have ownB8 := own_set ownB hgaB (j := a) (.int .u8 (bits .xor .u8 (byt LA a : Int) (bb : Int)))
            clear hcx hfx p0 p1
            refine Calls.mono (snewer_any (some ⟨ga, 0, none⟩) 256 256 L' (some ⟨gb, 0, none⟩) 256 256 LB _ o8.sl ownB8.sl (ht.below W8 ht.1)) ?_
            have hbad := sr_bad hno 0
            obtain ⟨e1, e2, e3⟩ := sn_1 (a := L') (b := LB) (by rw [hbad, rB]; simp) (by rw [(sr_no hbad).1, rBS]; show (0 : Int) < TT.gen; omega)
            rw [e1, e2, e3, rBS]
            rintro e w9 ⟨rfl, hb9⟩
            have T9 := T8.below hb9 T8.lt
            have W9 := W8.trans (hb9.mono W8.size)
            have o9 := o8.below hb9
            have R9 := SB.new w9 Sp.zero 26
            have b9 : Below w9.heap.size w9 (w9.alloc (.cells Sp.zero.vs.toArray 26)) := (Below.refl _ _).alloc (Nat.le_refl _) _
            clear T8 W8 o8 ownB8 hb9 e1 e2 e3
            go_wp2_with (first
              | (refine wp_store_sp rfl _ _ rfl w9.heap.size rfl TT Sp.zero rfl R9 ?_; intro w10 R10 hb10 Q10; have bb10 := b9.trans (hb10 _ (Nat.le_refl _)); have W10 := W9.trans (bb10.mono W9.size); have T10 := T9.below bb10 T9.lt; have o10 := o9.below bb10)
              | fail)
            clear R9 b9 hb10 Q10 bb10 W9 T9 o9
            refine Calls.mono (snewer_any (some ⟨ga, 0, none⟩) 256 256 L' none 0 0 [] w10 o10.sl (sl_nil _) (ht.below W10 ht.1)) ?_
            obtain ⟨f1, f2, f3⟩ := sn_2 (a := L') (b := []) hbad (sr_nil 1)
            rw [f1, f2, f3]
            rintro e w11 ⟨rfl, hb11⟩
            have T11 := T10.below hb11 T10.lt
            have R11 := R10.below hb11 R10.lt
            have W11 := W10.trans (hb11.mono W10.size)
            have Z11 := SB.new w11 Sp.zero 26
            have b11 : Below w11.heap.size w11 (w11.alloc (.cells Sp.zero.vs.toArray 26)) := (Below.refl _ _).alloc (Nat.le_refl _) _
            clear T10 W10 o10 hb11
            go_wp2_with (first
              | (refine wp_store_sp rfl _ _ rfl w11.heap.size rfl Sp.zero Sp.zero rfl Z11 ?_; intro w12 R12 hb12 Q12; have bb12 := b11.trans (hb12 _ (Nat.le_refl _)); have W12 := W11.trans (bb12.mono W11.size); have l1 := (T11.below bb12 T11.lt).ld; have l2 := (R11.below bb12 R11.lt).ld)
              | fail)
            go_ret
            exact ⟨by first | rfl | simp, W12⟩
end Go.Proofs.YtljlliiedbedeaaDoor
