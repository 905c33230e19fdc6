/- The law NodeFinds: for every input it returns true, and what came in reads as it did. -/
import Derived.Test.YtmebdjafnefneaaDoorNodeZ
import Derived.Test.YtmebdjafnefneaaDoorNodeFw
namespace Go.Proofs.YtmebdjafnefneaaDoor
open Go Go.RowKit Go.Proofs

theorem lastTo_pos (ks : List Kd) (k : Kd) : ∀ j, 0 < lastTo ks k j → k.less (keyAt ks (lastTo ks k j)) = false
  | 0, h => by cases h
  | j + 1, h => by
    unfold lastTo at h ⊢
    by_cases hl : k.less (keyAt ks j) = true
    · rw [if_pos hl] at h ⊢
      exact lastTo_pos ks k j h
    · rw [if_neg hl]
      simpa using hl
theorem lastTo_after (ks : List Kd) (k : Kd) : ∀ j q, lastTo ks k j < q → q < j → k.less (keyAt ks q) = true
  | 0, q, _, h => by cases h
  | j + 1, q, h, hq => by
    unfold lastTo at h
    by_cases hl : k.less (keyAt ks j) = true
    · rw [if_pos hl] at h
      rcases (by omega : q < j ∨ q = j) with h1 | rfl
      · exact lastTo_after ks k j q h h1
      · exact hl
    · rw [if_neg hl] at h
      omega
theorem lead_before : ∀ (ks : List Kd) (k : Kd) (q : Nat), q < lead ks k → (keyAt ks q).less k = true
  | [], k, q, h => by cases h
  | x :: ks, k, q, h => by
    unfold lead at h
    rw [List.takeWhile_cons] at h
    by_cases hx : x.less k = true
    · rw [if_pos hx] at h
      match q with
      | 0 => exact hx
      | q + 1 => exact lead_before ks k q (by unfold lead; simpa using h)
    · rw [if_neg hx] at h
      cases h
theorem lead_stop : ∀ (ks : List Kd) (k : Kd), lead ks k < ks.length → (keyAt ks (lead ks k)).less k = false
  | [], k, h => by cases h
  | x :: ks, k, h => by
    unfold lead at h ⊢
    rw [List.takeWhile_cons] at h ⊢
    by_cases hx : x.less k = true
    · rw [if_pos hx] at h ⊢
      exact lead_stop ks k (by unfold lead; simpa using h)
    · rw [if_neg hx]
      show x.less k = false
      simpa using hx
theorem wp_region_grown2 {P : Program} {id : Nat} {Q : Exit → Act → World → Prop} {a : Act} {w0 : World} (u0 : Grown w0) {l : List Oper} (hm : P.follows .mixedOrders = true) (hB : Region.lexB .any l.toArray = true)
    (h : wpQuiet P l.toArray (fun w' => ∃ u : Grown w0, w' = u.to) (fun a' => ∀ w', (∃ u : Grown w0, w' = u.to) → Q .normal a' w') l a) : (Code.region id l.toArray true).wp P Q a u0.to :=
  wp_region_quiet (C := fun w' => ∃ u : Grown w0, w' = u.to) hm hB ⟨⟨_, u0.ok.drew⟩, rfl⟩ (by rw [List.toList_toArray]; exact h)
theorem may_some {N : Nd} (hm : N.may = true) : 0 < N.keys.length := by
  unfold Nd.may at hm
  unfold Nd.keys
  rw [List.length_append, List.length_map, List.length_map]
  split at hm
  · rw [Bool.and_eq_true, Bool.and_eq_true] at hm
    have := (of_decide_eq_true hm.2.2)
    omega
  · rw [Bool.and_eq_true, Bool.and_eq_true] at hm
    have := (of_decide_eq_true hm.2.2)
    omega
set_option maxRecDepth 100000 in
set_option maxHeartbeats 16000000 in
theorem nodeFinds_walk (N : Nd) (A : Option Addr) (n c : Nat) (B : Option Addr) (m d : Nat) (k : Kd) (w : World) (hI : Itms w A n c N.items) (hK : Kidl w B m d N.kids) (ht : Tab w) :
    Calls Tryd.prog 8 #[.agg #[.int .i64 N.lvl, .slice A n c, .slice B m d], .agg #[.int .i64 k.obj, .int .i64 k.kind, .int .i64 k.off]] w fun e w' => e = .returned (.bool true) ∧ Below w.heap.size w w' := by
  go_enter Tryd.func8, Tryd.ntmps8
  go_wp2_with fail
  have N1 : NB ((w.alloc (.cells #[.int .i64 N.lvl, .slice A n c, .slice B m d] 25)).alloc (.cells #[.int .i64 k.obj, .int .i64 k.kind, .int .i64 k.off] 39)) w.heap.size N.lvl A n c B m d := (NB.new w _ _ _ _ _ _ _ _).below ((Below.refl _ _).alloc (Nat.le_refl _) _) (by simp)
  have K1 : KB ((w.alloc (.cells #[.int .i64 N.lvl, .slice A n c, .slice B m d] 25)).alloc (.cells #[.int .i64 k.obj, .int .i64 k.kind, .int .i64 k.off] 39)) (w.heap.size + 1) k := KB.new2 w _ k.obj k.kind k.off _
  have W1 : Below w.heap.size w ((w.alloc (.cells #[.int .i64 N.lvl, .slice A n c, .slice B m d] 25)).alloc (.cells #[.int .i64 k.obj, .int .i64 k.kind, .int .i64 k.off] 39)) := ((Below.refl _ _).alloc (Nat.le_refl _) _).alloc (by simp) _
  generalize (w.alloc (.cells #[.int .i64 N.lvl, .slice A n c, .slice B m d] 25)).alloc (.cells #[.int .i64 k.obj, .int .i64 k.kind, .int .i64 k.off] 39) = w1 at N1 K1 W1 ⊢
  refine (nshown_any w1 (ht.below W1 ht.1)).mono ?_
  rintro e w2 ⟨rfl, hb2⟩
  have N2 := N1.below hb2 N1.lt
  have K2 := K1.below hb2 K1.lt
  have W2 := W1.trans (hb2.mono W1.size)
  have q0 := N2.c0
  have q1 := N2.c1
  have q2 := N2.c2
  clear N1 W1 hb2 K1
  go_wp2_with fail
  refine (nfew_any N A n c B m d w2 (hI.below W2) (hK.below W2)).mono ?_
  rintro e w3 ⟨n1, m1, rfl, hn1, hm1, hI3, hK3, hb3⟩
  have hIf := fewI hI hI3
  have hKf := fewK hK hK3
  have N3 := N2.below hb3 N2.lt
  have K3 := K2.below hb3 K2.lt
  have W3 := W2.trans (hb3.mono W2.size)
  obtain ⟨M, hM⟩ : ∃ M, N.few = M := ⟨_, rfl⟩
  have hMl : M.lvl = N.lvl := by rw [← hM]; rfl
  rw [hM] at hIf hKf
  obtain ⟨l, hl⟩ : ∃ l, N.lvl = l := ⟨_, rfl⟩
  rw [hl] at N3 hMl ⊢
  clear q0 q1 q2 N2 W2 hb3 hI3 hK3 hM hl K2
  obtain rfl : M.lvl = l := hMl
  go_wp2_with (first
    | (refine wp_store_nd rfl (.tmp 2) (.tmp 15) rfl w.heap.size rfl M.lvl A n1 c B m1 d rfl N3 ?_; intro w4 N4 T4; have q0 := N4.c0; have q1 := N4.c1; have q2 := N4.c2; have K4 := K3.keep (T4.block _ K3.lt (fun e => by have e : _ = w.heap.size := e; omega)); have k0 := K4.c0; have k1 := K4.c1; have k2 := K4.c2)
    | fail)
  have W4 := W3.trans (T4.belowOne N3.lt)
  have hI4 : ∀ w' : World, Below w.heap.size w w' → Itms w' A n1 c M.items := fun w' hb => hIf.below hb
  have hK4 : ∀ w' : World, Below w.heap.size w w' → Kidl w' B m1 d M.kids := fun w' hb => hKf.below hb
  clear N3 W3 T4 hIf hKf hI hK K3
  cases hmay : M.may
  · refine (cnmay_any M false hmay A n1 c B m1 d w4 (hI4 _ W4) (hK4 _ W4) (by omega) (by omega)).mono ?_
    rintro e w5 ⟨rfl, hb5⟩
    have W5 := W4.trans (hb5.mono W4.size)
    go_wp2
    go_ret
    exact ⟨rfl, W5⟩
  · have hfit := may_fit hmay
    have hsome := may_some hmay
    have hl0 := (may_sizes hmay).2.2.2
    obtain ⟨t, ht'⟩ : ∃ t, M.seek k = t := ⟨_, rfl⟩
    obtain ⟨r, hr⟩ : ∃ r, foundAt M.keys k t = r := ⟨_, rfl⟩
    obtain ⟨z, hz⟩ : ∃ z, M.least = z := ⟨_, rfl⟩
    have Hseek := Lib.hid ht'
    have Hfound := Lib.hid hr
    have Hleast := Lib.hid hz
    have HM := Lib.hid hmay
    have HI := Lib.hid hI4
    have HK := Lib.hid hK4
    have Hsome := Lib.hid hsome
    have Hl0 := Lib.hid hl0
    clear ht' hr hz hmay hI4 hK4 hsome hl0
    refine (cnmay_any M true HM.out A n1 c B m1 d w4 (HI.out _ W4) (HK.out _ W4) (by omega) (by omega)).mono ?_
    rintro e w5 ⟨rfl, hb5⟩
    have N5 := N4.below hb5 N4.lt
    have K5 := K4.below hb5 K4.lt
    have W5 := W4.trans (hb5.mono W4.size)
    clear q0 q1 q2 k0 k1 k2 N4 K4 W4
    have q0 := N5.c0
    have q1 := N5.c1
    have q2 := N5.c2
    have k0 := K5.c0
    have k1 := K5.c1
    have k2 := K5.c2
    go_wp2_with fail
    refine (cseek_any M hfit k t Hseek.out r Hfound.out A n1 c B m1 d w5 (HI.out _ W5) (HK.out _ W5) (by omega) (by omega)).mono ?_
    rintro e w6 ⟨rfl, hb6⟩
    have N6 := N5.below hb6 N5.lt
    have K6 := K5.below hb6 K5.lt
    have W6 := W5.trans (hb6.mono W5.size)
    clear q0 q1 q2 k0 k1 k2 N5 K5 W5
    have q0 := N6.c0
    have q1 := N6.c1
    have q2 := N6.c2
    have k0 := K6.c0
    have k1 := K6.c1
    have k2 := K6.c2
    go_wp2_with fail
    refine (refkeys_any M A n1 c B m1 d w6 (HI.out _ W6) (HK.out _ W6) (by omega) (by omega)).mono ?_
    rintro e w7 ⟨A7, n7, c7, rfl, hn7, L7, hb7⟩
    have N7 := N6.below hb7 N6.lt
    have K7 := K6.below hb7 K6.lt
    have W7 := W6.trans (hb7.mono W6.size)
    clear q0 q1 q2 k0 k1 k2 N6 K6 W6
    have q0 := N7.c0
    have q1 := N7.c1
    have q2 := N7.c2
    have k0 := K7.c0
    have k1 := K7.c1
    have k2 := K7.c2
    have Hlen := Lib.hid L7.len
    have hn70 : 0 < n7 := by have := Hsome.out; rw [Hlen.out] at this; exact this
    have hn7m : n7 ≤ 1000 := by omega
    have b0 : ∀ u : Grown w7, Below w.heap.size w u.to := fun u => W7.trans (u.ok.mono W7.size)
    have B0 := Lib.hid b0
    have hq0 : ∀ u : Grown w7, u.to.cell? ⟨w.heap.size, 0, none⟩ = some (.int .i64 M.lvl) := Grown.cell N7.c0 N7.lt
    have hq1 : ∀ u : Grown w7, u.to.cell? ⟨w.heap.size, 1, none⟩ = some (.slice A n1 c) := Grown.cell N7.c1 N7.lt
    have hq2 : ∀ u : Grown w7, u.to.cell? ⟨w.heap.size, 2, none⟩ = some (.slice B m1 d) := Grown.cell N7.c2 N7.lt
    have hk0 : ∀ u : Grown w7, u.to.cell? ⟨w.heap.size + 1, 0, none⟩ = some (.int .i64 k.obj) := Grown.cell K7.c0 K7.lt
    have hk1 : ∀ u : Grown w7, u.to.cell? ⟨w.heap.size + 1, 1, none⟩ = some (.int .i64 k.kind) := Grown.cell K7.c1 K7.lt
    have hk2 : ∀ u : Grown w7, u.to.cell? ⟨w.heap.size + 1, 2, none⟩ = some (.int .i64 k.off) := Grown.cell K7.c2 K7.lt
    have hgk := guard_says
    have cellK : ∀ j, j < n7 → ∃ g o, A7 = some ⟨g, o, none⟩ ∧ (∀ u : Grown w7, u.to.cell? ⟨g, o + j * 3, none⟩ = some (.int .i64 (keyAt M.keys j).obj)) ∧ (∀ u : Grown w7, u.to.cell? ⟨g, o + j * 3 + 1, none⟩ = some (.int .i64 (keyAt M.keys j).kind)) ∧ (∀ u : Grown w7, u.to.cell? ⟨g, o + j * 3 + 2, none⟩ = some (.int .i64 (keyAt M.keys j).off)) := fun j hj => by
      obtain ⟨g, o, e, hg, c0, c1, c2⟩ := L7.cell hj
      exact ⟨g, o, e, Grown.cell c0 hg, Grown.cell c1 hg, Grown.cell c2 hg⟩
    have CK := Lib.hid cellK
    obtain ⟨g, o, rfl, -⟩ := cellK 0 hn70
    have cells : ∀ j, j < n7 → ∀ kj, keyAt M.keys j = kj → (∀ u : Grown w7, u.to.cell? ⟨g, o + j * 3, none⟩ = some (.int .i64 kj.obj)) ∧ (∀ u : Grown w7, u.to.cell? ⟨g, o + j * 3 + 1, none⟩ = some (.int .i64 kj.kind)) ∧ (∀ u : Grown w7, u.to.cell? ⟨g, o + j * 3 + 2, none⟩ = some (.int .i64 kj.off)) := fun j hj kj hkj => by
      obtain ⟨g', o', e, h1, h2, h3⟩ := CK.out j hj
      injection e with e
      injection e with e1 e2
      subst e1 e2 hkj
      exact ⟨h1, h2, h3⟩
    have Cells := Lib.hid cells
    clear cells cellK CK b0 q0 q1 q2 k0 k1 k2
    obtain ⟨u0, hu0⟩ : ∃ u0 : Grown w7, w7 = u0.to := ⟨⟨w7, Below.refl _ _⟩, rfl⟩
    clear N7 K7 hb5 hb6 hb7 L7
    by_cases hl : M.lvl = 0
    · have hks := fit_leaf hfit hl
      have Ht := Lib.hid (show lead M.keys k = t by rw [← Hseek.out]; unfold Nd.seek; rw [if_pos hl])
      have htle : t ≤ n7 := by rw [← Ht.out, ← Hlen.out]; exact lead_le _ _
      have hgt : ¬ (0 : Int) < M.lvl := by omega
      have hgt2 : decide ((0 : Int) < M.lvl) = false := decide_eq_false hgt
      clear hks
      have Hl := Lib.hid hl
      clear hl
      obtain ⟨y, hy⟩ : ∃ y, keyAt M.keys 0 = y := ⟨_, rfl⟩
      have hyz : y = z := by rw [← hy, ← Hleast.out]; unfold Nd.least; rw [if_neg (by have := Hsome.out; omega)]
      obtain ⟨z0, y1, y2⟩ := Cells.out 0 hn70 y hy
      rw [Nat.zero_mul, Nat.add_zero] at z0 y1 y2
      have hzz := eql_says z y true (same_yes hyz.symm)
      clear hyz hy
      have hn7p : (0 : Int) < (n7 : Int) := by omega
      rw [hu0]
      go_wp2_with fail
      by_cases htn : t < n7
      · obtain ⟨a, ha⟩ : ∃ a, keyAt M.keys t = a := ⟨_, rfl⟩
        obtain ⟨c0, c1, c2⟩ := Cells.out t htn a ha
        have hs : a.same k = r := by rw [← Hfound.out]; unfold foundAt; rw [ha, decide_eq_true (by rw [Hlen.out]; exact htn), Bool.true_and]
        have heq := eql_says a k r hs
        have Hstop := Lib.hid (show a.less k = false by rw [← ha, ← Ht.out]; exact lead_stop _ _ (by rw [Ht.out, Hlen.out]; exact htn))
        have hi0 : (0 : Int) ≤ (t : Int) := by omega
        have hi1 : (t : Int) < (n7 : Int) := by omega
        have hi2 : ¬ (n7 : Int) < (t : Int) := by omega
        have hi3 : ¬ (t : Int) < 0 := by omega
        have hi4 : ((t : Int) == (n7 : Int)) = false := by simp; omega
        have hi5 : (t == n7) = false := by simp; omega
        clear ha hs
        cases r
        · refine wp_region_grown2 u0 (by kernel_rfl) (by kernel_rfl) ?_
          repeat (go_big_quiet_step (fail))
          refine wpQuiet_nil ?_
          rintro _ ⟨u1, rfl⟩
          by_cases ht0 : t = 0
          · have f1 : ((t : Int) == 0) = true := by simp [ht0]
            have f2 : (t == 0) = true := by simp [ht0]
            clear ht0
            go_wp2_with fail
            refine wp_region_grown2 u1 (by kernel_rfl) (by kernel_rfl) ?_
            repeat (go_big_quiet_step (fail))
            refine wpQuiet_nil ?_
            rintro _ ⟨u2, rfl⟩
            clear f1 f2
            go_wp2_with fail
            refine wp_region_grown2 u2 (by kernel_rfl) (by kernel_rfl) ?_
            repeat (go_big_quiet_step (first | (go_at_call 25; exact Calls.grown (refless_says a k false Hstop.out _)) | fail))
            refine wpQuiet_nil ?_
            rintro _ ⟨u3, rfl⟩
            go_wp2_with fail
            refine wp_region_grown2 u3 (by kernel_rfl) (by kernel_rfl) ?_
            repeat (go_big_quiet_step (first | (go_at_call 22; exact Calls.grown (cnleast_any M hfit z Hleast.out A n1 c B m1 d _ (HI.out _ (B0.out _)) (HK.out _ (B0.out _)))) | fail))
            refine wpQuiet_nil ?_
            rintro _ ⟨u9, rfl⟩
            have hBu := B0.out u9
            go_wp2
            go_ret
            exact ⟨by first | rfl | simp, hBu⟩
          · obtain ⟨q, hq⟩ : ∃ q, t = q + 1 := ⟨t - 1, by omega⟩
            have f1 : ((t : Int) == 0) = false := by simp [ht0]
            have f2 : (t == 0) = false := by simp [ht0]
            obtain ⟨b, hb⟩ : ∃ b, keyAt M.keys q = b := ⟨_, rfl⟩
            obtain ⟨d0, d1, d2⟩ := Cells.out q (by omega) b hb
            have Hlq := Lib.hid (show b.less k = true by rw [← hb]; exact lead_before _ _ _ (by rw [Ht.out]; omega))
            have w1' : IntKind.i64.wrap ((t : Int) - 1) = (q : Int) := by rw [show (t : Int) - 1 = (q : Int) by omega]; exact IntWalk.i64_in _ (by omega)
            have v0 : (0 : Int) ≤ (q : Int) := by omega
            have v1 : (q : Int) < (n7 : Int) := by omega
            clear hb hq
            go_wp2_with fail
            refine wp_region_grown2 u1 (by kernel_rfl) (by kernel_rfl) ?_
            repeat (go_big_quiet_step (first | (go_at_call 25; exact Calls.grown (refless_says b k true Hlq.out _)) | fail))
            refine wpQuiet_nil ?_
            rintro _ ⟨u2, rfl⟩
            clear d0 d1 d2 w1' v0 v1 f1 f2
            go_wp2_with fail
            refine wp_region_grown2 u2 (by kernel_rfl) (by kernel_rfl) ?_
            repeat (go_big_quiet_step (first | (go_at_call 25; exact Calls.grown (refless_says a k false Hstop.out _)) | fail))
            refine wpQuiet_nil ?_
            rintro _ ⟨u3, rfl⟩
            go_wp2_with fail
            refine wp_region_grown2 u3 (by kernel_rfl) (by kernel_rfl) ?_
            repeat (go_big_quiet_step (first | (go_at_call 22; exact Calls.grown (cnleast_any M hfit z Hleast.out A n1 c B m1 d _ (HI.out _ (B0.out _)) (HK.out _ (B0.out _)))) | fail))
            refine wpQuiet_nil ?_
            rintro _ ⟨u9, rfl⟩
            have hBu := B0.out u9
            go_wp2
            go_ret
            exact ⟨by first | rfl | simp, hBu⟩
        · refine wp_region_grown2 u0 (by kernel_rfl) (by kernel_rfl) ?_
          repeat (go_big_quiet_step (fail))
          refine wpQuiet_nil ?_
          rintro _ ⟨u1, rfl⟩
          by_cases ht0 : t = 0
          · have f1 : ((t : Int) == 0) = true := by simp [ht0]
            have f2 : (t == 0) = true := by simp [ht0]
            clear ht0
            go_wp2_with fail
            refine wp_region_grown2 u1 (by kernel_rfl) (by kernel_rfl) ?_
            repeat (go_big_quiet_step (fail))
            refine wpQuiet_nil ?_
            rintro _ ⟨u2, rfl⟩
            clear f1 f2
            go_wp2_with fail
            refine wp_region_grown2 u2 (by kernel_rfl) (by kernel_rfl) ?_
            repeat (go_big_quiet_step (first | (go_at_call 25; exact Calls.grown (refless_says a k false Hstop.out _)) | fail))
            refine wpQuiet_nil ?_
            rintro _ ⟨u3, rfl⟩
            go_wp2_with fail
            refine wp_region_grown2 u3 (by kernel_rfl) (by kernel_rfl) ?_
            repeat (go_big_quiet_step (first | (go_at_call 22; exact Calls.grown (cnleast_any M hfit z Hleast.out A n1 c B m1 d _ (HI.out _ (B0.out _)) (HK.out _ (B0.out _)))) | fail))
            refine wpQuiet_nil ?_
            rintro _ ⟨u9, rfl⟩
            have hBu := B0.out u9
            go_wp2
            go_ret
            exact ⟨by first | rfl | simp, hBu⟩
          · obtain ⟨q, hq⟩ : ∃ q, t = q + 1 := ⟨t - 1, by omega⟩
            have f1 : ((t : Int) == 0) = false := by simp [ht0]
            have f2 : (t == 0) = false := by simp [ht0]
            obtain ⟨b, hb⟩ : ∃ b, keyAt M.keys q = b := ⟨_, rfl⟩
            obtain ⟨d0, d1, d2⟩ := Cells.out q (by omega) b hb
            have Hlq := Lib.hid (show b.less k = true by rw [← hb]; exact lead_before _ _ _ (by rw [Ht.out]; omega))
            have w1' : IntKind.i64.wrap ((t : Int) - 1) = (q : Int) := by rw [show (t : Int) - 1 = (q : Int) by omega]; exact IntWalk.i64_in _ (by omega)
            have v0 : (0 : Int) ≤ (q : Int) := by omega
            have v1 : (q : Int) < (n7 : Int) := by omega
            clear hb hq
            go_wp2_with fail
            refine wp_region_grown2 u1 (by kernel_rfl) (by kernel_rfl) ?_
            repeat (go_big_quiet_step (first | (go_at_call 25; exact Calls.grown (refless_says b k true Hlq.out _)) | fail))
            refine wpQuiet_nil ?_
            rintro _ ⟨u2, rfl⟩
            clear d0 d1 d2 w1' v0 v1 f1 f2
            go_wp2_with fail
            refine wp_region_grown2 u2 (by kernel_rfl) (by kernel_rfl) ?_
            repeat (go_big_quiet_step (first | (go_at_call 25; exact Calls.grown (refless_says a k false Hstop.out _)) | fail))
            refine wpQuiet_nil ?_
            rintro _ ⟨u3, rfl⟩
            go_wp2_with fail
            refine wp_region_grown2 u3 (by kernel_rfl) (by kernel_rfl) ?_
            repeat (go_big_quiet_step (first | (go_at_call 22; exact Calls.grown (cnleast_any M hfit z Hleast.out A n1 c B m1 d _ (HI.out _ (B0.out _)) (HK.out _ (B0.out _)))) | fail))
            refine wpQuiet_nil ?_
            rintro _ ⟨u9, rfl⟩
            have hBu := B0.out u9
            go_wp2
            go_ret
            exact ⟨by first | rfl | simp, hBu⟩
      · obtain rfl : n7 = t := by omega
        obtain rfl : r = false := by rw [← Hfound.out]; unfold foundAt; rw [decide_eq_false (by rw [Hlen.out]; omega), Bool.false_and]
        have hi2 : ¬ (n7 : Int) < (n7 : Int) := by omega
        have hi3 : ¬ (n7 : Int) < 0 := by omega
        refine wp_region_grown2 u0 (by kernel_rfl) (by kernel_rfl) ?_
        repeat (go_big_quiet_step (fail))
        refine wpQuiet_nil ?_
        rintro _ ⟨u1, rfl⟩
        obtain ⟨q, hq⟩ : ∃ q, n7 = q + 1 := ⟨n7 - 1, by omega⟩
        obtain ⟨b, hb⟩ : ∃ b, keyAt M.keys q = b := ⟨_, rfl⟩
        obtain ⟨d0, d1, d2⟩ := Cells.out q (by omega) b hb
        have Hlq := Lib.hid (show b.less k = true by rw [← hb]; exact lead_before _ _ _ (by rw [Ht.out]; omega))
        have w1' : IntKind.i64.wrap ((n7 : Int) - 1) = (q : Int) := by rw [show (n7 : Int) - 1 = (q : Int) by omega]; exact IntWalk.i64_in _ (by omega)
        have v0 : (0 : Int) ≤ (q : Int) := by omega
        have v1 : (q : Int) < (n7 : Int) := by omega
        have v2 : ¬ (n7 : Int) = 0 := by omega
        have v3 : ((n7 : Int) == 0) = false := by simp; omega
        have v4 : (n7 == 0) = false := by simp; omega
        have v5 : ¬ n7 = 0 := by omega
        clear hb hq
        go_wp2_with fail
        refine wp_region_grown2 u1 (by kernel_rfl) (by kernel_rfl) ?_
        repeat (go_big_quiet_step (first | (go_at_call 25; exact Calls.grown (refless_says b k true Hlq.out _)) | fail))
        refine wpQuiet_nil ?_
        rintro _ ⟨u2, rfl⟩
        clear d0 d1 d2 w1' v0 v1
        go_wp2_with fail
        refine wp_region_grown2 u2 (by kernel_rfl) (by kernel_rfl) ?_
        repeat (go_big_quiet_step (fail))
        refine wpQuiet_nil ?_
        rintro _ ⟨u3, rfl⟩
        go_wp2_with fail
        refine wp_region_grown2 u3 (by kernel_rfl) (by kernel_rfl) ?_
        repeat (go_big_quiet_step (first | (go_at_call 22; exact Calls.grown (cnleast_any M hfit z Hleast.out A n1 c B m1 d _ (HI.out _ (B0.out _)) (HK.out _ (B0.out _)))) | fail))
        refine wpQuiet_nil ?_
        rintro _ ⟨u9, rfl⟩
        have hBu := B0.out u9
        go_wp2
        go_ret
        exact ⟨by first | rfl | simp, hBu⟩
    · have hlt : t < n7 := by
        have : lastTo M.keys k M.keys.length = t := by rw [← Hseek.out]; unfold Nd.seek; rw [if_neg hl]
        rw [Hlen.out] at this
        rcases lastTo_le M.keys k n7 with h | h <;> omega
      have Ht := Lib.hid (show lastTo M.keys k n7 = t by rw [← Hseek.out]; unfold Nd.seek; rw [if_neg hl, Hlen.out])
      have hgt : (0 : Int) < M.lvl := by have := Hl0.out; omega
      have hgt2 : decide ((0 : Int) < M.lvl) = true := decide_eq_true hgt
      clear hl
      obtain ⟨a, ha⟩ : ∃ a, keyAt M.keys t = a := ⟨_, rfl⟩
      obtain ⟨c0, c1, c2⟩ := Cells.out t hlt a ha
      have hs : a.same k = r := by rw [← Hfound.out]; unfold foundAt; rw [ha, decide_eq_true (by rw [Hlen.out]; exact hlt), Bool.true_and]
      have heq := eql_says a k r hs
      have hless := Lib.hid (show 0 < t → k.less a = false by intro h; rw [← ha, ← Ht.out]; exact lastTo_pos _ _ _ (by rw [Ht.out]; exact h))
      have hi0 : (0 : Int) ≤ (t : Int) := by omega
      have hi1 : (t : Int) < (n7 : Int) := by omega
      have hi2 : ¬ (n7 : Int) ≤ (t : Int) := by omega
      have hi3 : ¬ (t : Int) < 0 := by omega
      have hi6 : decide ((t : Int) < 0) = false := decide_eq_false (by omega)
      have hi7 : decide ((n7 : Int) ≤ (t : Int)) = false := decide_eq_false (by omega)
      have hi8 : decide (n7 ≤ t) = false := decide_eq_false (by omega)
      clear ha hs
      rw [hu0]
      go_wp2_with fail
      refine wp_region_grown2 u0 (by kernel_rfl) (by kernel_rfl) ?_
      repeat (go_big_quiet_step (fail))
      refine wpQuiet_nil ?_
      rintro _ ⟨u1, rfl⟩
      clear heq
      by_cases ht0 : t = 0
      · have f1 : ((t : Int) == 0) = true := by simp [ht0]
        have f2 : (t == 0) = true := by simp [ht0]
        have Ht0 := Lib.hid ht0
        clear ht0
        go_wp2_with fail
        refine wp_region_grown2 u1 (by kernel_rfl) (by kernel_rfl) ?_
        repeat (go_big_quiet_step (fail))
        refine wpQuiet_nil ?_
        rintro _ ⟨u2, rfl⟩
        by_cases hend : t + 1 = n7
        · have hw : IntKind.i64.wrap ((n7 : Int) - 1) = (t : Int) := by rw [show (n7 : Int) - 1 = (t : Int) by omega]; exact IntWalk.i64_in _ (by omega)
          have Hend := Lib.hid hend
          clear hend
          go_wp2_with fail
          refine wp_region_grown2 u2 (by kernel_rfl) (by kernel_rfl) ?_
          repeat (go_big_quiet_step (fail))
          refine wpQuiet_nil ?_
          rintro _ ⟨u9, rfl⟩
          have hBu := B0.out u9
          go_wp2
          go_ret
          exact ⟨by first | rfl | simp, hBu⟩
        · obtain ⟨t1, ht1⟩ : ∃ t1, t + 1 = t1 := ⟨_, rfl⟩
          obtain ⟨a1, ha1⟩ : ∃ a1, keyAt M.keys t1 = a1 := ⟨_, rfl⟩
          obtain ⟨d0, d1, d2⟩ := Cells.out t1 (by omega) a1 ha1
          have hl1 : k.less a1 = true := by rw [← ha1]; exact lastTo_after M.keys k n7 t1 (by rw [Ht.out]; omega) (by omega)
          have Hl1 := Lib.hid hl1
          obtain ⟨nm, hnm⟩ : ∃ nm : Nat, n7 - 1 = nm := ⟨_, rfl⟩
          have hw : IntKind.i64.wrap ((n7 : Int) - 1) = (nm : Int) := by rw [show (n7 : Int) - 1 = (nm : Int) by omega]; exact IntWalk.i64_in _ (by omega)
          have hw1 : IntKind.i64.wrap ((t : Int) + 1) = (t1 : Int) := by rw [show (t : Int) + 1 = (t1 : Int) by omega]; exact IntWalk.i64_in _ (by omega)
          have e1 : ((t : Int) == (nm : Int)) = false := by simp; omega
          have e2 : (t == nm) = false := by simp; omega
          have e3 : ¬ t = nm := by omega
          have e4 : (0 : Int) ≤ (t1 : Int) := by omega
          have e5 : (t1 : Int) < (n7 : Int) := by omega
          clear hend ht1 ha1 hl1 hnm
          go_wp2_with fail
          refine wp_region_grown2 u2 (by kernel_rfl) (by kernel_rfl) ?_
          repeat (go_big_quiet_step (first | (go_at_call 25; exact Calls.grown (refless_says k a1 true Hl1.out _)) | fail))
          refine wpQuiet_nil ?_
          rintro _ ⟨u9, rfl⟩
          have hBu := B0.out u9
          go_wp2
          go_ret
          exact ⟨by first | rfl | simp, hBu⟩
      · have f1 : ((t : Int) == 0) = false := by simp [ht0]
        have f2 : (t == 0) = false := by simp [ht0]
        have Hnl := Lib.hid (hless.out (by omega))
        go_wp2_with fail
        refine wp_region_grown2 u1 (by kernel_rfl) (by kernel_rfl) ?_
        repeat (go_big_quiet_step (first | (go_at_call 25; exact Calls.grown (refless_says k a false Hnl.out _)) | fail))
        refine wpQuiet_nil ?_
        rintro _ ⟨u2, rfl⟩
        by_cases hend : t + 1 = n7
        · have hw : IntKind.i64.wrap ((n7 : Int) - 1) = (t : Int) := by rw [show (n7 : Int) - 1 = (t : Int) by omega]; exact IntWalk.i64_in _ (by omega)
          have Hend := Lib.hid hend
          clear hend
          go_wp2_with fail
          refine wp_region_grown2 u2 (by kernel_rfl) (by kernel_rfl) ?_
          repeat (go_big_quiet_step (fail))
          refine wpQuiet_nil ?_
          rintro _ ⟨u9, rfl⟩
          have hBu := B0.out u9
          go_wp2
          go_ret
          exact ⟨by first | rfl | simp, hBu⟩
        · obtain ⟨t1, ht1⟩ : ∃ t1, t + 1 = t1 := ⟨_, rfl⟩
          obtain ⟨a1, ha1⟩ : ∃ a1, keyAt M.keys t1 = a1 := ⟨_, rfl⟩
          obtain ⟨d0, d1, d2⟩ := Cells.out t1 (by omega) a1 ha1
          have hl1 : k.less a1 = true := by rw [← ha1]; exact lastTo_after M.keys k n7 t1 (by rw [Ht.out]; omega) (by omega)
          have Hl1 := Lib.hid hl1
          obtain ⟨nm, hnm⟩ : ∃ nm : Nat, n7 - 1 = nm := ⟨_, rfl⟩
          have hw : IntKind.i64.wrap ((n7 : Int) - 1) = (nm : Int) := by rw [show (n7 : Int) - 1 = (nm : Int) by omega]; exact IntWalk.i64_in _ (by omega)
          have hw1 : IntKind.i64.wrap ((t : Int) + 1) = (t1 : Int) := by rw [show (t : Int) + 1 = (t1 : Int) by omega]; exact IntWalk.i64_in _ (by omega)
          have e1 : ((t : Int) == (nm : Int)) = false := by simp; omega
          have e2 : (t == nm) = false := by simp; omega
          have e3 : ¬ t = nm := by omega
          have e4 : (0 : Int) ≤ (t1 : Int) := by omega
          have e5 : (t1 : Int) < (n7 : Int) := by omega
          clear hend ht1 ha1 hl1 hnm
          go_wp2_with fail
          refine wp_region_grown2 u2 (by kernel_rfl) (by kernel_rfl) ?_
          repeat (go_big_quiet_step (first | (go_at_call 25; exact Calls.grown (refless_says k a1 true Hl1.out _)) | fail))
          refine wpQuiet_nil ?_
          rintro _ ⟨u9, rfl⟩
          have hBu := B0.out u9
          go_wp2
          go_ret
          exact ⟨by first | rfl | simp, hBu⟩
end Go.Proofs.YtmebdjafnefneaaDoor
