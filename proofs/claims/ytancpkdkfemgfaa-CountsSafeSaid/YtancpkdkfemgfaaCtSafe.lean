/- The law CountsSafe: for every input it returns true, and what came in reads as it did. -/
import Derived.Test.YtancpkdkfemgfaaCuP
import Derived.Test.YtancpkdkfemgfaaCtI
import Derived.Deep.CutBlock
import Derived.Deep.RegionHeld3
import Derived.BigQuiet
import Derived.Deep.QuietTactic
namespace Go.Proofs.Ytancpkdkfemgfaa
open Go Go.RowKit Go.Proofs

set_option maxRecDepth 10000 in
set_option maxHeartbeats 8000000 in
theorem countsSafe_walk (n0 : Int) (A : Option Addr) (m c : Nat) (xs : List (Int × Int)) (w : World) (hn0 : -9223372036854775808 ≤ n0 ∧ n0 ≤ 9223372036854775807) (h : CtOps w A m c xs) :
    Calls Try.prog 5 #[.int .i64 n0, .slice A m c] w fun e w' => e = .returned (.bool true) ∧ Below w.heap.size w w' := by
  have Hn0 := Lib.hid hn0
  have hcap := h.2.1
  have hmax := h.2.2.1
  unfold maxLen at hmax
  have HO := Lib.hid h
  clear hn0 h
  go_enter Try.func5, Try.ntmps5
  go_wp2_with fail
  refine (cshown_any w).mono ?_
  rintro e w1 ⟨rfl, B1⟩
  go_wp2_with fail
  refine (ckind_any n0 100 Hn0.out (by omega) (by omega) w1).mono ?_
  rintro e w2 ⟨rfl, rfl⟩
  have hq := mq_lt n0 100 (by omega)
  generalize mq n0 100 = q at hq
  obtain ⟨n, hn⟩ : ∃ n, 32 + q = n := ⟨_, rfl⟩
  have hn' : (32 : Int) + (q : Int) = (n : Int) := by omega
  have hn1 : 32 ≤ n := by omega
  have hn2 : n ≤ 2048 := by omega
  clear hn
  obtain ⟨ar, hm⟩ : ∃ m, areaN n = m := ⟨_, rfl⟩
  obtain ⟨f, hf⟩ : ∃ f, 2 + 2 * ar = f := ⟨_, rfl⟩
  have HF := Lib.hid (show (2 : Int) + 2 * (ar : Int) = (f : Int) by omega)
  have Hm := Lib.hid hm
  have hff := Lib.hid (show 2 + 2 * areaN n = f by rw [hm]; exact hf)
  have hfn : f ≤ n := by unfold areaN at hm; omega
  clear hm hf
  go_wp2_with fail
  refine (xrefareas_any (n : Int) n rfl (by omega) ar Hm.out w1).mono ?_
  rintro e w2 ⟨rfl, rfl⟩
  rw [HF.out]
  go_wp2_with fail
  refine (cnew_any n hn1 hn2 w1).mono ?_
  rintro e w2 ⟨p, rfl, R, B2⟩
  have R := R.shrink
  have B2' := B1.trans (B2.mono B1.size)
  have z1 := B1.size
  have z2 := B2.size
  obtain ⟨S, hS⟩ : ∃ S : Nat → Prop, ∀ k, S k ↔ w1.heap.size ≤ k ∧ k < w2.heap.size := ⟨_, fun _ => Iff.rfl⟩
  have R : CC w2 p S (Ct.zero n) := R.mono fun k hk => (hS k).2 hk
  go_wp2_with (first
    | (at_make; refine wp_make_i rfl _ _ rfl n rfl rfl (by omega) ?_)
    | fail)
  intro w3 r3 B3
  go_wp2_with (first
    | (at_make; refine wp_make_i rfl _ _ rfl n rfl rfl (by omega) ?_)
    | fail)
  intro w4 r4 B4
  have z3 := B3.size
  have z4 := B4.size
  have l3 := r3.lt
  have l2 := R.lt
  have I0 : Safe w p w2.heap.size w3.heap.size n S 0 (Ct.zero n) w4 := by
    refine ⟨(R.below B3).below B4, r3.keep (B4.block _ l3), r4, Ct.zero_n n, Ct.top_zero n, B2'.trans ((B3.mono (by omega)).trans (B4.mono (by omega))), fun k hk => by have := (hS k).1 hk; omega, ⟨by omega, fun hk => by have := (hS _).1 hk; omega⟩, ⟨by omega, fun hk => by have := (hS _).1 hk; omega⟩, by omega⟩
  generalize w2.heap.size = ga at I0
  generalize w3.heap.size = gb at I0
  clear R r3 r4 B3 B4 B2 B2' z1 z2 z3 z4 l3 l2 hS B1
  go_wp2_with fail
  go_loopw [13, 14, 15, 16, 17, 18] (fun i _ _ _ _ _ wr => ∃ (j : Nat) (C : Ct), j ≤ 60 ∧ j ≤ m ∧ i = .int .i64 (j : Int) ∧ Safe w p ga gb n S j C wr) (fun i _ _ _ _ _ _ => 60 - (intOf i).toNat)
  case atStart => exact ⟨0, _, Nat.zero_le _, Nat.zero_le _, rfl, I0⟩
  case round =>
    clear I0
    obtain ⟨j, C, hj60, hj, rfl, I⟩ := hrel
    by_cases hlt : j < m
    · have e3 : (j : Int) < (m : Int) := by omega
      have e0 : (0 : Int) ≤ (j : Int) := by omega
      by_cases hlt2 : j < 60
      · have e4 : (j : Int) < 60 := by omega
        obtain ⟨⟨hk, ha⟩, g, o, hA, hg, hc0, hc1⟩ := HO.out.2.2.2 j hlt
        subst hA
        have d0 := (I.below.cell (p := ⟨g, o + j * 2, none⟩) hg).trans hc0
        have d1 := (I.below.cell (p := ⟨g, o + j * 2 + 1, none⟩) hg).trans hc1
        obtain ⟨k, hk'⟩ : ∃ k, (xs.getD j (0, 0)).1 = k := ⟨_, rfl⟩
        obtain ⟨a, ha'⟩ : ∃ a, (xs.getD j (0, 0)).2 = a := ⟨_, rfl⟩
        rw [hk'] at hk d0
        rw [ha'] at ha d1
        have Hk := Lib.hid hk
        have Ha := Lib.hid ha
        clear hk' ha' hc0 hc1 hk ha
        go_wp2_with fail
        refine (ckind_any a n Ha.out (by omega) (by omega) wr).mono ?_
        rintro e w5 ⟨rfl, rfl⟩
        have hb := mq_lt a n (by omega)
        generalize mq a n = b at hb
        go_upto_block 2 with (first
          | (go_at_call 12; refine (ckind_any k 6 Hk.out (by omega) (by omega) _).mono ?_; rintro e w' ⟨rfl, rfl⟩)
          | fail)
        have hq6 := mq_lt k 6 (by omega)
        generalize mq k 6 = q at hq6 ⊢
        have hbn : b < C.n := by rw [I.len]; exact hb
        obtain ⟨x, hx⟩ : ∃ x, nm C.now b = x := ⟨_, rfl⟩
        have hx0 : 0 ≤ x := by rw [← hx]; exact (I.cc.ok.2 b hbn).1
        have hx1 : x ≤ 60 := by rw [← hx]; have := I.top b hbn; omega
        have Hx := Lib.hid hx
        clear hx d0 d1
        go_cut [15, 16, 17, 18] from 43 to 197 (fun s15 s16 s17 s18 wc => ∃ C' : Ct, Safe w p ga gb n S (j + 1) C' wc)
        case first =>
          have I0 := I
          rcases (show q = 0 ∨ q = 1 ∨ q = 2 ∨ q = 3 ∨ q = 4 ∨ q = 5 by omega) with rfl | rfl | rfl | rfl | rfl | rfl
          · as_aux_lemma =>
            rcases hpk : C.pick with _ | t
            · have hE := Lib.hid (Ct.alloc_none hpk)
              have hfr := Lib.hid (Ct.pick_none_free hpk)
              clear hpk
              go_wp2_with fail
              refine (calloc_eq I.cc 0 6 C ⟨hE.out.2.1, hE.out.1⟩ hE.out.2.2).mono ?_
              rintro e w5 ⟨rfl, R5, T5⟩
              have B5 := (I.same R5 T5 (Nat.le_refl _)).below
              clear T5
              go_wp2_with fail
              refine (cfreeAll_any R5 0 hfr.out).mono ?_
              rintro e w6 ⟨rfl, rfl⟩
              go_wp2
              go_ret
              exact ⟨rfl, B5⟩
            · have hE := Lib.hid (Ct.alloc_some hpk)
              obtain ⟨p1, p2, p3, p4, _⟩ := Ct.pick_in hpk
              rw [I.len] at p1
              have p2 : f ≤ t := by unfold Ct.first at p2; rw [I.len, hff.out] at p2; exact p2
              have P3 := Lib.hid p3
              have P4 := Lib.hid p4
              clear hpk p3 p4
              go_wp2_with fail
              refine (calloc_eq I.cc (t : Int) 0 (C.put t 1) ⟨hE.out.2.1, hE.out.1⟩ hE.out.2.2).mono ?_
              rintro e w5 ⟨rfl, R5, T5⟩
              obtain ⟨h1, h2, h3⟩ := I.call R5 T5
              obtain ⟨c1, f1⟩ := h1.at_ p1
              obtain ⟨c2, _⟩ := h2.at_ p1
              rw [P3.out] at c1
              rw [P4.out] at c2
              have I6 := I.put (j' := j + 1) t 1 R5 T5 (Ct.top_put (Ct.top_more I.top (by omega)) _ _ (by omega))
              have e5 : ¬ (t : Int) < (f : Int) := by omega
              have e6 : ¬ (n : Int) ≤ (t : Int) := by omega
              have e7 : (t : Int) < (n : Int) := by omega
              have e8 : (0 : Int) ≤ (t : Int) := by omega
              clear h1 h2 h3 R5 T5 I I0
              go_wp2_with fail
              go_meet
              exact ⟨_, I6⟩
          · as_aux_lemma =>
            rcases hpk : C.pick with _ | t
            · have hE := Lib.hid (Ct.alloc_none hpk)
              have hfr := Lib.hid (Ct.pick_none_free hpk)
              clear hpk
              go_wp2_with fail
              refine (calloc_eq I.cc 0 6 C ⟨hE.out.2.1, hE.out.1⟩ hE.out.2.2).mono ?_
              rintro e w5 ⟨rfl, R5, T5⟩
              have B5 := (I.same R5 T5 (Nat.le_refl _)).below
              clear T5
              go_wp2_with fail
              refine (cfreeAll_any R5 0 hfr.out).mono ?_
              rintro e w6 ⟨rfl, rfl⟩
              go_wp2
              go_ret
              exact ⟨rfl, B5⟩
            · have hE := Lib.hid (Ct.alloc_some hpk)
              obtain ⟨p1, p2, p3, p4, _⟩ := Ct.pick_in hpk
              rw [I.len] at p1
              have p2 : f ≤ t := by unfold Ct.first at p2; rw [I.len, hff.out] at p2; exact p2
              have P3 := Lib.hid p3
              have P4 := Lib.hid p4
              clear hpk p3 p4
              go_wp2_with fail
              refine (calloc_eq I.cc (t : Int) 0 (C.put t 1) ⟨hE.out.2.1, hE.out.1⟩ hE.out.2.2).mono ?_
              rintro e w5 ⟨rfl, R5, T5⟩
              obtain ⟨h1, h2, h3⟩ := I.call R5 T5
              obtain ⟨c1, f1⟩ := h1.at_ p1
              obtain ⟨c2, _⟩ := h2.at_ p1
              rw [P3.out] at c1
              rw [P4.out] at c2
              have I6 := I.put (j' := j + 1) t 1 R5 T5 (Ct.top_put (Ct.top_more I.top (by omega)) _ _ (by omega))
              have e5 : ¬ (t : Int) < (f : Int) := by omega
              have e6 : ¬ (n : Int) ≤ (t : Int) := by omega
              have e7 : (t : Int) < (n : Int) := by omega
              have e8 : (0 : Int) ≤ (t : Int) := by omega
              clear h1 h2 h3 R5 T5 I I0
              go_wp2_with fail
              go_meet
              exact ⟨_, I6⟩
          · as_aux_lemma =>
            rcases hpk : C.pick with _ | t
            · have hE := Lib.hid (Ct.alloc_none hpk)
              have hfr := Lib.hid (Ct.pick_none_free hpk)
              clear hpk
              go_wp2_with fail
              refine (calloc_eq I.cc 0 6 C ⟨hE.out.2.1, hE.out.1⟩ hE.out.2.2).mono ?_
              rintro e w5 ⟨rfl, R5, T5⟩
              have B5 := (I.same R5 T5 (Nat.le_refl _)).below
              clear T5
              go_wp2_with fail
              refine (cfreeAll_any R5 0 hfr.out).mono ?_
              rintro e w6 ⟨rfl, rfl⟩
              go_wp2
              go_ret
              exact ⟨rfl, B5⟩
            · have hE := Lib.hid (Ct.alloc_some hpk)
              obtain ⟨p1, p2, p3, p4, _⟩ := Ct.pick_in hpk
              rw [I.len] at p1
              have p2 : f ≤ t := by unfold Ct.first at p2; rw [I.len, hff.out] at p2; exact p2
              have P3 := Lib.hid p3
              have P4 := Lib.hid p4
              clear hpk p3 p4
              go_wp2_with fail
              refine (calloc_eq I.cc (t : Int) 0 (C.put t 1) ⟨hE.out.2.1, hE.out.1⟩ hE.out.2.2).mono ?_
              rintro e w5 ⟨rfl, R5, T5⟩
              obtain ⟨h1, h2, h3⟩ := I.call R5 T5
              obtain ⟨c1, f1⟩ := h1.at_ p1
              obtain ⟨c2, _⟩ := h2.at_ p1
              rw [P3.out] at c1
              rw [P4.out] at c2
              have I6 := I.put (j' := j + 1) t 1 R5 T5 (Ct.top_put (Ct.top_more I.top (by omega)) _ _ (by omega))
              have e5 : ¬ (t : Int) < (f : Int) := by omega
              have e6 : ¬ (n : Int) ≤ (t : Int) := by omega
              have e7 : (t : Int) < (n : Int) := by omega
              have e8 : (0 : Int) ≤ (t : Int) := by omega
              clear h1 h2 h3 R5 T5 I I0
              go_wp2_with fail
              go_meet
              exact ⟨_, I6⟩
          · as_aux_lemma =>
            have c0 : wr.drew.cell? ⟨ga, b, none⟩ = some (.int .i64 x) := by rw [← Hx.out]; exact (I.now.at_ hb).1
            have R0 : CC wr.drew p S C := I.cc
            have e7 : (b : Int) < (n : Int) := by omega
            have e8 : (0 : Int) ≤ (b : Int) := by omega
            by_cases h0 : x = 0
            · subst h0
              have hn := Lib.hid (Ct.not_raised (C := C) (a := (b : Int)) (by rw [Ct.get_at hbn]; exact Hx.out))
              go_upto_region 24 with fail
              go_region_held3 (fun w' => w'.cell? ⟨ga, b, none⟩ = some (.int .i64 0)) (first | assumption)
                (first
                  | (go_at_call 15; refine (cref_eq R0 (b : Int) 1 C hn.out.1 hn.out.2.1).mono ?_; rintro e w5 ⟨rfl, R5, T5⟩; have c5 : w5.cell? ⟨ga, b, none⟩ = some (.int .i64 0) := (World.cell?_of_block (a := ⟨ga, b, none⟩) (T5.block ga I.now.lt I.ha.2)).trans c0)
                  | fail)
              all_goals (
                have I6 := I.same (j' := j + 1) R5 ((Turn.refl S wr).drew.then T5) (by omega)
                clear R0 c0 I I0
                go_wp2_with fail
                go_meet
                exact ⟨_, I6⟩)
            · have hn := Lib.hid (Ct.ref_at hbn Hx.out h0 (by omega))
              have hpos : 0 < x := by omega
              go_upto_region 24 with fail
              go_region_held3 (fun w' => w'.cell? ⟨ga, b, none⟩ = some (.int .i64 x)) (first | assumption)
                (first
                  | (go_at_call 15; refine (cref_eq R0 (b : Int) 0 (C.put b (x + 1)) hn.out.1 hn.out.2).mono ?_; rintro e w5 ⟨rfl, R5, T5⟩; have c5 : w5.cell? ⟨ga, b, none⟩ = some (.int .i64 x) := (World.cell?_of_block (a := ⟨ga, b, none⟩) (T5.block ga I.now.lt I.ha.2)).trans c0)
                  | fail)
              all_goals (
                have T6 := (Turn.refl S wr).drew.then T5
                have f5 := ((I.call R5 T6).1.at_ hb).2
                have I6 := I.put (j' := j + 1) b (x + 1) R5 T6 (Ct.top_put (Ct.top_more I.top (by omega)) _ _ (by have := I.top b hbn; rw [Hx.out] at this; omega))
                clear R0 c0 I I0 R5 T5 T6
                go_wp2_with fail
                go_meet
                exact ⟨_, I6⟩)
          · as_aux_lemma =>
            have e7 : (b : Int) < (n : Int) := by omega
            have e8 : (0 : Int) ≤ (b : Int) := by omega
            by_cases h0 : x = 0
            · subst h0
              have hn := Lib.hid (Ct.not_raised (C := C) (a := (b : Int)) (by rw [Ct.get_at hbn]; exact Hx.out))
              go_wp2_with fail
              refine (cunref_eq I.cc (b : Int) 0 1 C ⟨hn.out.2.2.1, hn.out.2.2.2.1⟩ hn.out.2.2.2.2.1).mono ?_
              rintro e w5 ⟨rfl, R5, T5⟩
              have c5 : w5.cell? ⟨ga, b, none⟩ = some (.int .i64 0) := by rw [← Hx.out]; exact ((I.call R5 T5).1.at_ hb).1
              have I6 := I.same (j' := j + 1) R5 T5 (by omega)
              clear I I0 R5 T5
              go_wp2_with fail
              go_meet
              exact ⟨_, I6⟩
            · have hn := Lib.hid (Ct.unref_at hbn Hx.out h0)
              have hpos : 0 < x := by omega
              go_wp2_with fail
              refine (cunref_eq I.cc (b : Int) (x - 1) 0 (C.put b (x - 1)) hn.out.1 hn.out.2).mono ?_
              rintro e w5 ⟨rfl, R5, T5⟩
              have c5 : w5.cell? ⟨ga, b, none⟩ = some (.int .i64 x) := by rw [← Hx.out]; exact ((I.call R5 T5).1.at_ hb).1
              have f5 := ((I.call R5 T5).1.at_ hb).2
              have I6 := I.put (j' := j + 1) b (x - 1) R5 T5 (Ct.top_put (Ct.top_more I.top (by omega)) _ _ (by have := I.top b hbn; rw [Hx.out] at this; omega))
              have c6 : (w5.setCell ⟨ga, b, none⟩ (.int .i64 (x - 1))).cell? ⟨ga, b, none⟩ = some (.int .i64 (x - 1)) := by
                have := (I6.now.at_ hb).1
                rw [show nm (C.put b (x - 1)).now b = x - 1 from nm_set_same _ _ _ hbn] at this
                exact this
              clear I I0 R5 T5
              go_wp2_with fail
              go_meet
              exact ⟨_, I6⟩
          · as_aux_lemma =>
            go_wp2_with fail
            refine (ccommit_any I.cc).mono ?_
            rintro e w5 ⟨rfl, R5, T5⟩
            obtain ⟨h1, h2, h3⟩ := I.call R5 T5
            go_wp2_with (first
              | ((with_reducible show wpList _ _ _ _ _ _); refine wp_copy_i rfl (.tmp 169) (.tmp 170) rfl gb n n C.done h2 rfl ga n C.now h1 rfl ?_)
              | fail)
            intro w6 r6 e6 t6
            go_wp2_with fail
            go_meet
            exact ⟨_, I.commit R5 T5 (by omega) r6 e6 t6⟩
        case rest =>
          as_aux_lemma =>
          obtain ⟨C', I'⟩ := hcut
          clear I hbn Hx hx0 hx1
          have hbn : b < C'.n := by rw [I'.len]; exact hb
          obtain ⟨x, hx⟩ : ∃ x, nm C'.now b = x := ⟨_, rfl⟩
          obtain ⟨y, hy⟩ : ∃ y, nm C'.done b = y := ⟨_, rfl⟩
          have hx0 : 0 ≤ x := by rw [← hx]; exact (I'.cc.ok.2 b hbn).1
          have hc1 := (I'.now.at_ hb).1
          have hc2 := (I'.don.at_ hb).1
          rw [hx] at hc1
          rw [hy] at hc2
          have g1 : C'.get (b : Int) = x := by rw [Ct.get_at hbn, hx]
          have f1 := Ct.fresh_at hbn hx hy
          have C1 : ∀ k, Calls Try.prog 31 #[.pointer (some ⟨p, 0, none⟩), .int .i64 (b : Int)] (wc.drewN k) fun e w' => e = .returned (.int .i64 x) ∧ w' = wc.drewN k := fun k => (cget_any (show CC (wc.drewN k) p S C' from I'.cc) (b : Int) x g1).mono fun e w' ⟨h1, h2⟩ => ⟨h1, h2.symm⟩
          have C2 : ∀ k, Calls Try.prog 32 #[.pointer (some ⟨p, 0, none⟩), .int .i64 (b : Int)] (wc.drewN k) fun e w' => e = .returned (.bool (!decide (x = 0) && decide (y = 0))) ∧ w' = wc.drewN k := fun k => (cfresh_any (show CC (wc.drewN k) p S C' from I'.cc) (b : Int) _ f1).mono fun e w' ⟨h1, h2⟩ => ⟨h1, h2.symm⟩
          have e7 : (b : Int) < (n : Int) := by omega
          have e8 : (0 : Int) ≤ (b : Int) := by omega
          have HI := Lib.hid I'
          clear g1 f1 hx hy I' hbn
          by_cases h0 : x = 0
          · subst h0
            go_upto_region 39 with fail
            go_quiet (first
              | (go_at_call 31; exact Calls.quiet_of_same (C1 _))
              | (go_at_call 32; exact Calls.quiet_of_same (C2 _)))
            go_wp2
            exact ⟨⟨j + 1, C', by omega, by omega, by go_num, HI.out.drewN _⟩, by simp [intOf]; omega⟩
          · have hpos : 0 < x := by omega
            have hd : decide (x = 0) = false := decide_eq_false h0
            by_cases h1 : y = 0
            · subst h1
              go_upto_region 39 with fail
              go_quiet (first
                | (go_at_call 31; exact Calls.quiet_of_same (C1 _))
                | (go_at_call 32; exact Calls.quiet_of_same (C2 _)))
              go_wp2
              exact ⟨⟨j + 1, C', by omega, by omega, by go_num, HI.out.drewN _⟩, by simp [intOf]; omega⟩
            · have hd1 : decide (y = 0) = false := decide_eq_false h1
              have hb1 : (y == 0) = false := by simpa using h1
              go_upto_region 39 with fail
              go_quiet (first
                | (go_at_call 31; exact Calls.quiet_of_same (C1 _))
                | (go_at_call 32; exact Calls.quiet_of_same (C2 _)))
              go_wp2
              exact ⟨⟨j + 1, C', by omega, by omega, by go_num, HI.out.drewN _⟩, by simp [intOf]; omega⟩
      · have hj2 : j = 60 := by omega
        have e4 : ¬ (j : Int) < 60 := by omega
        have B := I.below
        go_wp2
        go_ret
        exact ⟨rfl, B⟩
    · have e3 : ¬ (j : Int) < (m : Int) := by omega
      have B := I.below
      go_wp2
      go_ret
      exact ⟨rfl, B⟩
end Go.Proofs.Ytancpkdkfemgfaa
