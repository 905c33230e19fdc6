/- The law CountsAll: for every input it returns true, and what came in reads as it did. -/
import Derived.Test.YtancpkdkfemgfaaCuM
import Derived.Test.YtancpkdkfemgfaaCuO
namespace Go.Proofs.Ytancpkdkfemgfaa
open Go Go.RowKit Go.Proofs

set_option maxRecDepth 10000 in
set_option maxHeartbeats 8000000 in
theorem countsAll_walk (n0 x : Int) (w : World) (hn0 : -9223372036854775808 ≤ n0 ∧ n0 ≤ 9223372036854775807) (hx : -9223372036854775808 ≤ x ∧ x ≤ 9223372036854775807) :
    Calls Try.prog 6 #[.int .i64 n0, .int .i64 x] w fun e w' => e = .returned (.bool true) ∧ Below w.heap.size w w' := by
  have Hn0 := Lib.hid hn0
  have Hx := Lib.hid hx
  clear hn0 hx
  go_enter Try.func6, Try.ntmps6
  go_wp2_with fail
  refine (cshown_any w).mono ?_
  rintro e w1 ⟨rfl, B1⟩
  go_wp2_with fail
  refine (ckind_any n0 200 Hn0.out (by omega) (by omega) w1).mono ?_
  rintro e w2 ⟨rfl, rfl⟩
  have hq := mq_lt n0 200 (by omega)
  generalize mq n0 200 = q at hq
  obtain ⟨n, hn⟩ : ∃ n, 32 + q = n := ⟨_, rfl⟩
  have hn' : (32 : Int) + (q : Int) = (n : Int) := by omega
  have hn1 : 32 ≤ n := by omega
  have hn2 : n ≤ 2048 := by omega
  clear hn
  obtain ⟨m, hm⟩ : ∃ m, areaN n = m := ⟨_, rfl⟩
  obtain ⟨f, hf⟩ : ∃ f, 2 + 2 * m = f := ⟨_, rfl⟩
  obtain ⟨J, hJ⟩ : ∃ J, f + J = n := ⟨n - f, by unfold areaN at hm; omega⟩
  have hJ0 : 0 < J := by unfold areaN at hm; omega
  have hF : (2 : Int) + 2 * (m : Int) = (f : Int) := by omega
  have HF := Lib.hid hF
  have Hm := Lib.hid hm
  have hJ' : 2 + 2 * areaN n + J = n := by rw [hm]; omega
  have HJ := Lib.hid hJ'
  have hff := Lib.hid (show 2 + 2 * areaN n = f by rw [hm]; exact hf)
  have hnf : (n : Int) - (f : Int) = (J : Int) := by omega
  clear hm hf hJ' hF
  go_wp2_with fail
  refine (xrefareas_any (n : Int) n rfl (by omega) m Hm.out w1).mono ?_
  rintro e w2 ⟨rfl, rfl⟩
  rw [HF.out]
  go_wp2_with fail
  refine (cnew_any n hn1 hn2 w1).mono ?_
  rintro e w2 ⟨p, rfl, R, B2⟩
  have R : CC w2 p (fun k => w1.heap.size ≤ k) (tookN n 0) := R
  have fr0 : (tookN n 0).free = J := by rw [took_free n 0 (by rw [hff.out]; omega), hff.out]; omega
  have Fr0 := Lib.hid fr0
  clear fr0
  go_wp2_with fail
  refine (cfreeAll_any R J Fr0.out).mono ?_
  rintro e w3 ⟨rfl, rfl⟩
  have B2' := B1.trans (B2.mono B1.size)
  clear B2
  go_wp2_with fail
  go_loopw [11, 12, 13] (fun i _ _ wr => ∃ j : Nat, j ≤ J ∧ i = .int .i64 ((f : Int) + (j : Int)) ∧ CC wr p (fun k => w1.heap.size ≤ k) (tookN n j) ∧ Below w.heap.size w wr) (fun i _ _ _ => n - (intOf i).toNat)
  case atStart => exact ⟨0, Nat.zero_le _, by go_num, R, B2'⟩
  case round =>
    clear R B2'
    obtain ⟨j, hj, rfl, R, B⟩ := hrel
    obtain ⟨i, hi⟩ : ∃ i, f + j = i := ⟨_, rfl⟩
    have hi' : (f : Int) + (j : Int) = (i : Int) := by omega
    rw [hi']
    by_cases hlt : j < J
    · have e3 : (i : Int) < (n : Int) := by omega
      have hp := took_pick n j (by rw [hff.out]; omega)
      rw [hff.out, hi] at hp
      have hal := Lib.hid (Ct.alloc_some hp)
      obtain ⟨r, hr⟩ : ∃ r, n - f - (j + 1) = r := ⟨_, rfl⟩
      have hfr := Lib.hid (show (tookN n (j + 1)).free = r by rw [took_free n (j + 1) (by rw [hff.out]; omega), hff.out]; exact hr)
      have hr' : (n : Int) - 1 - (i : Int) = (r : Int) := by omega
      have hi2 := Lib.hid (show (i : Int) + 1 = (f : Int) + ((j + 1 : Nat) : Int) by omega)
      have hmeas := Lib.hid (show n - (i + 1) < n - i by omega)
      clear hp hi hi' hr
      go_wp2_with fail
      refine (calloc_eq R (i : Int) 0 (tookN n (j + 1)) ⟨hal.out.2.1, hal.out.1⟩ rfl).mono ?_
      rintro e w4 ⟨rfl, R4, T4⟩
      have B4 : Below w.heap.size w w4 := B.trans (T4.below (fun _ hk => Nat.le_trans B1.size hk) B.size)
      clear R T4 B
      go_wp2_with fail
      refine (cfreeAll_any R4 r hfr.out).mono ?_
      rintro e w5 ⟨rfl, rfl⟩
      go_wp2
      exact ⟨⟨j + 1, by omega, by rw [← hi2.out], R4, B4⟩, by simp [intOf]; omega⟩
    · have hjJ : j = J := by omega
      subst hjJ
      have e3 : ¬ (i : Int) < (n : Int) := by omega
      have hb := mq_lt x j hJ0
      have Hb := Lib.hid hb
      obtain ⟨a, ha⟩ : ∃ a, f + mq x j = a := ⟨_, rfl⟩
      have ha1 : (f : Int) + (mq x j : Int) = (a : Int) := by omega
      have hj1 : j ≤ 1000000 := by omega
      have ha9 : a ≤ 2048 := by omega
      obtain ⟨C1, C2, C3, C4, C5, C6, s0, t0, s1, t1, s2, t2, t3, s4, t4, s5, t5, t6, s7, t7⟩ := all_says n j a HJ.out (by rw [hff.out]; omega) (by omega)
      replace s0 := Lib.hid s0
      replace s1 := Lib.hid s1
      replace s2 := Lib.hid s2
      replace s4 := Lib.hid s4
      replace s5 := Lib.hid s5
      replace s7 := Lib.hid s7
      replace t0 := Lib.hid t0
      replace t1 := Lib.hid t1
      replace t2 := Lib.hid t2
      replace t3 := Lib.hid t3
      replace t4 := Lib.hid t4
      replace t5 := Lib.hid t5
      replace t6 := Lib.hid t6
      replace t7 := Lib.hid t7
      generalize hmq : mq x j = y at ha1 hb
      have Hmq := Lib.hid hmq
      clear hi hi' ha hb hmq hj
      go_wp2_with fail
      refine (calloc_eq R 0 6 _ s0.out t0.out).mono ?_
      rintro e w4 ⟨rfl, R4, T4⟩
      have B4 : Below w.heap.size w w4 := B.trans (T4.below (fun _ hk => Nat.le_trans B1.size hk) B.size)
      clear R T4 B
      go_wp2_with fail
      refine (ckind_any x j Hx.out hJ0 hj1 w4).mono ?_
      rintro e w5 ⟨rfl, rfl⟩
      rw [Hmq.out]
      go_wp2_with fail
      refine (cunref_eq R4 (a : Int) 0 0 C1 s1.out t1.out).mono ?_
      rintro e w5 ⟨rfl, R5, T5⟩
      have B5 : Below w.heap.size w w5 := B4.trans (T5.below (fun _ hk => Nat.le_trans B1.size hk) B4.size)
      clear R4 T5 B4
      go_wp2_with fail
      refine (calloc_eq R5 (a : Int) 0 C2 s2.out t2.out).mono ?_
      rintro e w6 ⟨rfl, R6, T6⟩
      have B6 : Below w.heap.size w w6 := B5.trans (T6.below (fun _ hk => Nat.le_trans B1.size hk) B5.size)
      clear R5 T6 B5
      go_wp2_with fail
      refine (ccommit_eq R6 C3 t3.out).mono ?_
      rintro e w7 ⟨rfl, R7, T7⟩
      have B7 : Below w.heap.size w w7 := B6.trans (T7.below (fun _ hk => Nat.le_trans B1.size hk) B6.size)
      clear R6 T7 B6
      go_wp2_with fail
      refine (cunref_eq R7 (a : Int) 0 0 C4 s4.out t4.out).mono ?_
      rintro e w8 ⟨rfl, R8, T8⟩
      have B8 : Below w.heap.size w w8 := B7.trans (T8.below (fun _ hk => Nat.le_trans B1.size hk) B7.size)
      clear R7 T8 B7
      go_wp2_with fail
      refine (calloc_eq R8 0 6 C4 s5.out t5.out).mono ?_
      rintro e w9 ⟨rfl, R9, T9⟩
      have B9 : Below w.heap.size w w9 := B8.trans (T9.below (fun _ hk => Nat.le_trans B1.size hk) B8.size)
      clear R8 T9 B8
      go_wp2_with fail
      refine (ccommit_eq R9 C5 t6.out).mono ?_
      rintro e w10 ⟨rfl, R10, T10⟩
      have B10 : Below w.heap.size w w10 := B9.trans (T10.below (fun _ hk => Nat.le_trans B1.size hk) B9.size)
      clear R9 T10 B9
      go_wp2_with fail
      refine (calloc_eq R10 (a : Int) 0 C6 s7.out t7.out).mono ?_
      rintro e w11 ⟨rfl, R11, T11⟩
      have B11 : Below w.heap.size w w11 := B10.trans (T11.below (fun _ hk => Nat.le_trans B1.size hk) B10.size)
      clear R10 T11 B10
      go_wp2
      go_ret
      exact ⟨rfl, B11⟩
end Go.Proofs.Ytancpkdkfemgfaa
