/- The law CountsPlay: for every input it returns true, and what came in reads as it did. -/
import Derived.Test.YtancpkdkfemgfaaCuR
import Derived.Test.YtancpkdkfemgfaaCtI
import Derived.Test.YtancpkdkfemgfaaCtH
import Derived.Deep.CutBlock
namespace Go.Proofs.Ytancpkdkfemgfaa
open Go Go.RowKit Go.Proofs

set_option maxRecDepth 10000 in
set_option maxHeartbeats 8000000 in
theorem countsPlay_walk (n : Int) (A : Option Addr) (m c : Nat) (xs : List (Int × Int)) (w : World) (_hn0 : -9223372036854775808 ≤ n ∧ n ≤ 9223372036854775807) (h : CtOps w A m c xs) :
    Calls Try.prog 3 #[.int .i64 n, .slice A m c] w fun e w' => e = .returned (.bool true) ∧ Below w.heap.size w w' := by
  have hcap := h.2.1
  have hmax := h.2.2.1
  unfold maxLen at hmax
  have HO := Lib.hid h
  clear h
  by_cases hn : n < 32 ∨ 2048 < n
  · have Hn := Lib.hid hn
    clear hn
    go_enter Try.func3, Try.ntmps3
    go_wp2_with fail
    refine (cshown_any w).mono ?_
    rintro e w1 ⟨rfl, B1⟩
    go_wp2_with fail
    refine (cnew_bad n Hn.out w1).mono ?_
    rintro e w2 ⟨rfl, rfl⟩
    go_wp2_with fail
    refine (crefnew_bad n Hn.out w1).mono ?_
    rintro e w2 ⟨rfl, rfl⟩
    go_wp2_with fail
    go_loop [10] (fun i => i = .int .i64 0) (fun _ => 0)
    case atStart => rfl
    case round =>
      subst hrel
      by_cases hm0 : (0 : Int) < (m : Int)
      · go_wp2
        go_ret
        exact ⟨rfl, B1⟩
      · have hmd : decide ((0 : Int) < (m : Int)) = false := decide_eq_false hm0
        go_wp2
        go_ret
        exact ⟨rfl, B1⟩
  · obtain ⟨N, rfl⟩ := Int.eq_ofNat_of_zero_le (show 0 ≤ n by omega)
    have hn1 : 32 ≤ N := by omega
    have hn2 : N ≤ 2048 := by omega
    clear hn
    go_enter Try.func3, Try.ntmps3
    go_wp2_with fail
    refine (cshown_any w).mono ?_
    rintro e w1 ⟨rfl, B1⟩
    go_wp2_with fail
    refine (cnew_any N hn1 hn2 w1).mono ?_
    rintro e w2 ⟨p0, rfl, R, B2⟩
    go_wp2_with fail
    refine (crefnew_any N hn1 hn2 w2).mono ?_
    rintro e w3 ⟨y, rfl, Y, B3⟩
    obtain ⟨S0, T0, I0⟩ := two_new B1 R B2 Y B3
    clear R B2 Y B3 B1
    go_wp2_with fail
    go_loopw [6, 10, 11, 12, 13, 14, 15, 16, 17, 18, 19, 20] (fun q i _ _ _ _ _ _ _ _ _ _ wr => ∃ (j p : Nat) (S S2 : Nat → Prop) (C : Ct), j ≤ 60 ∧ j ≤ m ∧ i = .int .i64 (j : Int) ∧ q = .pointer (some ⟨p, 0, none⟩) ∧ Two w p y S S2 C wr) (fun _ i _ _ _ _ _ _ _ _ _ _ _ => 60 - (intOf i).toNat)
    case atStart => exact ⟨0, p0, S0, T0, _, Nat.zero_le _, Nat.zero_le _, rfl, rfl, I0⟩
    case round =>
      clear I0
      obtain ⟨j, p, S, S2, C, hj60, hj, rfl, rfl, I⟩ := hrel
      by_cases hlt : j < m
      · have e3 : (j : Int) < (m : Int) := by omega
        have e0 : (0 : Int) ≤ (j : Int) := by omega
        by_cases hlt2 : j < 60
        · have e4 : (j : Int) < 60 := by omega
          obtain ⟨⟨hk, ha⟩, g, o, hA, hg, hc0, hc1⟩ := HO.out.2.2.2 j hlt
          subst hA
          have d0 := (I.below.cell (p := ⟨g, o + j * 2, none⟩) hg).trans hc0
          have d1 := (I.below.cell (p := ⟨g, o + j * 2 + 1, none⟩) hg).trans hc1
          obtain ⟨k, hk'⟩ : ∃ k, (xs.getD j (0, 0)).1 = k := ⟨_, rfl⟩
          obtain ⟨a, ha'⟩ : ∃ a, (xs.getD j (0, 0)).2 = a := ⟨_, rfl⟩
          rw [hk'] at hk d0
          rw [ha'] at d1
          have Hk := Lib.hid hk
          clear hk' ha' hc0 hc1 hk ha
          go_upto_block 2 with (first
            | (go_at_call 12; refine (ckind_any k 8 Hk.out (by omega) (by omega) _).mono ?_; rintro e w' ⟨rfl, rfl⟩)
            | fail)
          have hq8 := mq_lt k 8 (by omega)
          generalize mq k 8 = q at hq8 ⊢
          clear d0 d1
          rcases (show q = 0 ∨ q = 1 ∨ q = 2 ∨ q = 3 ∨ q = 4 ∨ q = 5 ∨ q = 6 ∨ q = 7 by omega) with rfl | rfl | rfl | rfl | rfl | rfl | rfl | rfl
          · as_aux_lemma =>
            go_wp2_with fail
            refine (calloc_any I.cc).mono ?_
            rintro e w5 ⟨rfl, R5, T5⟩
            have Y5 := I.ref T5
            go_wp2_with fail
            refine (crefalloc_any Y5).mono ?_
            rintro e w6 ⟨rfl, Y6, T6⟩
            obtain ⟨S', I6⟩ := I.both' R5 T5 Y6 T6
            clear Y5 R5 T5 Y6 T6 I
            generalize C.allocV = v
            generalize C.allocE = ee
            go_wp2
            exact ⟨⟨j + 1, p, S, S', _, by omega, by omega, by go_num, rfl, I6⟩, by simp [intOf]; omega⟩
          · as_aux_lemma =>
            go_wp2_with fail
            refine (calloc_any I.cc).mono ?_
            rintro e w5 ⟨rfl, R5, T5⟩
            have Y5 := I.ref T5
            go_wp2_with fail
            refine (crefalloc_any Y5).mono ?_
            rintro e w6 ⟨rfl, Y6, T6⟩
            obtain ⟨S', I6⟩ := I.both' R5 T5 Y6 T6
            clear Y5 R5 T5 Y6 T6 I
            generalize C.allocV = v
            generalize C.allocE = ee
            go_wp2
            exact ⟨⟨j + 1, p, S, S', _, by omega, by omega, by go_num, rfl, I6⟩, by simp [intOf]; omega⟩
          · as_aux_lemma =>
            go_wp2_with fail
            refine (cref_any I.cc a).mono ?_
            rintro e w5 ⟨rfl, R5, T5⟩
            have Y5 := I.ref T5
            go_wp2_with fail
            refine (crefref_any Y5 a).mono ?_
            rintro e w6 ⟨rfl, Y6, T6⟩
            obtain ⟨S', I6⟩ := I.both' R5 T5 Y6 T6
            clear Y5 R5 T5 Y6 T6 I
            generalize C.refE a = ee
            go_wp2
            exact ⟨⟨j + 1, p, S, S', _, by omega, by omega, by go_num, rfl, I6⟩, by simp [intOf]; omega⟩
          · as_aux_lemma =>
            go_wp2_with fail
            refine (cref_any I.cc a).mono ?_
            rintro e w5 ⟨rfl, R5, T5⟩
            have Y5 := I.ref T5
            go_wp2_with fail
            refine (crefref_any Y5 a).mono ?_
            rintro e w6 ⟨rfl, Y6, T6⟩
            obtain ⟨S', I6⟩ := I.both' R5 T5 Y6 T6
            clear Y5 R5 T5 Y6 T6 I
            generalize C.refE a = ee
            go_wp2
            exact ⟨⟨j + 1, p, S, S', _, by omega, by omega, by go_num, rfl, I6⟩, by simp [intOf]; omega⟩
          · as_aux_lemma =>
            go_wp2_with fail
            refine (cunref_any I.cc a).mono ?_
            rintro e w5 ⟨rfl, R5, T5⟩
            have Y5 := I.ref T5
            go_wp2_with fail
            refine (crefunref_any Y5 a).mono ?_
            rintro e w6 ⟨rfl, Y6, T6⟩
            obtain ⟨S', I6⟩ := I.both' R5 T5 Y6 T6
            clear Y5 R5 T5 Y6 T6 I
            generalize C.unrefV a = v
            generalize C.unrefE a = ee
            go_wp2
            exact ⟨⟨j + 1, p, S, S', _, by omega, by omega, by go_num, rfl, I6⟩, by simp [intOf]; omega⟩
          · as_aux_lemma =>
            go_wp2_with fail
            refine (cunref_any I.cc a).mono ?_
            rintro e w5 ⟨rfl, R5, T5⟩
            have Y5 := I.ref T5
            go_wp2_with fail
            refine (crefunref_any Y5 a).mono ?_
            rintro e w6 ⟨rfl, Y6, T6⟩
            obtain ⟨S', I6⟩ := I.both' R5 T5 Y6 T6
            clear Y5 R5 T5 Y6 T6 I
            generalize C.unrefV a = v
            generalize C.unrefE a = ee
            go_wp2
            exact ⟨⟨j + 1, p, S, S', _, by omega, by omega, by go_num, rfl, I6⟩, by simp [intOf]; omega⟩
          · as_aux_lemma =>
            go_wp2_with fail
            refine (ccommit_any I.cc).mono ?_
            rintro e w5 ⟨rfl, R5, T5⟩
            have Y5 := I.ref T5
            go_wp2_with fail
            refine (crefcommit_any Y5).mono ?_
            rintro e w6 ⟨rfl, Y6, T6⟩
            obtain ⟨S', I6⟩ := I.both R5 T5 Y6 T6
            clear Y5 R5 T5 Y6 T6 I
            go_wp2
            exact ⟨⟨j + 1, p, S, S', _, by omega, by omega, by go_num, rfl, I6⟩, by simp [intOf]; omega⟩
          · as_aux_lemma =>
            go_wp2_with fail
            refine (cclone_any I.cc).mono ?_
            rintro e w5 ⟨p5, rfl, R5, B5⟩
            have O5 := I.cc.below B5
            go_wp2_with fail
            refine (calloc_any O5).mono ?_
            rintro e w6 ⟨rfl, O6, T6⟩
            go_wp2_with fail
            refine (cunref_any O6 a).mono ?_
            rintro e w7 ⟨rfl, O7, T7⟩
            have T7 := T6.then T7
            go_wp2_with fail
            refine (ccommit_any O7).mono ?_
            rintro e w8 ⟨rfl, O8, T8⟩
            have T8 := T7.then T8
            obtain ⟨S', I6⟩ := I.clone R5 B5 T8
            clear O5 O6 T6 O7 T7 O8 T8 R5 B5 I
            generalize C.alloc = C2
            go_wp2
            exact ⟨⟨j + 1, p5, S', S2, C, by omega, by omega, by go_num, rfl, I6⟩, by simp [intOf]; omega⟩
        · have hj2 : j = 60 := by omega
          have e4 : ¬ (j : Int) < 60 := by omega
          have B := I.below
          go_wp2_with fail
          refine (calike_any I.cc I.rc).mono ?_
          rintro e w5 ⟨rfl, rfl⟩
          go_wp2
          go_ret
          exact ⟨rfl, B⟩
      · have e3 : ¬ (j : Int) < (m : Int) := by omega
        have B := I.below
        go_wp2_with fail
        refine (calike_any I.cc I.rc).mono ?_
        rintro e w5 ⟨rfl, rfl⟩
        go_wp2
        go_ret
        exact ⟨rfl, B⟩
end Go.Proofs.Ytancpkdkfemgfaa
