/- The code's counts: Load. -/
import Derived.Test.YtancpkdkfemgfaaCuI
namespace Go.Proofs.Ytancpkdkfemgfaa
open Go Go.RowKit Go.Proofs

set_option maxRecDepth 10000 in
set_option maxHeartbeats 4000000 in
theorem cload_in (n : Nat) (ls : List (List UInt8)) (h1 : 32 ≤ n) (h2 : n ≤ 2048) (A : Option Addr) (m c : Nat) {w : World} (H : Parts w A m c ls) (hm : m = areaN n) :
    Calls Try.prog 28 #[.int .i64 (n : Int), .slice A m c] w fun e w' => (((∀ i, i < areaN n → rowGood n (2 + 2 * areaN n) i (nth ls i)) ∧ ∃ p, e = .returned (.tuple #[.pointer (some ⟨p, 0, none⟩), .int .i64 0]) ∧ CC w' p (fun k => w.heap.size ≤ k) (loadC n ls)) ∨
      ((¬ ∀ i, i < areaN n → rowGood n (2 + 2 * areaN n) i (nth ls i)) ∧ e = .returned (.tuple #[.pointer none, .int .i64 3]))) ∧ Below w.heap.size w w' := by
  obtain ⟨many, hmn⟩ : ∃ k, areaN n = k := ⟨_, rfl⟩
  have hm2 : many ≤ 1000 := by rw [← hmn]; unfold areaN; omega
  have Hmn := Lib.hid hmn
  have hm' : m = many := by omega
  subst hm'
  rw [hmn]
  clear hm hmn
  have hkc : m ≤ c := H.2.1
  have hmx : c ≤ maxLen := H.2.2.1
  unfold maxLen at hmx
  go_enter Try.func28, Try.ntmps28
  go_wp2_with fail
  refine (cnew_any n h1 h2 w).mono ?_
  rintro e w1 ⟨p, rfl, R, B⟩
  have c2 : w1.cell? ⟨p, 2, none⟩ = some (.int .i64 (m : Int)) := by
    obtain ⟨_, _, _, _, _, _, c2, _⟩ := R.open_
    rw [Ct.zero_n, Hmn.out] at c2
    exact c2
  have R := R.shrink
  obtain ⟨S, hS⟩ : ∃ S : Nat → Prop, (fun k => w.heap.size ≤ k ∧ k < w1.heap.size) = S := ⟨_, rfl⟩
  rw [hS] at R
  have hS1 : ∀ k, S k → w.heap.size ≤ k := fun k hk => by rw [← hS] at hk; exact hk.1
  clear hS
  have HS1 := Lib.hid hS1
  clear hS1
  go_wp2_with fail
  clear c2
  go_loopw [8, 9, 27] (fun _ _ i wr => ∃ j : Nat, j ≤ m ∧ i = .int .i64 (j : Int) ∧ CC wr p S (allTo n ls j) ∧ (∀ q, q < j → rowGood n (2 + 2 * m) q (nth ls q)) ∧ Below w.heap.size w wr) (fun _ _ i _ => m - (intOf i).toNat)
  case atStart => exact ⟨0, Nat.zero_le _, rfl, R, fun q hq => absurd hq (Nat.not_lt_zero _), B⟩
  case round =>
    clear R B
    obtain ⟨j, hj, rfl, R, hall, B⟩ := hrel
    by_cases hlt : j < m
    · obtain ⟨ad, A1, n1, c1, eA, hbl, hcl, hsl⟩ := H.cell hlt
      subst eA
      have hcr := (B.cell (p := ad.add j) (by rw [addr_block]; exact hbl)).trans hcl
      have hsr := hsl.below B
      have e3 : (j : Int) < (m : Int) := by omega
      have e0 : (0 : Int) ≤ (j : Int) := by omega
      have hl1 := hsl.len
      obtain ⟨l, hl⟩ : ∃ l, nth ls j = l := ⟨_, rfl⟩
      rw [hl] at hsl hsr hl1
      have Hl := Lib.hid hl
      have Hall := Lib.hid hall
      have Hl1 := Lib.hid hl1
      clear hl hall hcl hl1
      by_cases h236 : n1 = 236
      · subst h236
        have hA1 : ∀ ad, A1 = some ad → ¬ S ad.block := fun ad e => by
          obtain ⟨ad', e', hb, _⟩ := hsl.cell (k := 0) (by omega)
          rw [e] at e'
          injection e' with e'
          subst e'
          exact fun h => absurd (HS1.out _ h) (by omega)
        have HA1 := Lib.hid hA1
        have hsr2 := Lib.hid hsr
        clear hA1 hsr hsl
        have hnC : (allTo n ls j).n = n := allTo_n _ _ _
        have hfC : (allTo n ls j).first = 2 + 2 * m := by unfold Ct.first; rw [hnC, Hmn.out]
        have hzC : ∀ a, j * 118 ≤ a → a < (allTo n ls j).n → nm (allTo n ls j).now a = 0 := fun a ha1 ha2 => by
          rw [hnC] at ha2
          rw [allTo_now n ls j a ha2, if_neg (by omega)]
        have hstep : rowTo n j l (allTo n ls j) 118 = allTo n ls (j + 1) := by rw [← Hl.out]; rfl
        have hk := ctake_any R j (by omega) A1 c1 l hsr2.out HA1.out hzC
        rw [hnC, hfC, hstep] at hk
        have Hk := Lib.hid hk
        clear hk hnC hfC hzC hstep
        go_wp2_with fail
        refine Hk.out.mono ?_
        rintro e w4 ⟨⟨rfl, hg, R4⟩ | ⟨rfl, q, hq, hg⟩, T4⟩
        · have B4 := B.trans (T4.below (fun _ hk => HS1.out _ hk) B.size)
          have Hg := Lib.hid hg
          clear hg R
          go_wp2
          refine ⟨⟨j + 1, by omega, by go_num, R4, fun q hq => ?_, B4⟩, by simp [intOf]; omega⟩
          by_cases e : q = j
          · rw [e, Hl.out]
            exact ⟨Hl1.out, Hg.out⟩
          · exact Hall.out q (by omega)
        · have B4 := B.trans (T4.below (fun _ hk => HS1.out _ hk) B.size)
          have hno : ¬ ∀ i, i < m → rowGood n (2 + 2 * m) i (nth ls i) := fun hh => by
            have h3 := (hh j hlt).2 q hq
            rw [Hl.out, hg] at h3
            cases h3
          have Hno := Lib.hid hno
          clear hno hg
          go_wp2
          go_ret2
          exact ⟨.inr ⟨Hno.out, rfl⟩, B4⟩
      · have e4 : ¬ (n1 : Int) = 236 := by omega
        have hbad := Lib.hid (show ¬ ∀ i, i < m → rowGood n (2 + 2 * m) i (nth ls i) from fun hh => h236 (by have := (hh j hlt).1; rw [Hl.out] at this; exact Hl1.out.symm.trans this))
        have hb : ((n1 : Int) == 236) = false := by simpa using e4
        go_wp2
        go_ret2
        exact ⟨.inr ⟨hbad.out, rfl⟩, B⟩
    · have hjm : j = m := by omega
      subst hjm
      have Hall := Lib.hid hall
      clear hall
      go_wp2_with fail
      refine (ccommit_any R).mono ?_
      rintro e w5 ⟨rfl, R5, T5⟩
      go_wp2
      go_ret2
      refine ⟨.inl ⟨Hall.out, p, rfl, ?_⟩, B.trans (T5.below (fun _ hk => HS1.out _ hk) B.size)⟩
      exact (show loadC n ls = (allTo n ls j).commit by unfold loadC; rw [Hmn.out]) ▸ R5.mono fun k hk => HS1.out k hk
set_option maxHeartbeats 1000000 in
theorem cload_bad (n : Int) (h : n < 32 ∨ 2048 < n) (A : Option Addr) (m c : Nat) (w : World) :
    Calls Try.prog 28 #[.int .i64 n, .slice A m c] w fun e w' => e = .returned (.tuple #[.pointer none, .int .i64 1]) ∧ w = w' := by
  have H := Lib.hid h
  clear h
  go_enter Try.func28, Try.ntmps28
  go_wp2_with fail
  refine (cnew_bad n H.out w).mono ?_
  rintro e w1 ⟨rfl, rfl⟩
  go_wp2
  go_ret2
  exact ⟨rfl, rfl⟩
set_option maxHeartbeats 1000000 in
theorem cload_many (n : Nat) (h1 : 32 ≤ n) (h2 : n ≤ 2048) (A : Option Addr) (m c : Nat) (w : World) (hm : m ≠ areaN n) :
    Calls Try.prog 28 #[.int .i64 (n : Int), .slice A m c] w fun e w' => e = .returned (.tuple #[.pointer none, .int .i64 3]) ∧ Below w.heap.size w w' := by
  obtain ⟨k, hk⟩ : ∃ k, areaN n = k := ⟨_, rfl⟩
  rw [hk] at hm
  have Hk := Lib.hid hk
  have d0 : ¬ (m : Int) = (k : Int) := by omega
  have hb : ((m : Int) == (k : Int)) = false := by simpa using d0
  clear hk
  go_enter Try.func28, Try.ntmps28
  go_wp2_with fail
  refine (cnew_any n h1 h2 w).mono ?_
  rintro e w1 ⟨p, rfl, R, B⟩
  have c2 : w1.cell? ⟨p, 2, none⟩ = some (.int .i64 (k : Int)) := by
    obtain ⟨_, _, _, _, _, _, c2, _⟩ := R.open_
    rw [Ct.zero_n, Hk.out] at c2
    exact c2
  go_wp2
  go_ret2
  exact ⟨rfl, B⟩
/-- Load of anything. -/
theorem cload_any (n : Int) (ls : List (List UInt8)) (A : Option Addr) (m c : Nat) {w : World} (H : Parts w A m c ls) :
    Calls Try.prog 28 #[.int .i64 n, .slice A m c] w fun e w' => ((loadE n ls = 0 ∧ ∃ p, e = .returned (.tuple #[.pointer (some ⟨p, 0, none⟩), .int .i64 0]) ∧ CC w' p (fun k => w.heap.size ≤ k) (loadC n.toNat ls)) ∨
      (loadE n ls ≠ 0 ∧ e = .returned (.tuple #[.pointer none, .int .i64 (loadE n ls)]))) ∧ Below w.heap.size w w' := by
  by_cases hn : 32 ≤ n ∧ n ≤ 2048
  · obtain ⟨k, rfl⟩ := Int.eq_ofNat_of_zero_le (show 0 ≤ n by omega)
    by_cases hm : m = areaN k
    · refine (cload_in k ls (by omega) (by omega) A m c H hm).mono ?_
      have hl : ls.length = areaN k := H.len.trans hm
      rintro e w' ⟨⟨hg, p, rfl, R⟩ | ⟨hg, rfl⟩, B⟩
      · have hE : loadE (k : Int) ls = 0 := by unfold loadE; rw [Int.toNat_natCast, if_neg (fun h => h hn), if_neg (fun h => h.elim (fun h => h hl) (fun h => h hg))]
        exact ⟨.inl ⟨hE, p, rfl, R⟩, B⟩
      · have hE : loadE (k : Int) ls = 3 := by unfold loadE; rw [Int.toNat_natCast, if_neg (fun h => h hn), if_pos (.inr hg)]
        rw [hE]
        exact ⟨.inr ⟨by omega, rfl⟩, B⟩
    · refine (cload_many k (by omega) (by omega) A m c w hm).mono ?_
      rintro e w' ⟨rfl, B⟩
      have hE : loadE (k : Int) ls = 3 := by unfold loadE; rw [Int.toNat_natCast, if_neg (fun h => h hn), if_pos (.inl (by rw [H.len]; exact hm))]
      rw [hE]
      exact ⟨.inr ⟨by omega, rfl⟩, B⟩
  · refine (cload_bad n (by omega) A m c w).mono ?_
    rintro e w' ⟨rfl, rfl⟩
    have hE : loadE n ls = 1 := by unfold loadE; rw [if_pos hn]
    rw [hE]
    exact ⟨.inr ⟨by omega, rfl⟩, Below.refl _ _⟩
end Go.Proofs.Ytancpkdkfemgfaa
