/- The code's counts: take. -/
import Derived.Test.YtancpkdkfemgfaaCuE
import Derived.Test.YtancpkdkfemgfaaCtP
namespace Go.Proofs.Ytancpkdkfemgfaa
open Go Go.RowKit Go.Proofs

theorem ctaken (A : Option Addr) (m k c : Nat) (l : List UInt8) (w : World) (h : Sl w A m c l) (hk : m = k + 2) (hm : m ≤ 100000) (y : Nat) (hy : numL (l.take 2) = y) :
    Calls Try.prog 47 #[.slice A m c, .int .i64 2] w fun e w' => ∃ A' c', e = .returned (.tuple #[.int .i64 (y : Int), .slice A' k c', .int .i64 0]) ∧ Below w.heap.size w w' := by
  subst hy
  refine (take_yes A m c l 2 w h (by omega) (by omega) (by omega) (by omega)).mono ?_
  rintro e w' ⟨A', n', c', rfl, own, hb⟩
  have h4 := own.len
  rw [List.length_drop, h.len] at h4
  have : n' = k := by have : (2 : Int).toNat = 2 := rfl; omega
  subst this
  exact ⟨A', c', rfl, hb⟩
theorem ct_turned {w w' : World} {A : Option Addr} {n c : Nat} {l : List UInt8} (h : Sl w A n c l) {S : Nat → Prop} (T : Turn S w w') (hA : ∀ ad, A = some ad → ¬ S ad.block) : Sl w' A n c l :=
  ⟨h.1, h.2.1, h.2.2.1, fun j u hu => by
    obtain ⟨ad, e, hb, hc⟩ := h.2.2.2 j u hu
    exact ⟨ad, e, Nat.lt_of_lt_of_le hb T.size, (World.cell?_of_block (a := ad.add j) (by rw [addr_block]; exact T.block _ hb (hA ad e))).trans hc⟩⟩
theorem put_nought (C : Ct) (k : Nat) (hk : k < C.n) (h : nm C.now k = 0) : C.put k 0 = C := by
  have e : C.now.set k 0 = C.now := by
    have h1 : C.now[k]'hk = 0 := by
      unfold nm at h
      rw [List.getD_eq_getElem?_getD, List.getElem?_eq_getElem hk] at h
      exact h
    rw [← h1]
    exact List.set_getElem_self hk
  unfold Ct.put
  simp only [e]
set_option maxRecDepth 10000 in
set_option maxHeartbeats 4000000 in
theorem ctake_any {w : World} {p : Nat} {S : Nat → Prop} {C : Ct} (H : CC w p S C) (i : Nat) (hi : i ≤ 1000) (A : Option Addr) (c : Nat) (l : List UInt8) (hs : Sl w A 236 c l) (hA : ∀ ad, A = some ad → ¬ S ad.block) (hz : ∀ a, i * 118 ≤ a → a < C.n → nm C.now a = 0) :
    Calls Try.prog 42 #[.pointer (some ⟨p, 0, none⟩), .int .i64 (i : Int), .slice A 236 c] w fun e w' => ((e = .returned (.bool true) ∧ (∀ k, k < 118 → rowBad C.n C.first i l k = false) ∧ CC w' p S (rowTo C.n i l C 118)) ∨ (e = .returned (.bool false) ∧ ∃ k, k < 118 ∧ rowBad C.n C.first i l k = true)) ∧ Turn S w w' := by
  have Hs := Lib.hid hs
  have HA := Lib.hid hA
  have Hz := Lib.hid hz
  have hcap := hs.cap
  have hmax := hs.max
  unfold maxLen at hmax
  have hok := H.ok.1
  clear hs hA hz
  go_enter Try.func42, Try.ntmps42
  go_wp2_with fail
  go_loopw [7, 8, 9, 10, 11, 12] (fun _ _ _ _ _ k wr => ∃ t : Nat, t ≤ 118 ∧ k = .int .i64 (t : Int) ∧ CC wr p S (rowTo C.n i l C t) ∧ (∀ q, q < t → rowBad C.n C.first i l q = false) ∧ Turn S w wr) (fun _ _ _ _ _ k _ => 118 - (intOf k).toNat)
  case atStart => exact ⟨0, Nat.zero_le _, rfl, H, fun q hq => absurd hq (Nat.not_lt_zero _), Turn.refl _ _⟩
  case round =>
    clear H
    obtain ⟨t, ht, rfl, R, hgood, T⟩ := hrel
    by_cases hlt : t < 118
    · have e3 : (t : Int) < 118 := by omega
      have e0 : (0 : Int) ≤ (t : Int) := by omega
      obtain ⟨b, hb⟩ : ∃ b, 2 * t = b := ⟨_, rfl⟩
      have hb1 : (t : Int) * 2 = (b : Int) := by omega
      have hb2 : b ≤ 234 := by omega
      have hs0 := ct_turned Hs.out T HA.out
      have hs1 := hs0.drop (k := b) (by omega)
      obtain ⟨A2, hA2⟩ : ∃ A2, (if c = b then A else Option.map (fun x => x.add b) A) = A2 := ⟨_, rfl⟩
      rw [hA2] at hs1
      have hs2 := hs1.take (k := 2) (by omega)
      obtain ⟨y, hy⟩ : ∃ y, numL (((l.drop b).take 2).take 2) = y := ⟨_, rfl⟩
      have hX := Lib.hid (show ldX l t = (y : Int) by unfold ldX; rw [hb, ← hy, List.take_take]; rfl)
      have hy2 : y < 65536 := by
        have h1 := numL_lt (((l.drop b).take 2).take 2)
        have h2 : (((l.drop b).take 2).take 2).length = 2 := by rw [List.length_take, hs2.len]; rfl
        rw [h2, hy] at h1
        exact h1
      have Hy := Lib.hid hy
      have Hs2 := Lib.hid hs2
      have Hb := Lib.hid hb
      have Hgood := Lib.hid hgood
      have hn1 : (rowTo C.n i l C t).n = C.n := rowTo_n _ _ _ _ _
      have hf1 : (rowTo C.n i l C t).first = C.first := by unfold Ct.first; rw [hn1]
      obtain ⟨a, ha⟩ : ∃ a, i * 118 + t = a := ⟨_, rfl⟩
      have haZ : (i : Int) * 118 + (t : Int) = (a : Int) := by omega
      have ha2 : a ≤ 200000 := by omega
      have hz1 : a < C.n → nm (rowTo C.n i l C t).now a = 0 := fun h => by
        rw [rowTo_now i l C t a h, if_neg (by omega)]
        exact Hz.out a (by omega) h
      have hbad := Lib.hid (show rowBad C.n C.first i l t = decide ((y : Int) ≠ 0 ∧ (a < C.first ∨ C.n ≤ a)) by unfold rowBad; rw [hX.out, ha])
      have Hnext := Lib.hid (show rowTo C.n i l C (t + 1) = if a < C.n then (rowTo C.n i l C t).put a (y : Int) else rowTo C.n i l C t by rw [← hX.out, ← ha]; rfl)
      have Hgn := Lib.hid (show (rowBad C.n C.first i l t = false) → ∀ q, q < t + 1 → rowBad C.n C.first i l q = false from fun h q hq => by
        by_cases e : q = t
        · rw [e]; exact h
        · exact Hgood.out q (by omega))
      obtain ⟨C1, hC1⟩ : ∃ C1, rowTo C.n i l C t = C1 := ⟨_, rfl⟩
      rw [hC1] at R hn1 hf1 hz1 Hnext
      have hcn := Lib.hid (show C1.counted a = decide (C.first ≤ a ∧ a < C.n) by unfold Ct.counted; rw [hn1, hf1])
      have Hn1 := Lib.hid hn1
      have Hf1 := Lib.hid hf1
      have Hz1 := Lib.hid hz1
      have Ha := Lib.hid ha
      have i1 : 2 ≤ c - b := by omega
      have i2 : b ≤ 236 := by omega
      have i3 : b ≤ c := by omega
      clear hs0 hs1 hs2 hy hgood hC1 hn1 hf1 hz1 ha hb
      go_wp2_with fail
      refine (ctaken A2 2 0 (c - b) _ wr Hs2.out rfl (by omega) y Hy.out).mono ?_
      rintro e w4 ⟨A4, c4, rfl, hb4⟩
      have R4 := R.below hb4
      have T4 := T.then (turn_below hb4 |>.mono (S' := S) fun k hk => hk)
      clear R T
      by_cases hy0 : y = 0
      · subst hy0
        have hgd := Lib.hid (show rowBad C.n C.first i l t = false by rw [hbad.out]; simp)
        have hnx := Lib.hid (show rowTo C.n i l C (t + 1) = C1 by
          rw [Hnext.out]
          split
          · rename_i h
            exact put_nought C1 a (by rw [Hn1.out]; exact h) (Hz1.out h)
          · rfl)
        go_wp2
        exact ⟨⟨t + 1, by omega, by go_num, by rw [hnx.out]; exact R4, Hgn.out hgd.out, T4⟩, by simp [intOf]; omega⟩
      · have hyb : ((y : Int) == 0) = false := by simpa using hy0
        have hyi : ¬ (y : Int) = 0 := by omega
        by_cases hca : C.first ≤ a ∧ a < C.n
        · have hct := Lib.hid (show C1.counted a = true by rw [hcn.out]; exact decide_eq_true hca)
          have hgd := Lib.hid (show rowBad C.n C.first i l t = false by rw [hbad.out]; exact decide_eq_false (by omega))
          have hnx := Lib.hid (show rowTo C.n i l C (t + 1) = C1.put a (y : Int) by rw [Hnext.out, if_pos hca.2])
          have hlt1 : a < C1.n := by rw [Hn1.out]; exact hca.2
          obtain ⟨g, cg, b0, cb, c0, c1, c2, c3, k1, k2, hnow, hdone, hput⟩ := R4.open_
          obtain ⟨hc, hfz⟩ := hnow a hlt1
          obtain ⟨R5, T5, d0, d1⟩ := hput a ((y : Nat) : Int) hlt1 (by omega) (by omega)
          rw [← hnx.out] at R5
          have T6 := T4.then T5
          have e8 : (a : Int) < (C1.n : Int) := by omega
          have e9 : (0 : Int) ≤ (a : Int) := by omega
          obtain ⟨x0, hx0⟩ : ∃ x, nm C1.now a = x := ⟨_, rfl⟩
          rw [hx0] at hc
          clear hx0 hnow hdone hput c1 c2 c3 hca
          go_wp2_with fail
          refine (ccounted_any R4 a true hct.out).mono ?_
          rintro e w5 ⟨rfl, rfl⟩
          go_wp2
          exact ⟨⟨t + 1, by omega, by go_num, R5, Hgn.out hgd.out, T6⟩, by simp [intOf]; omega⟩
        · have hct := Lib.hid (show C1.counted a = false by rw [hcn.out]; exact decide_eq_false hca)
          have hgd := Lib.hid (show rowBad C.n C.first i l t = true by rw [hbad.out]; exact decide_eq_true ⟨hyi, by omega⟩)
          clear hca
          go_wp2_with fail
          refine (ccounted_any R4 a false hct.out).mono ?_
          rintro e w5 ⟨rfl, rfl⟩
          go_wp2
          go_ret
          exact ⟨.inr ⟨rfl, t, hlt, hgd.out⟩, T4⟩
    · have ht2 : t = 118 := by omega
      subst ht2
      go_wp2
      go_ret
      exact ⟨.inl ⟨rfl, hgood, R⟩, T⟩
end Go.Proofs.Ytancpkdkfemgfaa
