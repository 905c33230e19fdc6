/- The code's counts: Body. -/
import Derived.Test.YtancpkdkfemgfaaCuA
import Derived.Test.YtancpkdkfemgfaaCtF
namespace Go.Proofs.Ytancpkdkfemgfaa
open Go Go.RowKit Go.Proofs

theorem cputin (x : Int) (w : World) :
    Calls Try.prog 40 #[.slice none 0 0, .int .i64 x, .int .i64 2] w fun e w' => ∃ A' c', e = .returned (.slice A' 2 c') ∧ Sl w' A' 2 c' (dig x 2) ∧ Below w.heap.size w w' := by
  have h3 := put_any none 0 0 [] x 2 w (sl_nil w) (by omega)
  rw [show putS [] x 2 = dig x 2 from rfl] at h3
  refine h3.mono ?_
  rintro e w' ⟨A', n', c', rfl, own, hb⟩
  have h4 := own.len
  rw [dig_len] at h4
  subst h4
  exact ⟨A', c', rfl, own.sl, hb⟩
set_option maxRecDepth 10000 in
set_option maxHeartbeats 4000000 in
theorem cbody_any {w : World} {p : Nat} {S : Nat → Prop} {C : Ct} (H : CC w p S C) (i : Int) :
    Calls Try.prog 26 #[.pointer (some ⟨p, 0, none⟩), .int .i64 i] w fun e w' => ∃ A n c, e = .returned (.slice A n c) ∧ Sl w' A n c (C.body i) ∧ Below w.heap.size w w' ∧ ∀ ad, A = some ad → w.heap.size ≤ ad.block := by
  obtain ⟨many, hm⟩ : ∃ m, areaN C.n = m := ⟨_, rfl⟩
  have hok := H.ok.1
  have hm2 : many ≤ 1000 := by rw [← hm]; unfold areaN; omega
  obtain ⟨g, cg, b, cb, c0, c1, c2, c3, k1, k2, hnow, hdone, hput⟩ := H.open_
  clear hnow hdone hput c1 c0 c3 k1 k2
  rw [hm] at c2
  have Hm := Lib.hid hm
  clear hm
  by_cases hi : 0 ≤ i ∧ i < (many : Int)
  · have hbd := Lib.hid (show C.body i = C.bodyTo (i * 118) 118 by unfold Ct.body; rw [Hm.out, if_pos hi])
    obtain ⟨q, rfl⟩ := Int.eq_ofNat_of_zero_le hi.1
    have e1 : ¬ (q : Int) < 0 := by omega
    have e2 : ¬ (many : Int) ≤ (q : Int) := by omega
    have hq : q < many := by omega
    have d1 : decide ((q : Int) < 0) = false := by simp
    have d2 : decide ((many : Int) ≤ (q : Int)) = false := by simp; omega
    have d3 : decide (many ≤ q) = false := by simp; omega
    go_enter Try.func26, Try.ntmps26
    go_wp2_with (first
      | (at_make; refine wp_make_c _ T22 rfl _ _ rfl _ _ 236 rfl rfl (by omega) ?_)
      | fail)
    intro w1 own0 hb0
    go_wp2_with fail
    go_loopw [5, 6, 18] (fun b _ k wr => ∃ (j : Nat) (A' : Option Addr) (c' : Nat), j ≤ 118 ∧ k = .int .i64 (j : Int) ∧ b = .slice A' (2 * j) c' ∧ Own wr w.heap.size 5 A' (2 * j) c' (C.bodyTo ((q : Int) * 118) j) ∧ Below w.heap.size w wr) (fun _ _ k _ => 118 - (intOf k).toNat)
    case atStart => exact ⟨0, _, _, by omega, rfl, rfl, own0, hb0⟩
    case round =>
      clear own0 hb0
      obtain ⟨j, A', c', hj, rfl, rfl, own, hB⟩ := hrel
      by_cases hlt : j < 118
      · have Hr := H.below hB
        have e3 : (j : Int) < 118 := by omega
        obtain ⟨x, hx⟩ : ∃ x, C.get ((q : Int) * 118 + (j : Int)) = x := ⟨_, rfl⟩
        have Hnext := Lib.hid (show C.bodyTo ((q : Int) * 118) (j + 1) = C.bodyTo ((q : Int) * 118) j ++ dig x 2 by rw [← hx]; rfl)
        have Hx := Lib.hid hx
        clear hx c2
        go_wp2_with fail
        refine (cget_any Hr _ x Hx.out).mono ?_
        rintro e w3 ⟨rfl, rfl⟩
        go_wp2_with fail
        refine (cputin x wr).mono ?_
        rintro e w4 ⟨A4, c4, rfl, sl4, hb4⟩
        have own4 := own.below hb4
        have hB4 := hB.trans (hb4.mono hB.size)
        go_wp2_with (at_builtin; refine wp_append_b _ T22 rfl _ _ rfl w.heap.size A' (2 * j) c' _ rfl own4 A4 2 c4 _ rfl sl4 (by omega) hB4.size ?_)
        intro A5 c5 w5 own5 hb5
        rw [← Hnext.out] at own5
        go_wp2
        exact ⟨⟨j + 1, A5, c5, by omega, by go_num, rfl, own5, hB4.trans hb5⟩, by simp [intOf]; omega⟩
      · have hj2 : j = 118 := by omega
        subst hj2
        have Hown := own.sl
        have Hblk := fun ad e => (own.block ad e).1
        go_wp2
        go_ret
        rw [hbd.out]
        exact ⟨_, _, _, rfl, Hown, hB, Hblk⟩
  · have hbd := Lib.hid (show C.body i = [] by unfold Ct.body; rw [Hm.out, if_neg hi])
    by_cases h0 : i < 0
    · go_enter Try.func26, Try.ntmps26
      go_wp2
      go_ret
      rw [hbd.out]
      exact ⟨_, _, _, rfl, sl_nil _, Below.refl _ _, fun ad e => by cases e⟩
    · have e2 : (many : Int) ≤ i := by omega
      have e1 : ¬ i < 0 := h0
      go_enter Try.func26, Try.ntmps26
      go_wp2
      go_ret
      rw [hbd.out]
      exact ⟨_, _, _, rfl, sl_nil _, Below.refl _ _, fun ad e => by cases e⟩
end Go.Proofs.Ytancpkdkfemgfaa
