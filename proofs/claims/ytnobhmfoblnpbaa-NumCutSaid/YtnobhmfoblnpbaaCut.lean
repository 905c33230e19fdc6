/- The law NumCut: for every input it returns true, and what came in reads as it did. -/
import Derived.Test.YtnobhmfoblnpbaaE17
import Derived.Test.YtnobhmfoblnpbaaE12
namespace Go.Proofs.Ytnobhmfoblnpbaa
open Go Go.RowKit Go.Proofs

theorem cut_no (x : List UInt8) (m k : Nat) (hx : x.length < 256 ^ m) (hk : k < m + x.length) : ¬ Whole ((dig x.length m ++ x).take k) m := by
  intro ⟨h1, h2⟩
  have e := dig_len (x.length : Int) m
  have hl : ((dig (x.length : Int) m ++ x).take k).length ≤ k := List.length_take_le _ _
  have ht : ((dig (x.length : Int) m ++ x).take k).take m = dig x.length m := by
    rw [List.take_take, Nat.min_eq_left (by omega)]
    exact List.take_left' e
  rw [ht, numL_dig, Nat.mod_eq_of_lt hx] at h2
  omega

set_option maxHeartbeats 2000000 in
theorem numCut_walk (s : ByteArray) (k : Int) (w : World) (hm : s.size ≤ maxLen) :
    Calls Try.prog 8 #[.string s, .int .i64 k] w fun e w' => e = .returned (.bool true) ∧ Below w.heap.size w w' := by
  by_cases hs : s.size ≤ 255
  · go_enter Try.func8, Try.ntmps8
    go_wp2_with fail
    refine (shown_any w).mono ?_
    rintro e w1 ⟨rfl, b1⟩
    go_wp2_with fail
    refine (puttext_yes none 0 0 [] s w1 (sl_nil _) (by omega) hs).mono ?_
    rintro e w2 ⟨A2, n2, c2, rfl, own2, b2⟩
    have hn2 : n2 = s.size + 1 := by have h1 := own2.len; simp [dig_len] at h1; omega
    rw [List.nil_append] at own2
    subst hn2
    have b3 := below_conv_sb w2 5 s
    have h3 := sl_conv_sb w2 5 s hm
    have hconv := conv_sb s w2
    go_wp2_with fail
    refine (putbytes_yes none _ 0 0 _ _ [] s.data.toList (Lib.bytesWorld w2 5 s) (sl_nil _) h3 (by omega) (by omega)).mono ?_
    rintro e w4 ⟨A4, n4, c4, rfl, own4, b4⟩
    have hn4 : n4 = s.size + 2 := by have h1 := own4.len; simp [dig_len] at h1; omega
    rw [List.nil_append] at own4
    subst hn4
    clear hconv
    have b34 := b3.trans (b4.mono b3.size)
    have z1 := b1.size
    have z2 := b2.size
    have t4 : Below w.heap.size w w4 := b1.trans ((b2.mono z1).trans (b34.mono (by omega)))
    have s2 := own2.sl.below b34
    have s4 := own4.sl
    have hq1 : ((s.size + 1 : Nat) : Int) = (s.size : Int) + 1 := by omega
    have hq2 : ((s.size + 2 : Nat) : Int) = (s.size : Int) + 2 := by omega
    by_cases hk : 0 ≤ k ∧ k < (s.size : Int) + 1
    · obtain ⟨m, rfl⟩ := Int.eq_ofNat_of_zero_le hk.1
      have hm1 : m ≤ s.size := by omega
      have hcap2 := s2.cap
      have hcap4 := s4.cap
      have hx : s.data.toList.length = s.size := by simp
      have w2' := cut_no s.data.toList 1 m (by omega) (by omega)
      have w4' := cut_no s.data.toList 2 m (by omega) (by omega)
      rw [hx] at w2' w4'
      have W2 := Lib.hid w2'
      have W4 := Lib.hid w4'
      have u2 := s2.take (k := m) (by omega)
      have u4 := s4.take (k := m) (by omega)
      clear hq1 hq2 w2' w4' hx
      have hd1 : decide ((m : Int) < 0) = false := by simp
      have hd2 : decide ((s.size : Int) + 1 ≤ (m : Int)) = false := by simp; omega
      have hi1 : m ≤ c2 := by omega
      have hi2 : m ≤ c4 := by omega
      go_wp2_with fail
      refine (taketext_no A2 m c2 _ w4 u2 W2.out).mono ?_
      rintro e w5 ⟨rfl, rfl⟩
      go_wp2_with fail
      refine (takebytes_no A4 m c4 _ w4 u4 W4.out).mono ?_
      rintro e w6 ⟨rfl, rfl⟩
      go_wp2
      go_ret
      exact ⟨rfl, t4⟩
    · rcases (by omega : k < 0 ∨ (0 ≤ k ∧ (s.size : Int) + 1 ≤ k)) with h1 | ⟨h1, h2⟩
      all_goals
        clear hq1 hq2 hk
        go_wp2
        go_ret
        exact ⟨rfl, t4⟩
  · go_enter Try.func8, Try.ntmps8
    go_wp2_with fail
    refine (shown_any w).mono ?_
    rintro e w1 ⟨rfl, b1⟩
    go_wp2
    go_ret
    exact ⟨rfl, b1⟩
end Go.Proofs.Ytnobhmfoblnpbaa
