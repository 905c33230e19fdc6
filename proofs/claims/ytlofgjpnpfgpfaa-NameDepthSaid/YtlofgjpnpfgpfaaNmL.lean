/- The laws NameDepth and NameParts: for every input they return true, and what came in reads as it did. -/
import Derived.Test.YtlofgjpnpfgpfaaNmJ
namespace Go.Proofs.Ytlofgjpnpfgpfaa
open Go Go.RowKit Go.Proofs

theorem lead_more (a b : List ByteArray) (r : Bool) (hr : decide (0 < b.length) = r) : lead (a ++ b) a = r := by
  subst hr
  unfold lead
  refine decide_eq_decide.2 ⟨fun h => ?_, fun h => ⟨by rw [List.length_append]; omega, by simp⟩⟩
  have := h.1
  rw [List.length_append] at this; omega
theorem lead_self (a : List ByteArray) : lead a a = false := decide_eq_false fun h => by omega
theorem lead_trans {a b c : List ByteArray} (h1 : lead a b = true) (h2 : lead b c = true) : lead a c = true := by
  have h1 := of_decide_eq_true h1
  have h2 := of_decide_eq_true h2
  refine decide_eq_true ⟨by omega, ?_⟩
  have h3 := h2.2
  rw [← h1.2, List.take_take, Nat.min_eq_left (by omega)] at h3
  exact h3
theorem lead_asym {a b : List ByteArray} (h1 : lead a b = true) : lead b a = false := by
  have h1 := of_decide_eq_true h1
  exact decide_eq_false fun h => by omega
theorem lead_take {l : List ByteArray} {n : Nat} (h : l.length = n + 1) : lead l (l.take n) = true ∧ lead (l.take n) l = false := by
  have e : (l.take n).length = n := by rw [List.length_take]; omega
  have : lead l (l.take n) = true := decide_eq_true ⟨by omega, by rw [e]⟩
  exact ⟨this, lead_asym this⟩
theorem take_last {l : List ByteArray} {n : Nat} (h : l.length = n + 1) : l.take n ++ [txt l n] = l := by
  have h2 := List.take_add_one (l := l) (i := n)
  rw [txt_get (by omega), List.take_of_length_le (by omega)] at h2
  exact h2.symm

set_option maxRecDepth 10000 in
set_option maxHeartbeats 4000000 in
theorem nameDepth_walk (A0 : Option Addr) (n0 c0 : Nat) (ss0 : List ByteArray) (A1 : Option Addr) (n1 c1 : Nat) (ss1 : List ByteArray) (A2 : Option Addr) (n2 c2 : Nat) (ss2 : List ByteArray) (w : World) (h0 : StrSl w A0 n0 c0 ss0) (h1 : StrSl w A1 n1 c1 ss1) (h2 : StrSl w A2 n2 c2 ss2) :
    Calls Try.prog 8 #[.slice A0 n0 c0, .slice A1 n1 c1, .slice A2 n2 c2] w fun e w' => e = .returned (.bool true) ∧ Below w.heap.size w w' := by
  go_enter Try.func8, Try.ntmps8
  go_wp2_with fail
  refine (shown14_any w).mono ?_
  rintro e w1 ⟨rfl, b1⟩
  replace h0 := h0.below b1
  replace h1 := h1.below b1
  replace h2 := h2.below b1
  go_wp2_with fail
  refine (few_any h0).mono ?_
  rintro e w2 ⟨m0, rfl, hm0, k0, rfl⟩
  go_wp2_with fail
  refine (few_any h1).mono ?_
  rintro e w2 ⟨m1, rfl, hm1, k1, rfl⟩
  go_wp2_with fail
  refine (few_any h2).mono ?_
  rintro e w2 ⟨m2, rfl, hm2, k2, rfl⟩
  clear h0 h1 h2
  generalize fewS ss0 = a at k0
  generalize fewS ss1 = b at k1
  generalize fewS ss2 = c at k2
  have own0 := ownT_empty w1 9
  have bl := (Below.refl w1.heap.size w1).alloc (Nat.le_refl _) (.cells #[] 9)
  go_wp2_with (first
    | (have own3b := own3; at_builtin; refine wp_append_b_t _ TS rfl _ _ rfl w1.heap.size A3 m0 c3 a rfl own3b A1 m1 c1 b rfl (k1.below bl3) (by omega) bl3.size ?_; intro A4 c4 w4 own4 b4)
    | (at_builtin; refine wp_append_lit_t _ TS rfl _ _ rfl w1.heap.size w1.heap.size rfl own0 A0 m0 c0 a rfl (k0.below bl) (by omega) (by simp) ?_; intro A3 c3 w3 own3 b3; have bl3 := bl.trans (b3.mono (by simp)))
    | fail)
  have bl4 := bl3.trans b4
  have q0 := k0.below bl4
  have q1 := k1.below bl4
  have q2 := k2.below bl4
  have q4 := own4.sl (by
    intro s hs
    rcases List.mem_append.1 hs with hs | hs
    · exact k0.2 s hs
    · exact k1.2 s hs)
  have bw := b1.trans (bl4.mono b1.size)
  have lb : b.length = m1 := q1.len
  clear own0 own3 own4 b3 b4 bl bl3 bl4 k0 k1 k2
  go_wp2_with fail
  refine (cbelow_any q4 q0 (decide (0 < m1)) (lead_more a b _ (by rw [lb]))).mono ?_
  rintro e w5 ⟨rfl, b5⟩
  have r0 := q0.below b5
  have r1 := q1.below b5
  have r2 := q2.below b5
  replace bw := bw.trans (b5.mono bw.size)
  clear q0 q1 q2 q4 b5
  have hd : (decide (0 < m1) == decide ((m1 : Int) > 0)) = true := by simp
  have hd2 : (decide (0 < m1) == decide (0 < (m1 : Int))) = true := by simp
  go_wp2_with fail
  refine (cbelow_any r0 r0 false (lead_self a)).mono ?_
  rintro e w6 ⟨rfl, b6⟩
  have q0 := r0.below b6
  have q1 := r1.below b6
  have q2 := r2.below b6
  replace bw := bw.trans (b6.mono bw.size)
  clear r0 r1 r2 b6 hd hd2
  rcases hab : lead a b with _ | _
  · go_wp2_with fail
    refine (cbelow_any q0 q1 false hab).mono ?_
    rintro e w7 ⟨rfl, b7⟩
    replace bw := bw.trans (b7.mono bw.size)
    replace q0 := q0.below b7
    replace q1 := q1.below b7
    replace q2 := q2.below b7
    clear b7
    go_wp2_with fail
    refine (cbelow_any q0 q1 false hab).mono ?_
    rintro e w8 ⟨rfl, b8⟩
    replace bw := bw.trans (b8.mono bw.size)
    replace q0 := q0.below b8
    replace q1 := q1.below b8
    replace q2 := q2.below b8
    clear b8
    go_wp2
    go_ret
    exact ⟨rfl, bw⟩
  · have hba := lead_asym hab
    go_wp2_with fail
    refine (cbelow_any q0 q1 true hab).mono ?_
    rintro e w7 ⟨rfl, b7⟩
    replace bw := bw.trans (b7.mono bw.size)
    replace q0 := q0.below b7
    replace q1 := q1.below b7
    replace q2 := q2.below b7
    clear b7
    rcases hbc : lead b c with _ | _
    · go_wp2_with fail
      refine (cbelow_any q1 q2 false hbc).mono ?_
      rintro e w8 ⟨rfl, b8⟩
      replace bw := bw.trans (b8.mono bw.size)
      replace q0 := q0.below b8
      replace q1 := q1.below b8
      replace q2 := q2.below b8
      clear b8
      go_wp2_with fail
      refine (cbelow_any q0 q1 true hab).mono ?_
      rintro e w9 ⟨rfl, b9⟩
      replace bw := bw.trans (b9.mono bw.size)
      replace q0 := q0.below b9
      replace q1 := q1.below b9
      replace q2 := q2.below b9
      clear b9
      go_wp2_with fail
      refine (cbelow_any q1 q0 false hba).mono ?_
      rintro e w10 ⟨rfl, b10⟩
      replace bw := bw.trans (b10.mono bw.size)
      replace q0 := q0.below b10
      replace q1 := q1.below b10
      replace q2 := q2.below b10
      clear b10
      go_wp2
      go_ret
      exact ⟨rfl, bw⟩
    · have hac := lead_trans hab hbc
      go_wp2_with fail
      refine (cbelow_any q1 q2 true hbc).mono ?_
      rintro e w8 ⟨rfl, b8⟩
      replace bw := bw.trans (b8.mono bw.size)
      replace q0 := q0.below b8
      replace q1 := q1.below b8
      replace q2 := q2.below b8
      clear b8
      go_wp2_with fail
      refine (cbelow_any q0 q2 true hac).mono ?_
      rintro e w11 ⟨rfl, b11⟩
      replace bw := bw.trans (b11.mono bw.size)
      replace q0 := q0.below b11
      replace q1 := q1.below b11
      replace q2 := q2.below b11
      clear b11
      go_wp2_with fail
      refine (cbelow_any q0 q1 true hab).mono ?_
      rintro e w9 ⟨rfl, b9⟩
      replace bw := bw.trans (b9.mono bw.size)
      replace q0 := q0.below b9
      replace q1 := q1.below b9
      replace q2 := q2.below b9
      clear b9
      go_wp2_with fail
      refine (cbelow_any q1 q0 false hba).mono ?_
      rintro e w10 ⟨rfl, b10⟩
      replace bw := bw.trans (b10.mono bw.size)
      replace q0 := q0.below b10
      replace q1 := q1.below b10
      replace q2 := q2.below b10
      clear b10
      go_wp2
      go_ret
      exact ⟨rfl, bw⟩

set_option maxRecDepth 10000 in
set_option maxHeartbeats 4000000 in
theorem nameParts_walk (A0 : Option Addr) (n0 c0 : Nat) (ss0 : List ByteArray) (w : World) (h0 : StrSl w A0 n0 c0 ss0) :
    Calls Try.prog 9 #[.slice A0 n0 c0] w fun e w' => e = .returned (.bool true) ∧ Below w.heap.size w w' := by
  go_enter Try.func9, Try.ntmps9
  go_wp2_with fail
  refine (shown14_any w).mono ?_
  rintro e w1 ⟨rfl, b1⟩
  replace h0 := h0.below b1
  go_wp2_with fail
  refine (few_any h0).mono ?_
  rintro e w2 ⟨m0, rfl, hm0, k0, rfl⟩
  clear h0
  generalize fewS ss0 = a at k0
  rcases Nat.eq_zero_or_pos m0 with hz | hz
  · subst hz
    go_wp2_with fail
    refine (parent_no A0 c0 w1).mono ?_
    rintro e w3 ⟨rfl, rfl⟩
    go_wp2
    go_ret
    exact ⟨rfl, b1⟩
  · obtain ⟨m, rfl⟩ : ∃ m, m0 = m + 1 := ⟨m0 - 1, by omega⟩
    have hl := k0.len
    have hlast := take_last hl
    have hld := (lead_take hl).1
    have hld2 := (lead_take hl).2
    have hz1 : (txt a m).size ≤ maxLen := k0.2 _ (txt_mem (by omega))
    go_wp2_with fail
    refine (parent_yes k0 (by omega)).mono ?_
    rintro e w3 ⟨A1, c1, rfl, k1, b3⟩
    obtain ⟨M, hM⟩ : ∃ M, m + 1 = M := ⟨_, rfl⟩
    have k0' := k0.below b3
    rw [hM] at k0' ⊢
    have hM0 : ((M : Int) == 0) = false := by simp; omega
    have hM1 : ¬ (M : Int) = 0 := by omega
    have bw := b1.trans (b3.mono b1.size)
    have HM := Lib.hid hM
    have own0 := ownT_empty w3 9
    have bl := (Below.refl w3.heap.size w3).alloc (Nat.le_refl _) (.cells #[] 9)
    have k1b := k1.below bl
    clear k0 hM
    go_wp2_with (first
      | (have own4b := own4; at_builtin; refine wp_append_b_t _ TS rfl _ _ rfl w3.heap.size A4 m c4 (a.take m) rfl own4b' (some ⟨w4.heap.size, 0, none⟩) 1 1 [txt a m] rfl one (by omega) bl5.size ?_; intro A5 c5 w5 own5 b5)
      | (at_builtin; refine wp_append_lit_t _ TS rfl _ _ rfl w3.heap.size w3.heap.size rfl own0 A1 m c1 (a.take m) rfl k1b (by omega) (by simp) ?_; intro A4 c4 w4 own4 b4; have bl4 := bl.trans (b4.mono (by simp)); have one := strsl_one w4 9 (txt a m) hz1; have bl5 : Below w3.heap.size w3 (w4.alloc (.cells #[.string (txt a m)] 9)) := bl4.trans ((Below.refl w3.heap.size w4).alloc bl4.size _); have own4b' := own4.below ((Below.refl w4.heap.size w4).alloc (Nat.le_refl _) (.cells #[.string (txt a m)] 9)))
      | fail)
    have bl6 := bl5.trans b5
    have q0 := k0'.below bl6
    have q1 := k1.below bl6
    have q5 := own5.sl (by
      intro s hs
      rw [hlast] at hs
      exact k0'.2 s hs)
    rw [hlast] at q5
    replace bw := bw.trans (bl6.mono bw.size)
    clear own0 own4 own4b' own5 b4 b5 bl bl4 bl5 bl6 k0' k1 k1b one
    go_wp2_with fail
    refine (same_any q5 q0 true (decide_eq_true rfl)).mono ?_
    rintro e w6 ⟨rfl, b6⟩
    replace bw := bw.trans (b6.mono bw.size)
    replace q0 := q0.below b6
    replace q1 := q1.below b6
    clear q5 b6
    go_wp2_with fail
    refine (cbelow_any q0 q1 true hld).mono ?_
    rintro e w7 ⟨rfl, b7⟩
    replace bw := bw.trans (b7.mono bw.size)
    replace q0 := q0.below b7
    replace q1 := q1.below b7
    clear b7
    go_wp2_with fail
    refine (cbelow_any q1 q0 false hld2).mono ?_
    rintro e w8 ⟨rfl, b8⟩
    replace bw := bw.trans (b8.mono bw.size)
    go_wp2
    go_ret
    exact ⟨rfl, bw⟩
end Go.Proofs.Ytlofgjpnpfgpfaa
