/- The law NameJoins, where the path is not too long for any machine: it returns true, and what came in reads as it did. -/
import Derived.Test.YtlofgjpnpfgpfaaNmL
namespace Go.Proofs.Ytlofgjpnpfgpfaa
open Go Go.RowKit Go.Proofs

set_option maxRecDepth 10000 in
set_option maxHeartbeats 4000000 in
theorem nameJoins_walk (s0 : ByteArray) (A1 : Option Addr) (n1 c1 : Nat) (ss1 : List ByteArray) (A2 : Option Addr) (n2 c2 : Nat) (ss2 : List ByteArray) (w : World) (hm : s0.size ≤ maxLen) (h1 : StrSl w A1 n1 c1 ss1) (h2 : StrSl w A2 n2 c2 ss2) (hbig : (joinS s0 (fewS ss1)).size ≤ 140737488355328) :
    Calls Try.prog 5 #[.string s0, .slice A1 n1 c1, .slice A2 n2 c2] w fun e w' => e = .returned (.bool true) ∧ Below w.heap.size w w' := by
  go_enter Try.func5, Try.ntmps5
  go_wp2_with fail
  refine (shown14_any w).mono ?_
  rintro e w1 ⟨rfl, b1⟩
  replace h1 := h1.below b1
  replace h2 := h2.below b1
  go_wp2_with fail
  refine (few_any h1).mono ?_
  rintro e w2 ⟨m1, rfl, hm1, k1, rfl⟩
  go_wp2_with fail
  refine (few_any h2).mono ?_
  rintro e w2 ⟨m2, rfl, hm2, k2, rfl⟩
  clear h1 h2
  generalize fewS ss1 = a at k1 hbig
  generalize fewS ss2 = b at k2
  obtain ⟨s, hs⟩ : ∃ s, joinS s0 a = s := ⟨_, rfl⟩
  rw [hs] at hbig
  have Hs := Lib.hid hs
  obtain ⟨r, hr⟩ : ∃ r, lead a b = r := ⟨_, rfl⟩
  have Hr := Lib.hid hr
  clear hs hr
  have own0 := ownT_empty w1 9
  have bl := (Below.refl w1.heap.size w1).alloc (Nat.le_refl _) (.cells #[] 9)
  have k1b := k1.below bl
  have hla := k1.len
  go_wp2_with (first
    | (at_builtin; refine wp_append_lit_t _ TS rfl _ _ rfl w1.heap.size w1.heap.size rfl own0 A1 m1 c1 a rfl k1b (by omega) (by simp) ?_; intro A3 c3 w3 own3 b3; have bl3 := bl.trans (b3.mono (by simp)))
    | fail)
  have q1 := k1.below bl3
  have q2 := k2.below bl3
  have q3 := own3.sl (fun s hs => k1.2 s hs)
  have bw := b1.trans (bl3.mono b1.size)
  have hnc := q1.cap
  have hcm := q1.max
  unfold maxLen at hcm
  clear own0 own3 b3 bl bl3 k1 k1b k2
  rcases Nat.eq_zero_or_pos m1 with hz | hz
  · subst hz
    have Hla := Lib.hid hla
    clear hla
    go_wp2_with fail
    refine (parent_no A3 c3 w3).mono ?_
    rintro e w4 ⟨rfl, rfl⟩
    go_wp2_with (first
      | (go_at_call 18; refine (cjoin_any q1 s0 s Hs.out (by omega) hm hbig).mono ?_; rintro e w4 ⟨rfl, b4⟩; have r1 := q1.below b4; have r2 := q2.below b4; have bw4 := bw.trans (b4.mono bw.size))
      | (go_at_call 19; refine (rjoin_any r1 s0 s Hs.out hbig).mono ?_; rintro e w5 ⟨rfl, rfl⟩)
      | (go_at_call 20; refine (cbelow_any r1 r2 r Hr.out).mono ?_; rintro e w6 ⟨rfl, b6⟩; have t1 := r1.below b6; have t2 := r2.below b6; have bw6 := bw4.trans (b6.mono bw4.size))
      | (go_at_call 21; refine (rbelow_any t1 t2 r Hr.out).mono ?_; rintro e w7 ⟨rfl, b7⟩; have bw7 := bw6.trans (b7.mono bw6.size))
      | fail)
    go_ret
    exact ⟨by simp, bw7⟩
  · obtain ⟨m, rfl⟩ : ∃ m, m1 = m + 1 := ⟨m1 - 1, by omega⟩
    go_wp2_with fail
    refine (parent_yes q3 (by omega)).mono ?_
    rintro e w4 ⟨A4, c4, rfl, k4, b4⟩
    replace q1 := q1.below b4
    replace q2 := q2.below b4
    replace bw := bw.trans (b4.mono bw.size)
    have hcl := q1.plain (by omega)
    have kt := q1.take (k := m) (by omega)
    obtain ⟨M, hM⟩ : ∃ M, m + 1 = M := ⟨_, rfl⟩
    rw [hM] at q1 hm1 hcl hnc ⊢
    have hM0 : ((M : Int) == 0) = false := by simp; omega
    have hM1 : ¬ (M : Int) = 0 := by omega
    have hMm : (M : Int) - 1 = (m : Int) := by omega
    have hmc : (m : Int) ≤ (c1 : Int) := by omega
    have h0m : (0 : Int) ≤ (m : Int) := by omega
    have hmM : m < M := by omega
    have hmMi : (m : Int) < (M : Int) := by omega
    obtain ⟨g, o, rfl, _, hcl⟩ := hcl
    have hc := hcl m hmM
    have HM := Lib.hid hM
    have Hcl := Lib.hid hcl
    have Hla := Lib.hid hla
    clear hM hcl q3 hla
    go_wp2_with (first
      | (go_at_call 15; refine (same_any k4 kt true (decide_eq_true rfl)).mono ?_; rintro e w5 ⟨rfl, b5⟩; have r1 := q1.below b5; have r2 := q2.below b5; have bw5 := bw.trans (b5.mono bw.size); have hc5 := (b5.cell (p := ⟨g, o + m, none⟩) (World.block_lt_of_cell? w4 _ hc)).trans hc)
      | fail)
    clear k4 kt q1 q2 b5 hc hc5
    go_wp2_with (first
      | (go_at_call 18; refine (cjoin_any r1 s0 s Hs.out (by omega) hm hbig).mono ?_; rintro e w6 ⟨rfl, b6⟩; have t1 := r1.below b6; have t2 := r2.below b6; have bw6 := bw5.trans (b6.mono bw5.size))
      | (go_at_call 19; refine (rjoin_any t1 s0 s Hs.out hbig).mono ?_; rintro e w7 ⟨rfl, rfl⟩)
      | (go_at_call 20; refine (cbelow_any t1 t2 r Hr.out).mono ?_; rintro e w8 ⟨rfl, b8⟩; have u1 := t1.below b8; have u2 := t2.below b8; have bw8 := bw6.trans (b8.mono bw6.size))
      | (go_at_call 21; refine (rbelow_any u1 u2 r Hr.out).mono ?_; rintro e w9 ⟨rfl, b9⟩; have bw9 := bw8.trans (b9.mono bw8.size))
      | fail)
    go_ret
    exact ⟨by simp, bw9⟩
end Go.Proofs.Ytlofgjpnpfgpfaa
