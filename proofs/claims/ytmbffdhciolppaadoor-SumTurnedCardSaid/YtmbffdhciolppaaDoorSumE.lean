/- The law SumTurned: for every input it returns true, and what came in reads as it did. -/
import Derived.Test.YtmbffdhciolppaaDoorSumC
namespace Go.Proofs.YtmbffdhciolppaaDoor
open Go Go.RowKit Go.Proofs

theorem turn_byte (b c : UInt8) (hc : c ≠ 0) : b ^^^ c ≠ b := by
  intro h
  apply hc
  have h2 : b ^^^ (b ^^^ c) = b ^^^ b := by rw [h]
  rw [← UInt8.xor_assoc, UInt8.xor_self, UInt8.zero_xor] at h2
  exact h2
/-- A row with one byte turned has another sum. -/
theorem turned (l : List UInt8) (k : Nat) (b : UInt8) (hk : k < l.length) (hb : b ≠ 0) : more 0 (l.set k (UInt8.ofNat (byt l k) ^^^ b)) ≠ more 0 l := by
  intro h
  have e : UInt8.ofNat (byt l k) = l[k] := by unfold byt; rw [List.getD_eq_getElem?_getD, List.getElem?_eq_getElem hk]; simp
  rw [e] at h
  have hl : l = l.take k ++ l[k] :: l.drop (k + 1) := by rw [List.getElem_cons_drop, List.take_append_drop]
  rw [List.set_eq_take_append_cons_drop, if_pos hk] at h
  have h2 := h.trans (congrArg (more 0) hl)
  exact turn_byte _ _ hb (more_turn h2)
theorem bv_xor (x y : Nat) (hx : x ≤ 255) (hy : y ≤ 255) : bv (UInt8.ofNat x ^^^ UInt8.ofNat y) = .int .u8 (bits .xor .u8 (x : Int) (y : Int)) := by
  rw [u8_xor_nat x y (by omega) (by omega)]
  unfold bv
  rw [UInt8.toNat_xor, UInt8.toNat_ofNat', UInt8.toNat_ofNat', Nat.mod_eq_of_lt (by omega), Nat.mod_eq_of_lt (by omega)]

set_option maxHeartbeats 2000000 in
theorem sumTurned_walk (A : Option Addr) (n c : Nat) (l : List UInt8) (at_ : Int) (b : Nat) (hb : b ≤ 255) (w : World) (h : Sl w A n c l) (htab : Tab w) :
    Calls Tryd.prog 6 #[.slice A n c, .int .i64 at_, .int .u8 (b : Nat)] w fun e w' => e = .returned (.bool true) ∧ Below w.heap.size w w' := by
  go_enter Tryd.func6, Tryd.ntmps6
  go_wp2_with fail
  refine (shown_any w htab).mono ?_
  rintro e w1 ⟨rfl, hb1⟩
  have h1 := h.below hb1
  have ht1 := htab.below hb1 htab.1
  go_wp2_with fail
  refine (few_any A n c l _ (h1.alloc _)).mono ?_
  rintro e w1' ⟨A2, n2, c2, rfl, rfl, h2⟩
  have hlen : n2 ≤ 600 := by have := h2.len; rw [List.length_take] at this; omega
  generalize List.take 600 l = l2 at h2
  go_wp2_with (at_builtin; refine wp_append_b _ T22 rfl _ _ rfl w1.heap.size _ 0 0 [] rfl (own_empty w1 5) A2 n2 c2 l2 rfl h2 (by omega) (by simp) ?_)
  intro A3 c3 w3 hown3 hb3
  have hb3 := below_new _ hb3 (Nat.le_refl _)
  have hz1 := hb1.size
  have hz3 := hb3.size
  have h3 := hown3.sl
  have ht3 := ht1.below hb3 ht1.1
  have hfin3 : Below w.heap.size w w3 := hb1.trans (hb3.mono hz1)
  have Hl := Lib.hid hown3.len
  by_cases h0 : at_ < 0
  · go_wp2
    go_ret
    exact ⟨rfl, hfin3⟩
  obtain ⟨k, rfl⟩ := Int.eq_ofNat_of_zero_le (show 0 ≤ at_ by omega)
  clear h0
  by_cases hk : n2 ≤ k
  · go_wp2
    go_ret
    exact ⟨rfl, hfin3⟩
  have hlt : k < n2 := by omega
  clear hk
  by_cases hb0 : b = 0
  · subst hb0
    go_wp2
    go_ret
    exact ⟨rfl, hfin3⟩
  have hb1' : ((b : Int) == 0) = false := by simpa using hb0
  have hk1 : decide ((k : Int) < 0) = false := by simp
  have hk2 : decide (n2 ≤ k) = false := by simp; omega
  have Hb := Lib.hid hb0
  clear hb0
  obtain ⟨g, hA⟩ : ∃ g, A3 = some ⟨g, 0, none⟩ := by
    rcases hown3.2 with ⟨hv, h0⟩ | ⟨g, cap, cur, hv, _⟩
    · omega
    · injection hv with hv
      exact ⟨g, hv⟩
  subst hA
  obtain ⟨hc, hf⟩ := hown3.at_ k hlt
  have hx := byt_le l2 k
  have hown4 := hown3.set_ k (UInt8.ofNat (byt l2 k) ^^^ UInt8.ofNat b)
  rw [bv_xor _ _ hx hb] at hown4
  have ht4 : Tab (w3.setCell ⟨g, k, none⟩ (.int .u8 (bits .xor .u8 (byt l2 k : Int) (b : Int)))) :=
    ht3.below ((Below.refl w1.heap.size w3).setCell (p := ⟨g, k, none⟩) (hown3.block _ rfl).1 _) ht1.1
  go_wp2_with fail
  refine (sum_any _ _ _ _ w3 h3 ht3).mono ?_
  rintro e w4 ⟨rfl, rfl⟩
  go_wp2_with fail
  refine (sum_any _ _ _ _ _ hown4.sl ht4).mono ?_
  rintro e w4 ⟨rfl, rfl⟩
  have hne := turned l2 k (UInt8.ofNat b) (by rw [Hl.out]; exact hlt) (by
    intro e
    have e2 := congrArg UInt8.toNat e
    rw [UInt8.toNat_ofNat', Nat.mod_eq_of_lt (by omega)] at e2
    exact Hb.out e2)
  have hd1 : (((more 0 (l2.set k (UInt8.ofNat (byt l2 k) ^^^ UInt8.ofNat b)) : Nat) : Int) == ((more 0 l2 : Nat) : Int)) = false := by rw [beq_eq_false_iff_ne]; omega
  have hd2 : (((more 0 (l2.set k (UInt8.ofNat (byt l2 k) ^^^ UInt8.ofNat b)) : Nat) : Int) != ((more 0 l2 : Nat) : Int)) = true := by rw [bne_iff_ne]; omega
  go_wp2
  go_ret
  exact ⟨by first | rfl | simp only [go_sem, hd1, hd2] | simp [go_sem, hd1, hd2], hfin3.trans ((Below.refl _ _).setCell (p := ⟨g, k, none⟩) (by have := (hown3.block _ rfl).1; show w.heap.size ≤ g; simp at this; omega) _)⟩
end Go.Proofs.YtmbffdhciolppaaDoor
