/- The program's join lays its parts one behind the other in a row of its own, for parts of together at most 2 to the 45 bytes. -/
import Derived.Test.YtimlhhemfipooaaE4
namespace Go.Proofs.Ytimlhhemfipooaa
open Go Go.RowKit Go.Proofs

set_option maxHeartbeats 400000 in
theorem join_any (A : Option Addr) (k c : Nat) (ls : List (List UInt8)) (w : World) (h : Parts w A k c ls) (hb : tot ls k ≤ 35184372088832) :
    Calls Try.prog 44 #[.slice A k c] w fun e w' => ∃ A' n' c', e = .returned (.slice A' n' c') ∧ Own w' w.heap.size 5 A' n' c' (cat ls k) ∧ Below w.heap.size w w' := by
  have hkc : k ≤ c := h.2.1
  have hm : c ≤ maxLen := h.2.2.1
  unfold maxLen at hm
  have Hl := Lib.hid h.len
  go_enter Try.func44, Try.ntmps44
  go_wp2
  go_loop [3, 11] (fun s i => ∃ j : Nat, j ≤ k ∧ i = .int .i64 j ∧ s = .int .i64 (tot ls j : Nat)) (fun _ i => k - (intOf i).toNat)
  case atStart => exact ⟨0, Nat.zero_le _, rfl, by rw [tot_zero]; rfl⟩
  case round =>
    obtain ⟨j, hj, rfl, rfl⟩ := hrel
    by_cases hlt : j < k
    · obtain ⟨ad, B, n, d, rfl, hlt1, hcell, hs⟩ := h.cell hlt
      have hle := tot_le ls (j + 1) k (by omega)
      have hn := tot_next ls j (by rw [Hl.out]; omega)
      rw [hs.len] at hn
      have Hn := Lib.hid hn
      rw [hn] at hle
      clear hn
      go_wp2
      exact ⟨⟨j + 1, by omega, by go_num, by rw [Hn.out]; go_num⟩, by simp [intOf]; omega⟩
    · obtain rfl : j = k := by omega
      go_wp2_with (at_make; refine wp_make_c _ T22 rfl _ _ rfl _ _ (tot ls j) rfl rfl (by omega) ?_)
      intro w1 hown0 hb0
      go_wp2
      go_loopw [6, 24] (fun s i wr => ∃ (q : Nat) (A' : Option Addr) (n' c' : Nat), q ≤ j ∧ i = .int .i64 q ∧ s = .slice A' n' c' ∧ Own wr w.heap.size 5 A' n' c' (cat ls q) ∧ Below w.heap.size w wr) (fun _ i _ => j - (intOf i).toNat)
      case atStart => exact ⟨0, _, _, _, Nat.zero_le _, rfl, rfl, by rw [cat_zero]; exact hown0, hb0⟩
      case round =>
        obtain ⟨q, A', n', c', hq, rfl, rfl, hown, hb1⟩ := hrel
        by_cases hlt2 : q < j
        · have hle := tot_le ls (q + 1) j (by omega)
          have hn := tot_next ls q (by rw [Hl.out]; omega)
          obtain ⟨ad, B, n, d, rfl, hlt1, hcell, hs⟩ := (h.below hb1).cell hlt2
          rw [hs.len, show tot ls q = n' from hown.len] at hn
          rw [hn] at hle
          clear hn
          go_wp2_with (at_builtin; refine wp_append_b _ T22 rfl _ _ rfl w.heap.size A' n' c' _ rfl hown B n d _ rfl hs (by omega) hb1.size ?_)
          intro A2 c2 w2 hown2 hb2
          rw [← cat_next ls q (by rw [Hl.out]; omega)] at hown2
          go_wp2
          exact ⟨⟨q + 1, _, _, _, by omega, by go_num, rfl, hown2, hb1.trans hb2⟩, by simp [intOf]; omega⟩
        · obtain rfl : q = j := by omega
          go_wp2
          go_ret
          exact ⟨_, _, _, rfl, hown, hb1⟩
end Go.Proofs.Ytimlhhemfipooaa
