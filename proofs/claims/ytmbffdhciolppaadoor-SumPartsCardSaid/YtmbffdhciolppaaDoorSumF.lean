/- The law SumParts: for every input it returns true, and what came in reads as it did. -/
import Derived.Test.YtmbffdhciolppaaDoorSumC
namespace Go.Proofs.YtmbffdhciolppaaDoor
open Go Go.RowKit Go.Proofs

/-- The parts, a hundred bytes each at most. -/
def cutAll (ls : List (List UInt8)) : List (List UInt8) := ls.map (·.take 100)
theorem cutAll_len (ls : List (List UInt8)) : (cutAll ls).length = ls.length := by simp [cutAll]
theorem nth_cut (ls : List (List UInt8)) (k : Nat) : nth (cutAll ls) k = (nth ls k).take 100 := by
  unfold nth cutAll
  rw [List.getD_eq_getElem?_getD, List.getD_eq_getElem?_getD, List.getElem?_map]
  cases ls[k]? <;> simp
theorem part_next (ls : List (List UInt8)) (k : Nat) (h : k < ls.length) : cat (cutAll ls) (k + 1) = cat (cutAll ls) k ++ (nth ls k).take 100 := by
  rw [cat_next _ _ (by rw [cutAll_len]; exact h), nth_cut]

set_option maxHeartbeats 2000000 in
theorem sumParts_walk (A : Option Addr) (n c : Nat) (ls : List (List UInt8)) (w : World) (h : Parts w A n c ls) (htab : Tab w) :
    Calls Tryd.prog 5 #[.slice A n c] w fun e w' => e = .returned (.bool true) ∧ Below w.heap.size w w' := by
  have hnc : n ≤ c := h.2.1
  have hm : c ≤ maxLen := h.2.2.1
  unfold maxLen at hm
  have Hl := Lib.hid h.len
  go_enter Tryd.func5, Tryd.ntmps5
  go_wp2_with fail
  refine (shown_any w htab).mono ?_
  rintro e w1 ⟨rfl, hb1⟩
  have h1 := h.below hb1
  have hz1 := hb1.size
  have hown0 := own_empty w1 5
  have hb2 := below_new (.cells #[] 5) (Below.refl w1.heap.size _) (Nat.le_refl _)
  have ht1 := (htab.below hb1 htab.1).below hb2 (by have := htab.1; omega)
  go_wp2_with fail
  refine (sum_any _ 0 0 [] _ (sl_nil _) ht1).mono ?_
  rintro e w' ⟨rfl, rfl⟩
  rw [show more 0 [] = 0 from more_nil (by omega)]
  go_wp2
  go_loopw [4, 5, 6] (fun a s i wr => ∃ (k : Nat) (A' : Option Addr) (n' c' : Nat), k ≤ n ∧ k ≤ 20 ∧ i = .int .i64 k ∧ a = .slice A' n' c' ∧ s = .int .u32 (more 0 (cat (cutAll ls) k) : Nat) ∧ n' ≤ 100 * k ∧ Own wr w1.heap.size 5 A' n' c' (cat (cutAll ls) k) ∧ Below w1.heap.size w1 wr) (fun _ _ i _ => n - (intOf i).toNat)
  case atStart => exact ⟨0, _, _, _, Nat.zero_le _, Nat.zero_le _, rfl, rfl, by rw [cat_zero, more_nil (by omega)]; rfl, by omega, by rw [cat_zero]; exact hown0, hb2⟩
  case round =>
    obtain ⟨k, A', n', c', hk, hk20, rfl, rfl, rfl, hn', hown, hb⟩ := hrel
    have htr := (htab.below hb1 htab.1).below hb (by have := htab.1; omega)
    by_cases hlt : k < n ∧ k < 20
    · obtain ⟨hlt, hlt20⟩ := hlt
      obtain ⟨ad, B, m, d, rfl, hlt1, hcell1, hs⟩ := h1.cell hlt
      have hcell := (hb.cell (p := ad.add k) (by rw [addr_block]; exact hlt1)).trans hcell1
      have Hn := Lib.hid (part_next ls k (by rw [Hl.out]; exact hlt))
      have hmd := hs.cap
      have hmx := hs.max
      unfold maxLen at hmx
      have hx := more_lt 0 (cat (cutAll ls) k)
      have Hlen := Lib.hid hs.len
      by_cases hlong : 100 < m
      · have hs2 := hs.take (show 100 ≤ m by omega)
        go_wp2_with (at_builtin; refine wp_append_b _ T22 rfl _ _ rfl w1.heap.size A' n' c' _ rfl hown B 100 d _ rfl (hs2.below hb) (by omega) hb.size ?_)
        intro A2 c2 w2 hown2 hb2
        have hb3 := hb.trans hb2
        have htr2 := (htab.below hb1 htab.1).below hb3 (by have := htab.1; omega)
        go_wp2_with fail
        refine (more_any _ hx B 100 d _ w2 (hs2.below hb3) htr2).mono ?_
        rintro e w' ⟨rfl, rfl⟩
        rw [more_append, ← Hn.out]
        rw [← Hn.out] at hown2
        go_wp2
        exact ⟨⟨k + 1, _, _, _, by omega, by omega, by go_num, rfl, rfl, by omega, hown2, hb3⟩, by simp [intOf]; omega⟩
      · have Ht := Lib.hid (show (nth ls k).take 100 = nth ls k from List.take_of_length_le (by rw [Hlen.out]; omega))
        go_wp2_with (at_builtin; refine wp_append_b _ T22 rfl _ _ rfl w1.heap.size A' n' c' _ rfl hown B m d _ rfl (hs.below hb) (by omega) hb.size ?_)
        intro A2 c2 w2 hown2 hb2
        have hb3 := hb.trans hb2
        have htr2 := (htab.below hb1 htab.1).below hb3 (by have := htab.1; omega)
        go_wp2_with fail
        refine (more_any _ hx B m d _ w2 (hs.below hb3) htr2).mono ?_
        rintro e w' ⟨rfl, rfl⟩
        rw [more_append]
        rw [Ht.out] at Hn
        rw [← Hn.out]
        rw [← Hn.out] at hown2
        go_wp2
        exact ⟨⟨k + 1, _, _, _, by omega, by omega, by go_num, rfl, rfl, by omega, hown2, hb3⟩, by simp [intOf]; omega⟩
    · have hfin : Below w.heap.size w wr := hb1.trans (hb.mono hz1)
      rcases (by omega : n ≤ k ∨ k < n ∧ 20 ≤ k) with hend | hend
      all_goals
        go_wp2_with fail
        refine (sum_any _ _ _ _ wr hown.sl htr).mono ?_
        rintro e w' ⟨rfl, rfl⟩
        go_wp2
        go_ret
        exact ⟨by first | rfl | simp [go_sem], hfin⟩
end Go.Proofs.YtmbffdhciolppaaDoor
