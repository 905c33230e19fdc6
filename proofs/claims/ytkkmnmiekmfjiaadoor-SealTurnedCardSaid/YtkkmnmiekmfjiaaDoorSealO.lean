/- The law SealOpens: for every input it returns true, and what came in reads as it did. -/
import Derived.Test.YtkkmnmiekmfjiaaDoorSealM
import Derived.Test.YtkkmnmiekmfjiaaDoorLaw
namespace Go.Proofs.YtkkmnmiekmfjiaaDoor
open Go Go.RowKit Go.Proofs

theorem open_says (A : Option Addr) (n c : Nat) (l : List UInt8) (w : World) (hs : Sl w A n c l) (ht : Tab w) : Calls Tryd.prog 11 #[.slice A n c] w fun e w' =>
      ∃ A' n' c', e = .returned (.tuple #[(opH l).v, .slice A' n' c', .int .i64 (opE l)]) ∧ Own w' w.heap.size 5 A' n' c' (opB l) ∧ Below w.heap.size w w' := open_any A n c l w hs ht
theorem refopen_says (A : Option Addr) (n c : Nat) (l : List UInt8) (w : World) (hs : Sl w A n c l) : Calls Tryd.prog 12 #[.slice A n c] w fun e w' =>
      ∃ A' n' c', e = .returned (.tuple #[(opH l).v, .slice A' n' c', .int .i64 (opE l)]) ∧ Own w' w.heap.size 5 A' n' c' (opB l) ∧ Below w.heap.size w w' := refopen_any A n c l w hs
theorem check_says (A : Option Addr) (n c : Nat) (l : List UInt8) (k a : Int) (w : World) (hs : Sl w A n c l) (ht : Tab w) : Calls Tryd.prog 13 #[.slice A n c, .int .i64 k, .int .i64 a] w fun e w' =>
      ∃ A' n' c', e = .returned (.tuple #[(ckH l k a).v, .slice A' n' c', .int .i64 (ckE l k a)]) ∧ Own w' w.heap.size 5 A' n' c' (ckB l k a) ∧ Below w.heap.size w w' := check_any A n c l k a w hs ht
theorem refcheck_says (A : Option Addr) (n c : Nat) (l : List UInt8) (k a : Int) (w : World) (hs : Sl w A n c l) : Calls Tryd.prog 14 #[.slice A n c, .int .i64 k, .int .i64 a] w fun e w' =>
      ∃ A' n' c', e = .returned (.tuple #[(ckH l k a).v, .slice A' n' c', .int .i64 (ckE l k a)]) ∧ Sl w' A' n' c' (ckB l k a) ∧ Below w.heap.size w w' := refcheck_any A n c l k a w hs
theorem over {w5 w6 : World} {o : Obj} (hb : ∀ B, B ≤ w5.heap.size → Below B (w5.alloc o) w6) : Below w5.heap.size w5 w6 ∧ w5.heap.size < w6.heap.size := by
  have h2 := (hb _ (Nat.le_refl _)).size
  rw [World.size_alloc] at h2
  exact ⟨((Below.refl _ _).alloc (Nat.le_refl _) o).trans (hb _ (Nat.le_refl _)), by omega⟩
theorem five_cells {w : World} {b : Nat} {H : Hd} (h : w.rangeAt b 0 H.vs) : w.cell? ⟨b, 0, none⟩ = some (.int .i64 H.kind) ∧ w.cell? ⟨b, 1, none⟩ = some (.int .i64 H.addr) ∧ w.cell? ⟨b, 2, none⟩ = some (.int .i64 H.count) ∧ w.cell? ⟨b, 3, none⟩ = some (.int .i64 H.level) ∧ w.cell? ⟨b, 4, none⟩ = some (.int .i64 H.gen) :=
  ⟨h 0 _ rfl, h 1 _ rfl, h 2 _ rfl, h 3 _ rfl, h 4 _ rfl⟩

set_option maxRecDepth 10000 in
set_option maxHeartbeats 4000000 in
theorem sealOpens_walk (A : Option Addr) (n c : Nat) (l : List UInt8) (x y : Int) (w : World) (hs : Sl w A n c l) (ht : Tab w) :
    Calls Tryd.prog 4 #[.slice A n c, .int .i64 x, .int .i64 y] w fun e w' => e = .returned (.bool true) ∧ Below w.heap.size w w' := by
  have hcap := hs.cap
  have hm := hs.max
  unfold maxLen at hm
  by_cases hn : (300 : Int) < (n : Int)
  · have h300 := hs.take (k := 300) (by omega)
    generalize List.take 300 l = l1 at h300
    obtain ⟨H, hH⟩ : ∃ H, opH l1 = H := ⟨_, rfl⟩
    obtain ⟨E, hE⟩ : ∃ E, opE l1 = E := ⟨_, rfl⟩
    obtain ⟨K, hK⟩ : ∃ K, ckH l1 x y = K := ⟨_, rfl⟩
    obtain ⟨F, hF⟩ : ∃ F, ckE l1 x y = F := ⟨_, rfl⟩
    go_enter Tryd.func4, Tryd.ntmps4
    go_wp2_with fail
    refine (shown_any w ht).mono ?_
    rintro e w2 ⟨rfl, hB2⟩
    have hs2 := (h300).below hB2
    go_wp2_with (first
      | (at_builtin; refine wp_append_b _ T22 rfl _ _ rfl w2.heap.size _ 0 0 [] rfl (own_empty w2 5) A 300 c _ rfl (hs2.alloc _) (by omega) (by simp) ?_)
      | fail)
    intro A3 c3 w3 own3 hb3
    have hb3 := below_new _ hb3 (Nat.le_refl _)
    have hB3 := hB2.trans (hb3.mono hB2.size)
    have hs3 := hs2.below hb3
    go_wp2_with fail
    refine (open_says A3 _ c3 _ w3 own3.sl (ht.below hB3 ht.1)).mono ?_
    rw [hH, hE]
    rintro e w4 ⟨A4, n4, c4, rfl, own4, hb4⟩
    have hB4 := hB3.trans (hb4.mono hB3.size)
    have hs4 := hs3.below hb4
    have hz4 := hB4.size
    go_wp2_with (first
      | (refine wp_store_hd rfl (.tmp 8) (.tmp 31) rfl w4.heap.size rfl H _ rfl (HB.zero w4 _) (by simp) ?_; intro w5 hr5 hb5 T5)
      | fail)
    obtain ⟨b45, hz45⟩ := over hb5
    have hB5 := hB4.trans (b45.mono hB4.size)
    have hs5 := hs4.below b45
    refine (refopen_says A 300 c _ w5 hs5).mono ?_
    rw [hH, hE]
    rintro e w6 ⟨A6, n6, c6, rfl, own6, hb6⟩
    have hB6 := hB5.trans (hb6.mono hB5.size)
    have hs6 := hs5.below hb6
    have hr6 := range_below hr5 hb6 (by omega)
    have s4 := ((own4.sl.below b45).below hb6)
    have hz56 := hb6.size
    clear hr5
    go_wp2_with (first
      | (refine wp_store_hd rfl (.tmp 11) (.tmp 37) rfl w6.heap.size rfl H _ rfl (HB.zero w6 _) (by simp) ?_; intro w7 hr7 hb7 T7; obtain ⟨b67, hz67⟩ := over hb7; have hs7 := hs6.below b67)
      | (at_builtin; refine wp_append_b _ T22 rfl _ _ rfl w7.heap.size _ 0 0 [] rfl (own_empty w7 5) A 300 c _ rfl (hs7.alloc _) (by omega) (by simp) ?_)
      | fail)
    have hB7 := hB6.trans (b67.mono hB6.size)
    intro A8 c8 w8 own8 hb8
    have hb8 := below_new _ hb8 (Nat.le_refl _)
    have hB8 := hB7.trans (hb8.mono hB7.size)
    have hs8 := hs7.below hb8
    have hr8 := range_below (range_below hr6 b67 (by omega)) hb8 (by omega)
    have hq8 := range_below hr7 hb8 (by omega)
    have s48 := (s4.below b67).below hb8
    have s68 := (own6.sl.below b67).below hb8
    have hz78 := hb8.size
    clear hr6 hr7 s4
    go_wp2_with fail
    refine (check_says A8 _ c8 _ x y w8 own8.sl (ht.below hB8 ht.1)).mono ?_
    rw [hK, hF]
    rintro e w9 ⟨A9, n9, c9, rfl, own9, hb9⟩
    have hB9 := hB8.trans (hb9.mono hB8.size)
    have hs9 := hs8.below hb9
    have hr9 := range_below hr8 hb9 (by omega)
    have hq9 := range_below hq8 hb9 (by omega)
    have s49 := s48.below hb9
    have s69 := s68.below hb9
    have hz89 := hb9.size
    clear hr8 hq8 s48 s68
    go_wp2_with (first
      | (refine wp_store_hd rfl (.tmp 14) (.tmp 47) rfl w9.heap.size rfl K _ rfl (HB.zero w9 _) (by simp) ?_; intro w10 hr10 hb10 T10; obtain ⟨b910, hz910⟩ := over hb10)
      | fail)
    have hB10 := hB9.trans (b910.mono hB9.size)
    have hs10 := hs9.below b910
    refine (refcheck_says A 300 c _ x y w10 hs10).mono ?_
    rw [hK, hF]
    rintro e w11 ⟨A11, n11, c11, rfl, s11, hb11⟩
    have b911 := b910.trans (hb11.mono b910.size)
    have hB11 := hB9.trans (b911.mono hB9.size)
    have hr11 := range_below hr9 b911 (by omega)
    have hq11 := range_below hq9 b911 (by omega)
    have hp11 := range_below hr10 hb11 (by omega)
    have s411 := s49.below b911
    have s611 := s69.below b911
    have s911 := own9.sl.below b911
    have hz1011 := hb11.size
    clear hr9 hq9 hr10 s49 s69
    go_wp2_with (first
      | (refine wp_store_hd rfl (.tmp 17) (.tmp 55) rfl w11.heap.size rfl K _ rfl (HB.zero w11 _) (by simp) ?_; intro w12 hr12 hb12 T12; obtain ⟨b1112, hz12⟩ := over hb12; have k1 := str_bs (s411.below b1112); have k2 := str_bs (s611.below b1112); have k3 := str_bs (s911.below b1112); have k4 := str_bs (s11.below b1112); obtain ⟨d0, d1, d2, d3, d4⟩ := five_cells (range_below hr11 b1112 (by omega)); obtain ⟨e0, e1, e2, e3, e4⟩ := five_cells (range_below hq11 b1112 (by omega)); obtain ⟨f0, f1, f2, f3, f4⟩ := five_cells (range_below hp11 b1112 (by omega)); obtain ⟨g0, g1, g2, g3, g4⟩ := five_cells hr12)
      | fail)
    go_ret
    exact ⟨by first | rfl | simp [go_sem], hB11.trans (b1112.mono hB11.size)⟩
  · clear hm
    have hm : n ≤ 300 := by omega
    obtain ⟨H, hH⟩ : ∃ H, opH l = H := ⟨_, rfl⟩
    obtain ⟨E, hE⟩ : ∃ E, opE l = E := ⟨_, rfl⟩
    obtain ⟨K, hK⟩ : ∃ K, ckH l x y = K := ⟨_, rfl⟩
    obtain ⟨F, hF⟩ : ∃ F, ckE l x y = F := ⟨_, rfl⟩
    go_enter Tryd.func4, Tryd.ntmps4
    go_wp2_with fail
    refine (shown_any w ht).mono ?_
    rintro e w2 ⟨rfl, hB2⟩
    have hs2 := (hs).below hB2
    go_wp2_with (first
      | (at_builtin; refine wp_append_b _ T22 rfl _ _ rfl w2.heap.size _ 0 0 [] rfl (own_empty w2 5) A n c _ rfl (hs2.alloc _) (by omega) (by simp) ?_)
      | fail)
    intro A3 c3 w3 own3 hb3
    have hb3 := below_new _ hb3 (Nat.le_refl _)
    have hB3 := hB2.trans (hb3.mono hB2.size)
    have hs3 := hs2.below hb3
    go_wp2_with fail
    refine (open_says A3 _ c3 _ w3 own3.sl (ht.below hB3 ht.1)).mono ?_
    rw [hH, hE]
    rintro e w4 ⟨A4, n4, c4, rfl, own4, hb4⟩
    have hB4 := hB3.trans (hb4.mono hB3.size)
    have hs4 := hs3.below hb4
    have hz4 := hB4.size
    go_wp2_with (first
      | (refine wp_store_hd rfl (.tmp 8) (.tmp 31) rfl w4.heap.size rfl H _ rfl (HB.zero w4 _) (by simp) ?_; intro w5 hr5 hb5 T5)
      | fail)
    obtain ⟨b45, hz45⟩ := over hb5
    have hB5 := hB4.trans (b45.mono hB4.size)
    have hs5 := hs4.below b45
    refine (refopen_says A n c _ w5 hs5).mono ?_
    rw [hH, hE]
    rintro e w6 ⟨A6, n6, c6, rfl, own6, hb6⟩
    have hB6 := hB5.trans (hb6.mono hB5.size)
    have hs6 := hs5.below hb6
    have hr6 := range_below hr5 hb6 (by omega)
    have s4 := ((own4.sl.below b45).below hb6)
    have hz56 := hb6.size
    clear hr5
    go_wp2_with (first
      | (refine wp_store_hd rfl (.tmp 11) (.tmp 37) rfl w6.heap.size rfl H _ rfl (HB.zero w6 _) (by simp) ?_; intro w7 hr7 hb7 T7; obtain ⟨b67, hz67⟩ := over hb7; have hs7 := hs6.below b67)
      | (at_builtin; refine wp_append_b _ T22 rfl _ _ rfl w7.heap.size _ 0 0 [] rfl (own_empty w7 5) A n c _ rfl (hs7.alloc _) (by omega) (by simp) ?_)
      | fail)
    have hB7 := hB6.trans (b67.mono hB6.size)
    intro A8 c8 w8 own8 hb8
    have hb8 := below_new _ hb8 (Nat.le_refl _)
    have hB8 := hB7.trans (hb8.mono hB7.size)
    have hs8 := hs7.below hb8
    have hr8 := range_below (range_below hr6 b67 (by omega)) hb8 (by omega)
    have hq8 := range_below hr7 hb8 (by omega)
    have s48 := (s4.below b67).below hb8
    have s68 := (own6.sl.below b67).below hb8
    have hz78 := hb8.size
    clear hr6 hr7 s4
    go_wp2_with fail
    refine (check_says A8 _ c8 _ x y w8 own8.sl (ht.below hB8 ht.1)).mono ?_
    rw [hK, hF]
    rintro e w9 ⟨A9, n9, c9, rfl, own9, hb9⟩
    have hB9 := hB8.trans (hb9.mono hB8.size)
    have hs9 := hs8.below hb9
    have hr9 := range_below hr8 hb9 (by omega)
    have hq9 := range_below hq8 hb9 (by omega)
    have s49 := s48.below hb9
    have s69 := s68.below hb9
    have hz89 := hb9.size
    clear hr8 hq8 s48 s68
    go_wp2_with (first
      | (refine wp_store_hd rfl (.tmp 14) (.tmp 47) rfl w9.heap.size rfl K _ rfl (HB.zero w9 _) (by simp) ?_; intro w10 hr10 hb10 T10; obtain ⟨b910, hz910⟩ := over hb10)
      | fail)
    have hB10 := hB9.trans (b910.mono hB9.size)
    have hs10 := hs9.below b910
    refine (refcheck_says A n c _ x y w10 hs10).mono ?_
    rw [hK, hF]
    rintro e w11 ⟨A11, n11, c11, rfl, s11, hb11⟩
    have b911 := b910.trans (hb11.mono b910.size)
    have hB11 := hB9.trans (b911.mono hB9.size)
    have hr11 := range_below hr9 b911 (by omega)
    have hq11 := range_below hq9 b911 (by omega)
    have hp11 := range_below hr10 hb11 (by omega)
    have s411 := s49.below b911
    have s611 := s69.below b911
    have s911 := own9.sl.below b911
    have hz1011 := hb11.size
    clear hr9 hq9 hr10 s49 s69
    go_wp2_with (first
      | (refine wp_store_hd rfl (.tmp 17) (.tmp 55) rfl w11.heap.size rfl K _ rfl (HB.zero w11 _) (by simp) ?_; intro w12 hr12 hb12 T12; obtain ⟨b1112, hz12⟩ := over hb12; have k1 := str_bs (s411.below b1112); have k2 := str_bs (s611.below b1112); have k3 := str_bs (s911.below b1112); have k4 := str_bs (s11.below b1112); obtain ⟨d0, d1, d2, d3, d4⟩ := five_cells (range_below hr11 b1112 (by omega)); obtain ⟨e0, e1, e2, e3, e4⟩ := five_cells (range_below hq11 b1112 (by omega)); obtain ⟨f0, f1, f2, f3, f4⟩ := five_cells (range_below hp11 b1112 (by omega)); obtain ⟨g0, g1, g2, g3, g4⟩ := five_cells hr12)
      | fail)
    go_ret
    exact ⟨by first | rfl | simp [go_sem], hB11.trans (b1112.mono hB11.size)⟩
end Go.Proofs.YtkkmnmiekmfjiaaDoor
