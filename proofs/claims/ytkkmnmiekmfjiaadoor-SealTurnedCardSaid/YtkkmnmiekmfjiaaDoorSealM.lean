/- The laws' shown() of layer 4. -/
import Derived.Test.YtkkmnmiekmfjiaaDoorSealL
namespace Go.Proofs.YtkkmnmiekmfjiaaDoor
open Go Go.RowKit Go.Proofs

theorem ex_ck : ckOk (blkL exH [7]) 3 6 = false := by rw [blk_check exH [7] ex_ok (by decide)]; decide
theorem str22 {w : World} {A : Option Addr} {c : Nat} (h : Sl w A 18 c (((blkL exH [7]).drop 4).take 18)) : (convert 24 9 (.slice A 18 c)).run Tryd.prog w = .ok (.string ⟨#[3, 0, 0, 5, 0, 1, 0, 0, 0, 0, 2, 0, 0, 0, 0, 0, 7, 0]⟩) w := by
  have := str_bs h
  rw [ex_22] at this
  exact this

set_option maxRecDepth 10000 in
set_option maxHeartbeats 4000000 in
theorem shown_any (w : World) (ht : Tab w) :
    Calls Tryd.prog 8 #[] w fun e w' => e = .returned (.bool true) ∧ Below w.heap.size w w' := by
  go_enter Tryd.func8, Tryd.ntmps8
  go_wp2_with fail
  have H1 : HB (w.alloc (.cells #[.int .i64 3, .int .i64 5, .int .i64 1, .int .i64 0, .int .i64 2] 23)) w.heap.size exH := ⟨_, heap_alloc_new w _⟩
  have o2 := own_one (w.alloc (.cells #[.int .i64 3, .int .i64 5, .int .i64 1, .int .i64 0, .int .i64 2] 23)) 5 7 (.int .u8 7) rfl
  have b1 : Below w.heap.size w (w.alloc (.cells #[.int .i64 3, .int .i64 5, .int .i64 1, .int .i64 0, .int .i64 2] 23)) := (Below.refl _ _).alloc (Nat.le_refl _) _
  have z1 : (w.alloc (.cells #[.int .i64 3, .int .i64 5, .int .i64 1, .int .i64 0, .int .i64 2] 23)).heap.size = w.heap.size + 1 := by simp
  generalize (w.alloc (.cells #[.int .i64 3, .int .i64 5, .int .i64 1, .int .i64 0, .int .i64 2] 23)) = w1 at H1 o2 b1 z1 ⊢
  have b2 : Below w1.heap.size w1 (w1.alloc (.cells #[.int .u8 7] 5)) := (Below.refl _ _).alloc (Nat.le_refl _) _
  generalize (w1.alloc (.cells #[.int .u8 7] 5)) = w2 at o2 b2 ⊢
  rw [z1] at o2
  have hB2 := b1.trans (b2.mono b1.size)
  have H2 := H1.below b2 (by omega)
  have ht2 := ht.below hB2 ht.1
  have hz2 := hB2.size
  have hz12 := b2.size
  refine (seal_any exH (some ⟨w.heap.size + 1, 0, none⟩) 1 1 [7] w2 o2.sl ht2).mono ?_
  rw [ex_E, ex_B]
  rintro e w3 ⟨A3, n3, c3, rfl, own3, hf, hb3⟩
  obtain ⟨g, rfl, rfl, rfl⟩ := hf rfl
  have hB3 := hB2.trans (hb3.mono hB2.size)
  have H3 := H2.below hb3 (by omega)
  have ht3 := ht.below hB3 ht.1
  have hz3 := hb3.size
  clear H1 H2 b1 b2 hb3 o2 ht2
  go_wp2_with fail
  have hO := open_any (some ⟨g, 0, none⟩) 256 256 _ w3 own3.sl ht3
  unfold OpenSays at hO
  obtain ⟨h1, h2, h3⟩ := blk_open exH [7] ex_ok (by decide)
  rw [h1, h2, h3] at hO
  refine hO.mono ?_
  rintro e w4 ⟨A4, n4, c4, rfl, own4, hb4⟩
  have hB4 := hB3.trans (hb4.mono hB3.size)
  have hz4 := hb4.size
  have hn4 : n4 = 236 := by have := own4.len; simpa using this.symm
  subst hn4
  have H4 := H3.below hb4 (by omega)
  clear hO H3
  go_wp2_with (first
    | (refine wp_store_hd rfl (.tmp 4) (.tmp 27) rfl w4.heap.size rfl exH _ rfl (HB.zero w4 _) (by simp) ?_; intro w5 hr5 hb5 Tz5)
    | fail)
  have hz5 := (hb5 _ (Nat.le_refl _)).size
  rw [World.size_alloc] at hz5
  have b45 : Below w4.heap.size w4 w5 := ((Below.refl _ _).alloc (Nat.le_refl _) _).trans (hb5 _ (Nat.le_refl _))
  have hB5 := hB4.trans (b45.mono hB4.size)
  have own5 := (own3.below hb4).below b45
  have own45 := own4.below b45
  have H5 := H4.below b45 (by omega)
  have ht5 := ht.below hB5 ht.1
  have hC := check_any (some ⟨g, 0, none⟩) 256 256 _ 3 6 w5 own5.sl ht5
  unfold CheckSays at hC
  obtain ⟨g1, g2, g3⟩ := ck_no ex_ck
  rw [g1, g2, g3] at hC
  refine hC.mono ?_
  rintro e w6 ⟨A6, n6, c6, rfl, own6, hb6⟩
  have hB6 := hB5.trans (hb6.mono hB5.size)
  have hz6 := hb6.size
  have H6 := H5.below hb6 (by omega)
  have hr6 := range_below hr5 hb6 (by omega)
  have own56 := own5.below hb6
  have own46 := own45.below hb6
  obtain ⟨ad, rfl, _, hc0⟩ := own46.sl.cell (k := 0) (by omega)
  have e0 : byt ([7] ++ List.replicate (236 - [(7 : UInt8)].length) 0) 0 = 7 := rfl
  rw [e0] at hc0
  have hc0 : w6.cell? ad = some (.int .u8 7) := hc0
  have hr6' : w6.rangeAt w4.heap.size 0 exH.vs := hr6
  clear hC g1 g2 g3 h1 h2 h3 hr5 H5 own5 own45 own3 own4 H4 e0
  have t0 : w6.cell? ⟨w4.heap.size, 0, none⟩ = some (.int .i64 3) := hr6' 0 _ rfl
  have t1 : w6.cell? ⟨w4.heap.size, 1, none⟩ = some (.int .i64 5) := hr6' 1 _ rfl
  have t2 : w6.cell? ⟨w4.heap.size, 2, none⟩ = some (.int .i64 1) := hr6' 2 _ rfl
  have t3 : w6.cell? ⟨w4.heap.size, 3, none⟩ = some (.int .i64 0) := hr6' 3 _ rfl
  have t4 : w6.cell? ⟨w4.heap.size, 4, none⟩ = some (.int .i64 2) := hr6' 4 _ rfl
  have u0 : w6.cell? ⟨w.heap.size, 0, none⟩ = some (.int .i64 3) := H6.at_ 0
  have u1 : w6.cell? ⟨w.heap.size, 1, none⟩ = some (.int .i64 5) := H6.at_ 2
  have u2 : w6.cell? ⟨w.heap.size, 2, none⟩ = some (.int .i64 1) := H6.at_ 3
  have u3 : w6.cell? ⟨w.heap.size, 3, none⟩ = some (.int .i64 0) := H6.at_ 1
  have u4 : w6.cell? ⟨w.heap.size, 4, none⟩ = some (.int .i64 2) := H6.at_ 4
  have hadl : ad.block < w6.heap.size := by assumption
  have hlw : w.heap.size < w6.heap.size := by omega
  have hl4 : w4.heap.size < w6.heap.size := by omega
  go_wp2_with (first
    | (refine wp_store_hd rfl (.tmp 7) (.tmp 33) rfl w6.heap.size rfl Hd.zero _ rfl (HB.zero w6 _) (by simp) ?_; intro w7 hr7 hb7 Tz7; have b67 : Below w6.heap.size w6 w7 := ((Below.refl _ _).alloc (Nat.le_refl _) _).trans (hb7 _ (Nat.le_refl _)); have own57 := own56.below b67; have hc22 : (convert 24 9 (.slice (some ⟨g, 4, none⟩) 18 252)).run Tryd.prog w7 = _ := str22 (((own57.sl.drop (k := 4) (by omega))).take (k := 18) (by omega)); have hc0 := (b67.cell hadl).trans hc0; replace t0 := (b67.cell (p := ⟨w4.heap.size, 0, none⟩) hl4).trans t0; replace t1 := (b67.cell (p := ⟨w4.heap.size, 1, none⟩) hl4).trans t1; replace t2 := (b67.cell (p := ⟨w4.heap.size, 2, none⟩) hl4).trans t2; replace t3 := (b67.cell (p := ⟨w4.heap.size, 3, none⟩) hl4).trans t3; replace t4 := (b67.cell (p := ⟨w4.heap.size, 4, none⟩) hl4).trans t4; replace u0 := (b67.cell (p := ⟨w.heap.size, 0, none⟩) hlw).trans u0; replace u1 := (b67.cell (p := ⟨w.heap.size, 1, none⟩) hlw).trans u1; replace u2 := (b67.cell (p := ⟨w.heap.size, 2, none⟩) hlw).trans u2; replace u3 := (b67.cell (p := ⟨w.heap.size, 3, none⟩) hlw).trans u3; replace u4 := (b67.cell (p := ⟨w.heap.size, 4, none⟩) hlw).trans u4)
    | fail)
  go_ret
  exact ⟨by first | rfl | simp [go_sem], hB6.trans (b67.mono hB6.size)⟩
end Go.Proofs.YtkkmnmiekmfjiaaDoor
