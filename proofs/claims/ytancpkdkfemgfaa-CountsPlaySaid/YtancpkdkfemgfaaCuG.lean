/- The code's counts: Clone. -/
import Derived.Test.YtancpkdkfemgfaaCuF
import Derived.Deep.RegionWith
namespace Go.Proofs.Ytancpkdkfemgfaa
open Go Go.RowKit Go.Proofs

set_option maxRecDepth 10000 in
set_option maxHeartbeats 2000000 in
theorem cclone_any {w : World} {p : Nat} {S : Nat → Prop} {C : Ct} (H : CC w p S C) :
    Calls Try.prog 21 #[.pointer (some ⟨p, 0, none⟩)] w fun e w' => ∃ q, e = .returned (.pointer (some ⟨q, 0, none⟩)) ∧ CC w' q (fun k => w.heap.size ≤ k) C ∧ Below w.heap.size w w' := by
  have hok := H.ok.1
  have hp := H.lt
  obtain ⟨g, cg, b, cb, t, h1, h2, h3, h4, h5, h6⟩ := H
  have c0 : w.cell? ⟨p, 0, none⟩ = some (.slice (some ⟨g, 0, none⟩) C.n cg) := by rw [cell_of_row _ _ _ _ _ _ h1]; rfl
  have c1 : w.cell? ⟨p, 1, none⟩ = some (.slice (some ⟨b, 0, none⟩) C.n cb) := by rw [cell_of_row _ _ _ _ _ _ h1]; rfl
  have c2 : w.cell? ⟨p, 2, none⟩ = some (.int .i64 (areaN C.n : Int)) := by rw [cell_of_row _ _ _ _ _ _ h1]; rfl
  have c3 : w.cell? ⟨p, 3, none⟩ = some (.int .i64 (C.first : Int)) := by rw [cell_of_row _ _ _ _ _ _ h1]; rfl
  go_enter Try.func21, Try.ntmps21
  go_wp2_with fail
  clear c0 c1 c2 c3
  have hq := heap_alloc_new w (.cells #[.slice (some ⟨g, 0, none⟩) C.n cg, .slice (some ⟨b, 0, none⟩) C.n cb, .int .i64 (areaN C.n : Int), .int .i64 (C.first : Int)] 58)
  have hB : Below w.heap.size w (w.alloc (.cells #[.slice (some ⟨g, 0, none⟩) C.n cg, .slice (some ⟨b, 0, none⟩) C.n cb, .int .i64 (areaN C.n : Int), .int .i64 (C.first : Int)] 58)) := (Below.refl _ _).alloc (Nat.le_refl _) _
  have hz : (w.alloc (.cells #[.slice (some ⟨g, 0, none⟩) C.n cg, .slice (some ⟨b, 0, none⟩) C.n cb, .int .i64 (areaN C.n : Int), .int .i64 (C.first : Int)] 58)).heap.size = w.heap.size + 1 := by simp
  generalize w.alloc (.cells #[.slice (some ⟨g, 0, none⟩) C.n cg, .slice (some ⟨b, 0, none⟩) C.n cb, .int .i64 (areaN C.n : Int), .int .i64 (C.first : Int)] 58) = w1 at hq hB hz ⊢
  have n1 : NRow w1.drew g C.n cg C.now := h2.keep (hB.block g h2.lt)
  have n2 : NRow w1.drew b C.n cb C.done := h3.keep (hB.block b h3.lt)
  have p1 : w1.drew.heap[p]? = some (.cells #[.slice (some ⟨g, 0, none⟩) C.n cg, .slice (some ⟨b, 0, none⟩) C.n cb, .int .i64 (areaN C.n : Int), .int .i64 (C.first : Int)] t (0, 0)) := (hB.block p hp).trans h1
  have c0 : w1.drew.cell? ⟨p, 0, none⟩ = some (.slice (some ⟨g, 0, none⟩) C.n cg) := by rw [cell_of_row _ _ _ _ _ _ p1]; rfl
  have c1 : w1.drew.cell? ⟨p, 1, none⟩ = some (.slice (some ⟨b, 0, none⟩) C.n cb) := by rw [cell_of_row _ _ _ _ _ _ p1]; rfl
  have hz' : w1.drew.heap.size = w.heap.size + 1 := hz
  have hpg := h4.2.1
  generalize hQ : w.heap.size = q at hq hz hz' hp
  have hq' : w1.drew.heap[q]? = some (.cells #[.slice (some ⟨g, 0, none⟩) C.n cg, .slice (some ⟨b, 0, none⟩) C.n cb, .int .i64 (areaN C.n : Int), .int .i64 (C.first : Int)] 58 (0, 0)) := hq
  go_region_with (first
    | (go_at_call 37; have hh := B3; refine (clone_row (n2.keep (B3.block b n2.lt)) (by omega) (by omega)).mono ?_; rintro e w4 ⟨b', cb', rfl, gb', m2, B4⟩; have q4 := (B4.block q (by have := B3.size; omega)).trans q3; have f40 : w4.frozen? ⟨q, 0, none⟩ = false := (by unfold World.frozen?; rw [q4]; simp); have d40 : w4.cell? ⟨q, 0, none⟩ = some (.slice (some ⟨g, 0, none⟩) C.n cg) := (by rw [cell_of_row _ _ _ _ _ _ q4]; rfl); have q5 := heap_setCell_same w4 q 0 _ 58 (.slice (some ⟨g', 0, none⟩) C.n cg') q4; have f51 : (w4.setCell ⟨q, 0, none⟩ (.slice (some ⟨g', 0, none⟩) C.n cg')).frozen? ⟨q, 1, none⟩ = false := (by unfold World.frozen?; rw [q5]; simp); have d51 : (w4.setCell ⟨q, 0, none⟩ (.slice (some ⟨g', 0, none⟩) C.n cg')).cell? ⟨q, 1, none⟩ = some (.slice (some ⟨b, 0, none⟩) C.n cb) := (by rw [cell_of_row _ _ _ _ _ _ q5]; rfl))
    | (go_at_call 37; refine (clone_row n1 (by omega) (by omega)).mono ?_; rintro e w3 ⟨g', cg', rfl, gg', m1, B3⟩; have q3 := (B3.block q (by omega)).trans hq'; have c31 := (B3.cell (p := ⟨p, 1, none⟩) (by show p < _; omega)).trans c1)
    | fail)
  all_goals (
    go_wp2_with fail
    go_ret
    have q6 := heap_setCell_same _ q 1 _ 58 (.slice (some ⟨b', 0, none⟩) C.n cb') q5
    have e6 : ∀ j, j ≠ q → ((w4.setCell ⟨q, 0, none⟩ (.slice (some ⟨g', 0, none⟩) C.n cg')).setCell ⟨q, 1, none⟩ (.slice (some ⟨b', 0, none⟩) C.n cb')).heap[j]? = w4.heap[j]? := fun j hj => (Below.heap_setCell _ _ _ _ (by show j ≠ q; exact hj)).trans (Below.heap_setCell _ _ _ _ (by show j ≠ q; exact hj))
    have z3 := B3.size
    have z4 := B4.size
    have l1 := m1.lt
    have l2 := m2.lt
    have hsz : q < w4.heap.size := by omega
    refine ⟨q, rfl, ⟨g', cg', b', cb', _, q6, ?_, m2.keep (e6 b' (by omega)), ⟨by omega, by omega, by omega⟩, ⟨by omega, by omega, by omega⟩, h6⟩, ?_⟩
    · exact (m1.keep (B4.block g' l1)).keep (e6 g' (by omega))
    · have b14 : Below w.heap.size w w4 := hB.trans ((((Below.refl w1.heap.size w1).drew.trans B3).mono (by omega)).trans (B4.mono (by omega)))
      exact ((turn_below b14).then ((turn_setCell (S := fun k => k = q) (a := ⟨q, 0, none⟩) _ rfl).then (turn_setCell (a := ⟨q, 1, none⟩) _ rfl) |>.mono fun k hk => hk)).below (fun k hk => by omega) (Nat.le_refl _))
end Go.Proofs.Ytancpkdkfemgfaa
