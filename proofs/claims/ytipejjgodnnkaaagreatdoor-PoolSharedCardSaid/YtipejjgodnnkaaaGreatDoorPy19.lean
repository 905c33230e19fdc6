/- The code's counts: Clone. The code's counts: Clone. -/
import Derived.Test.YtipejjgodnnkaaaGreatDoorPy18
import Derived.Lib.SliceRun
import Derived.Deep.RegionWith
namespace Go.Proofs.YtipejjgodnnkaaaGreatDoor
open Go Go.RowKit Go.Proofs

set_option maxRecDepth 10000 in
set_option maxHeartbeats 2000000 in
theorem clone_row {w : World} {g n c : Nat} {l : List Int} (H : NRow w g n c l) (h0 : 0 < n) (h1 : n ≤ 1000000) :
    Calls Tryz.prog 153 #[.slice (some ⟨g, 0, none⟩) n c] w fun e w' => ∃ g' c', e = .returned (.slice (some ⟨g', 0, none⟩) n c') ∧ w.heap.size ≤ g' ∧ NRow w' g' n c' l ∧ Below w.heap.size w w' := by
  have b1 : Below w.heap.size w (w.alloc (.cells #[] 3)) := (Below.refl _ _).alloc (Nat.le_refl _) _
  have H1 : NRow (w.alloc (.cells #[] 3)) g n c l := H.keep (b1.block g H.lt)
  have z1 : (w.alloc (.cells #[] 3)).heap.size = w.heap.size + 1 := by simp
  have kn : (binOp .eql 33 (.slice (some ⟨g, 0, none⟩) n c) (.slice none 0 0)).run Tryz.prog w = .ok (.bool false) w := Lib.run_eql_slice_nil w _ 3 _ n c 0 0 TN.sl
  go_enter Tryz.func153, Tryz.ntmps153
  go_wp2_with (first
    | (at_builtin; refine wp_append_lit_i _ TN rfl _ _ rfl w.heap.size rfl ⟨g, 0, none⟩ n c rfl l H1.len H1.cells h0 h1 ?_; intro c3 w3 own3 hb3)
    | fail)
  go_ret
  rw [z1] at own3
  exact ⟨_, _, rfl, by omega, owns_base own3 (Nat.zero_le _), b1.trans (hb3.mono b1.size)⟩
end Go.Proofs.YtipejjgodnnkaaaGreatDoor

namespace Go.Proofs.YtipejjgodnnkaaaGreatDoor
open Go Go.RowKit Go.Proofs

set_option maxRecDepth 10000 in
set_option maxHeartbeats 2000000 in
theorem cclone_any {w : World} {p o : Nat} {S : Nat → Prop} {C : Ct} (H : CCo w p o S C) :
    Calls Tryz.prog 97 #[.pointer (some ⟨p, o, none⟩)] w fun e w' => ∃ q, e = .returned (.pointer (some ⟨q, 0, none⟩)) ∧ CCo w' q 0 (fun k => w.heap.size ≤ k) C ∧ w.heap.size ≤ q ∧ Below w.heap.size w w' := by
  have hok := H.ok.1
  have hp := H.lt
  obtain ⟨g, cg, b, cb, t, cur, h1, ⟨o0, o1, o2, o3⟩, h2, h3, h4, h5, h6⟩ := H
  have c0 : w.cell? ⟨p, o, none⟩ = some (.slice (some ⟨g, 0, none⟩) C.n cg) := cell_at h1 o0
  have c1 : w.cell? ⟨p, o + 1, none⟩ = some (.slice (some ⟨b, 0, none⟩) C.n cb) := cell_at h1 o1
  have c2 : w.cell? ⟨p, o + 2, none⟩ = some (.int .i64 (areaN C.n : Int)) := cell_at h1 o2
  have c3 : w.cell? ⟨p, o + 3, none⟩ = some (.int .i64 (C.first : Int)) := cell_at h1 o3
  go_enter Tryz.func97, Tryz.ntmps97
  go_wp2_with fail
  clear c0 c1 c2 c3
  have hq := heap_alloc_new w (.cells #[.slice (some ⟨g, 0, none⟩) C.n cg, .slice (some ⟨b, 0, none⟩) C.n cb, .int .i64 (areaN C.n : Int), .int .i64 (C.first : Int)] 107)
  have hB : Below w.heap.size w (w.alloc (.cells #[.slice (some ⟨g, 0, none⟩) C.n cg, .slice (some ⟨b, 0, none⟩) C.n cb, .int .i64 (areaN C.n : Int), .int .i64 (C.first : Int)] 107)) := (Below.refl _ _).alloc (Nat.le_refl _) _
  have hz : (w.alloc (.cells #[.slice (some ⟨g, 0, none⟩) C.n cg, .slice (some ⟨b, 0, none⟩) C.n cb, .int .i64 (areaN C.n : Int), .int .i64 (C.first : Int)] 107)).heap.size = w.heap.size + 1 := by simp
  generalize w.alloc (.cells #[.slice (some ⟨g, 0, none⟩) C.n cg, .slice (some ⟨b, 0, none⟩) C.n cb, .int .i64 (areaN C.n : Int), .int .i64 (C.first : Int)] 107) = w1 at hq hB hz ⊢
  have n1 : NRow w1.drew g C.n cg C.now := h2.keep (hB.block g h2.lt)
  have n2 : NRow w1.drew b C.n cb C.done := h3.keep (hB.block b h3.lt)
  have p1 : w1.drew.heap[p]? = some (.cells cur t (0, 0)) := (hB.block p hp).trans h1
  have c0 : w1.drew.cell? ⟨p, o, none⟩ = some (.slice (some ⟨g, 0, none⟩) C.n cg) := cell_at p1 o0
  have c1 : w1.drew.cell? ⟨p, o + 1, none⟩ = some (.slice (some ⟨b, 0, none⟩) C.n cb) := cell_at p1 o1
  have hz' : w1.drew.heap.size = w.heap.size + 1 := hz
  have hpg := h4.2.1
  generalize hQ : w.heap.size = q at hq hz hz' hp
  have hq' : w1.drew.heap[q]? = some (.cells #[.slice (some ⟨g, 0, none⟩) C.n cg, .slice (some ⟨b, 0, none⟩) C.n cb, .int .i64 (areaN C.n : Int), .int .i64 (C.first : Int)] 107 (0, 0)) := hq
  go_region_with (first
    | (go_at_call 153; have hh := B3; refine (clone_row (n2.keep (B3.block b n2.lt)) (by omega) (by omega)).mono ?_; rintro e w4 ⟨b', cb', rfl, gb', m2, B4⟩; have q4 := (B4.block q (by have := B3.size; omega)).trans q3; have f40 : w4.frozen? ⟨q, 0, none⟩ = false := (by unfold World.frozen?; rw [q4]; simp); have d40 : w4.cell? ⟨q, 0, none⟩ = some (.slice (some ⟨g, 0, none⟩) C.n cg) := (by rw [cell_of_row _ _ _ _ _ _ q4]; rfl); have q5 := heap_setCell_same w4 q 0 _ 107 (.slice (some ⟨g', 0, none⟩) C.n cg') q4; have f51 : (w4.setCell ⟨q, 0, none⟩ (.slice (some ⟨g', 0, none⟩) C.n cg')).frozen? ⟨q, 1, none⟩ = false := (by unfold World.frozen?; rw [q5]; simp); have d51 : (w4.setCell ⟨q, 0, none⟩ (.slice (some ⟨g', 0, none⟩) C.n cg')).cell? ⟨q, 1, none⟩ = some (.slice (some ⟨b, 0, none⟩) C.n cb) := (by rw [cell_of_row _ _ _ _ _ _ q5]; rfl))
    | (go_at_call 153; refine (clone_row n1 (by omega) (by omega)).mono ?_; rintro e w3 ⟨g', cg', rfl, gg', m1, B3⟩; have q3 := (B3.block q (by omega)).trans hq'; have c31 := (B3.cell (p := ⟨p, o + 1, none⟩) (by show p < _; omega)).trans c1)
    | fail)
  all_goals (
    go_wp2_with fail
    go_ret
    have q6 := heap_setCell_same _ q 1 _ 107 (.slice (some ⟨b', 0, none⟩) C.n cb') q5
    have e6 : ∀ j, j ≠ q → ((w4.setCell ⟨q, 0, none⟩ (.slice (some ⟨g', 0, none⟩) C.n cg')).setCell ⟨q, 1, none⟩ (.slice (some ⟨b', 0, none⟩) C.n cb')).heap[j]? = w4.heap[j]? := fun j hj => (Below.heap_setCell _ _ _ _ (by show j ≠ q; exact hj)).trans (Below.heap_setCell _ _ _ _ (by show j ≠ q; exact hj))
    have z3 := B3.size
    have z4 := B4.size
    have l1 := m1.lt
    have l2 := m2.lt
    have hsz : q < w4.heap.size := by omega
    refine ⟨q, rfl, ⟨g', cg', b', cb', _, _, q6, ⟨rfl, rfl, rfl, rfl⟩, ?_, m2.keep (e6 b' (by omega)), ⟨by omega, by omega, by omega⟩, ⟨by omega, by omega⟩, h6⟩, by omega, ?_⟩
    · exact (m1.keep (B4.block g' l1)).keep (e6 g' (by omega))
    · have b14 : Below w.heap.size w w4 := hB.trans ((((Below.refl w1.heap.size w1).drew.trans B3).mono (by omega)).trans (B4.mono (by omega)))
      exact ((turn_below b14).then ((turn_setCell (S := fun k => k = q) (a := ⟨q, 0, none⟩) _ rfl).then (turn_setCell (a := ⟨q, 1, none⟩) _ rfl) |>.mono fun k hk => hk)).below (fun k hk => by omega) (Nat.le_refl _))
end Go.Proofs.YtipejjgodnnkaaaGreatDoor
