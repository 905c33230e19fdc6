/- Keys: the walk of the law KeyOrders. -/
import Derived.Test.YtkeefphkcmkhmaaKeyJ
import Derived.Deep.DrawnRows
namespace Go.Proofs.Ytkeefphkcmkhmaa
open Go Go.RowKit Go.Proofs

theorem refless_says (a b : Kd) (r : Bool) (h : a.less b = r) (w : World) :
    Calls Try.prog 12 #[.agg #[.int .i64 a.obj, .int .i64 a.kind, .int .i64 a.off], .agg #[.int .i64 b.obj, .int .i64 b.kind, .int .i64 b.off]] w fun e w' => e = .returned (.bool r) ∧ Below w.heap.size w w' := by
  have := refless_any a b w
  rw [h] at this
  exact this
theorem refmay_says (a : Kd) (r : Bool) (h : a.may = r) (w : World) :
    Calls Try.prog 14 #[.agg #[.int .i64 a.obj, .int .i64 a.kind, .int .i64 a.off]] w fun e w' => e = .returned (.bool r) ∧ Below w.heap.size w w' := by
  have := refmay_any a w
  rw [h] at this
  exact this

set_option maxRecDepth 10000 in
set_option maxHeartbeats 4000000 in
theorem keyOrders_walk (a b : Kd) (w : World) :
    Calls Try.prog 3 #[.agg #[.int .i64 a.obj, .int .i64 a.kind, .int .i64 a.off], .agg #[.int .i64 b.obj, .int .i64 b.kind, .int .i64 b.off]] w fun e w' => e = .returned (.bool true) ∧ Below w.heap.size w w' := by
  obtain ⟨r1, h1⟩ : ∃ r, a.less b = r := ⟨_, rfl⟩
  obtain ⟨r2, h2⟩ : ∃ r, b.less a = r := ⟨_, rfl⟩
  obtain ⟨r3, h3⟩ : ∃ r, a.may = r := ⟨_, rfl⟩
  go_enter Try.func3, Try.ntmps3
  go_wp2_with fail
  obtain ⟨A1, B1, W1⟩ := boxes2 w a b
  generalize (w.alloc (.cells #[.int .i64 a.obj, .int .i64 a.kind, .int .i64 a.off] 23)).alloc (.cells #[.int .i64 b.obj, .int .i64 b.kind, .int .i64 b.off] 23) = w1 at A1 B1 W1 ⊢
  refine (shown_any w1).mono ?_
  rintro e w2 ⟨rfl, hb2⟩
  have A2 := A1.below hb2 A1.lt
  have B2 := B1.below hb2 B1.lt
  have W2 := W1.trans (hb2.mono W1.size)
  have z2 : w.heap.size + 2 ≤ w2.heap.size := B2.lt
  clear A1 B1 W1 hb2
  go_wp2_with fail
  have hS : ∀ w' : World, Below (w.heap.size + 2) w2 w' → w'.cell? ⟨w.heap.size, 0, none⟩ = some (.int .i64 a.obj) ∧ w'.cell? ⟨w.heap.size, 1, none⟩ = some (.int .i64 a.kind) ∧ w'.cell? ⟨w.heap.size, 2, none⟩ = some (.int .i64 a.off) ∧ w'.cell? ⟨w.heap.size + 1, 0, none⟩ = some (.int .i64 b.obj) ∧ w'.cell? ⟨w.heap.size + 1, 1, none⟩ = some (.int .i64 b.kind) ∧ w'.cell? ⟨w.heap.size + 1, 2, none⟩ = some (.int .i64 b.off) ∧ Below (w.heap.size + 2) w2 w' :=
    fun w' hb => ⟨(A2.below hb (by omega)).c0, (A2.below hb (by omega)).c1, (A2.below hb (by omega)).c2, (B2.below hb (by omega)).c0, (B2.below hb (by omega)).c1, (B2.below hb (by omega)).c2, hb⟩
  have BD : Below (w.heap.size + 2) w2 w2.drew := (Below.refl _ w2).drew
  go_region_held3 (fun w' => w'.cell? ⟨w.heap.size, 0, none⟩ = some (.int .i64 a.obj) ∧ w'.cell? ⟨w.heap.size, 1, none⟩ = some (.int .i64 a.kind) ∧ w'.cell? ⟨w.heap.size, 2, none⟩ = some (.int .i64 a.off) ∧ w'.cell? ⟨w.heap.size + 1, 0, none⟩ = some (.int .i64 b.obj) ∧ w'.cell? ⟨w.heap.size + 1, 1, none⟩ = some (.int .i64 b.kind) ∧ w'.cell? ⟨w.heap.size + 1, 2, none⟩ = some (.int .i64 b.off) ∧ Below (w.heap.size + 2) w2 w')
    (first | assumption | exact hS _ BD | exact hS _ bb3 | exact hS _ bb4 | exact hS _ bb5 | exact hS _ bb6 | exact hS _ bb7 | exact hS _ bb8)
    (first
      | (go_at_call 14; have hh8 := bb7; refine (refmay_says a r3 h3 _).mono ?_; rintro e w8 ⟨rfl, hb8⟩; have bb8 : Below (w.heap.size + 2) w2 w8 := bb7.trans (hb8.mono (Nat.le_trans z2 bb7.size)))
      | (go_at_call 13; have hh7 := bb6; refine (may_says a r3 h3 _).mono ?_; rintro e w7 ⟨rfl, hb7⟩; have bb7 : Below (w.heap.size + 2) w2 w7 := bb6.trans (hb7.mono (Nat.le_trans z2 bb6.size)))
      | (go_at_call 12; have hh6 := bb5; refine (refless_says b a r2 h2 _).mono ?_; rintro e w6 ⟨rfl, hb6⟩; have bb6 : Below (w.heap.size + 2) w2 w6 := bb5.trans (hb6.mono (Nat.le_trans z2 bb5.size)))
      | (go_at_call 11; have hh5 := bb4; refine (less_says b a r2 h2 _).mono ?_; rintro e w5 ⟨rfl, hb5⟩; have bb5 : Below (w.heap.size + 2) w2 w5 := bb4.trans (hb5.mono (Nat.le_trans z2 bb4.size)))
      | (go_at_call 12; have hh4 := bb3; refine (refless_says a b r1 h1 _).mono ?_; rintro e w4 ⟨rfl, hb4⟩; have bb4 : Below (w.heap.size + 2) w2 w4 := bb3.trans (hb4.mono (Nat.le_trans z2 bb3.size)))
      | (go_at_call 11; refine (less_says a b r1 h1 _).mono ?_; rintro e w3 ⟨rfl, hb3⟩; have bb3 : Below (w.heap.size + 2) w2 w3 := BD.trans (hb3.mono z2))
      | fail)
  all_goals
    go_wp2
    go_ret
    exact ⟨by first | rfl | (simp [go_sem]; done), W2.trans (bb8.mono (by omega))⟩

end Go.Proofs.Ytkeefphkcmkhmaa
