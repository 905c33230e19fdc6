/- Keys: the walk of the law KeyNexts. -/
import Derived.Test.YtkeefphkcmkhmaaKeyK
namespace Go.Proofs.Ytkeefphkcmkhmaa
open Go Go.RowKit Go.Proofs

theorem refnext_says (k n : Kd) (E : Int) (w : World) (hk : k.may = true) (hn : k.next = n) (hE : k.nextE = E) :
    Calls Try.prog 21 #[.agg #[.int .i64 k.obj, .int .i64 k.kind, .int .i64 k.off]] w fun e w' => e = .returned (.tuple #[.agg #[.int .i64 n.obj, .int .i64 n.kind, .int .i64 n.off], .int .i64 E]) ∧ Below w.heap.size w w' := by
  have := refnext_any k w hk
  rw [hn, hE] at this
  exact this
theorem first_says (x y : Int) (w : World) :
    Calls Try.prog 22 #[.int .i64 x, .int .i64 y] w fun e w' => e = .returned (.agg #[.int .i64 x, .int .i64 y, .int .i64 0]) ∧ Below w.heap.size w w' := first_any x y w
theorem last_says (x y : Int) (w : World) :
    Calls Try.prog 23 #[.int .i64 x, .int .i64 y] w fun e w' => e = .returned (.agg #[.int .i64 x, .int .i64 y, .int .i64 2147483647]) ∧ Below w.heap.size w w' := last_any x y w
theorem kd_refl (k : Kd) : k.same k = true := (Kd.same_iff k k).2 ⟨rfl, rfl, rfl⟩

set_option maxRecDepth 10000 in
set_option maxHeartbeats 4000000 in
theorem keyNexts_walk (k : Kd) (w : World) :
    Calls Try.prog 5 #[.agg #[.int .i64 k.obj, .int .i64 k.kind, .int .i64 k.off]] w fun e w' => e = .returned (.bool true) ∧ Below w.heap.size w w' := by
  have hg := guard_says
  obtain ⟨n, hn⟩ : ∃ n, k.next = n := ⟨_, rfl⟩
  obtain ⟨E, hE⟩ : ∃ E, k.nextE = E := ⟨_, rfl⟩
  have hq1 := eql_says n n true (kd_refl n)
  have hq2 := eql_says ⟨k.obj, k.kind, 0⟩ ⟨k.obj, k.kind, 0⟩ true (kd_refl _)
  have hq3 := eql_says ⟨k.obj, k.kind, 2147483647⟩ ⟨k.obj, k.kind, 2147483647⟩ true (kd_refl _)
  go_enter Try.func5, Try.ntmps5
  go_wp2_with fail
  obtain ⟨K1, W1⟩ := boxes1 w k
  generalize w.alloc (.cells #[.int .i64 k.obj, .int .i64 k.kind, .int .i64 k.off] 23) = w1 at K1 W1 ⊢
  refine (shown_any w1).mono ?_
  rintro e w2 ⟨rfl, hb2⟩
  have K2 := K1.below hb2 K1.lt
  have W2 := W1.trans (hb2.mono W1.size)
  clear K1 W1 hb2
  have q0 := K2.c0
  have q1 := K2.c1
  have q2 := K2.c2
  go_wp2_with fail
  clear q0 q1 q2
  cases mk : k.may
  · refine (refmay_says k false mk w2).mono ?_
    rintro e w3 ⟨rfl, hb3⟩
    go_wp2
    go_ret
    exact ⟨rfl, W2.trans (hb3.mono W2.size)⟩
  · refine (refmay_says k true mk w2).mono ?_
    rintro e w3 ⟨rfl, hb3⟩
    have K3 := K2.below hb3 K2.lt
    have W3 := W2.trans (hb3.mono W2.size)
    clear K2 W2 hb3
    have q0 := K3.c0
    have q1 := K3.c1
    have q2 := K3.c2
    go_wp2_with fail
    clear q0 q1 q2
    refine (next_says k n E w3 mk hn hE).mono ?_
    rintro e v ⟨rfl, hb4⟩
    have bx : Below v.heap.size v (v.alloc (.cells #[.int .i64 n.obj, .int .i64 n.kind, .int .i64 n.off] 23)) := (Below.refl _ _).alloc (Nat.le_refl _) _
    have K4 := (K3.below hb4 K3.lt).below bx (K3.below hb4 K3.lt).lt
    have N4 : KB (v.alloc (.cells #[.int .i64 n.obj, .int .i64 n.kind, .int .i64 n.off] 23)) v.heap.size n := KB.new v n.obj n.kind n.off 23
    have W4 := (W3.trans (hb4.mono W3.size)).trans (bx.mono (W3.trans (hb4.mono W3.size)).size)
    have hm1 : w.heap.size < v.heap.size := (K3.below hb4 K3.lt).lt
    clear K3 W3 hb4 bx
    have q0 := K4.c0
    have q1 := K4.c1
    have q2 := K4.c2
    go_wp2_with fail
    clear q0 q1 q2
    generalize v.alloc (.cells #[.int .i64 n.obj, .int .i64 n.kind, .int .i64 n.off] 23) = w4 at K4 N4 W4 ⊢
    obtain ⟨m1, em1⟩ : ∃ m1, v.heap.size = m1 := ⟨_, rfl⟩
    rw [em1] at N4 hm1 ⊢
    clear em1
    refine (refnext_says k n E w4 mk hn hE).mono ?_
    rintro e u ⟨rfl, hb5⟩
    have bx : Below u.heap.size u (u.alloc (.cells #[.int .i64 n.obj, .int .i64 n.kind, .int .i64 n.off] 23)) := (Below.refl _ _).alloc (Nat.le_refl _) _
    have K6 := (K4.below hb5 K4.lt).below bx (K4.below hb5 K4.lt).lt
    have N6 := (N4.below hb5 N4.lt).below bx (N4.below hb5 N4.lt).lt
    have M6 : KB (u.alloc (.cells #[.int .i64 n.obj, .int .i64 n.kind, .int .i64 n.off] 23)) u.heap.size n := KB.new u n.obj n.kind n.off 23
    have W6 := (W4.trans (hb5.mono W4.size)).trans (bx.mono (W4.trans (hb5.mono W4.size)).size)
    have hm2 : m1 < u.heap.size := (N4.below hb5 N4.lt).lt
    clear K4 N4 W4 hb5 bx
    go_wp2_with fail
    generalize u.alloc (.cells #[.int .i64 n.obj, .int .i64 n.kind, .int .i64 n.off] 23) = w6 at K6 N6 M6 W6 ⊢
    obtain ⟨m2, em2⟩ : ∃ m2, u.heap.size = m2 := ⟨_, rfl⟩
    rw [em2] at M6 hm2 ⊢
    clear em2
    have z6 : m2 + 1 ≤ w6.heap.size := M6.lt
    have hS : ∀ w' : World, Below (m2 + 1) w6 w' → w'.cell? ⟨w.heap.size, 0, none⟩ = some (.int .i64 k.obj) ∧ w'.cell? ⟨w.heap.size, 1, none⟩ = some (.int .i64 k.kind) ∧ w'.cell? ⟨w.heap.size, 2, none⟩ = some (.int .i64 k.off) ∧ w'.cell? ⟨m1, 0, none⟩ = some (.int .i64 n.obj) ∧ w'.cell? ⟨m1, 1, none⟩ = some (.int .i64 n.kind) ∧ w'.cell? ⟨m1, 2, none⟩ = some (.int .i64 n.off) ∧ w'.cell? ⟨m2, 0, none⟩ = some (.int .i64 n.obj) ∧ w'.cell? ⟨m2, 1, none⟩ = some (.int .i64 n.kind) ∧ w'.cell? ⟨m2, 2, none⟩ = some (.int .i64 n.off) ∧ Below (m2 + 1) w6 w' :=
      fun w' hb => ⟨(K6.below hb (by omega)).c0, (K6.below hb (by omega)).c1, (K6.below hb (by omega)).c2, (N6.below hb (by omega)).c0, (N6.below hb (by omega)).c1, (N6.below hb (by omega)).c2, (M6.below hb (by omega)).c0, (M6.below hb (by omega)).c1, (M6.below hb (by omega)).c2, hb⟩
    have BD : Below (m2 + 1) w6 w6.drew := (Below.refl _ w6).drew
    go_region_held3 (fun w' => w'.cell? ⟨w.heap.size, 0, none⟩ = some (.int .i64 k.obj) ∧ w'.cell? ⟨w.heap.size, 1, none⟩ = some (.int .i64 k.kind) ∧ w'.cell? ⟨w.heap.size, 2, none⟩ = some (.int .i64 k.off) ∧ w'.cell? ⟨m1, 0, none⟩ = some (.int .i64 n.obj) ∧ w'.cell? ⟨m1, 1, none⟩ = some (.int .i64 n.kind) ∧ w'.cell? ⟨m1, 2, none⟩ = some (.int .i64 n.off) ∧ w'.cell? ⟨m2, 0, none⟩ = some (.int .i64 n.obj) ∧ w'.cell? ⟨m2, 1, none⟩ = some (.int .i64 n.kind) ∧ w'.cell? ⟨m2, 2, none⟩ = some (.int .i64 n.off) ∧ Below (m2 + 1) w6 w')
      (first | assumption | exact hS _ BD | exact hS _ bb7 | exact hS _ bb8)
      (first
        | (go_at_call 23; refine (last_says k.obj k.kind _).mono ?_; rintro e w8 ⟨rfl, hb8⟩; have bb8 : Below (m2 + 1) w6 w8 := bb7.trans (hb8.mono (Nat.le_trans z6 bb7.size)))
        | (go_at_call 22; refine (first_says k.obj k.kind _).mono ?_; rintro e w7 ⟨rfl, hb7⟩; have bb7 : Below (m2 + 1) w6 w7 := BD.trans (hb7.mono z6))
        | fail)
    all_goals
      go_wp2
      go_ret
      exact ⟨by first | rfl | (simp [go_sem]; done), W6.trans (bb8.mono (by omega))⟩

end Go.Proofs.Ytkeefphkcmkhmaa
