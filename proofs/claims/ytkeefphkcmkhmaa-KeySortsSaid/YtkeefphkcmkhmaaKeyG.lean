/- Keys: the walks of the laws that draw no order: KeyTotal, KeySorts, KeyBetween. -/
import Derived.Test.YtkeefphkcmkhmaaKeyF
namespace Go.Proofs.Ytkeefphkcmkhmaa
open Go Go.RowKit Go.Proofs

theorem boxes1 (w : World) (a : Kd) : KB (w.alloc (.cells #[.int .i64 a.obj, .int .i64 a.kind, .int .i64 a.off] 23)) w.heap.size a ∧ Below w.heap.size w (w.alloc (.cells #[.int .i64 a.obj, .int .i64 a.kind, .int .i64 a.off] 23)) :=
  ⟨KB.new w a.obj a.kind a.off _, (Below.refl _ _).alloc (Nat.le_refl _) _⟩
theorem boxes2 (w : World) (a b : Kd) : KB ((w.alloc (.cells #[.int .i64 a.obj, .int .i64 a.kind, .int .i64 a.off] 23)).alloc (.cells #[.int .i64 b.obj, .int .i64 b.kind, .int .i64 b.off] 23)) w.heap.size a ∧ KB ((w.alloc (.cells #[.int .i64 a.obj, .int .i64 a.kind, .int .i64 a.off] 23)).alloc (.cells #[.int .i64 b.obj, .int .i64 b.kind, .int .i64 b.off] 23)) (w.heap.size + 1) b ∧ Below w.heap.size w ((w.alloc (.cells #[.int .i64 a.obj, .int .i64 a.kind, .int .i64 a.off] 23)).alloc (.cells #[.int .i64 b.obj, .int .i64 b.kind, .int .i64 b.off] 23)) :=
  ⟨(KB.new w a.obj a.kind a.off _).below ((Below.refl _ _).alloc (Nat.le_refl _) _) (by simp), KB.new2 w _ b.obj b.kind b.off _, ((Below.refl _ _).alloc (Nat.le_refl _) _).alloc (by simp) _⟩
theorem boxes3 (w : World) (a b c : Kd) : KB (((w.alloc (.cells #[.int .i64 a.obj, .int .i64 a.kind, .int .i64 a.off] 23)).alloc (.cells #[.int .i64 b.obj, .int .i64 b.kind, .int .i64 b.off] 23)).alloc (.cells #[.int .i64 c.obj, .int .i64 c.kind, .int .i64 c.off] 23)) w.heap.size a ∧ KB (((w.alloc (.cells #[.int .i64 a.obj, .int .i64 a.kind, .int .i64 a.off] 23)).alloc (.cells #[.int .i64 b.obj, .int .i64 b.kind, .int .i64 b.off] 23)).alloc (.cells #[.int .i64 c.obj, .int .i64 c.kind, .int .i64 c.off] 23)) (w.heap.size + 1) b ∧ KB (((w.alloc (.cells #[.int .i64 a.obj, .int .i64 a.kind, .int .i64 a.off] 23)).alloc (.cells #[.int .i64 b.obj, .int .i64 b.kind, .int .i64 b.off] 23)).alloc (.cells #[.int .i64 c.obj, .int .i64 c.kind, .int .i64 c.off] 23)) (w.heap.size + 2) c ∧ Below w.heap.size w (((w.alloc (.cells #[.int .i64 a.obj, .int .i64 a.kind, .int .i64 a.off] 23)).alloc (.cells #[.int .i64 b.obj, .int .i64 b.kind, .int .i64 b.off] 23)).alloc (.cells #[.int .i64 c.obj, .int .i64 c.kind, .int .i64 c.off] 23)) := by
  obtain ⟨h1, h2, h3⟩ := boxes2 w a b
  have h4 := KB.new ((w.alloc (.cells #[.int .i64 a.obj, .int .i64 a.kind, .int .i64 a.off] 23)).alloc (.cells #[.int .i64 b.obj, .int .i64 b.kind, .int .i64 b.off] 23)) c.obj c.kind c.off 23
  rw [World.size_alloc, World.size_alloc] at h4
  have hb : Below ((w.alloc (.cells #[.int .i64 a.obj, .int .i64 a.kind, .int .i64 a.off] 23)).alloc (.cells #[.int .i64 b.obj, .int .i64 b.kind, .int .i64 b.off] 23)).heap.size ((w.alloc (.cells #[.int .i64 a.obj, .int .i64 a.kind, .int .i64 a.off] 23)).alloc (.cells #[.int .i64 b.obj, .int .i64 b.kind, .int .i64 b.off] 23)) (((w.alloc (.cells #[.int .i64 a.obj, .int .i64 a.kind, .int .i64 a.off] 23)).alloc (.cells #[.int .i64 b.obj, .int .i64 b.kind, .int .i64 b.off] 23)).alloc (.cells #[.int .i64 c.obj, .int .i64 c.kind, .int .i64 c.off] 23)) := (Below.refl _ _).alloc (Nat.le_refl _) _
  exact ⟨h1.below hb h1.lt, h2.below hb h2.lt, h4, h3.trans (hb.mono h3.size)⟩

set_option maxRecDepth 10000 in
set_option maxHeartbeats 4000000 in
theorem keyTotal_walk (a b c : Kd) (w : World) :
    Calls Try.prog 8 #[.agg #[.int .i64 a.obj, .int .i64 a.kind, .int .i64 a.off], .agg #[.int .i64 b.obj, .int .i64 b.kind, .int .i64 b.off], .agg #[.int .i64 c.obj, .int .i64 c.kind, .int .i64 c.off]] w fun e w' => e = .returned (.bool true) ∧ Below w.heap.size w w' := by
  have hg := guard_says
  rcases Kd.total a b with ⟨r1, r2, hne⟩ | ⟨r1, r2, hne⟩ | ⟨r1, r2, hne⟩
  · have hq := eql_says a b false (by rw [← Bool.not_eq_true, Kd.same_iff]; rintro ⟨h1, h2, h3⟩; exact hne (by cases a; cases b; simp_all))
    cases r3 : b.less c
    · go_enter Try.func8, Try.ntmps8
      go_wp2_with fail
      obtain ⟨A1, B1, C1, W1⟩ := boxes3 w a b c
      generalize ((w.alloc (.cells #[.int .i64 a.obj, .int .i64 a.kind, .int .i64 a.off] 23)).alloc (.cells #[.int .i64 b.obj, .int .i64 b.kind, .int .i64 b.off] 23)).alloc (.cells #[.int .i64 c.obj, .int .i64 c.kind, .int .i64 c.off] 23) = w1 at A1 B1 C1 W1 ⊢
      refine (shown_any w1).mono ?_
      rintro e w2 ⟨rfl, hb2⟩
      have A2 := A1.below hb2 A1.lt
      have B2 := B1.below hb2 B1.lt
      have C2 := C1.below hb2 C1.lt
      have W2 := W1.trans (hb2.mono W1.size)
      clear A1 B1 C1 W1 hb2
      have qa0 := A2.c0
      have qa1 := A2.c1
      have qa2 := A2.c2
      have qb0 := B2.c0
      have qb1 := B2.c1
      have qb2 := B2.c2
      have qc0 := C2.c0
      have qc1 := C2.c1
      have qc2 := C2.c2
      go_wp2_with fail
      clear qa0 qa1 qa2 qb0 qb1 qb2 qc0 qc1 qc2
      refine (less_says a b true r1 w2).mono ?_
      rintro e w3 ⟨rfl, hb3⟩
      have A3 := A2.below hb3 A2.lt
      have B3 := B2.below hb3 B2.lt
      have C3 := C2.below hb3 C2.lt
      have W3 := W2.trans (hb3.mono W2.size)
      clear A2 B2 C2 W2 hb3
      have qa0 := A3.c0
      have qa1 := A3.c1
      have qa2 := A3.c2
      have qb0 := B3.c0
      have qb1 := B3.c1
      have qb2 := B3.c2
      have qc0 := C3.c0
      have qc1 := C3.c1
      have qc2 := C3.c2
      go_wp2_with fail
      clear qa0 qa1 qa2 qb0 qb1 qb2 qc0 qc1 qc2
      refine (less_says b a false r2 w3).mono ?_
      rintro e w4 ⟨rfl, hb4⟩
      have A4 := A3.below hb4 A3.lt
      have B4 := B3.below hb4 B3.lt
      have C4 := C3.below hb4 C3.lt
      have W4 := W3.trans (hb4.mono W3.size)
      clear A3 B3 C3 W3 hb4
      have qa0 := A4.c0
      have qa1 := A4.c1
      have qa2 := A4.c2
      have qb0 := B4.c0
      have qb1 := B4.c1
      have qb2 := B4.c2
      have qc0 := C4.c0
      have qc1 := C4.c1
      have qc2 := C4.c2
      go_wp2_with fail
      clear qa0 qa1 qa2 qb0 qb1 qb2 qc0 qc1 qc2
      refine (less_says a b true r1 w4).mono ?_
      rintro e w5 ⟨rfl, hb5⟩
      have A5 := A4.below hb5 A4.lt
      have B5 := B4.below hb5 B4.lt
      have C5 := C4.below hb5 C4.lt
      have W5 := W4.trans (hb5.mono W4.size)
      clear A4 B4 C4 W4 hb5
      have qa0 := A5.c0
      have qa1 := A5.c1
      have qa2 := A5.c2
      have qb0 := B5.c0
      have qb1 := B5.c1
      have qb2 := B5.c2
      have qc0 := C5.c0
      have qc1 := C5.c1
      have qc2 := C5.c2
      go_wp2_with fail
      clear qa0 qa1 qa2 qb0 qb1 qb2 qc0 qc1 qc2
      refine (less_says b c false r3 w5).mono ?_
      rintro e w6 ⟨rfl, hb6⟩
      have A6 := A5.below hb6 A5.lt
      have B6 := B5.below hb6 B5.lt
      have C6 := C5.below hb6 C5.lt
      have W6 := W5.trans (hb6.mono W5.size)
      clear A5 B5 C5 W5 hb6
      have qa0 := A6.c0
      have qa1 := A6.c1
      have qa2 := A6.c2
      have qb0 := B6.c0
      have qb1 := B6.c1
      have qb2 := B6.c2
      have qc0 := C6.c0
      have qc1 := C6.c1
      have qc2 := C6.c2
      go_wp2
      go_ret
      exact ⟨by first | rfl | (simp [go_sem]; done), W6⟩
    · go_enter Try.func8, Try.ntmps8
      go_wp2_with fail
      obtain ⟨A1, B1, C1, W1⟩ := boxes3 w a b c
      generalize ((w.alloc (.cells #[.int .i64 a.obj, .int .i64 a.kind, .int .i64 a.off] 23)).alloc (.cells #[.int .i64 b.obj, .int .i64 b.kind, .int .i64 b.off] 23)).alloc (.cells #[.int .i64 c.obj, .int .i64 c.kind, .int .i64 c.off] 23) = w1 at A1 B1 C1 W1 ⊢
      refine (shown_any w1).mono ?_
      rintro e w2 ⟨rfl, hb2⟩
      have A2 := A1.below hb2 A1.lt
      have B2 := B1.below hb2 B1.lt
      have C2 := C1.below hb2 C1.lt
      have W2 := W1.trans (hb2.mono W1.size)
      clear A1 B1 C1 W1 hb2
      have qa0 := A2.c0
      have qa1 := A2.c1
      have qa2 := A2.c2
      have qb0 := B2.c0
      have qb1 := B2.c1
      have qb2 := B2.c2
      have qc0 := C2.c0
      have qc1 := C2.c1
      have qc2 := C2.c2
      go_wp2_with fail
      clear qa0 qa1 qa2 qb0 qb1 qb2 qc0 qc1 qc2
      refine (less_says a b true r1 w2).mono ?_
      rintro e w3 ⟨rfl, hb3⟩
      have A3 := A2.below hb3 A2.lt
      have B3 := B2.below hb3 B2.lt
      have C3 := C2.below hb3 C2.lt
      have W3 := W2.trans (hb3.mono W2.size)
      clear A2 B2 C2 W2 hb3
      have qa0 := A3.c0
      have qa1 := A3.c1
      have qa2 := A3.c2
      have qb0 := B3.c0
      have qb1 := B3.c1
      have qb2 := B3.c2
      have qc0 := C3.c0
      have qc1 := C3.c1
      have qc2 := C3.c2
      go_wp2_with fail
      clear qa0 qa1 qa2 qb0 qb1 qb2 qc0 qc1 qc2
      refine (less_says b a false r2 w3).mono ?_
      rintro e w4 ⟨rfl, hb4⟩
      have A4 := A3.below hb4 A3.lt
      have B4 := B3.below hb4 B3.lt
      have C4 := C3.below hb4 C3.lt
      have W4 := W3.trans (hb4.mono W3.size)
      clear A3 B3 C3 W3 hb4
      have qa0 := A4.c0
      have qa1 := A4.c1
      have qa2 := A4.c2
      have qb0 := B4.c0
      have qb1 := B4.c1
      have qb2 := B4.c2
      have qc0 := C4.c0
      have qc1 := C4.c1
      have qc2 := C4.c2
      go_wp2_with fail
      clear qa0 qa1 qa2 qb0 qb1 qb2 qc0 qc1 qc2
      refine (less_says a b true r1 w4).mono ?_
      rintro e w5 ⟨rfl, hb5⟩
      have A5 := A4.below hb5 A4.lt
      have B5 := B4.below hb5 B4.lt
      have C5 := C4.below hb5 C4.lt
      have W5 := W4.trans (hb5.mono W4.size)
      clear A4 B4 C4 W4 hb5
      have qa0 := A5.c0
      have qa1 := A5.c1
      have qa2 := A5.c2
      have qb0 := B5.c0
      have qb1 := B5.c1
      have qb2 := B5.c2
      have qc0 := C5.c0
      have qc1 := C5.c1
      have qc2 := C5.c2
      go_wp2_with fail
      clear qa0 qa1 qa2 qb0 qb1 qb2 qc0 qc1 qc2
      refine (less_says b c true r3 w5).mono ?_
      rintro e w6 ⟨rfl, hb6⟩
      have A6 := A5.below hb6 A5.lt
      have B6 := B5.below hb6 B5.lt
      have C6 := C5.below hb6 C5.lt
      have W6 := W5.trans (hb6.mono W5.size)
      clear A5 B5 C5 W5 hb6
      have qa0 := A6.c0
      have qa1 := A6.c1
      have qa2 := A6.c2
      have qb0 := B6.c0
      have qb1 := B6.c1
      have qb2 := B6.c2
      have qc0 := C6.c0
      have qc1 := C6.c1
      have qc2 := C6.c2
      go_wp2_with fail
      clear qa0 qa1 qa2 qb0 qb1 qb2 qc0 qc1 qc2
      refine (less_says a c true (Kd.trans a b c r1 r3) w6).mono ?_
      rintro e w7 ⟨rfl, hb7⟩
      have A7 := A6.below hb7 A6.lt
      have B7 := B6.below hb7 B6.lt
      have C7 := C6.below hb7 C6.lt
      have W7 := W6.trans (hb7.mono W6.size)
      clear A6 B6 C6 W6 hb7
      have qa0 := A7.c0
      have qa1 := A7.c1
      have qa2 := A7.c2
      have qb0 := B7.c0
      have qb1 := B7.c1
      have qb2 := B7.c2
      have qc0 := C7.c0
      have qc1 := C7.c1
      have qc2 := C7.c2
      go_wp2
      go_ret
      exact ⟨by first | rfl | (simp [go_sem]; done), W7⟩
  · have hq := eql_says a b false (by rw [← Bool.not_eq_true, Kd.same_iff]; rintro ⟨h1, h2, h3⟩; exact hne (by cases a; cases b; simp_all))
    go_enter Try.func8, Try.ntmps8
    go_wp2_with fail
    obtain ⟨A1, B1, C1, W1⟩ := boxes3 w a b c
    generalize ((w.alloc (.cells #[.int .i64 a.obj, .int .i64 a.kind, .int .i64 a.off] 23)).alloc (.cells #[.int .i64 b.obj, .int .i64 b.kind, .int .i64 b.off] 23)).alloc (.cells #[.int .i64 c.obj, .int .i64 c.kind, .int .i64 c.off] 23) = w1 at A1 B1 C1 W1 ⊢
    refine (shown_any w1).mono ?_
    rintro e w2 ⟨rfl, hb2⟩
    have A2 := A1.below hb2 A1.lt
    have B2 := B1.below hb2 B1.lt
    have C2 := C1.below hb2 C1.lt
    have W2 := W1.trans (hb2.mono W1.size)
    clear A1 B1 C1 W1 hb2
    have qa0 := A2.c0
    have qa1 := A2.c1
    have qa2 := A2.c2
    have qb0 := B2.c0
    have qb1 := B2.c1
    have qb2 := B2.c2
    have qc0 := C2.c0
    have qc1 := C2.c1
    have qc2 := C2.c2
    go_wp2_with fail
    clear qa0 qa1 qa2 qb0 qb1 qb2 qc0 qc1 qc2
    refine (less_says a b false r1 w2).mono ?_
    rintro e w3 ⟨rfl, hb3⟩
    have A3 := A2.below hb3 A2.lt
    have B3 := B2.below hb3 B2.lt
    have C3 := C2.below hb3 C2.lt
    have W3 := W2.trans (hb3.mono W2.size)
    clear A2 B2 C2 W2 hb3
    have qa0 := A3.c0
    have qa1 := A3.c1
    have qa2 := A3.c2
    have qb0 := B3.c0
    have qb1 := B3.c1
    have qb2 := B3.c2
    have qc0 := C3.c0
    have qc1 := C3.c1
    have qc2 := C3.c2
    go_wp2_with fail
    clear qa0 qa1 qa2 qb0 qb1 qb2 qc0 qc1 qc2
    refine (less_says b a true r2 w3).mono ?_
    rintro e w4 ⟨rfl, hb4⟩
    have A4 := A3.below hb4 A3.lt
    have B4 := B3.below hb4 B3.lt
    have C4 := C3.below hb4 C3.lt
    have W4 := W3.trans (hb4.mono W3.size)
    clear A3 B3 C3 W3 hb4
    have qa0 := A4.c0
    have qa1 := A4.c1
    have qa2 := A4.c2
    have qb0 := B4.c0
    have qb1 := B4.c1
    have qb2 := B4.c2
    have qc0 := C4.c0
    have qc1 := C4.c1
    have qc2 := C4.c2
    go_wp2_with fail
    clear qa0 qa1 qa2 qb0 qb1 qb2 qc0 qc1 qc2
    refine (less_says a b false r1 w4).mono ?_
    rintro e w5 ⟨rfl, hb5⟩
    have A5 := A4.below hb5 A4.lt
    have B5 := B4.below hb5 B4.lt
    have C5 := C4.below hb5 C4.lt
    have W5 := W4.trans (hb5.mono W4.size)
    clear A4 B4 C4 W4 hb5
    have qa0 := A5.c0
    have qa1 := A5.c1
    have qa2 := A5.c2
    have qb0 := B5.c0
    have qb1 := B5.c1
    have qb2 := B5.c2
    have qc0 := C5.c0
    have qc1 := C5.c1
    have qc2 := C5.c2
    go_wp2
    go_ret
    exact ⟨by first | rfl | (simp [go_sem]; done), W5⟩
  · have hq := eql_says a b true (by rw [Kd.same_iff, hne]; exact ⟨rfl, rfl, rfl⟩)
    clear hne
    go_enter Try.func8, Try.ntmps8
    go_wp2_with fail
    obtain ⟨A1, B1, C1, W1⟩ := boxes3 w a b c
    generalize ((w.alloc (.cells #[.int .i64 a.obj, .int .i64 a.kind, .int .i64 a.off] 23)).alloc (.cells #[.int .i64 b.obj, .int .i64 b.kind, .int .i64 b.off] 23)).alloc (.cells #[.int .i64 c.obj, .int .i64 c.kind, .int .i64 c.off] 23) = w1 at A1 B1 C1 W1 ⊢
    refine (shown_any w1).mono ?_
    rintro e w2 ⟨rfl, hb2⟩
    have A2 := A1.below hb2 A1.lt
    have B2 := B1.below hb2 B1.lt
    have C2 := C1.below hb2 C1.lt
    have W2 := W1.trans (hb2.mono W1.size)
    clear A1 B1 C1 W1 hb2
    have qa0 := A2.c0
    have qa1 := A2.c1
    have qa2 := A2.c2
    have qb0 := B2.c0
    have qb1 := B2.c1
    have qb2 := B2.c2
    have qc0 := C2.c0
    have qc1 := C2.c1
    have qc2 := C2.c2
    go_wp2_with fail
    clear qa0 qa1 qa2 qb0 qb1 qb2 qc0 qc1 qc2
    refine (less_says a b false r1 w2).mono ?_
    rintro e w3 ⟨rfl, hb3⟩
    have A3 := A2.below hb3 A2.lt
    have B3 := B2.below hb3 B2.lt
    have C3 := C2.below hb3 C2.lt
    have W3 := W2.trans (hb3.mono W2.size)
    clear A2 B2 C2 W2 hb3
    have qa0 := A3.c0
    have qa1 := A3.c1
    have qa2 := A3.c2
    have qb0 := B3.c0
    have qb1 := B3.c1
    have qb2 := B3.c2
    have qc0 := C3.c0
    have qc1 := C3.c1
    have qc2 := C3.c2
    go_wp2_with fail
    clear qa0 qa1 qa2 qb0 qb1 qb2 qc0 qc1 qc2
    refine (less_says b a false r2 w3).mono ?_
    rintro e w4 ⟨rfl, hb4⟩
    have A4 := A3.below hb4 A3.lt
    have B4 := B3.below hb4 B3.lt
    have C4 := C3.below hb4 C3.lt
    have W4 := W3.trans (hb4.mono W3.size)
    clear A3 B3 C3 W3 hb4
    have qa0 := A4.c0
    have qa1 := A4.c1
    have qa2 := A4.c2
    have qb0 := B4.c0
    have qb1 := B4.c1
    have qb2 := B4.c2
    have qc0 := C4.c0
    have qc1 := C4.c1
    have qc2 := C4.c2
    go_wp2_with fail
    clear qa0 qa1 qa2 qb0 qb1 qb2 qc0 qc1 qc2
    refine (less_says a b false r1 w4).mono ?_
    rintro e w5 ⟨rfl, hb5⟩
    have A5 := A4.below hb5 A4.lt
    have B5 := B4.below hb5 B4.lt
    have C5 := C4.below hb5 C4.lt
    have W5 := W4.trans (hb5.mono W4.size)
    clear A4 B4 C4 W4 hb5
    have qa0 := A5.c0
    have qa1 := A5.c1
    have qa2 := A5.c2
    have qb0 := B5.c0
    have qb1 := B5.c1
    have qb2 := B5.c2
    have qc0 := C5.c0
    have qc1 := C5.c1
    have qc2 := C5.c2
    go_wp2
    go_ret
    exact ⟨by first | rfl | (simp [go_sem]; done), W5⟩

end Go.Proofs.Ytkeefphkcmkhmaa
