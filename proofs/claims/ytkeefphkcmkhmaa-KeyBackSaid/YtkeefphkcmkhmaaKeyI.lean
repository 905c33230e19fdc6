/- Keys: the walk of the law KeyBetween. -/
import Derived.Test.YtkeefphkcmkhmaaKeyH
namespace Go.Proofs.Ytkeefphkcmkhmaa
open Go Go.RowKit Go.Proofs

set_option maxRecDepth 10000 in
set_option maxHeartbeats 4000000 in
theorem keyBetween_walk (a b : Kd) (w : World) :
    Calls Try.prog 9 #[.agg #[.int .i64 a.obj, .int .i64 a.kind, .int .i64 a.off], .agg #[.int .i64 b.obj, .int .i64 b.kind, .int .i64 b.off]] w fun e w' => e = .returned (.bool true) ∧ Below w.heap.size w w' := by
  have hg := guard_says
  cases ma : a.may
  · go_enter Try.func9, Try.ntmps9
    go_wp2_with fail
    obtain ⟨A1, B1, W1⟩ := boxes2 w a b
    generalize (w.alloc (.cells #[.int .i64 a.obj, .int .i64 a.kind, .int .i64 a.off] 23)).alloc (.cells #[.int .i64 b.obj, .int .i64 b.kind, .int .i64 b.off] 23) = w1 at A1 B1 W1 ⊢
    refine (shown_any w1).mono ?_
    rintro e w2 ⟨rfl, hb2⟩
    have A2 := A1.below hb2 A1.lt
    have B2 := B1.below hb2 B1.lt
    have W2 := W1.trans (hb2.mono W1.size)
    clear A1 B1 W1 hb2
    have qa0 := A2.c0
    have qa1 := A2.c1
    have qa2 := A2.c2
    have qb0 := B2.c0
    have qb1 := B2.c1
    have qb2 := B2.c2
    go_wp2_with fail
    clear qa0 qa1 qa2 qb0 qb1 qb2
    refine (may_says a false ma w2).mono ?_
    rintro e w3 ⟨rfl, hb3⟩
    have A3 := A2.below hb3 A2.lt
    have B3 := B2.below hb3 B2.lt
    have W3 := W2.trans (hb3.mono W2.size)
    clear A2 B2 W2 hb3
    have qa0 := A3.c0
    have qa1 := A3.c1
    have qa2 := A3.c2
    have qb0 := B3.c0
    have qb1 := B3.c1
    have qb2 := B3.c2
    go_wp2
    go_ret
    exact ⟨by first | rfl | (simp [go_sem]; done), W3⟩
  cases mb : b.may
  · go_enter Try.func9, Try.ntmps9
    go_wp2_with fail
    obtain ⟨A1, B1, W1⟩ := boxes2 w a b
    generalize (w.alloc (.cells #[.int .i64 a.obj, .int .i64 a.kind, .int .i64 a.off] 23)).alloc (.cells #[.int .i64 b.obj, .int .i64 b.kind, .int .i64 b.off] 23) = w1 at A1 B1 W1 ⊢
    refine (shown_any w1).mono ?_
    rintro e w2 ⟨rfl, hb2⟩
    have A2 := A1.below hb2 A1.lt
    have B2 := B1.below hb2 B1.lt
    have W2 := W1.trans (hb2.mono W1.size)
    clear A1 B1 W1 hb2
    have qa0 := A2.c0
    have qa1 := A2.c1
    have qa2 := A2.c2
    have qb0 := B2.c0
    have qb1 := B2.c1
    have qb2 := B2.c2
    go_wp2_with fail
    clear qa0 qa1 qa2 qb0 qb1 qb2
    refine (may_says a true ma w2).mono ?_
    rintro e w3 ⟨rfl, hb3⟩
    have A3 := A2.below hb3 A2.lt
    have B3 := B2.below hb3 B2.lt
    have W3 := W2.trans (hb3.mono W2.size)
    clear A2 B2 W2 hb3
    have qa0 := A3.c0
    have qa1 := A3.c1
    have qa2 := A3.c2
    have qb0 := B3.c0
    have qb1 := B3.c1
    have qb2 := B3.c2
    go_wp2_with fail
    clear qa0 qa1 qa2 qb0 qb1 qb2
    refine (may_says b false mb w3).mono ?_
    rintro e w4 ⟨rfl, hb4⟩
    have A4 := A3.below hb4 A3.lt
    have B4 := B3.below hb4 B3.lt
    have W4 := W3.trans (hb4.mono W3.size)
    clear A3 B3 W3 hb4
    have qa0 := A4.c0
    have qa1 := A4.c1
    have qa2 := A4.c2
    have qb0 := B4.c0
    have qb1 := B4.c1
    have qb2 := B4.c2
    go_wp2
    go_ret
    exact ⟨by first | rfl | (simp [go_sem]; done), W4⟩
  obtain ⟨n, hn⟩ : ∃ n, a.next = n := ⟨_, rfl⟩
  cases hE : a.hasNext
  · have hlast := Kd.last a b ma mb hE
    cases s1 : b.same a
    · have s3 : b.less a = true := by rcases hlast with h | h; (rw [s1] at h; cases h); exact h
      have hq := eql_says b a false s1
      go_enter Try.func9, Try.ntmps9
      go_wp2_with fail
      obtain ⟨A1, B1, W1⟩ := boxes2 w a b
      generalize (w.alloc (.cells #[.int .i64 a.obj, .int .i64 a.kind, .int .i64 a.off] 23)).alloc (.cells #[.int .i64 b.obj, .int .i64 b.kind, .int .i64 b.off] 23) = w1 at A1 B1 W1 ⊢
      refine (shown_any w1).mono ?_
      rintro e w2 ⟨rfl, hb2⟩
      have A2 := A1.below hb2 A1.lt
      have B2 := B1.below hb2 B1.lt
      have W2 := W1.trans (hb2.mono W1.size)
      clear A1 B1 W1 hb2
      have qa0 := A2.c0
      have qa1 := A2.c1
      have qa2 := A2.c2
      have qb0 := B2.c0
      have qb1 := B2.c1
      have qb2 := B2.c2
      go_wp2_with fail
      clear qa0 qa1 qa2 qb0 qb1 qb2
      refine (may_says a true ma w2).mono ?_
      rintro e w3 ⟨rfl, hb3⟩
      have A3 := A2.below hb3 A2.lt
      have B3 := B2.below hb3 B2.lt
      have W3 := W2.trans (hb3.mono W2.size)
      clear A2 B2 W2 hb3
      have qa0 := A3.c0
      have qa1 := A3.c1
      have qa2 := A3.c2
      have qb0 := B3.c0
      have qb1 := B3.c1
      have qb2 := B3.c2
      go_wp2_with fail
      clear qa0 qa1 qa2 qb0 qb1 qb2
      refine (may_says b true mb w3).mono ?_
      rintro e w4 ⟨rfl, hb4⟩
      have A4 := A3.below hb4 A3.lt
      have B4 := B3.below hb4 B3.lt
      have W4 := W3.trans (hb4.mono W3.size)
      clear A3 B3 W3 hb4
      have qa0 := A4.c0
      have qa1 := A4.c1
      have qa2 := A4.c2
      have qb0 := B4.c0
      have qb1 := B4.c1
      have qb2 := B4.c2
      go_wp2_with fail
      clear qa0 qa1 qa2 qb0 qb1 qb2
      refine (next_says a n 10 w4 ma hn (by unfold Kd.nextE; rw [hE]; rfl)).mono ?_
      rintro e v ⟨rfl, hb5⟩
      have bx : Below v.heap.size v (v.alloc (.cells #[.int .i64 n.obj, .int .i64 n.kind, .int .i64 n.off] 23)) := (Below.refl _ _).alloc (Nat.le_refl _) _
      have A5 := (A4.below hb5 A4.lt).below bx (A4.below hb5 A4.lt).lt
      have B5 := (B4.below hb5 B4.lt).below bx (B4.below hb5 B4.lt).lt
      have N5 := KB.new v n.obj n.kind n.off 23
      have W5 := (W4.trans (hb5.mono W4.size)).trans (bx.mono (W4.trans (hb5.mono W4.size)).size)
      clear A4 B4 W4 hb5 bx
      have N5 : KB (v.alloc (.cells #[.int .i64 n.obj, .int .i64 n.kind, .int .i64 n.off] 23)) v.heap.size n := N5
      have qa0 := A5.c0
      have qa1 := A5.c1
      have qa2 := A5.c2
      have qb0 := B5.c0
      have qb1 := B5.c1
      have qb2 := B5.c2
      have qn0 := N5.c0
      have qn1 := N5.c1
      have qn2 := N5.c2
      go_wp2_with fail
      clear qa0 qa1 qa2 qb0 qb1 qb2 qn0 qn1 qn2
      generalize v.alloc (.cells #[.int .i64 n.obj, .int .i64 n.kind, .int .i64 n.off] 23) = w5 at A5 B5 N5 W5 ⊢
      refine (less_says b a true s3 w5).mono ?_
      rintro e w6 ⟨rfl, hb6⟩
      have A6 := A5.below hb6 A5.lt
      have B6 := B5.below hb6 B5.lt
      have N6 := N5.below hb6 N5.lt
      have W6 := W5.trans (hb6.mono W5.size)
      clear A5 B5 N5 W5 hb6
      have qa0 := A6.c0
      have qa1 := A6.c1
      have qa2 := A6.c2
      have qb0 := B6.c0
      have qb1 := B6.c1
      have qb2 := B6.c2
      have qn0 := N6.c0
      have qn1 := N6.c1
      have qn2 := N6.c2
      go_wp2
      go_ret
      exact ⟨by first | rfl | (simp [go_sem]; done), W6⟩
    · have hq := eql_says b a true s1
      go_enter Try.func9, Try.ntmps9
      go_wp2_with fail
      obtain ⟨A1, B1, W1⟩ := boxes2 w a b
      generalize (w.alloc (.cells #[.int .i64 a.obj, .int .i64 a.kind, .int .i64 a.off] 23)).alloc (.cells #[.int .i64 b.obj, .int .i64 b.kind, .int .i64 b.off] 23) = w1 at A1 B1 W1 ⊢
      refine (shown_any w1).mono ?_
      rintro e w2 ⟨rfl, hb2⟩
      have A2 := A1.below hb2 A1.lt
      have B2 := B1.below hb2 B1.lt
      have W2 := W1.trans (hb2.mono W1.size)
      clear A1 B1 W1 hb2
      have qa0 := A2.c0
      have qa1 := A2.c1
      have qa2 := A2.c2
      have qb0 := B2.c0
      have qb1 := B2.c1
      have qb2 := B2.c2
      go_wp2_with fail
      clear qa0 qa1 qa2 qb0 qb1 qb2
      refine (may_says a true ma w2).mono ?_
      rintro e w3 ⟨rfl, hb3⟩
      have A3 := A2.below hb3 A2.lt
      have B3 := B2.below hb3 B2.lt
      have W3 := W2.trans (hb3.mono W2.size)
      clear A2 B2 W2 hb3
      have qa0 := A3.c0
      have qa1 := A3.c1
      have qa2 := A3.c2
      have qb0 := B3.c0
      have qb1 := B3.c1
      have qb2 := B3.c2
      go_wp2_with fail
      clear qa0 qa1 qa2 qb0 qb1 qb2
      refine (may_says b true mb w3).mono ?_
      rintro e w4 ⟨rfl, hb4⟩
      have A4 := A3.below hb4 A3.lt
      have B4 := B3.below hb4 B3.lt
      have W4 := W3.trans (hb4.mono W3.size)
      clear A3 B3 W3 hb4
      have qa0 := A4.c0
      have qa1 := A4.c1
      have qa2 := A4.c2
      have qb0 := B4.c0
      have qb1 := B4.c1
      have qb2 := B4.c2
      go_wp2_with fail
      clear qa0 qa1 qa2 qb0 qb1 qb2
      refine (next_says a n 10 w4 ma hn (by unfold Kd.nextE; rw [hE]; rfl)).mono ?_
      rintro e v ⟨rfl, hb5⟩
      have bx : Below v.heap.size v (v.alloc (.cells #[.int .i64 n.obj, .int .i64 n.kind, .int .i64 n.off] 23)) := (Below.refl _ _).alloc (Nat.le_refl _) _
      have A5 := (A4.below hb5 A4.lt).below bx (A4.below hb5 A4.lt).lt
      have B5 := (B4.below hb5 B4.lt).below bx (B4.below hb5 B4.lt).lt
      have N5 := KB.new v n.obj n.kind n.off 23
      have W5 := (W4.trans (hb5.mono W4.size)).trans (bx.mono (W4.trans (hb5.mono W4.size)).size)
      clear A4 B4 W4 hb5 bx
      have N5 : KB (v.alloc (.cells #[.int .i64 n.obj, .int .i64 n.kind, .int .i64 n.off] 23)) v.heap.size n := N5
      have qa0 := A5.c0
      have qa1 := A5.c1
      have qa2 := A5.c2
      have qb0 := B5.c0
      have qb1 := B5.c1
      have qb2 := B5.c2
      have qn0 := N5.c0
      have qn1 := N5.c1
      have qn2 := N5.c2
      go_wp2
      go_ret
      exact ⟨by first | rfl | (simp [go_sem]; done), W5⟩
  · obtain ⟨mn, l1, hafter⟩ := Kd.after a b ma mb hE
    rw [hn] at mn l1 hafter
    cases s1 : b.same a
    · have hq1 := eql_says b a false s1
      cases s2 : b.same n
      · have hq2 := eql_says b n false s2
        cases s3 : b.less a
        · have s4 : n.less b = true := by
            rcases hafter with h | h | h | h
            · rw [s1] at h; cases h
            · rw [s2] at h; cases h
            · rw [s3] at h; cases h
            · exact h
          go_enter Try.func9, Try.ntmps9
          go_wp2_with fail
          obtain ⟨A1, B1, W1⟩ := boxes2 w a b
          generalize (w.alloc (.cells #[.int .i64 a.obj, .int .i64 a.kind, .int .i64 a.off] 23)).alloc (.cells #[.int .i64 b.obj, .int .i64 b.kind, .int .i64 b.off] 23) = w1 at A1 B1 W1 ⊢
          refine (shown_any w1).mono ?_
          rintro e w2 ⟨rfl, hb2⟩
          have A2 := A1.below hb2 A1.lt
          have B2 := B1.below hb2 B1.lt
          have W2 := W1.trans (hb2.mono W1.size)
          clear A1 B1 W1 hb2
          have qa0 := A2.c0
          have qa1 := A2.c1
          have qa2 := A2.c2
          have qb0 := B2.c0
          have qb1 := B2.c1
          have qb2 := B2.c2
          go_wp2_with fail
          clear qa0 qa1 qa2 qb0 qb1 qb2
          refine (may_says a true ma w2).mono ?_
          rintro e w3 ⟨rfl, hb3⟩
          have A3 := A2.below hb3 A2.lt
          have B3 := B2.below hb3 B2.lt
          have W3 := W2.trans (hb3.mono W2.size)
          clear A2 B2 W2 hb3
          have qa0 := A3.c0
          have qa1 := A3.c1
          have qa2 := A3.c2
          have qb0 := B3.c0
          have qb1 := B3.c1
          have qb2 := B3.c2
          go_wp2_with fail
          clear qa0 qa1 qa2 qb0 qb1 qb2
          refine (may_says b true mb w3).mono ?_
          rintro e w4 ⟨rfl, hb4⟩
          have A4 := A3.below hb4 A3.lt
          have B4 := B3.below hb4 B3.lt
          have W4 := W3.trans (hb4.mono W3.size)
          clear A3 B3 W3 hb4
          have qa0 := A4.c0
          have qa1 := A4.c1
          have qa2 := A4.c2
          have qb0 := B4.c0
          have qb1 := B4.c1
          have qb2 := B4.c2
          go_wp2_with fail
          clear qa0 qa1 qa2 qb0 qb1 qb2
          refine (next_says a n 0 w4 ma hn (by unfold Kd.nextE; rw [hE]; rfl)).mono ?_
          rintro e v ⟨rfl, hb5⟩
          have bx : Below v.heap.size v (v.alloc (.cells #[.int .i64 n.obj, .int .i64 n.kind, .int .i64 n.off] 23)) := (Below.refl _ _).alloc (Nat.le_refl _) _
          have A5 := (A4.below hb5 A4.lt).below bx (A4.below hb5 A4.lt).lt
          have B5 := (B4.below hb5 B4.lt).below bx (B4.below hb5 B4.lt).lt
          have N5 := KB.new v n.obj n.kind n.off 23
          have W5 := (W4.trans (hb5.mono W4.size)).trans (bx.mono (W4.trans (hb5.mono W4.size)).size)
          clear A4 B4 W4 hb5 bx
          have N5 : KB (v.alloc (.cells #[.int .i64 n.obj, .int .i64 n.kind, .int .i64 n.off] 23)) v.heap.size n := N5
          have qa0 := A5.c0
          have qa1 := A5.c1
          have qa2 := A5.c2
          have qb0 := B5.c0
          have qb1 := B5.c1
          have qb2 := B5.c2
          have qn0 := N5.c0
          have qn1 := N5.c1
          have qn2 := N5.c2
          go_wp2_with fail
          clear qa0 qa1 qa2 qb0 qb1 qb2 qn0 qn1 qn2
          generalize v.alloc (.cells #[.int .i64 n.obj, .int .i64 n.kind, .int .i64 n.off] 23) = w5 at A5 B5 N5 W5 ⊢
          refine (may_says n true mn w5).mono ?_
          rintro e w6 ⟨rfl, hb6⟩
          have A6 := A5.below hb6 A5.lt
          have B6 := B5.below hb6 B5.lt
          have N6 := N5.below hb6 N5.lt
          have W6 := W5.trans (hb6.mono W5.size)
          clear A5 B5 N5 W5 hb6
          have qa0 := A6.c0
          have qa1 := A6.c1
          have qa2 := A6.c2
          have qb0 := B6.c0
          have qb1 := B6.c1
          have qb2 := B6.c2
          have qn0 := N6.c0
          have qn1 := N6.c1
          have qn2 := N6.c2
          go_wp2_with fail
          clear qa0 qa1 qa2 qb0 qb1 qb2 qn0 qn1 qn2
          refine (less_says a n true l1 w6).mono ?_
          rintro e w7 ⟨rfl, hb7⟩
          have A7 := A6.below hb7 A6.lt
          have B7 := B6.below hb7 B6.lt
          have N7 := N6.below hb7 N6.lt
          have W7 := W6.trans (hb7.mono W6.size)
          clear A6 B6 N6 W6 hb7
          have qa0 := A7.c0
          have qa1 := A7.c1
          have qa2 := A7.c2
          have qb0 := B7.c0
          have qb1 := B7.c1
          have qb2 := B7.c2
          have qn0 := N7.c0
          have qn1 := N7.c1
          have qn2 := N7.c2
          go_wp2_with fail
          clear qa0 qa1 qa2 qb0 qb1 qb2 qn0 qn1 qn2
          refine (less_says b a false s3 w7).mono ?_
          rintro e w8 ⟨rfl, hb8⟩
          have A8 := A7.below hb8 A7.lt
          have B8 := B7.below hb8 B7.lt
          have N8 := N7.below hb8 N7.lt
          have W8 := W7.trans (hb8.mono W7.size)
          clear A7 B7 N7 W7 hb8
          have qa0 := A8.c0
          have qa1 := A8.c1
          have qa2 := A8.c2
          have qb0 := B8.c0
          have qb1 := B8.c1
          have qb2 := B8.c2
          have qn0 := N8.c0
          have qn1 := N8.c1
          have qn2 := N8.c2
          go_wp2_with fail
          clear qa0 qa1 qa2 qb0 qb1 qb2 qn0 qn1 qn2
          refine (less_says n b true s4 w8).mono ?_
          rintro e w9 ⟨rfl, hb9⟩
          have A9 := A8.below hb9 A8.lt
          have B9 := B8.below hb9 B8.lt
          have N9 := N8.below hb9 N8.lt
          have W9 := W8.trans (hb9.mono W8.size)
          clear A8 B8 N8 W8 hb9
          have qa0 := A9.c0
          have qa1 := A9.c1
          have qa2 := A9.c2
          have qb0 := B9.c0
          have qb1 := B9.c1
          have qb2 := B9.c2
          have qn0 := N9.c0
          have qn1 := N9.c1
          have qn2 := N9.c2
          go_wp2
          go_ret
          exact ⟨by first | rfl | (simp [go_sem]; done), W9⟩
        · go_enter Try.func9, Try.ntmps9
          go_wp2_with fail
          obtain ⟨A1, B1, W1⟩ := boxes2 w a b
          generalize (w.alloc (.cells #[.int .i64 a.obj, .int .i64 a.kind, .int .i64 a.off] 23)).alloc (.cells #[.int .i64 b.obj, .int .i64 b.kind, .int .i64 b.off] 23) = w1 at A1 B1 W1 ⊢
          refine (shown_any w1).mono ?_
          rintro e w2 ⟨rfl, hb2⟩
          have A2 := A1.below hb2 A1.lt
          have B2 := B1.below hb2 B1.lt
          have W2 := W1.trans (hb2.mono W1.size)
          clear A1 B1 W1 hb2
          have qa0 := A2.c0
          have qa1 := A2.c1
          have qa2 := A2.c2
          have qb0 := B2.c0
          have qb1 := B2.c1
          have qb2 := B2.c2
          go_wp2_with fail
          clear qa0 qa1 qa2 qb0 qb1 qb2
          refine (may_says a true ma w2).mono ?_
          rintro e w3 ⟨rfl, hb3⟩
          have A3 := A2.below hb3 A2.lt
          have B3 := B2.below hb3 B2.lt
          have W3 := W2.trans (hb3.mono W2.size)
          clear A2 B2 W2 hb3
          have qa0 := A3.c0
          have qa1 := A3.c1
          have qa2 := A3.c2
          have qb0 := B3.c0
          have qb1 := B3.c1
          have qb2 := B3.c2
          go_wp2_with fail
          clear qa0 qa1 qa2 qb0 qb1 qb2
          refine (may_says b true mb w3).mono ?_
          rintro e w4 ⟨rfl, hb4⟩
          have A4 := A3.below hb4 A3.lt
          have B4 := B3.below hb4 B3.lt
          have W4 := W3.trans (hb4.mono W3.size)
          clear A3 B3 W3 hb4
          have qa0 := A4.c0
          have qa1 := A4.c1
          have qa2 := A4.c2
          have qb0 := B4.c0
          have qb1 := B4.c1
          have qb2 := B4.c2
          go_wp2_with fail
          clear qa0 qa1 qa2 qb0 qb1 qb2
          refine (next_says a n 0 w4 ma hn (by unfold Kd.nextE; rw [hE]; rfl)).mono ?_
          rintro e v ⟨rfl, hb5⟩
          have bx : Below v.heap.size v (v.alloc (.cells #[.int .i64 n.obj, .int .i64 n.kind, .int .i64 n.off] 23)) := (Below.refl _ _).alloc (Nat.le_refl _) _
          have A5 := (A4.below hb5 A4.lt).below bx (A4.below hb5 A4.lt).lt
          have B5 := (B4.below hb5 B4.lt).below bx (B4.below hb5 B4.lt).lt
          have N5 := KB.new v n.obj n.kind n.off 23
          have W5 := (W4.trans (hb5.mono W4.size)).trans (bx.mono (W4.trans (hb5.mono W4.size)).size)
          clear A4 B4 W4 hb5 bx
          have N5 : KB (v.alloc (.cells #[.int .i64 n.obj, .int .i64 n.kind, .int .i64 n.off] 23)) v.heap.size n := N5
          have qa0 := A5.c0
          have qa1 := A5.c1
          have qa2 := A5.c2
          have qb0 := B5.c0
          have qb1 := B5.c1
          have qb2 := B5.c2
          have qn0 := N5.c0
          have qn1 := N5.c1
          have qn2 := N5.c2
          go_wp2_with fail
          clear qa0 qa1 qa2 qb0 qb1 qb2 qn0 qn1 qn2
          generalize v.alloc (.cells #[.int .i64 n.obj, .int .i64 n.kind, .int .i64 n.off] 23) = w5 at A5 B5 N5 W5 ⊢
          refine (may_says n true mn w5).mono ?_
          rintro e w6 ⟨rfl, hb6⟩
          have A6 := A5.below hb6 A5.lt
          have B6 := B5.below hb6 B5.lt
          have N6 := N5.below hb6 N5.lt
          have W6 := W5.trans (hb6.mono W5.size)
          clear A5 B5 N5 W5 hb6
          have qa0 := A6.c0
          have qa1 := A6.c1
          have qa2 := A6.c2
          have qb0 := B6.c0
          have qb1 := B6.c1
          have qb2 := B6.c2
          have qn0 := N6.c0
          have qn1 := N6.c1
          have qn2 := N6.c2
          go_wp2_with fail
          clear qa0 qa1 qa2 qb0 qb1 qb2 qn0 qn1 qn2
          refine (less_says a n true l1 w6).mono ?_
          rintro e w7 ⟨rfl, hb7⟩
          have A7 := A6.below hb7 A6.lt
          have B7 := B6.below hb7 B6.lt
          have N7 := N6.below hb7 N6.lt
          have W7 := W6.trans (hb7.mono W6.size)
          clear A6 B6 N6 W6 hb7
          have qa0 := A7.c0
          have qa1 := A7.c1
          have qa2 := A7.c2
          have qb0 := B7.c0
          have qb1 := B7.c1
          have qb2 := B7.c2
          have qn0 := N7.c0
          have qn1 := N7.c1
          have qn2 := N7.c2
          go_wp2_with fail
          clear qa0 qa1 qa2 qb0 qb1 qb2 qn0 qn1 qn2
          refine (less_says b a true s3 w7).mono ?_
          rintro e w8 ⟨rfl, hb8⟩
          have A8 := A7.below hb8 A7.lt
          have B8 := B7.below hb8 B7.lt
          have N8 := N7.below hb8 N7.lt
          have W8 := W7.trans (hb8.mono W7.size)
          clear A7 B7 N7 W7 hb8
          have qa0 := A8.c0
          have qa1 := A8.c1
          have qa2 := A8.c2
          have qb0 := B8.c0
          have qb1 := B8.c1
          have qb2 := B8.c2
          have qn0 := N8.c0
          have qn1 := N8.c1
          have qn2 := N8.c2
          go_wp2
          go_ret
          exact ⟨by first | rfl | (simp [go_sem]; done), W8⟩
      · have hq2 := eql_says b n true s2
        go_enter Try.func9, Try.ntmps9
        go_wp2_with fail
        obtain ⟨A1, B1, W1⟩ := boxes2 w a b
        generalize (w.alloc (.cells #[.int .i64 a.obj, .int .i64 a.kind, .int .i64 a.off] 23)).alloc (.cells #[.int .i64 b.obj, .int .i64 b.kind, .int .i64 b.off] 23) = w1 at A1 B1 W1 ⊢
        refine (shown_any w1).mono ?_
        rintro e w2 ⟨rfl, hb2⟩
        have A2 := A1.below hb2 A1.lt
        have B2 := B1.below hb2 B1.lt
        have W2 := W1.trans (hb2.mono W1.size)
        clear A1 B1 W1 hb2
        have qa0 := A2.c0
        have qa1 := A2.c1
        have qa2 := A2.c2
        have qb0 := B2.c0
        have qb1 := B2.c1
        have qb2 := B2.c2
        go_wp2_with fail
        clear qa0 qa1 qa2 qb0 qb1 qb2
        refine (may_says a true ma w2).mono ?_
        rintro e w3 ⟨rfl, hb3⟩
        have A3 := A2.below hb3 A2.lt
        have B3 := B2.below hb3 B2.lt
        have W3 := W2.trans (hb3.mono W2.size)
        clear A2 B2 W2 hb3
        have qa0 := A3.c0
        have qa1 := A3.c1
        have qa2 := A3.c2
        have qb0 := B3.c0
        have qb1 := B3.c1
        have qb2 := B3.c2
        go_wp2_with fail
        clear qa0 qa1 qa2 qb0 qb1 qb2
        refine (may_says b true mb w3).mono ?_
        rintro e w4 ⟨rfl, hb4⟩
        have A4 := A3.below hb4 A3.lt
        have B4 := B3.below hb4 B3.lt
        have W4 := W3.trans (hb4.mono W3.size)
        clear A3 B3 W3 hb4
        have qa0 := A4.c0
        have qa1 := A4.c1
        have qa2 := A4.c2
        have qb0 := B4.c0
        have qb1 := B4.c1
        have qb2 := B4.c2
        go_wp2_with fail
        clear qa0 qa1 qa2 qb0 qb1 qb2
        refine (next_says a n 0 w4 ma hn (by unfold Kd.nextE; rw [hE]; rfl)).mono ?_
        rintro e v ⟨rfl, hb5⟩
        have bx : Below v.heap.size v (v.alloc (.cells #[.int .i64 n.obj, .int .i64 n.kind, .int .i64 n.off] 23)) := (Below.refl _ _).alloc (Nat.le_refl _) _
        have A5 := (A4.below hb5 A4.lt).below bx (A4.below hb5 A4.lt).lt
        have B5 := (B4.below hb5 B4.lt).below bx (B4.below hb5 B4.lt).lt
        have N5 := KB.new v n.obj n.kind n.off 23
        have W5 := (W4.trans (hb5.mono W4.size)).trans (bx.mono (W4.trans (hb5.mono W4.size)).size)
        clear A4 B4 W4 hb5 bx
        have N5 : KB (v.alloc (.cells #[.int .i64 n.obj, .int .i64 n.kind, .int .i64 n.off] 23)) v.heap.size n := N5
        have qa0 := A5.c0
        have qa1 := A5.c1
        have qa2 := A5.c2
        have qb0 := B5.c0
        have qb1 := B5.c1
        have qb2 := B5.c2
        have qn0 := N5.c0
        have qn1 := N5.c1
        have qn2 := N5.c2
        go_wp2_with fail
        clear qa0 qa1 qa2 qb0 qb1 qb2 qn0 qn1 qn2
        generalize v.alloc (.cells #[.int .i64 n.obj, .int .i64 n.kind, .int .i64 n.off] 23) = w5 at A5 B5 N5 W5 ⊢
        refine (may_says n true mn w5).mono ?_
        rintro e w6 ⟨rfl, hb6⟩
        have A6 := A5.below hb6 A5.lt
        have B6 := B5.below hb6 B5.lt
        have N6 := N5.below hb6 N5.lt
        have W6 := W5.trans (hb6.mono W5.size)
        clear A5 B5 N5 W5 hb6
        have qa0 := A6.c0
        have qa1 := A6.c1
        have qa2 := A6.c2
        have qb0 := B6.c0
        have qb1 := B6.c1
        have qb2 := B6.c2
        have qn0 := N6.c0
        have qn1 := N6.c1
        have qn2 := N6.c2
        go_wp2_with fail
        clear qa0 qa1 qa2 qb0 qb1 qb2 qn0 qn1 qn2
        refine (less_says a n true l1 w6).mono ?_
        rintro e w7 ⟨rfl, hb7⟩
        have A7 := A6.below hb7 A6.lt
        have B7 := B6.below hb7 B6.lt
        have N7 := N6.below hb7 N6.lt
        have W7 := W6.trans (hb7.mono W6.size)
        clear A6 B6 N6 W6 hb7
        have qa0 := A7.c0
        have qa1 := A7.c1
        have qa2 := A7.c2
        have qb0 := B7.c0
        have qb1 := B7.c1
        have qb2 := B7.c2
        have qn0 := N7.c0
        have qn1 := N7.c1
        have qn2 := N7.c2
        go_wp2
        go_ret
        exact ⟨by first | rfl | (simp [go_sem]; done), W7⟩
    · have hq1 := eql_says b a true s1
      go_enter Try.func9, Try.ntmps9
      go_wp2_with fail
      obtain ⟨A1, B1, W1⟩ := boxes2 w a b
      generalize (w.alloc (.cells #[.int .i64 a.obj, .int .i64 a.kind, .int .i64 a.off] 23)).alloc (.cells #[.int .i64 b.obj, .int .i64 b.kind, .int .i64 b.off] 23) = w1 at A1 B1 W1 ⊢
      refine (shown_any w1).mono ?_
      rintro e w2 ⟨rfl, hb2⟩
      have A2 := A1.below hb2 A1.lt
      have B2 := B1.below hb2 B1.lt
      have W2 := W1.trans (hb2.mono W1.size)
      clear A1 B1 W1 hb2
      have qa0 := A2.c0
      have qa1 := A2.c1
      have qa2 := A2.c2
      have qb0 := B2.c0
      have qb1 := B2.c1
      have qb2 := B2.c2
      go_wp2_with fail
      clear qa0 qa1 qa2 qb0 qb1 qb2
      refine (may_says a true ma w2).mono ?_
      rintro e w3 ⟨rfl, hb3⟩
      have A3 := A2.below hb3 A2.lt
      have B3 := B2.below hb3 B2.lt
      have W3 := W2.trans (hb3.mono W2.size)
      clear A2 B2 W2 hb3
      have qa0 := A3.c0
      have qa1 := A3.c1
      have qa2 := A3.c2
      have qb0 := B3.c0
      have qb1 := B3.c1
      have qb2 := B3.c2
      go_wp2_with fail
      clear qa0 qa1 qa2 qb0 qb1 qb2
      refine (may_says b true mb w3).mono ?_
      rintro e w4 ⟨rfl, hb4⟩
      have A4 := A3.below hb4 A3.lt
      have B4 := B3.below hb4 B3.lt
      have W4 := W3.trans (hb4.mono W3.size)
      clear A3 B3 W3 hb4
      have qa0 := A4.c0
      have qa1 := A4.c1
      have qa2 := A4.c2
      have qb0 := B4.c0
      have qb1 := B4.c1
      have qb2 := B4.c2
      go_wp2_with fail
      clear qa0 qa1 qa2 qb0 qb1 qb2
      refine (next_says a n 0 w4 ma hn (by unfold Kd.nextE; rw [hE]; rfl)).mono ?_
      rintro e v ⟨rfl, hb5⟩
      have bx : Below v.heap.size v (v.alloc (.cells #[.int .i64 n.obj, .int .i64 n.kind, .int .i64 n.off] 23)) := (Below.refl _ _).alloc (Nat.le_refl _) _
      have A5 := (A4.below hb5 A4.lt).below bx (A4.below hb5 A4.lt).lt
      have B5 := (B4.below hb5 B4.lt).below bx (B4.below hb5 B4.lt).lt
      have N5 := KB.new v n.obj n.kind n.off 23
      have W5 := (W4.trans (hb5.mono W4.size)).trans (bx.mono (W4.trans (hb5.mono W4.size)).size)
      clear A4 B4 W4 hb5 bx
      have N5 : KB (v.alloc (.cells #[.int .i64 n.obj, .int .i64 n.kind, .int .i64 n.off] 23)) v.heap.size n := N5
      have qa0 := A5.c0
      have qa1 := A5.c1
      have qa2 := A5.c2
      have qb0 := B5.c0
      have qb1 := B5.c1
      have qb2 := B5.c2
      have qn0 := N5.c0
      have qn1 := N5.c1
      have qn2 := N5.c2
      go_wp2_with fail
      clear qa0 qa1 qa2 qb0 qb1 qb2 qn0 qn1 qn2
      generalize v.alloc (.cells #[.int .i64 n.obj, .int .i64 n.kind, .int .i64 n.off] 23) = w5 at A5 B5 N5 W5 ⊢
      refine (may_says n true mn w5).mono ?_
      rintro e w6 ⟨rfl, hb6⟩
      have A6 := A5.below hb6 A5.lt
      have B6 := B5.below hb6 B5.lt
      have N6 := N5.below hb6 N5.lt
      have W6 := W5.trans (hb6.mono W5.size)
      clear A5 B5 N5 W5 hb6
      have qa0 := A6.c0
      have qa1 := A6.c1
      have qa2 := A6.c2
      have qb0 := B6.c0
      have qb1 := B6.c1
      have qb2 := B6.c2
      have qn0 := N6.c0
      have qn1 := N6.c1
      have qn2 := N6.c2
      go_wp2_with fail
      clear qa0 qa1 qa2 qb0 qb1 qb2 qn0 qn1 qn2
      refine (less_says a n true l1 w6).mono ?_
      rintro e w7 ⟨rfl, hb7⟩
      have A7 := A6.below hb7 A6.lt
      have B7 := B6.below hb7 B6.lt
      have N7 := N6.below hb7 N6.lt
      have W7 := W6.trans (hb7.mono W6.size)
      clear A6 B6 N6 W6 hb7
      have qa0 := A7.c0
      have qa1 := A7.c1
      have qa2 := A7.c2
      have qb0 := B7.c0
      have qb1 := B7.c1
      have qb2 := B7.c2
      have qn0 := N7.c0
      have qn1 := N7.c1
      have qn2 := N7.c2
      go_wp2
      go_ret
      exact ⟨by first | rfl | (simp [go_sem]; done), W7⟩
end Go.Proofs.Ytkeefphkcmkhmaa
