/- Keys: the walk of the law KeySorts. -/
import Derived.Test.YtkeefphkcmkhmaaKeyG
namespace Go.Proofs.Ytkeefphkcmkhmaa
open Go Go.RowKit Go.Proofs

theorem kput_str (k : Kd) (X : ByteArray) (hX : (⟨k.bytes.toArray⟩ : ByteArray) = X) (w : World) :
    Calls Try.prog 16 #[.slice none 0 0, .agg #[.int .i64 k.obj, .int .i64 k.kind, .int .i64 k.off]] w fun e w' => ∃ A n c, e = .returned (.slice A n c) ∧ (convert 27 9 (.slice A n c)).run Try.prog w' = .ok (.string X) w' ∧ Below w.heap.size w w' := by
  refine (kput_any none 0 0 [] k w (sl_nil _) (by omega)).mono ?_
  rintro e w' ⟨A, n, c, rfl, own, hb⟩
  have h := strB own.sl
  rw [List.nil_append, hX] at h
  exact ⟨A, n, c, rfl, h, hb⟩
theorem str_less (a b : Kd) (ha : a.may = true) (hb : b.may = true) (X Y : ByteArray) (hX : (⟨a.bytes.toArray⟩ : ByteArray) = X) (hY : (⟨b.bytes.toArray⟩ : ByteArray) = Y) : Op.bytesLess X.toList Y.toList = a.less b := by
  rw [← Kd.sorts a b ha hb, ← hX, ← hY, ByteArray.toList_eq, ByteArray.toList_eq]
theorem str_same (a b : Kd) (ha : a.may = true) (hb : b.may = true) (X Y : ByteArray) (hX : (⟨a.bytes.toArray⟩ : ByteArray) = X) (hY : (⟨b.bytes.toArray⟩ : ByteArray) = Y) : (X.toList == Y.toList) = a.same b := by
  rw [show a.same b = (a.bytes == b.bytes) from (Kd.bytes_same a b ha hb).symm, ← hX, ← hY, ByteArray.toList_eq, ByteArray.toList_eq]
theorem same_no {a b : Kd} (hne : a ≠ b) : a.same b = false := by
  rw [← Bool.not_eq_true, Kd.same_iff]
  rintro ⟨h1, h2, h3⟩
  exact hne (by cases a; cases b; simp_all)
theorem same_yes {a b : Kd} (h : a = b) : a.same b = true := by
  rw [Kd.same_iff, h]
  exact ⟨rfl, rfl, rfl⟩

set_option maxRecDepth 10000 in
set_option maxHeartbeats 4000000 in
theorem keySorts_walk (a b : Kd) (w : World) :
    Calls Try.prog 7 #[.agg #[.int .i64 a.obj, .int .i64 a.kind, .int .i64 a.off], .agg #[.int .i64 b.obj, .int .i64 b.kind, .int .i64 b.off]] w fun e w' => e = .returned (.bool true) ∧ Below w.heap.size w w' := by
  have hg := guard_says
  cases ma : a.may
  · go_enter Try.func7, Try.ntmps7
    go_wp2_with fail
    obtain ⟨A1, B1, W1⟩ := boxes2 w a b
    generalize (w.alloc (.cells #[.int .i64 a.obj, .int .i64 a.kind, .int .i64 a.off] 23)).alloc (.cells #[.int .i64 b.obj, .int .i64 b.kind, .int .i64 b.off] 23) = w1 at A1 B1 W1 ⊢
    refine (shown_any w1).mono ?_
    rintro e w2 ⟨rfl, hb2⟩
    have A2 := A1.below hb2 A1.lt
    have B2 := B1.below hb2 B1.lt
    have W2 := W1.trans (hb2.mono W1.size)
    clear A1 B1 W1 hb2
    have qa0 := A2.c0
    have qa1 := A2.c1
    have qa2 := A2.c2
    have qb0 := B2.c0
    have qb1 := B2.c1
    have qb2 := B2.c2
    go_wp2_with fail
    clear qa0 qa1 qa2 qb0 qb1 qb2
    refine (may_says a false ma w2).mono ?_
    rintro e w3 ⟨rfl, hb3⟩
    have A3 := A2.below hb3 A2.lt
    have B3 := B2.below hb3 B2.lt
    have W3 := W2.trans (hb3.mono W2.size)
    clear A2 B2 W2 hb3
    have qa0 := A3.c0
    have qa1 := A3.c1
    have qa2 := A3.c2
    have qb0 := B3.c0
    have qb1 := B3.c1
    have qb2 := B3.c2
    go_wp2
    go_ret
    exact ⟨by first | rfl | (simp [go_sem]; done), W3⟩
  cases mb : b.may
  · go_enter Try.func7, Try.ntmps7
    go_wp2_with fail
    obtain ⟨A1, B1, W1⟩ := boxes2 w a b
    generalize (w.alloc (.cells #[.int .i64 a.obj, .int .i64 a.kind, .int .i64 a.off] 23)).alloc (.cells #[.int .i64 b.obj, .int .i64 b.kind, .int .i64 b.off] 23) = w1 at A1 B1 W1 ⊢
    refine (shown_any w1).mono ?_
    rintro e w2 ⟨rfl, hb2⟩
    have A2 := A1.below hb2 A1.lt
    have B2 := B1.below hb2 B1.lt
    have W2 := W1.trans (hb2.mono W1.size)
    clear A1 B1 W1 hb2
    have qa0 := A2.c0
    have qa1 := A2.c1
    have qa2 := A2.c2
    have qb0 := B2.c0
    have qb1 := B2.c1
    have qb2 := B2.c2
    go_wp2_with fail
    clear qa0 qa1 qa2 qb0 qb1 qb2
    refine (may_says a true ma w2).mono ?_
    rintro e w3 ⟨rfl, hb3⟩
    have A3 := A2.below hb3 A2.lt
    have B3 := B2.below hb3 B2.lt
    have W3 := W2.trans (hb3.mono W2.size)
    clear A2 B2 W2 hb3
    have qa0 := A3.c0
    have qa1 := A3.c1
    have qa2 := A3.c2
    have qb0 := B3.c0
    have qb1 := B3.c1
    have qb2 := B3.c2
    go_wp2_with fail
    clear qa0 qa1 qa2 qb0 qb1 qb2
    refine (may_says b false mb w3).mono ?_
    rintro e w4 ⟨rfl, hb4⟩
    have A4 := A3.below hb4 A3.lt
    have B4 := B3.below hb4 B3.lt
    have W4 := W3.trans (hb4.mono W3.size)
    clear A3 B3 W3 hb4
    have qa0 := A4.c0
    have qa1 := A4.c1
    have qa2 := A4.c2
    have qb0 := B4.c0
    have qb1 := B4.c1
    have qb2 := B4.c2
    go_wp2
    go_ret
    exact ⟨by first | rfl | (simp [go_sem]; done), W4⟩
  obtain ⟨X, hX⟩ : ∃ X, (⟨a.bytes.toArray⟩ : ByteArray) = X := ⟨_, rfl⟩
  obtain ⟨Y, hY⟩ : ∃ Y, (⟨b.bytes.toArray⟩ : ByteArray) = Y := ⟨_, rfl⟩
  have l1 := str_less a b ma mb X Y hX hY
  have l2 := str_less b a mb ma Y X hY hX
  have l3 := str_same a b ma mb X Y hX hY
  rcases Kd.total a b with ⟨r1, r2, hne⟩ | ⟨r1, r2, hne⟩ | ⟨r1, r2, hne⟩
  · rw [r1] at l1
    rw [r2] at l2
    rw [same_no hne] at l3
    have hq := eql_says a b false (same_no hne)
    clear hne
    go_enter Try.func7, Try.ntmps7
    go_wp2_with fail
    obtain ⟨A1, B1, W1⟩ := boxes2 w a b
    generalize (w.alloc (.cells #[.int .i64 a.obj, .int .i64 a.kind, .int .i64 a.off] 23)).alloc (.cells #[.int .i64 b.obj, .int .i64 b.kind, .int .i64 b.off] 23) = w1 at A1 B1 W1 ⊢
    refine (shown_any w1).mono ?_
    rintro e w2 ⟨rfl, hb2⟩
    have A2 := A1.below hb2 A1.lt
    have B2 := B1.below hb2 B1.lt
    have W2 := W1.trans (hb2.mono W1.size)
    clear A1 B1 W1 hb2
    have qa0 := A2.c0
    have qa1 := A2.c1
    have qa2 := A2.c2
    have qb0 := B2.c0
    have qb1 := B2.c1
    have qb2 := B2.c2
    go_wp2_with fail
    clear qa0 qa1 qa2 qb0 qb1 qb2
    refine (may_says a true ma w2).mono ?_
    rintro e w3 ⟨rfl, hb3⟩
    have A3 := A2.below hb3 A2.lt
    have B3 := B2.below hb3 B2.lt
    have W3 := W2.trans (hb3.mono W2.size)
    clear A2 B2 W2 hb3
    have qa0 := A3.c0
    have qa1 := A3.c1
    have qa2 := A3.c2
    have qb0 := B3.c0
    have qb1 := B3.c1
    have qb2 := B3.c2
    go_wp2_with fail
    clear qa0 qa1 qa2 qb0 qb1 qb2
    refine (may_says b true mb w3).mono ?_
    rintro e w4 ⟨rfl, hb4⟩
    have A4 := A3.below hb4 A3.lt
    have B4 := B3.below hb4 B3.lt
    have W4 := W3.trans (hb4.mono W3.size)
    clear A3 B3 W3 hb4
    have qa0 := A4.c0
    have qa1 := A4.c1
    have qa2 := A4.c2
    have qb0 := B4.c0
    have qb1 := B4.c1
    have qb2 := B4.c2
    go_wp2_with fail
    clear qa0 qa1 qa2 qb0 qb1 qb2
    refine (kput_str a X hX w4).mono ?_
    rintro e w5 ⟨S5, n5, c5, rfl, k5, hb5⟩
    have A5 := A4.below hb5 A4.lt
    have B5 := B4.below hb5 B4.lt
    have W5 := W4.trans (hb5.mono W4.size)
    clear A4 B4 W4 hb5
    have qa0 := A5.c0
    have qa1 := A5.c1
    have qa2 := A5.c2
    have qb0 := B5.c0
    have qb1 := B5.c1
    have qb2 := B5.c2
    go_wp2_with fail
    clear qa0 qa1 qa2 qb0 qb1 qb2 k5
    refine (kput_str b Y hY w5).mono ?_
    rintro e w6 ⟨S6, n6, c6, rfl, k6, hb6⟩
    have A6 := A5.below hb6 A5.lt
    have B6 := B5.below hb6 B5.lt
    have W6 := W5.trans (hb6.mono W5.size)
    clear A5 B5 W5 hb6
    have qa0 := A6.c0
    have qa1 := A6.c1
    have qa2 := A6.c2
    have qb0 := B6.c0
    have qb1 := B6.c1
    have qb2 := B6.c2
    go_wp2_with fail
    clear qa0 qa1 qa2 qb0 qb1 qb2 k6
    refine (less_says a b true r1 w6).mono ?_
    rintro e w7 ⟨rfl, hb7⟩
    have A7 := A6.below hb7 A6.lt
    have B7 := B6.below hb7 B6.lt
    have W7 := W6.trans (hb7.mono W6.size)
    clear A6 B6 W6 hb7
    have qa0 := A7.c0
    have qa1 := A7.c1
    have qa2 := A7.c2
    have qb0 := B7.c0
    have qb1 := B7.c1
    have qb2 := B7.c2
    go_wp2_with fail
    clear qa0 qa1 qa2 qb0 qb1 qb2
    refine (less_says b a false r2 w7).mono ?_
    rintro e w8 ⟨rfl, hb8⟩
    have A8 := A7.below hb8 A7.lt
    have B8 := B7.below hb8 B7.lt
    have W8 := W7.trans (hb8.mono W7.size)
    clear A7 B7 W7 hb8
    have qa0 := A8.c0
    have qa1 := A8.c1
    have qa2 := A8.c2
    have qb0 := B8.c0
    have qb1 := B8.c1
    have qb2 := B8.c2
    go_wp2
    go_ret
    exact ⟨by first | rfl | (simp [go_sem]; done), W8⟩
  · rw [r1] at l1
    rw [r2] at l2
    rw [same_no hne] at l3
    have hq := eql_says a b false (same_no hne)
    clear hne
    go_enter Try.func7, Try.ntmps7
    go_wp2_with fail
    obtain ⟨A1, B1, W1⟩ := boxes2 w a b
    generalize (w.alloc (.cells #[.int .i64 a.obj, .int .i64 a.kind, .int .i64 a.off] 23)).alloc (.cells #[.int .i64 b.obj, .int .i64 b.kind, .int .i64 b.off] 23) = w1 at A1 B1 W1 ⊢
    refine (shown_any w1).mono ?_
    rintro e w2 ⟨rfl, hb2⟩
    have A2 := A1.below hb2 A1.lt
    have B2 := B1.below hb2 B1.lt
    have W2 := W1.trans (hb2.mono W1.size)
    clear A1 B1 W1 hb2
    have qa0 := A2.c0
    have qa1 := A2.c1
    have qa2 := A2.c2
    have qb0 := B2.c0
    have qb1 := B2.c1
    have qb2 := B2.c2
    go_wp2_with fail
    clear qa0 qa1 qa2 qb0 qb1 qb2
    refine (may_says a true ma w2).mono ?_
    rintro e w3 ⟨rfl, hb3⟩
    have A3 := A2.below hb3 A2.lt
    have B3 := B2.below hb3 B2.lt
    have W3 := W2.trans (hb3.mono W2.size)
    clear A2 B2 W2 hb3
    have qa0 := A3.c0
    have qa1 := A3.c1
    have qa2 := A3.c2
    have qb0 := B3.c0
    have qb1 := B3.c1
    have qb2 := B3.c2
    go_wp2_with fail
    clear qa0 qa1 qa2 qb0 qb1 qb2
    refine (may_says b true mb w3).mono ?_
    rintro e w4 ⟨rfl, hb4⟩
    have A4 := A3.below hb4 A3.lt
    have B4 := B3.below hb4 B3.lt
    have W4 := W3.trans (hb4.mono W3.size)
    clear A3 B3 W3 hb4
    have qa0 := A4.c0
    have qa1 := A4.c1
    have qa2 := A4.c2
    have qb0 := B4.c0
    have qb1 := B4.c1
    have qb2 := B4.c2
    go_wp2_with fail
    clear qa0 qa1 qa2 qb0 qb1 qb2
    refine (kput_str a X hX w4).mono ?_
    rintro e w5 ⟨S5, n5, c5, rfl, k5, hb5⟩
    have A5 := A4.below hb5 A4.lt
    have B5 := B4.below hb5 B4.lt
    have W5 := W4.trans (hb5.mono W4.size)
    clear A4 B4 W4 hb5
    have qa0 := A5.c0
    have qa1 := A5.c1
    have qa2 := A5.c2
    have qb0 := B5.c0
    have qb1 := B5.c1
    have qb2 := B5.c2
    go_wp2_with fail
    clear qa0 qa1 qa2 qb0 qb1 qb2 k5
    refine (kput_str b Y hY w5).mono ?_
    rintro e w6 ⟨S6, n6, c6, rfl, k6, hb6⟩
    have A6 := A5.below hb6 A5.lt
    have B6 := B5.below hb6 B5.lt
    have W6 := W5.trans (hb6.mono W5.size)
    clear A5 B5 W5 hb6
    have qa0 := A6.c0
    have qa1 := A6.c1
    have qa2 := A6.c2
    have qb0 := B6.c0
    have qb1 := B6.c1
    have qb2 := B6.c2
    go_wp2_with fail
    clear qa0 qa1 qa2 qb0 qb1 qb2 k6
    refine (less_says a b false r1 w6).mono ?_
    rintro e w7 ⟨rfl, hb7⟩
    have A7 := A6.below hb7 A6.lt
    have B7 := B6.below hb7 B6.lt
    have W7 := W6.trans (hb7.mono W6.size)
    clear A6 B6 W6 hb7
    have qa0 := A7.c0
    have qa1 := A7.c1
    have qa2 := A7.c2
    have qb0 := B7.c0
    have qb1 := B7.c1
    have qb2 := B7.c2
    go_wp2_with fail
    clear qa0 qa1 qa2 qb0 qb1 qb2
    refine (less_says b a true r2 w7).mono ?_
    rintro e w8 ⟨rfl, hb8⟩
    have A8 := A7.below hb8 A7.lt
    have B8 := B7.below hb8 B7.lt
    have W8 := W7.trans (hb8.mono W7.size)
    clear A7 B7 W7 hb8
    have qa0 := A8.c0
    have qa1 := A8.c1
    have qa2 := A8.c2
    have qb0 := B8.c0
    have qb1 := B8.c1
    have qb2 := B8.c2
    go_wp2
    go_ret
    exact ⟨by first | rfl | (simp [go_sem]; done), W8⟩
  · rw [r1] at l1
    rw [r2] at l2
    rw [same_yes hne] at l3
    have hq := eql_says a b true (same_yes hne)
    clear hne
    go_enter Try.func7, Try.ntmps7
    go_wp2_with fail
    obtain ⟨A1, B1, W1⟩ := boxes2 w a b
    generalize (w.alloc (.cells #[.int .i64 a.obj, .int .i64 a.kind, .int .i64 a.off] 23)).alloc (.cells #[.int .i64 b.obj, .int .i64 b.kind, .int .i64 b.off] 23) = w1 at A1 B1 W1 ⊢
    refine (shown_any w1).mono ?_
    rintro e w2 ⟨rfl, hb2⟩
    have A2 := A1.below hb2 A1.lt
    have B2 := B1.below hb2 B1.lt
    have W2 := W1.trans (hb2.mono W1.size)
    clear A1 B1 W1 hb2
    have qa0 := A2.c0
    have qa1 := A2.c1
    have qa2 := A2.c2
    have qb0 := B2.c0
    have qb1 := B2.c1
    have qb2 := B2.c2
    go_wp2_with fail
    clear qa0 qa1 qa2 qb0 qb1 qb2
    refine (may_says a true ma w2).mono ?_
    rintro e w3 ⟨rfl, hb3⟩
    have A3 := A2.below hb3 A2.lt
    have B3 := B2.below hb3 B2.lt
    have W3 := W2.trans (hb3.mono W2.size)
    clear A2 B2 W2 hb3
    have qa0 := A3.c0
    have qa1 := A3.c1
    have qa2 := A3.c2
    have qb0 := B3.c0
    have qb1 := B3.c1
    have qb2 := B3.c2
    go_wp2_with fail
    clear qa0 qa1 qa2 qb0 qb1 qb2
    refine (may_says b true mb w3).mono ?_
    rintro e w4 ⟨rfl, hb4⟩
    have A4 := A3.below hb4 A3.lt
    have B4 := B3.below hb4 B3.lt
    have W4 := W3.trans (hb4.mono W3.size)
    clear A3 B3 W3 hb4
    have qa0 := A4.c0
    have qa1 := A4.c1
    have qa2 := A4.c2
    have qb0 := B4.c0
    have qb1 := B4.c1
    have qb2 := B4.c2
    go_wp2_with fail
    clear qa0 qa1 qa2 qb0 qb1 qb2
    refine (kput_str a X hX w4).mono ?_
    rintro e w5 ⟨S5, n5, c5, rfl, k5, hb5⟩
    have A5 := A4.below hb5 A4.lt
    have B5 := B4.below hb5 B4.lt
    have W5 := W4.trans (hb5.mono W4.size)
    clear A4 B4 W4 hb5
    have qa0 := A5.c0
    have qa1 := A5.c1
    have qa2 := A5.c2
    have qb0 := B5.c0
    have qb1 := B5.c1
    have qb2 := B5.c2
    go_wp2_with fail
    clear qa0 qa1 qa2 qb0 qb1 qb2 k5
    refine (kput_str b Y hY w5).mono ?_
    rintro e w6 ⟨S6, n6, c6, rfl, k6, hb6⟩
    have A6 := A5.below hb6 A5.lt
    have B6 := B5.below hb6 B5.lt
    have W6 := W5.trans (hb6.mono W5.size)
    clear A5 B5 W5 hb6
    have qa0 := A6.c0
    have qa1 := A6.c1
    have qa2 := A6.c2
    have qb0 := B6.c0
    have qb1 := B6.c1
    have qb2 := B6.c2
    go_wp2_with fail
    clear qa0 qa1 qa2 qb0 qb1 qb2 k6
    refine (less_says a b false r1 w6).mono ?_
    rintro e w7 ⟨rfl, hb7⟩
    have A7 := A6.below hb7 A6.lt
    have B7 := B6.below hb7 B6.lt
    have W7 := W6.trans (hb7.mono W6.size)
    clear A6 B6 W6 hb7
    have qa0 := A7.c0
    have qa1 := A7.c1
    have qa2 := A7.c2
    have qb0 := B7.c0
    have qb1 := B7.c1
    have qb2 := B7.c2
    go_wp2_with fail
    clear qa0 qa1 qa2 qb0 qb1 qb2
    refine (less_says b a false r2 w7).mono ?_
    rintro e w8 ⟨rfl, hb8⟩
    have A8 := A7.below hb8 A7.lt
    have B8 := B7.below hb8 B7.lt
    have W8 := W7.trans (hb8.mono W7.size)
    clear A7 B7 W7 hb8
    have qa0 := A8.c0
    have qa1 := A8.c1
    have qa2 := A8.c2
    have qb0 := B8.c0
    have qb1 := B8.c1
    have qb2 := B8.c2
    go_wp2
    go_ret
    exact ⟨by first | rfl | (simp [go_sem]; done), W8⟩
end Go.Proofs.Ytkeefphkcmkhmaa
