/- Keys: the laws' shown and few; the contracts with the numbers written out. -/
import Derived.Test.YtkeefphkcmkhmaaKeyE
namespace Go.Proofs.Ytkeefphkcmkhmaa
open Go Go.RowKit Go.Proofs

theorem strB {w : World} {A : Option Addr} {n c : Nat} {l : List UInt8} (h : Sl w A n c l) : (convert 27 9 (.slice A n c)).run Try.prog w = .ok (.string ⟨l.toArray⟩) w :=
  run_conv_bs _ _ _ T22 Try.underlying5 Try.underlying9 h
theorem guard_says (x y : Operand) (xs ys : Array Value) (w : World) : (eqGuard .eql 23 x y (.agg xs) (.agg ys)).run Try.prog w = .ok () w :=
  run_eqGuard_agg w .eql 23 x y xs ys (by kernel_rfl)
theorem eql_says (a b : Kd) (r : Bool) (h : a.same b = r) (w : World) : (binOp .eql 23 (.agg #[.int .i64 a.obj, .int .i64 a.kind, .int .i64 a.off]) (.agg #[.int .i64 b.obj, .int .i64 b.kind, .int .i64 b.off])).run Try.prog w = .ok (.bool r) w := by
  have := run_eql_kd a b w
  rw [h] at this
  exact this
theorem next_says (k n : Kd) (E : Int) (w : World) (hk : k.may = true) (hn : k.next = n) (hE : k.nextE = E) :
    Calls Try.prog 20 #[.agg #[.int .i64 k.obj, .int .i64 k.kind, .int .i64 k.off]] w fun e w' => e = .returned (.tuple #[.agg #[.int .i64 n.obj, .int .i64 n.kind, .int .i64 n.off], .int .i64 E]) ∧ Below w.heap.size w w' := by
  have := next_any k w hk
  rw [hn, hE] at this
  exact this
theorem less_says (a b : Kd) (r : Bool) (h : a.less b = r) (w : World) :
    Calls Try.prog 11 #[.agg #[.int .i64 a.obj, .int .i64 a.kind, .int .i64 a.off], .agg #[.int .i64 b.obj, .int .i64 b.kind, .int .i64 b.off]] w fun e w' => e = .returned (.bool r) ∧ Below w.heap.size w w' := by
  have := less_any a b w
  rw [h] at this
  exact this
theorem may_says (a : Kd) (r : Bool) (h : a.may = r) (w : World) :
    Calls Try.prog 13 #[.agg #[.int .i64 a.obj, .int .i64 a.kind, .int .i64 a.off]] w fun e w' => e = .returned (.bool r) ∧ Below w.heap.size w w' := by
  have := may_any a w
  rw [h] at this
  exact this
theorem few_any (A : Option Addr) (n c : Nat) (l : List UInt8) (w : World) (h : Sl w A n c l) :
    Calls Try.prog 15 #[.slice A n c] w fun e w' => ∃ m, m ≤ 100 ∧ m ≤ n ∧ e = .returned (.slice A m c) ∧ w = w' := by
  have hcap := h.cap
  have hm := h.max
  unfold maxLen at hm
  by_cases hn : 100 < n
  · have hi : (100 : Int) ≤ (c : Int) := by omega
    have hn' : (100 : Int) < (n : Int) := by omega
    go_enter Try.func15, Try.ntmps15
    go_wp2
    go_ret
    exact ⟨100, Nat.le_refl _, by omega, rfl, rfl⟩
  · go_enter Try.func15, Try.ntmps15
    go_wp2
    go_ret
    exact ⟨n, by omega, Nat.le_refl _, rfl, rfl⟩

def k123 : Kd := ⟨1, 2, 3⟩
theorem k123_bytes : ([] : List UInt8) ++ (⟨1, 2, 3⟩ : Kd).bytes = [0, 0, 0, 1, 2, 0, 0, 0, 3] := by decide
theorem exlen : ([0, 0, 0, 1, 2, 0, 0, 0, 3] : List UInt8).length = 9 := rfl
set_option maxRecDepth 10000 in
set_option maxHeartbeats 2000000 in
theorem shown_any (w : World) :
    Calls Try.prog 10 #[] w fun e w' => e = .returned (.bool true) ∧ Below w.heap.size w w' := by
  have hg := guard_says
  have hq1 := eql_says ⟨1, 3, 0⟩ ⟨1, 3, 0⟩ true (by decide)
  have hq2 := eql_says ⟨2, 0, 0⟩ ⟨2, 0, 0⟩ true (by decide)
  go_enter Try.func10, Try.ntmps10
  go_wp2_with fail
  have A1 := KB.new w 1 2 3 23
  have B1 : Below w.heap.size w (w.alloc (.cells #[.int .i64 1, .int .i64 2, .int .i64 3] 23)) := (Below.refl _ _).alloc (Nat.le_refl _) _
  generalize w.alloc (.cells #[.int .i64 1, .int .i64 2, .int .i64 3] 23) = w1 at A1 B1 ⊢
  refine (next_says ⟨1, 2, 2147483647⟩ ⟨1, 3, 0⟩ 0 w1 (by decide) (by rfl) (by decide)).mono ?_
  rintro e w2 ⟨rfl, hb2⟩
  have A2 := A1.below hb2 A1.lt
  have B2 := B1.trans (hb2.mono B1.size)
  clear A1 B1 hb2
  go_wp2_with fail
  have b3 : Below w2.heap.size w2 (w2.alloc (.cells #[.int .i64 1, .int .i64 3, .int .i64 0] 23)) := (Below.refl _ _).alloc (Nat.le_refl _) _
  have A3 := A2.below b3 A2.lt
  have C3 := KB.new w2 1 3 0 23
  have B3 := B2.trans (b3.mono B2.size)
  generalize w2.alloc (.cells #[.int .i64 1, .int .i64 3, .int .i64 0] 23) = w3 at A3 C3 B3 ⊢
  refine (next_says ⟨1, 255, 2147483647⟩ ⟨2, 0, 0⟩ 0 w3 (by decide) (by rfl) (by decide)).mono ?_
  rintro e w4 ⟨rfl, hb4⟩
  have A4 := A3.below hb4 A3.lt
  have C4 := C3.below hb4 C3.lt
  have B4 := B3.trans (hb4.mono B3.size)
  clear A3 C3 B3 hb4 A2 b3 B2
  have b5 : Below w4.heap.size w4 (w4.alloc (.cells #[.int .i64 2, .int .i64 0, .int .i64 0] 23)) := (Below.refl _ _).alloc (Nat.le_refl _) _
  have A5 := A4.below b5 A4.lt
  have C5 := C4.below b5 C4.lt
  have D5 := KB.new w4 2 0 0 23
  have B5 := B4.trans (b5.mono B4.size)
  have q0 := A5.c0
  have q1 := A5.c1
  have q2 := A5.c2
  go_wp2_with fail
  clear q0 q1 q2 b5 A4 C4 B4
  generalize w4.alloc (.cells #[.int .i64 2, .int .i64 0, .int .i64 0] 23) = w5 at A5 C5 D5 B5 ⊢
  refine (kput_any none 0 0 [] ⟨1, 2, 3⟩ w5 (sl_nil _) (by omega)).mono ?_
  rw [k123_bytes]
  rintro e w6 ⟨A6', n6, c6, rfl, own6, hb6⟩
  have hn6 := own6.len
  rw [exlen] at hn6
  subst hn6
  have A6 := A5.below hb6 A5.lt
  have C6 := C5.below hb6 C5.lt
  have D6 := D5.below hb6 D5.lt
  have B6 := B5.trans (hb6.mono B5.size)
  have k1 := strB own6.sl
  have q0 := A6.c0
  have q1 := A6.c1
  have q2 := A6.c2
  clear A5 C5 D5 B5 hb6
  go_wp2_with fail
  refine (less_says ⟨1, 2, 3⟩ ⟨1, 3, 0⟩ true (by decide) w6).mono ?_
  rintro e w7 ⟨rfl, hb7⟩
  have C7 := C6.below hb7 C6.lt
  have D7 := D6.below hb7 D6.lt
  have B7 := B6.trans (hb7.mono B6.size)
  have r0 := C7.c0
  have r1 := C7.c1
  have r2 := C7.c2
  have s0 := D7.c0
  have s1 := D7.c1
  have s2 := D7.c2
  go_wp2
  go_ret
  exact ⟨by first | rfl | simp [go_sem], B7⟩

end Go.Proofs.Ytkeefphkcmkhmaa
