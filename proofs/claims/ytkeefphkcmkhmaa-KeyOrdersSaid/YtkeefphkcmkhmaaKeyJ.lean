/- Keys: the walk of the law KeyBack. -/
import Derived.Test.YtkeefphkcmkhmaaKeyI
namespace Go.Proofs.Ytkeefphkcmkhmaa
open Go Go.RowKit Go.Proofs

theorem kd_back (k : Kd) (hk : k.may = true) (l : List UInt8) : kdOf (k.bytes ++ l) = k := by
  obtain ⟨⟨y1, y2⟩, ⟨y3, y4⟩, y5, y6⟩ := (Kd.may_iff k).1 hk
  have e0 : k.bytes ++ l = dig k.obj 4 ++ (dig k.kind 1 ++ (dig k.off 4 ++ l)) := by unfold Kd.bytes; rw [List.append_assoc, List.append_assoc]
  have e1 : (k.bytes ++ l).take 4 = dig k.obj 4 := by rw [e0]; exact List.take_left' (dig_len _ _)
  have e2 : (k.bytes ++ l).drop 4 = dig k.kind 1 ++ (dig k.off 4 ++ l) := by rw [e0]; exact List.drop_left' (dig_len _ _)
  have e3 : (k.bytes ++ l).drop 5 = dig k.off 4 ++ l := by
    rw [show (5 : Nat) = 4 + 1 from rfl, ← List.drop_drop, e2]; exact List.drop_left' (dig_len _ _)
  unfold kdOf
  rw [e1, e2, e3, List.take_left' (dig_len _ _), List.take_left' (dig_len _ _), num_back k.obj 4 y1 (by omega), num_back k.kind 1 y3 (by omega), num_back k.off 4 y5 (by omega)]
theorem kt_back (k : Kd) (hk : k.may = true) (l : List UInt8) : ktK (k.bytes ++ l) = k ∧ ktR (k.bytes ++ l) = l ∧ ktE (k.bytes ++ l) = 0 := by
  have hb := kd_back k hk l
  obtain ⟨h1, h2, h3⟩ := kt_yes (l := k.bytes ++ l) (by rw [List.length_append, Kd.bytes_len]; omega) (by rw [hb]; exact hk)
  rw [h1, h2, h3, hb]
  exact ⟨rfl, List.drop_left' (Kd.bytes_len k), rfl⟩
theorem ktake_back (k : Kd) (hk : k.may = true) (l : List UInt8) (A : Option Addr) (n c : Nat) (w : World) (h : Sl w A n c (k.bytes ++ l)) (hn : n ≤ 17592186044416) :
    Calls Try.prog 18 #[.slice A n c] w fun e w' => ∃ A' c', e = .returned (.tuple #[.agg #[.int .i64 k.obj, .int .i64 k.kind, .int .i64 k.off], .slice A' l.length c', .int .i64 0]) ∧ Own w' w.heap.size 5 A' l.length c' l ∧ Below w.heap.size w w' := by
  refine (ktake_any A n c _ w h hn).mono ?_
  obtain ⟨h1, h2, h3⟩ := kt_back k hk l
  rw [h1, h2, h3]
  rintro e w' ⟨A', n', c', rfl, own, hb⟩
  obtain rfl : l.length = n' := own.len
  exact ⟨A', c', rfl, own, hb⟩

set_option maxRecDepth 10000 in
set_option maxHeartbeats 4000000 in
theorem keyBack_walk (k : Kd) (A : Option Addr) (n c : Nat) (l : List UInt8) (w : World) (hs : Sl w A n c l) :
    Calls Try.prog 6 #[.agg #[.int .i64 k.obj, .int .i64 k.kind, .int .i64 k.off], .slice A n c] w fun e w' => e = .returned (.bool true) ∧ Below w.heap.size w w' := by
  have hg := guard_says
  have hq := eql_says k k true ((Kd.same_iff k k).2 ⟨rfl, rfl, rfl⟩)
  go_enter Try.func6, Try.ntmps6
  go_wp2_with fail
  obtain ⟨K1, W1⟩ := boxes1 w k
  generalize w.alloc (.cells #[.int .i64 k.obj, .int .i64 k.kind, .int .i64 k.off] 23) = w1 at K1 W1 ⊢
  refine (shown_any w1).mono ?_
  rintro e w2 ⟨rfl, hb2⟩
  have K2 := K1.below hb2 K1.lt
  have W2 := W1.trans (hb2.mono W1.size)
  clear K1 W1 hb2
  have s0 := hs.below W2
  go_wp2_with fail
  refine (few_any A n c l w2 s0).mono ?_
  rintro e w' ⟨m, hm1, hm2, rfl, rfl⟩
  have s2 := s0.take hm2
  obtain ⟨L, hL⟩ : ∃ L, l.take m = L := ⟨_, rfl⟩
  rw [hL] at s2
  have hLm : L.length = m := s2.len
  clear s0 hL hs
  have q0 := K2.c0
  have q1 := K2.c1
  have q2 := K2.c2
  go_wp2_with fail
  clear q0 q1 q2
  cases mk : k.may
  · refine (may_says k false mk w2).mono ?_
    rintro e w3 ⟨rfl, hb3⟩
    go_wp2
    go_ret
    exact ⟨rfl, W2.trans (hb3.mono W2.size)⟩
  · refine (may_says k true mk w2).mono ?_
    rintro e w3 ⟨rfl, hb3⟩
    have K3 := K2.below hb3 K2.lt
    have W3 := W2.trans (hb3.mono W2.size)
    have s3 := s2.below hb3
    clear K2 W2 s2 hb3
    have q0 := K3.c0
    have q1 := K3.c1
    have q2 := K3.c2
    go_wp2_with fail
    clear q0 q1 q2
    refine (kput_any none 0 0 [] k w3 (sl_nil _) (by omega)).mono ?_
    rw [List.nil_append]
    rintro e w4 ⟨A4, n4, c4, rfl, own4, hb4⟩
    obtain rfl : n4 = 9 := by rw [← own4.len]; exact Kd.bytes_len k
    have K4 := K3.below hb4 K3.lt
    have W4 := W3.trans (hb4.mono W3.size)
    have s4 := s3.below hb4
    clear K3 W3 s3 hb4
    go_wp2_with (first
      | (at_builtin; refine wp_append_b _ T22 rfl _ _ rfl w4.heap.size _ 0 0 [] rfl (own_empty w4 5) A4 9 c4 k.bytes rfl (own4.sl.alloc _) (by omega) (by simp) ?_)
      | fail)
    intro A5 c5 w5 own5 hb5
    have hb5 := below_new _ hb5 (Nat.le_refl _)
    have K5 := K4.below hb5 K4.lt
    have W5 := W4.trans (hb5.mono W4.size)
    have s5 := s4.below hb5
    have z5 := hb5.size
    go_wp2_with (first
      | (at_builtin; refine wp_append_b _ T22 rfl _ _ rfl w4.heap.size A5 9 c5 k.bytes rfl own5 A m c L rfl s5 (by omega) z5 ?_)
      | fail)
    intro A6 c6 w6 own6 hb6
    have K6 := K5.below hb6 K4.lt
    have W6 := W5.trans (hb6.mono W4.size)
    have s6 : Sl w6 A m c L := s4.below (hb5.trans hb6)
    have o6 := (own4.below hb5).sl
    clear K4 W4 K5 W5 z5
    go_wp2_with fail
    refine (ktake_back k mk L A6 _ c6 w6 own6.sl (by omega)).mono ?_
    rintro e w7 ⟨A7, c7, rfl, own7, hb7⟩
    rw [hLm] at own7
    have K7 := K6.below hb7 K6.lt
    have W7 := W6.trans (hb7.mono W6.size)
    have s7 := s6.below hb7
    clear K6 W6 s6
    have bx : Below w7.heap.size w7 (w7.alloc (.cells #[.int .i64 k.obj, .int .i64 k.kind, .int .i64 k.off] 23)) := (Below.refl _ _).alloc (Nat.le_refl _) _
    have K8 := K7.below bx K7.lt
    have W8 := W7.trans (bx.mono W7.size)
    have k1 := strB (own7.sl.below bx)
    have k2 := strB (s7.below bx)
    have q0 := K8.c0
    have q1 := K8.c1
    have q2 := K8.c2
    clear K7 W7 s7 bx own7 own6 own5 own4 hb5 hb6 hb7
    rw [hLm]
    go_wp2
    go_ret
    exact ⟨by first | rfl | (simp [go_sem]; done), W8⟩

end Go.Proofs.Ytkeefphkcmkhmaa
