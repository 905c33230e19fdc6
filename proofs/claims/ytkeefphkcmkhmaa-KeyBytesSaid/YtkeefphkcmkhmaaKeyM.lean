/- Keys: the walk of the law KeyBytes. -/
import Derived.Test.YtkeefphkcmkhmaaKeyL
namespace Go.Proofs.Ytkeefphkcmkhmaa
open Go Go.RowKit Go.Proofs

theorem kput_txt (A : Option Addr) (n c : Nat) (l : List UInt8) (k : Kd) (X : ByteArray) (hX : (⟨(l ++ k.bytes).toArray⟩ : ByteArray) = X) (w : World) (h : Sl w A n c l) (hn : n ≤ 4398046511104) :
    Calls Try.prog 16 #[.slice A n c, .agg #[.int .i64 k.obj, .int .i64 k.kind, .int .i64 k.off]] w fun e w' => ∃ A' n' c', e = .returned (.slice A' n' c') ∧ (∀ w'', Below w'.heap.size w' w'' → (convert 27 9 (.slice A' n' c')).run Try.prog w'' = .ok (.string X) w'') ∧ Below w.heap.size w w' := by
  refine (kput_any A n c l k w h hn).mono ?_
  rintro e w' ⟨A', n', c', rfl, own, hb⟩
  refine ⟨A', n', c', rfl, fun w'' h'' => ?_, hb⟩
  have := strB (own.sl.below h'')
  rw [hX] at this
  exact this
theorem refkput_txt (A : Option Addr) (n c : Nat) (l : List UInt8) (k : Kd) (X : ByteArray) (hX : (⟨(l ++ k.bytes).toArray⟩ : ByteArray) = X) (w : World) (h : Sl w A n c l) (hn : n ≤ 4398046511104) :
    Calls Try.prog 17 #[.slice A n c, .agg #[.int .i64 k.obj, .int .i64 k.kind, .int .i64 k.off]] w fun e w' => ∃ A' n' c', e = .returned (.slice A' n' c') ∧ (∀ w'', Below w'.heap.size w' w'' → (convert 27 9 (.slice A' n' c')).run Try.prog w'' = .ok (.string X) w'') ∧ Below w.heap.size w w' := by
  refine (refkput_any A n c l k w h hn).mono ?_
  rintro e w' ⟨A', n', c', rfl, own, hb⟩
  refine ⟨A', n', c', rfl, fun w'' h'' => ?_, hb⟩
  have := strB (own.sl.below h'')
  rw [hX] at this
  exact this

theorem ktake_txt (A : Option Addr) (n c : Nat) (l : List UInt8) (K : Kd) (R : List UInt8) (E : Int) (hK : ktK l = K) (hR : ktR l = R) (hE : ktE l = E) (w : World) (h : Sl w A n c l) (hn : n ≤ 17592186044416) :
    Calls Try.prog 18 #[.slice A n c] w fun e w' => ∃ A' n' c', e = .returned (.tuple #[.agg #[.int .i64 K.obj, .int .i64 K.kind, .int .i64 K.off], .slice A' n' c', .int .i64 E]) ∧ Own w' w.heap.size 5 A' n' c' R ∧ Below w.heap.size w w' := by
  have := ktake_any A n c l w h hn
  rw [hK, hR, hE] at this
  exact this
theorem refktake_txt (A : Option Addr) (n c : Nat) (l : List UInt8) (K : Kd) (R : List UInt8) (E : Int) (hK : ktK l = K) (hR : ktR l = R) (hE : ktE l = E) (w : World) (h : Sl w A n c l) (hn : n ≤ 17592186044416) :
    Calls Try.prog 19 #[.slice A n c] w fun e w' => ∃ A' n' c', e = .returned (.tuple #[.agg #[.int .i64 K.obj, .int .i64 K.kind, .int .i64 K.off], .slice A' n' c', .int .i64 E]) ∧ Own w' w.heap.size 5 A' n' c' R ∧ Below w.heap.size w w' := by
  have := refktake_any A n c l w h hn
  rw [hK, hR, hE] at this
  exact this

set_option maxRecDepth 10000 in
set_option maxHeartbeats 8000000 in
theorem keyBytes_walk (k : Kd) (A : Option Addr) (n c : Nat) (l : List UInt8) (w : World) (hs : Sl w A n c l) :
    Calls Try.prog 4 #[.agg #[.int .i64 k.obj, .int .i64 k.kind, .int .i64 k.off], .slice A n c] w fun e w' => e = .returned (.bool true) ∧ Below w.heap.size w w' := by
  have hg := guard_says
  go_enter Try.func4, Try.ntmps4
  go_wp2_with fail
  obtain ⟨K1, W1⟩ := boxes1 w k
  generalize w.alloc (.cells #[.int .i64 k.obj, .int .i64 k.kind, .int .i64 k.off] 23) = w1 at K1 W1 ⊢
  refine (shown_any w1).mono ?_
  rintro e w2 ⟨rfl, hb2⟩
  have K2 := K1.below hb2 K1.lt
  have W2 := W1.trans (hb2.mono W1.size)
  clear K1 W1 hb2
  have s0 := hs.below W2
  go_wp2_with fail
  refine (few_any A n c l w2 s0).mono ?_
  rintro e w' ⟨m, hm1, hm2, rfl, rfl⟩
  have s2 := s0.take hm2
  obtain ⟨L, hL⟩ : ∃ L, l.take m = L := ⟨_, rfl⟩
  rw [hL] at s2
  clear s0 hL hs
  go_wp2_with (first
    | (at_builtin; refine wp_append_b _ T22 rfl _ _ rfl w2.heap.size _ 0 0 [] rfl (own_empty w2 5) A m c L rfl (s2.alloc _) (by omega) (by simp) ?_)
    | fail)
  intro A3 c3 w3 own3 hb3
  have hb3 := below_new _ hb3 (Nat.le_refl _)
  have K3 := K2.below hb3 K2.lt
  have W3 := W2.trans (hb3.mono W2.size)
  have s3 := s2.below hb3
  have o3 := own3.sl
  clear K2 W2 s2 own3 hb3
  have q0 := K3.c0
  have q1 := K3.c1
  have q2 := K3.c2
  go_wp2_with fail
  clear q0 q1 q2
  obtain ⟨X, hX⟩ : ∃ X, (⟨(L ++ k.bytes).toArray⟩ : ByteArray) = X := ⟨_, rfl⟩
  obtain ⟨KK, hKK⟩ : ∃ x, ktK L = x := ⟨_, rfl⟩
  obtain ⟨RR, hRR⟩ : ∃ x, ktR L = x := ⟨_, rfl⟩
  obtain ⟨EE, hEE⟩ : ∃ x, ktE L = x := ⟨_, rfl⟩
  have hq := eql_says KK KK true (kd_refl KK)
  obtain ⟨r, mk⟩ : ∃ r, k.may = r := ⟨_, rfl⟩
  cases r
  · refine (refmay_says k false mk w3).mono ?_
    rintro e w4 ⟨rfl, hb4⟩
    have K4 := K3.below hb4 K3.lt
    have W4 := W3.trans (hb4.mono W3.size)
    have s4 := s3.below hb4
    have o4 := o3.below hb4
    clear K3 W3 s3 o3 hb4
    go_wp2_with fail
    have hS : ∀ w' : World, Below w4.heap.size w4 w' → w'.cell? ⟨w.heap.size, 0, none⟩ = some (.int .i64 k.obj) ∧ w'.cell? ⟨w.heap.size, 1, none⟩ = some (.int .i64 k.kind) ∧ w'.cell? ⟨w.heap.size, 2, none⟩ = some (.int .i64 k.off) ∧ Below w4.heap.size w4 w' :=
      fun w' hb => ⟨(K4.below hb K4.lt).c0, (K4.below hb K4.lt).c1, (K4.below hb K4.lt).c2, hb⟩
    have BD : Below w4.heap.size w4 w4.drew := (Below.refl _ w4).drew
    go_quiet (fail)
    generalize hw5 : World.drewN w4 _ = w5
    have bb5 : Below w4.heap.size w4 w5 := by rw [← hw5]; exact below_drewN (Below.refl _ _) _
    clear hw5
    have s5 := s4.below bb5
    have o5 := o4.below bb5
    have W5 := W4.trans ((bb5).mono W4.size)
    clear K4 s4 o4 W4 hS BD
    go_wp2_with fail
    refine (ktake_txt A3 m c3 L KK RR EE hKK hRR hEE _ o5 (by omega)).mono ?_
    rintro e v ⟨A6, n6, c6, rfl, own6, hb6⟩
    have bx : Below v.heap.size v (v.alloc (.cells #[.int .i64 KK.obj, .int .i64 KK.kind, .int .i64 KK.off] 23)) := (Below.refl _ _).alloc (Nat.le_refl _) _
    have N6 : KB (v.alloc (.cells #[.int .i64 KK.obj, .int .i64 KK.kind, .int .i64 KK.off] 23)) v.heap.size KK := KB.new v KK.obj KK.kind KK.off 23
    have W6 := (W5.trans (hb6.mono W5.size)).trans (bx.mono (W5.trans (hb6.mono W5.size)).size)
    have s6 := (s5.below hb6).below bx
    have o6 := (o5.below hb6).below bx
    have t6 := own6.sl.below bx
    clear s5 o5 W5 hb6 own6 bx
    go_wp2_with fail
    generalize v.alloc (.cells #[.int .i64 KK.obj, .int .i64 KK.kind, .int .i64 KK.off] 23) = w6 at N6 W6 s6 o6 t6 ⊢
    obtain ⟨m1, em1⟩ : ∃ m1, v.heap.size = m1 := ⟨_, rfl⟩
    rw [em1] at N6 ⊢
    clear em1
    refine (refktake_txt A m c L KK RR EE hKK hRR hEE _ s6 (by omega)).mono ?_
    rintro e u ⟨A7, n7, c7, rfl, own7, hb7⟩
    have bx : Below u.heap.size u (u.alloc (.cells #[.int .i64 KK.obj, .int .i64 KK.kind, .int .i64 KK.off] 23)) := (Below.refl _ _).alloc (Nat.le_refl _) _
    have N7 := (N6.below hb7 N6.lt).below bx (N6.below hb7 N6.lt).lt
    have W7 := (W6.trans (hb7.mono W6.size)).trans (bx.mono (W6.trans (hb7.mono W6.size)).size)
    have k1 := strB ((t6.below hb7).below bx)
    have k2 := strB (own7.sl.below bx)
    have k3 := strB ((o6.below hb7).below bx)
    have k4 := strB ((s6.below hb7).below bx)
    have q0 := N7.c0
    have q1 := N7.c1
    have q2 := N7.c2
    clear N6 W6 s6 o6 t6 own7 hb7 bx N7
    go_wp2
    go_ret
    exact ⟨by first | rfl | (simp [go_sem]; done), W7⟩
  · refine (refmay_says k true mk w3).mono ?_
    rintro e w4 ⟨rfl, hb4⟩
    have K4 := K3.below hb4 K3.lt
    have W4 := W3.trans (hb4.mono W3.size)
    have s4 := s3.below hb4
    have o4 := o3.below hb4
    clear K3 W3 s3 o3 hb4
    go_wp2_with fail
    have hS : ∀ w' : World, Below w4.heap.size w4 w' → w'.cell? ⟨w.heap.size, 0, none⟩ = some (.int .i64 k.obj) ∧ w'.cell? ⟨w.heap.size, 1, none⟩ = some (.int .i64 k.kind) ∧ w'.cell? ⟨w.heap.size, 2, none⟩ = some (.int .i64 k.off) ∧ Below w4.heap.size w4 w' :=
      fun w' hb => ⟨(K4.below hb K4.lt).c0, (K4.below hb K4.lt).c1, (K4.below hb K4.lt).c2, hb⟩
    have BD : Below w4.heap.size w4 w4.drew := (Below.refl _ w4).drew
    go_region_held (fun w' => w'.cell? ⟨w.heap.size, 0, none⟩ = some (.int .i64 k.obj) ∧ w'.cell? ⟨w.heap.size, 1, none⟩ = some (.int .i64 k.kind) ∧ w'.cell? ⟨w.heap.size, 2, none⟩ = some (.int .i64 k.off) ∧ Below w4.heap.size w4 w')
      (first | assumption | exact hS _ BD | exact hS _ bb5 | exact hS _ bb6)
      (first
      | (go_at_call 17; have hh := bb5; refine (refkput_txt A m c L k X hX _ (s4.below bb5) (by omega)).mono ?_; rintro e w6 ⟨A6, n6, c6, rfl, t6, hb6⟩; have bb6 : Below w4.heap.size w4 w6 := bb5.trans (hb6.mono bb5.size); have t66 := t6 w6 (Below.refl _ _); have t56 := t5 w6 hb6)
      | (go_at_call 16; refine (kput_txt A3 m c3 L k X hX _ o4.drew (by omega)).mono ?_; rintro e w5 ⟨A5, n5, c5, rfl, t5, hb5⟩; have bb5 : Below w4.heap.size w4 w5 := BD.trans (hb5.mono (Nat.le_refl w4.heap.size)); have t55 := t5 w5 (Below.refl _ _))
      | fail)
    all_goals
      clear t5 t6
      have s5 := s4.below bb6
      have o5 := o4.below bb6
      have W5 := W4.trans ((bb6).mono W4.size)
      clear K4 s4 o4 W4 hS BD
      go_wp2_with fail
      refine (ktake_txt A3 m c3 L KK RR EE hKK hRR hEE _ o5 (by omega)).mono ?_
      rintro e v ⟨A6, n6, c6, rfl, own6, hb6⟩
      have bx : Below v.heap.size v (v.alloc (.cells #[.int .i64 KK.obj, .int .i64 KK.kind, .int .i64 KK.off] 23)) := (Below.refl _ _).alloc (Nat.le_refl _) _
      have N6 : KB (v.alloc (.cells #[.int .i64 KK.obj, .int .i64 KK.kind, .int .i64 KK.off] 23)) v.heap.size KK := KB.new v KK.obj KK.kind KK.off 23
      have W6 := (W5.trans (hb6.mono W5.size)).trans (bx.mono (W5.trans (hb6.mono W5.size)).size)
      have s6 := (s5.below hb6).below bx
      have o6 := (o5.below hb6).below bx
      have t6 := own6.sl.below bx
      clear s5 o5 W5 hb6 own6 bx
      go_wp2_with fail
      generalize v.alloc (.cells #[.int .i64 KK.obj, .int .i64 KK.kind, .int .i64 KK.off] 23) = w6 at N6 W6 s6 o6 t6 ⊢
      obtain ⟨m1, em1⟩ : ∃ m1, v.heap.size = m1 := ⟨_, rfl⟩
      rw [em1] at N6 ⊢
      clear em1
      refine (refktake_txt A m c L KK RR EE hKK hRR hEE _ s6 (by omega)).mono ?_
      rintro e u ⟨A7, n7, c7, rfl, own7, hb7⟩
      have bx : Below u.heap.size u (u.alloc (.cells #[.int .i64 KK.obj, .int .i64 KK.kind, .int .i64 KK.off] 23)) := (Below.refl _ _).alloc (Nat.le_refl _) _
      have N7 := (N6.below hb7 N6.lt).below bx (N6.below hb7 N6.lt).lt
      have W7 := (W6.trans (hb7.mono W6.size)).trans (bx.mono (W6.trans (hb7.mono W6.size)).size)
      have k1 := strB ((t6.below hb7).below bx)
      have k2 := strB (own7.sl.below bx)
      have k3 := strB ((o6.below hb7).below bx)
      have k4 := strB ((s6.below hb7).below bx)
      have q0 := N7.c0
      have q1 := N7.c1
      have q2 := N7.c2
      clear N6 W6 s6 o6 t6 own7 hb7 bx N7
      go_wp2
      go_ret
      exact ⟨by first | rfl | (simp [go_sem]; done), W7⟩

end Go.Proofs.Ytkeefphkcmkhmaa
