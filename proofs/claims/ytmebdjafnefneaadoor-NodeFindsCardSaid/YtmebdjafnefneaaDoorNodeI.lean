/- The reference's Same: of two nodes that read alike. -/
import Derived.Test.YtmebdjafnefneaaDoorNodeH
namespace Go.Proofs.YtmebdjafnefneaaDoor
open Go Go.RowKit Go.Proofs

theorem guard_ne (x y : Operand) (xs ys : Array Value) (w : World) : (eqGuard .neq 39 x y (.agg xs) (.agg ys)).run Tryd.prog w = .ok () w :=
  run_eqGuard_agg w .neq 39 x y xs ys (by kernel_rfl)
theorem guard_ne_kid (x y : Operand) (xs ys : Array Value) (w : World) : (eqGuard .neq 59 x y (.agg xs) (.agg ys)).run Tryd.prog w = .ok () w :=
  run_eqGuard_agg w .neq 59 x y xs ys (by kernel_rfl)
theorem key_refl (a : Kd) (w : World) (d : Nat) : (Op.equalIn (d + 2) 39 (.agg #[.int .i64 a.obj, .int .i64 a.kind, .int .i64 a.off]) (.agg #[.int .i64 a.obj, .int .i64 a.kind, .int .i64 a.off])).run Tryd.prog w = .ok true w := by
  rw [run_equalIn_agg w (d + 1) 39 _ _ (by kernel_rfl) (by kernel_rfl)]
  unfold Program.fieldsOf
  rw [Tryd.underlying39]
  simp [go_sem, Tryd.underlying3]
theorem ne_key (a : Kd) (w : World) : (binOp .neq 39 (.agg #[.int .i64 a.obj, .int .i64 a.kind, .int .i64 a.off]) (.agg #[.int .i64 a.obj, .int .i64 a.kind, .int .i64 a.off])).run Tryd.prog w = .ok (.bool false) w := by
  rw [run_neq_struct, key_refl a w 9998]
  rfl
theorem ne_kid (x : Kidd) (w : World) : (binOp .neq 59 (.agg #[.int .i64 x.k.obj, .int .i64 x.k.kind, .int .i64 x.k.off, .int .i64 x.a]) (.agg #[.int .i64 x.k.obj, .int .i64 x.k.kind, .int .i64 x.k.off, .int .i64 x.a])).run Tryd.prog w = .ok (.bool false) w := by
  rw [run_neq_struct, run_equalIn_agg w 9999 59 _ _ (by kernel_rfl) (by kernel_rfl)]
  unfold Program.fieldsOf
  rw [Tryd.underlying59]
  simp [go_sem, Tryd.underlying3]
theorem nboxes2 (w : World) (l : Int) (A : Option Addr) (n c : Nat) (B : Option Addr) (m d : Nat) (A2 : Option Addr) (c2 : Nat) (B2 : Option Addr) (d2 : Nat) :
    NB ((w.alloc (.cells #[.int .i64 l, .slice A n c, .slice B m d] 25)).alloc (.cells #[.int .i64 l, .slice A2 n c2, .slice B2 m d2] 25)) w.heap.size l A n c B m d ∧ NB ((w.alloc (.cells #[.int .i64 l, .slice A n c, .slice B m d] 25)).alloc (.cells #[.int .i64 l, .slice A2 n c2, .slice B2 m d2] 25)) (w.heap.size + 1) l A2 n c2 B2 m d2 ∧ Below w.heap.size w ((w.alloc (.cells #[.int .i64 l, .slice A n c, .slice B m d] 25)).alloc (.cells #[.int .i64 l, .slice A2 n c2, .slice B2 m d2] 25)) :=
  ⟨(NB.new w _ _ _ _ _ _ _ _).below ((Below.refl _ _).alloc (Nat.le_refl _) _) (by simp), NB.new2 w _ _ _ _ _ _ _ _ _, ((Below.refl _ _).alloc (Nat.le_refl _) _).alloc (by simp) _⟩
set_option maxHeartbeats 8000000 in
theorem refsame_yes (N : Nd) (A : Option Addr) (n c : Nat) (B : Option Addr) (m d : Nat) (A2 : Option Addr) (c2 : Nat) (B2 : Option Addr) (d2 : Nat) (w : World) (hI : Itms w A n c N.items) (hK : Kidl w B m d N.kids) (hI2 : Itms w A2 n c2 N.items) (hK2 : Kidl w B2 m d2 N.kids) :
    Calls Tryd.prog 17 #[.agg #[.int .i64 N.lvl, .slice A n c, .slice B m d], .agg #[.int .i64 N.lvl, .slice A2 n c2, .slice B2 m d2]] w fun e w' => e = .returned (.bool true) ∧ Below w.heap.size w w' := by
  have hg := guard_ne
  have hgk := guard_ne_kid
  obtain ⟨hb1, hb2⟩ := hI.bounds
  obtain ⟨hb3, hb4⟩ := hK.bounds
  unfold maxLen at hb2 hb4
  obtain ⟨l, hll⟩ : ∃ l, N.lvl = l := ⟨_, rfl⟩
  rw [hll]
  clear hll
  go_enter Tryd.func17, Tryd.ntmps17
  go_wp2_with fail
  obtain ⟨N1, M1, W1⟩ := nboxes2 w l A n c B m d A2 c2 B2 d2
  generalize (w.alloc (.cells #[.int .i64 l, .slice A n c, .slice B m d] 25)).alloc (.cells #[.int .i64 l, .slice A2 n c2, .slice B2 m d2] 25) = w1 at N1 M1 W1 ⊢
  have HlI := Lib.hid hI.len
  have HlK := Lib.hid hK.len
  go_loopw [5] (fun i wr => ∃ j : Nat, j ≤ n ∧ i = .int .i64 (j : Int) ∧ Below w1.heap.size w1 wr) (fun i _ => n - (intOf i).toNat)
  case atStart => exact ⟨0, Nat.zero_le _, rfl, Below.refl _ _⟩
  case round =>
    obtain ⟨j, hj, rfl, hB⟩ := hrel
    have WB := W1.trans (hB.mono W1.size)
    have Nr := N1.below hB N1.lt
    have Mr := M1.below hB M1.lt
    have n1 := Nr.c1
    have m1 := Mr.c1
    have n2 := Nr.c2
    have m2 := Mr.c2
    by_cases hlt : j < n
    · obtain ⟨g, o, B', m', d', hA, hg', a0, a1, a2, a3, as_⟩ := (hI.below WB).cell hlt
      obtain ⟨g2, o2, B2', m2', d2', hA2, hg2, e0, e1, e2, e3, es⟩ := (hI2.below WB).cell hlt
      subst hA hA2
      obtain ⟨x, hx⟩ : ∃ x, itAt N.items j = x := ⟨_, rfl⟩
      rw [hx] at a0 a1 a2 as_ e0 e1 e2 es
      clear hx
      obtain ⟨X, hX⟩ : ∃ X, (⟨x.v.toArray⟩ : ByteArray) = X := ⟨_, rfl⟩
      have s1 := fun k => strB (as_.drewN k)
      have s2 := fun k => strB (es.drewN k)
      rw [hX] at s1 s2
      have hq := ne_key x.k
      have hj0 : (0 : Int) ≤ (j : Int) := by omega
      have hj1 : (j : Int) < (n : Int) := by omega
      clear as_ es hX
      go_wp2_with fail
      go_quiet (fail)
      generalize hw5 : World.drewN wr _ = w5
      have hB5 : Below w1.heap.size w1 w5 := by rw [← hw5]; exact below_drewN hB _
      clear hw5 s1 s2
      go_wp2
      exact ⟨⟨j + 1, by omega, by go_num, hB5⟩, by simp [intOf]; omega⟩
    · obtain rfl : n = j := by omega
      go_wp2_with fail
      go_loopw [6] (fun i wr => ∃ j : Nat, j ≤ m ∧ i = .int .i64 (j : Int) ∧ Below w1.heap.size w1 wr) (fun i _ => m - (intOf i).toNat)
      case atStart => exact ⟨0, Nat.zero_le _, rfl, hB⟩
      case round =>
        clear hB WB Nr Mr n1 m1 n2 m2
        obtain ⟨j, hj, rfl, hB⟩ := hrel
        have WB := W1.trans (hB.mono W1.size)
        have Nr := N1.below hB N1.lt
        have Mr := M1.below hB M1.lt
        have n2 := Nr.c2
        have m2 := Mr.c2
        by_cases hlt : j < m
        · obtain ⟨g, o, hA, hg', a0, a1, a2, a3⟩ := (hK.below WB).cell hlt
          obtain ⟨g2, o2, hA2, hg2, e0, e1, e2, e3⟩ := (hK2.below WB).cell hlt
          subst hA hA2
          obtain ⟨x, hx⟩ : ∃ x, kidAt N.kids j = x := ⟨_, rfl⟩
          rw [hx] at a0 a1 a2 a3 e0 e1 e2 e3
          clear hx
          have hq := ne_kid x
          have hj0 : (0 : Int) ≤ (j : Int) := by omega
          have hj1 : (j : Int) < (m : Int) := by omega
          go_wp2_with fail
          go_quiet (fail)
          generalize hw5 : World.drewN wr _ = w5
          have hB5 : Below w1.heap.size w1 w5 := by rw [← hw5]; exact below_drewN hB _
          clear hw5
          go_wp2
          exact ⟨⟨j + 1, by omega, by go_num, hB5⟩, by simp [intOf]; omega⟩
        · obtain rfl : m = j := by omega
          go_wp2
          go_ret
          exact ⟨rfl, WB⟩
end Go.Proofs.YtmebdjafnefneaaDoor
