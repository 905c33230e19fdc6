/- Keys: Next, the code's and the reference's. -/
import Derived.Test.YtkeefphkcmkhmaaKeyC
import Derived.Laws.StructEq
namespace Go.Proofs.Ytkeefphkcmkhmaa
open Go Go.RowKit Go.Proofs

def Kd.nextE (k : Kd) : Int := if k.hasNext = true then 0 else 10
theorem run_guard_kd (x y : Operand) (a b : Kd) (w : World) : (eqGuard .eql 23 x y a.v b.v).run Try.prog w = .ok () w :=
  run_eqGuard_agg w .eql 23 x y _ _ (by kernel_rfl)
theorem run_eql_kd (a b : Kd) (w : World) : (binOp .eql 23 a.v b.v).run Try.prog w = .ok (.bool (a.same b)) w := by
  unfold Kd.v
  rw [run_eql_struct, run_equalIn_agg w 9999 23 _ _ (by kernel_rfl) (by kernel_rfl)]
  unfold Program.fieldsOf
  rw [Try.underlying23]
  simp [go_sem, Try.underlying3]
  unfold Kd.same
  by_cases h1 : a.obj = b.obj
  · by_cases h2 : a.kind = b.kind
    · by_cases h3 : a.off = b.off
      · simp [h1, h2, h3]
      · simp [h1, h2, h3]
    · simp [h1, h2]
  · simp [h1]

set_option maxHeartbeats 2000000 in
theorem next_none (k : Kd) (w : World) (hk : k.may = true) (h : k.obj = 2147483647 ∧ k.kind = 255 ∧ k.off = 2147483647) :
    Calls Try.prog 20 #[.agg #[.int .i64 k.obj, .int .i64 k.kind, .int .i64 k.off]] w fun e w' => e = .returned (.tuple #[k.next.v, .int .i64 k.nextE]) ∧ Below w.heap.size w w' := by
  rw [Kd.may_iff] at hk
  have Hk := Lib.hid hk
  have H := Lib.hid h
  obtain ⟨⟨y1, y2⟩, ⟨y3, y4⟩, y5, y6⟩ := hk
  clear h
  go_enter Try.func20, Try.ntmps20
  go_wp2_with fail
  have K1 : KB ((w.alloc (.cells #[.int .i64 k.obj, .int .i64 k.kind, .int .i64 k.off] 23)).alloc (.cells #[.int .i64 0, .int .i64 0, .int .i64 0] 23)) w.heap.size k := (KB.new w k.obj k.kind k.off _).below ((Below.refl _ _).alloc (Nat.le_refl _) _) (by simp)
  have R1 : KB ((w.alloc (.cells #[.int .i64 k.obj, .int .i64 k.kind, .int .i64 k.off] 23)).alloc (.cells #[.int .i64 0, .int .i64 0, .int .i64 0] 23)) (w.heap.size + 1) ⟨0, 0, 0⟩ := by
    have := KB.new (w.alloc (.cells #[.int .i64 k.obj, .int .i64 k.kind, .int .i64 k.off] 23)) 0 0 0 23
    rwa [World.size_alloc] at this
  have B1 : Below w.heap.size w ((w.alloc (.cells #[.int .i64 k.obj, .int .i64 k.kind, .int .i64 k.off] 23)).alloc (.cells #[.int .i64 0, .int .i64 0, .int .i64 0] 23)) := ((Below.refl _ _).alloc (Nat.le_refl _) _).alloc (by simp) _
  generalize (w.alloc (.cells #[.int .i64 k.obj, .int .i64 k.kind, .int .i64 k.off] 23)).alloc (.cells #[.int .i64 0, .int .i64 0, .int .i64 0] 23) = w1 at K1 R1 B1 ⊢
  have z1 : w.heap.size + 2 ≤ w1.heap.size := R1.lt
  have hS2 : ∀ w' : World, Below (w.heap.size + 2) w1 w' → w'.cell? ⟨w.heap.size, 0, none⟩ = some (.int .i64 k.obj) ∧ w'.cell? ⟨w.heap.size, 1, none⟩ = some (.int .i64 k.kind) ∧ w'.cell? ⟨w.heap.size, 2, none⟩ = some (.int .i64 k.off) ∧ Below (w.heap.size + 2) w1 w' :=
    fun w' hb => ⟨(K1.below hb (by omega)).c0, (K1.below hb (by omega)).c1, (K1.below hb (by omega)).c2, hb⟩
  have hg2 : ∀ w', (eqGuard .eql 23 (.tmp 5) (.tmp 6) (.agg #[.int .i64 k.obj, .int .i64 k.kind, .int .i64 k.off]) (Kd.v ⟨2147483647, 255, 2147483647⟩)).run Try.prog w' = .ok () w' := fun w' => run_guard_kd _ _ k _ w'
  have hq2 : ∀ w', (binOp .eql 23 (.agg #[.int .i64 k.obj, .int .i64 k.kind, .int .i64 k.off]) (Kd.v ⟨2147483647, 255, 2147483647⟩)).run Try.prog w' = .ok (.bool true) w' := fun w' => by
    have := run_eql_kd k ⟨2147483647, 255, 2147483647⟩ w'
    have h := H.out
    have hk := Hk.out
    rw [show k.same ⟨2147483647, 255, 2147483647⟩ = true by first | exact decide_eq_true (by dsimp only; omega) | exact decide_eq_false (by dsimp only; omega)] at this
    exact this
  have BD2 : Below (w.heap.size + 2) w1 w1.drew := (Below.refl _ w1).drew
  go_region_held3 (fun w' => w'.cell? ⟨w.heap.size, 0, none⟩ = some (.int .i64 k.obj) ∧ w'.cell? ⟨w.heap.size, 1, none⟩ = some (.int .i64 k.kind) ∧ w'.cell? ⟨w.heap.size, 2, none⟩ = some (.int .i64 k.off) ∧ Below (w.heap.size + 2) w1 w')
    (first | assumption | exact hS2 _ BD2 | exact hS2 _ bb2)
    (first
      | (go_at_call 23; refine (last_any 2147483647 255 _).mono ?_; rintro e w2 ⟨rfl, hb2⟩; have bb2 : Below (w.heap.size + 2) w1 w2 := BD2.trans (hb2.mono z1))
      | fail)
  have K2 := K1.below bb2 (by omega)
  have R2 := R1.below bb2 (by omega)
  have B2 := B1.trans (bb2.mono (by omega))
  have z2 : w.heap.size + 2 ≤ w2.heap.size := by have := bb2.size; omega
  clear hS2 hg2 hq2 BD2 bb2 hb2 K1 R1 B1 z1
  have q0 := K2.c0
  have q1 := K2.c1
  have q2 := K2.c2
  go_wp2_with (first
    | (refine wp_store_kd rfl (.tmp 2) (.tmp 8) rfl (w.heap.size + 1) rfl ⟨0, 0, 0⟩ _ rfl R2 ?_; intro wz Rz Tz)
    | fail)
  refine bodyPost_ret (res_c2 Try.results20 rfl (load_kd Rz)) rfl ?_
  refine ⟨?_, B2.trans ((Tz.belowOne R2.lt).mono (by omega))⟩
  have h := H.out
  have hk := Hk.out
  have e1 : k.next = ⟨0, 0, 0⟩ := by unfold Kd.next; rw [if_neg (by omega), if_neg (by omega), if_neg (by omega)]
  have e2 : k.nextE = 10 := by unfold Kd.nextE Kd.hasNext; rw [if_neg (by simp; omega)]
  rw [e1, e2]
  rfl

set_option maxHeartbeats 2000000 in
theorem next_obj (k : Kd) (w : World) (hk : k.may = true) (h : k.obj < 2147483647 ∧ k.kind = 255 ∧ k.off = 2147483647) :
    Calls Try.prog 20 #[.agg #[.int .i64 k.obj, .int .i64 k.kind, .int .i64 k.off]] w fun e w' => e = .returned (.tuple #[k.next.v, .int .i64 k.nextE]) ∧ Below w.heap.size w w' := by
  rw [Kd.may_iff] at hk
  have Hk := Lib.hid hk
  have H := Lib.hid h
  obtain ⟨⟨y1, y2⟩, ⟨y3, y4⟩, y5, y6⟩ := hk
  clear h
  go_enter Try.func20, Try.ntmps20
  go_wp2_with fail
  have K1 : KB ((w.alloc (.cells #[.int .i64 k.obj, .int .i64 k.kind, .int .i64 k.off] 23)).alloc (.cells #[.int .i64 0, .int .i64 0, .int .i64 0] 23)) w.heap.size k := (KB.new w k.obj k.kind k.off _).below ((Below.refl _ _).alloc (Nat.le_refl _) _) (by simp)
  have R1 : KB ((w.alloc (.cells #[.int .i64 k.obj, .int .i64 k.kind, .int .i64 k.off] 23)).alloc (.cells #[.int .i64 0, .int .i64 0, .int .i64 0] 23)) (w.heap.size + 1) ⟨0, 0, 0⟩ := by
    have := KB.new (w.alloc (.cells #[.int .i64 k.obj, .int .i64 k.kind, .int .i64 k.off] 23)) 0 0 0 23
    rwa [World.size_alloc] at this
  have B1 : Below w.heap.size w ((w.alloc (.cells #[.int .i64 k.obj, .int .i64 k.kind, .int .i64 k.off] 23)).alloc (.cells #[.int .i64 0, .int .i64 0, .int .i64 0] 23)) := ((Below.refl _ _).alloc (Nat.le_refl _) _).alloc (by simp) _
  generalize (w.alloc (.cells #[.int .i64 k.obj, .int .i64 k.kind, .int .i64 k.off] 23)).alloc (.cells #[.int .i64 0, .int .i64 0, .int .i64 0] 23) = w1 at K1 R1 B1 ⊢
  have z1 : w.heap.size + 2 ≤ w1.heap.size := R1.lt
  have hS2 : ∀ w' : World, Below (w.heap.size + 2) w1 w' → w'.cell? ⟨w.heap.size, 0, none⟩ = some (.int .i64 k.obj) ∧ w'.cell? ⟨w.heap.size, 1, none⟩ = some (.int .i64 k.kind) ∧ w'.cell? ⟨w.heap.size, 2, none⟩ = some (.int .i64 k.off) ∧ Below (w.heap.size + 2) w1 w' :=
    fun w' hb => ⟨(K1.below hb (by omega)).c0, (K1.below hb (by omega)).c1, (K1.below hb (by omega)).c2, hb⟩
  have hg2 : ∀ w', (eqGuard .eql 23 (.tmp 5) (.tmp 6) (.agg #[.int .i64 k.obj, .int .i64 k.kind, .int .i64 k.off]) (Kd.v ⟨2147483647, 255, 2147483647⟩)).run Try.prog w' = .ok () w' := fun w' => run_guard_kd _ _ k _ w'
  have hq2 : ∀ w', (binOp .eql 23 (.agg #[.int .i64 k.obj, .int .i64 k.kind, .int .i64 k.off]) (Kd.v ⟨2147483647, 255, 2147483647⟩)).run Try.prog w' = .ok (.bool false) w' := fun w' => by
    have := run_eql_kd k ⟨2147483647, 255, 2147483647⟩ w'
    have h := H.out
    have hk := Hk.out
    rw [show k.same ⟨2147483647, 255, 2147483647⟩ = false by first | exact decide_eq_true (by dsimp only; omega) | exact decide_eq_false (by dsimp only; omega)] at this
    exact this
  have BD2 : Below (w.heap.size + 2) w1 w1.drew := (Below.refl _ w1).drew
  go_region_held3 (fun w' => w'.cell? ⟨w.heap.size, 0, none⟩ = some (.int .i64 k.obj) ∧ w'.cell? ⟨w.heap.size, 1, none⟩ = some (.int .i64 k.kind) ∧ w'.cell? ⟨w.heap.size, 2, none⟩ = some (.int .i64 k.off) ∧ Below (w.heap.size + 2) w1 w')
    (first | assumption | exact hS2 _ BD2 | exact hS2 _ bb2)
    (first
      | (go_at_call 23; refine (last_any 2147483647 255 _).mono ?_; rintro e w2 ⟨rfl, hb2⟩; have bb2 : Below (w.heap.size + 2) w1 w2 := BD2.trans (hb2.mono z1))
      | fail)
  have K2 := K1.below bb2 (by omega)
  have R2 := R1.below bb2 (by omega)
  have B2 := B1.trans (bb2.mono (by omega))
  have z2 : w.heap.size + 2 ≤ w2.heap.size := by have := bb2.size; omega
  clear hS2 hg2 hq2 BD2 bb2 hb2 K1 R1 B1 z1
  have q0 := K2.c0
  have q1 := K2.c1
  have q2 := K2.c2
  go_wp2_with fail
  clear q0 q1 q2
  have hS3 : ∀ w' : World, Below (w.heap.size + 2) w2 w' → w'.cell? ⟨w.heap.size, 0, none⟩ = some (.int .i64 k.obj) ∧ w'.cell? ⟨w.heap.size, 1, none⟩ = some (.int .i64 k.kind) ∧ w'.cell? ⟨w.heap.size, 2, none⟩ = some (.int .i64 k.off) ∧ Below (w.heap.size + 2) w2 w' :=
    fun w' hb => ⟨(K2.below hb (by omega)).c0, (K2.below hb (by omega)).c1, (K2.below hb (by omega)).c2, hb⟩
  have hg3 : ∀ w', (eqGuard .eql 23 (.tmp 10) (.tmp 13) (.agg #[.int .i64 k.obj, .int .i64 k.kind, .int .i64 k.off]) (Kd.v ⟨k.obj, 255, 2147483647⟩)).run Try.prog w' = .ok () w' := fun w' => run_guard_kd _ _ k _ w'
  have hq3 : ∀ w', (binOp .eql 23 (.agg #[.int .i64 k.obj, .int .i64 k.kind, .int .i64 k.off]) (Kd.v ⟨k.obj, 255, 2147483647⟩)).run Try.prog w' = .ok (.bool true) w' := fun w' => by
    have := run_eql_kd k ⟨k.obj, 255, 2147483647⟩ w'
    have h := H.out
    have hk := Hk.out
    rw [show k.same ⟨k.obj, 255, 2147483647⟩ = true by first | exact decide_eq_true (by dsimp only; omega) | exact decide_eq_false (by dsimp only; omega)] at this
    exact this
  have BD3 : Below (w.heap.size + 2) w2 w2.drew := (Below.refl _ w2).drew
  go_region_held3 (fun w' => w'.cell? ⟨w.heap.size, 0, none⟩ = some (.int .i64 k.obj) ∧ w'.cell? ⟨w.heap.size, 1, none⟩ = some (.int .i64 k.kind) ∧ w'.cell? ⟨w.heap.size, 2, none⟩ = some (.int .i64 k.off) ∧ Below (w.heap.size + 2) w2 w')
    (first | assumption | exact hS3 _ BD3 | exact hS3 _ bb3)
    (first
      | (go_at_call 23; refine (last_any k.obj 255 _).mono ?_; rintro e w3 ⟨rfl, hb3⟩; have bb3 : Below (w.heap.size + 2) w2 w3 := BD3.trans (hb3.mono z2))
      | fail)
  have K3 := K2.below bb3 (by omega)
  have R3 := R2.below bb3 (by omega)
  have B3 := B2.trans (bb3.mono (by omega))
  have z3 : w.heap.size + 2 ≤ w3.heap.size := by have := bb3.size; omega
  clear hS3 hg3 hq3 BD3 bb3 hb3 K2 R2 B2 z2
  have q0 := K3.c0
  have q1 := K3.c1
  have q2 := K3.c2
  go_wp2_with fail
  refine (first_any (k.obj + 1) 0 w3).mono ?_
  rintro e w4 ⟨rfl, hb4⟩
  have R4 := R3.below hb4 (by omega)
  have B4 := B3.trans (hb4.mono B3.size)
  go_wp2_with (first
    | (refine wp_store_kd rfl (.tmp 2) (.tmp 18) rfl (w.heap.size + 1) rfl ⟨k.obj + 1, 0, 0⟩ _ rfl R4 ?_; intro wz Rz Tz)
    | fail)
  refine bodyPost_ret (res_c2 Try.results20 rfl (load_kd Rz)) rfl ?_
  refine ⟨?_, B4.trans ((Tz.belowOne R4.lt).mono (by omega))⟩
  have h := H.out
  have hk := Hk.out
  have e1 : k.next = ⟨k.obj + 1, 0, 0⟩ := by unfold Kd.next; rw [if_neg (by omega), if_neg (by omega), if_pos (by omega)]
  have e2 : k.nextE = 0 := by unfold Kd.nextE Kd.hasNext; rw [if_pos (decide_eq_true (by omega))]
  rw [e1, e2]
  rfl

set_option maxHeartbeats 2000000 in
theorem next_kind (k : Kd) (w : World) (hk : k.may = true) (h : k.kind < 255 ∧ k.off = 2147483647) :
    Calls Try.prog 20 #[.agg #[.int .i64 k.obj, .int .i64 k.kind, .int .i64 k.off]] w fun e w' => e = .returned (.tuple #[k.next.v, .int .i64 k.nextE]) ∧ Below w.heap.size w w' := by
  rw [Kd.may_iff] at hk
  have Hk := Lib.hid hk
  have H := Lib.hid h
  obtain ⟨⟨y1, y2⟩, ⟨y3, y4⟩, y5, y6⟩ := hk
  clear h
  go_enter Try.func20, Try.ntmps20
  go_wp2_with fail
  have K1 : KB ((w.alloc (.cells #[.int .i64 k.obj, .int .i64 k.kind, .int .i64 k.off] 23)).alloc (.cells #[.int .i64 0, .int .i64 0, .int .i64 0] 23)) w.heap.size k := (KB.new w k.obj k.kind k.off _).below ((Below.refl _ _).alloc (Nat.le_refl _) _) (by simp)
  have R1 : KB ((w.alloc (.cells #[.int .i64 k.obj, .int .i64 k.kind, .int .i64 k.off] 23)).alloc (.cells #[.int .i64 0, .int .i64 0, .int .i64 0] 23)) (w.heap.size + 1) ⟨0, 0, 0⟩ := by
    have := KB.new (w.alloc (.cells #[.int .i64 k.obj, .int .i64 k.kind, .int .i64 k.off] 23)) 0 0 0 23
    rwa [World.size_alloc] at this
  have B1 : Below w.heap.size w ((w.alloc (.cells #[.int .i64 k.obj, .int .i64 k.kind, .int .i64 k.off] 23)).alloc (.cells #[.int .i64 0, .int .i64 0, .int .i64 0] 23)) := ((Below.refl _ _).alloc (Nat.le_refl _) _).alloc (by simp) _
  generalize (w.alloc (.cells #[.int .i64 k.obj, .int .i64 k.kind, .int .i64 k.off] 23)).alloc (.cells #[.int .i64 0, .int .i64 0, .int .i64 0] 23) = w1 at K1 R1 B1 ⊢
  have z1 : w.heap.size + 2 ≤ w1.heap.size := R1.lt
  have hS2 : ∀ w' : World, Below (w.heap.size + 2) w1 w' → w'.cell? ⟨w.heap.size, 0, none⟩ = some (.int .i64 k.obj) ∧ w'.cell? ⟨w.heap.size, 1, none⟩ = some (.int .i64 k.kind) ∧ w'.cell? ⟨w.heap.size, 2, none⟩ = some (.int .i64 k.off) ∧ Below (w.heap.size + 2) w1 w' :=
    fun w' hb => ⟨(K1.below hb (by omega)).c0, (K1.below hb (by omega)).c1, (K1.below hb (by omega)).c2, hb⟩
  have hg2 : ∀ w', (eqGuard .eql 23 (.tmp 5) (.tmp 6) (.agg #[.int .i64 k.obj, .int .i64 k.kind, .int .i64 k.off]) (Kd.v ⟨2147483647, 255, 2147483647⟩)).run Try.prog w' = .ok () w' := fun w' => run_guard_kd _ _ k _ w'
  have hq2 : ∀ w', (binOp .eql 23 (.agg #[.int .i64 k.obj, .int .i64 k.kind, .int .i64 k.off]) (Kd.v ⟨2147483647, 255, 2147483647⟩)).run Try.prog w' = .ok (.bool false) w' := fun w' => by
    have := run_eql_kd k ⟨2147483647, 255, 2147483647⟩ w'
    have h := H.out
    have hk := Hk.out
    rw [show k.same ⟨2147483647, 255, 2147483647⟩ = false by first | exact decide_eq_true (by dsimp only; omega) | exact decide_eq_false (by dsimp only; omega)] at this
    exact this
  have BD2 : Below (w.heap.size + 2) w1 w1.drew := (Below.refl _ w1).drew
  go_region_held3 (fun w' => w'.cell? ⟨w.heap.size, 0, none⟩ = some (.int .i64 k.obj) ∧ w'.cell? ⟨w.heap.size, 1, none⟩ = some (.int .i64 k.kind) ∧ w'.cell? ⟨w.heap.size, 2, none⟩ = some (.int .i64 k.off) ∧ Below (w.heap.size + 2) w1 w')
    (first | assumption | exact hS2 _ BD2 | exact hS2 _ bb2)
    (first
      | (go_at_call 23; refine (last_any 2147483647 255 _).mono ?_; rintro e w2 ⟨rfl, hb2⟩; have bb2 : Below (w.heap.size + 2) w1 w2 := BD2.trans (hb2.mono z1))
      | fail)
  have K2 := K1.below bb2 (by omega)
  have R2 := R1.below bb2 (by omega)
  have B2 := B1.trans (bb2.mono (by omega))
  have z2 : w.heap.size + 2 ≤ w2.heap.size := by have := bb2.size; omega
  clear hS2 hg2 hq2 BD2 bb2 hb2 K1 R1 B1 z1
  have q0 := K2.c0
  have q1 := K2.c1
  have q2 := K2.c2
  go_wp2_with fail
  clear q0 q1 q2
  have hS3 : ∀ w' : World, Below (w.heap.size + 2) w2 w' → w'.cell? ⟨w.heap.size, 0, none⟩ = some (.int .i64 k.obj) ∧ w'.cell? ⟨w.heap.size, 1, none⟩ = some (.int .i64 k.kind) ∧ w'.cell? ⟨w.heap.size, 2, none⟩ = some (.int .i64 k.off) ∧ Below (w.heap.size + 2) w2 w' :=
    fun w' hb => ⟨(K2.below hb (by omega)).c0, (K2.below hb (by omega)).c1, (K2.below hb (by omega)).c2, hb⟩
  have hg3 : ∀ w', (eqGuard .eql 23 (.tmp 10) (.tmp 13) (.agg #[.int .i64 k.obj, .int .i64 k.kind, .int .i64 k.off]) (Kd.v ⟨k.obj, 255, 2147483647⟩)).run Try.prog w' = .ok () w' := fun w' => run_guard_kd _ _ k _ w'
  have hq3 : ∀ w', (binOp .eql 23 (.agg #[.int .i64 k.obj, .int .i64 k.kind, .int .i64 k.off]) (Kd.v ⟨k.obj, 255, 2147483647⟩)).run Try.prog w' = .ok (.bool false) w' := fun w' => by
    have := run_eql_kd k ⟨k.obj, 255, 2147483647⟩ w'
    have h := H.out
    have hk := Hk.out
    rw [show k.same ⟨k.obj, 255, 2147483647⟩ = false by first | exact decide_eq_true (by dsimp only; omega) | exact decide_eq_false (by dsimp only; omega)] at this
    exact this
  have BD3 : Below (w.heap.size + 2) w2 w2.drew := (Below.refl _ w2).drew
  go_region_held3 (fun w' => w'.cell? ⟨w.heap.size, 0, none⟩ = some (.int .i64 k.obj) ∧ w'.cell? ⟨w.heap.size, 1, none⟩ = some (.int .i64 k.kind) ∧ w'.cell? ⟨w.heap.size, 2, none⟩ = some (.int .i64 k.off) ∧ Below (w.heap.size + 2) w2 w')
    (first | assumption | exact hS3 _ BD3 | exact hS3 _ bb3)
    (first
      | (go_at_call 23; refine (last_any k.obj 255 _).mono ?_; rintro e w3 ⟨rfl, hb3⟩; have bb3 : Below (w.heap.size + 2) w2 w3 := BD3.trans (hb3.mono z2))
      | fail)
  have K3 := K2.below bb3 (by omega)
  have R3 := R2.below bb3 (by omega)
  have B3 := B2.trans (bb3.mono (by omega))
  have z3 : w.heap.size + 2 ≤ w3.heap.size := by have := bb3.size; omega
  clear hS3 hg3 hq3 BD3 bb3 hb3 K2 R2 B2 z2
  have q0 := K3.c0
  have q1 := K3.c1
  have q2 := K3.c2
  go_wp2_with fail
  clear q0 q1 q2
  have hS4 : ∀ w' : World, Below (w.heap.size + 2) w3 w' → w'.cell? ⟨w.heap.size, 0, none⟩ = some (.int .i64 k.obj) ∧ w'.cell? ⟨w.heap.size, 1, none⟩ = some (.int .i64 k.kind) ∧ w'.cell? ⟨w.heap.size, 2, none⟩ = some (.int .i64 k.off) ∧ Below (w.heap.size + 2) w3 w' :=
    fun w' hb => ⟨(K3.below hb (by omega)).c0, (K3.below hb (by omega)).c1, (K3.below hb (by omega)).c2, hb⟩
  have hg4 : ∀ w', (eqGuard .eql 23 (.tmp 20) (.tmp 25) (.agg #[.int .i64 k.obj, .int .i64 k.kind, .int .i64 k.off]) (Kd.v ⟨k.obj, k.kind, 2147483647⟩)).run Try.prog w' = .ok () w' := fun w' => run_guard_kd _ _ k _ w'
  have hq4 : ∀ w', (binOp .eql 23 (.agg #[.int .i64 k.obj, .int .i64 k.kind, .int .i64 k.off]) (Kd.v ⟨k.obj, k.kind, 2147483647⟩)).run Try.prog w' = .ok (.bool true) w' := fun w' => by
    have := run_eql_kd k ⟨k.obj, k.kind, 2147483647⟩ w'
    have h := H.out
    have hk := Hk.out
    rw [show k.same ⟨k.obj, k.kind, 2147483647⟩ = true by first | exact decide_eq_true (by dsimp only; omega) | exact decide_eq_false (by dsimp only; omega)] at this
    exact this
  have BD4 : Below (w.heap.size + 2) w3 w3.drew := (Below.refl _ w3).drew
  go_region_held3 (fun w' => w'.cell? ⟨w.heap.size, 0, none⟩ = some (.int .i64 k.obj) ∧ w'.cell? ⟨w.heap.size, 1, none⟩ = some (.int .i64 k.kind) ∧ w'.cell? ⟨w.heap.size, 2, none⟩ = some (.int .i64 k.off) ∧ Below (w.heap.size + 2) w3 w')
    (first | assumption | exact hS4 _ BD4 | exact hS4 _ bb4)
    (first
      | (go_at_call 23; refine (last_any k.obj k.kind _).mono ?_; rintro e w4 ⟨rfl, hb4⟩; have bb4 : Below (w.heap.size + 2) w3 w4 := BD4.trans (hb4.mono z3))
      | fail)
  have K4 := K3.below bb4 (by omega)
  have R4 := R3.below bb4 (by omega)
  have B4 := B3.trans (bb4.mono (by omega))
  have z4 : w.heap.size + 2 ≤ w4.heap.size := by have := bb4.size; omega
  clear hS4 hg4 hq4 BD4 bb4 hb4 K3 R3 B3 z3
  have q0 := K4.c0
  have q1 := K4.c1
  have q2 := K4.c2
  go_wp2_with fail
  refine (first_any k.obj (k.kind + 1) w4).mono ?_
  rintro e w5 ⟨rfl, hb5⟩
  have R5 := R4.below hb5 (by omega)
  have B5 := B4.trans (hb5.mono B4.size)
  go_wp2_with (first
    | (refine wp_store_kd rfl (.tmp 2) (.tmp 32) rfl (w.heap.size + 1) rfl ⟨k.obj, k.kind + 1, 0⟩ _ rfl R5 ?_; intro wz Rz Tz)
    | fail)
  refine bodyPost_ret (res_c2 Try.results20 rfl (load_kd Rz)) rfl ?_
  refine ⟨?_, B5.trans ((Tz.belowOne R5.lt).mono (by omega))⟩
  have h := H.out
  have hk := Hk.out
  have e1 : k.next = ⟨k.obj, k.kind + 1, 0⟩ := by unfold Kd.next; rw [if_neg (by omega), if_pos (by omega)]
  have e2 : k.nextE = 0 := by unfold Kd.nextE Kd.hasNext; rw [if_pos (decide_eq_true (by omega))]
  rw [e1, e2]
  rfl

set_option maxHeartbeats 2000000 in
theorem next_off (k : Kd) (w : World) (hk : k.may = true) (h : k.off < 2147483647) :
    Calls Try.prog 20 #[.agg #[.int .i64 k.obj, .int .i64 k.kind, .int .i64 k.off]] w fun e w' => e = .returned (.tuple #[k.next.v, .int .i64 k.nextE]) ∧ Below w.heap.size w w' := by
  rw [Kd.may_iff] at hk
  have Hk := Lib.hid hk
  have H := Lib.hid h
  obtain ⟨⟨y1, y2⟩, ⟨y3, y4⟩, y5, y6⟩ := hk
  clear h
  go_enter Try.func20, Try.ntmps20
  go_wp2_with fail
  have K1 : KB ((w.alloc (.cells #[.int .i64 k.obj, .int .i64 k.kind, .int .i64 k.off] 23)).alloc (.cells #[.int .i64 0, .int .i64 0, .int .i64 0] 23)) w.heap.size k := (KB.new w k.obj k.kind k.off _).below ((Below.refl _ _).alloc (Nat.le_refl _) _) (by simp)
  have R1 : KB ((w.alloc (.cells #[.int .i64 k.obj, .int .i64 k.kind, .int .i64 k.off] 23)).alloc (.cells #[.int .i64 0, .int .i64 0, .int .i64 0] 23)) (w.heap.size + 1) ⟨0, 0, 0⟩ := by
    have := KB.new (w.alloc (.cells #[.int .i64 k.obj, .int .i64 k.kind, .int .i64 k.off] 23)) 0 0 0 23
    rwa [World.size_alloc] at this
  have B1 : Below w.heap.size w ((w.alloc (.cells #[.int .i64 k.obj, .int .i64 k.kind, .int .i64 k.off] 23)).alloc (.cells #[.int .i64 0, .int .i64 0, .int .i64 0] 23)) := ((Below.refl _ _).alloc (Nat.le_refl _) _).alloc (by simp) _
  generalize (w.alloc (.cells #[.int .i64 k.obj, .int .i64 k.kind, .int .i64 k.off] 23)).alloc (.cells #[.int .i64 0, .int .i64 0, .int .i64 0] 23) = w1 at K1 R1 B1 ⊢
  have z1 : w.heap.size + 2 ≤ w1.heap.size := R1.lt
  have hS2 : ∀ w' : World, Below (w.heap.size + 2) w1 w' → w'.cell? ⟨w.heap.size, 0, none⟩ = some (.int .i64 k.obj) ∧ w'.cell? ⟨w.heap.size, 1, none⟩ = some (.int .i64 k.kind) ∧ w'.cell? ⟨w.heap.size, 2, none⟩ = some (.int .i64 k.off) ∧ Below (w.heap.size + 2) w1 w' :=
    fun w' hb => ⟨(K1.below hb (by omega)).c0, (K1.below hb (by omega)).c1, (K1.below hb (by omega)).c2, hb⟩
  have hg2 : ∀ w', (eqGuard .eql 23 (.tmp 5) (.tmp 6) (.agg #[.int .i64 k.obj, .int .i64 k.kind, .int .i64 k.off]) (Kd.v ⟨2147483647, 255, 2147483647⟩)).run Try.prog w' = .ok () w' := fun w' => run_guard_kd _ _ k _ w'
  have hq2 : ∀ w', (binOp .eql 23 (.agg #[.int .i64 k.obj, .int .i64 k.kind, .int .i64 k.off]) (Kd.v ⟨2147483647, 255, 2147483647⟩)).run Try.prog w' = .ok (.bool false) w' := fun w' => by
    have := run_eql_kd k ⟨2147483647, 255, 2147483647⟩ w'
    have h := H.out
    have hk := Hk.out
    rw [show k.same ⟨2147483647, 255, 2147483647⟩ = false by first | exact decide_eq_true (by dsimp only; omega) | exact decide_eq_false (by dsimp only; omega)] at this
    exact this
  have BD2 : Below (w.heap.size + 2) w1 w1.drew := (Below.refl _ w1).drew
  go_region_held3 (fun w' => w'.cell? ⟨w.heap.size, 0, none⟩ = some (.int .i64 k.obj) ∧ w'.cell? ⟨w.heap.size, 1, none⟩ = some (.int .i64 k.kind) ∧ w'.cell? ⟨w.heap.size, 2, none⟩ = some (.int .i64 k.off) ∧ Below (w.heap.size + 2) w1 w')
    (first | assumption | exact hS2 _ BD2 | exact hS2 _ bb2)
    (first
      | (go_at_call 23; refine (last_any 2147483647 255 _).mono ?_; rintro e w2 ⟨rfl, hb2⟩; have bb2 : Below (w.heap.size + 2) w1 w2 := BD2.trans (hb2.mono z1))
      | fail)
  have K2 := K1.below bb2 (by omega)
  have R2 := R1.below bb2 (by omega)
  have B2 := B1.trans (bb2.mono (by omega))
  have z2 : w.heap.size + 2 ≤ w2.heap.size := by have := bb2.size; omega
  clear hS2 hg2 hq2 BD2 bb2 hb2 K1 R1 B1 z1
  have q0 := K2.c0
  have q1 := K2.c1
  have q2 := K2.c2
  go_wp2_with fail
  clear q0 q1 q2
  have hS3 : ∀ w' : World, Below (w.heap.size + 2) w2 w' → w'.cell? ⟨w.heap.size, 0, none⟩ = some (.int .i64 k.obj) ∧ w'.cell? ⟨w.heap.size, 1, none⟩ = some (.int .i64 k.kind) ∧ w'.cell? ⟨w.heap.size, 2, none⟩ = some (.int .i64 k.off) ∧ Below (w.heap.size + 2) w2 w' :=
    fun w' hb => ⟨(K2.below hb (by omega)).c0, (K2.below hb (by omega)).c1, (K2.below hb (by omega)).c2, hb⟩
  have hg3 : ∀ w', (eqGuard .eql 23 (.tmp 10) (.tmp 13) (.agg #[.int .i64 k.obj, .int .i64 k.kind, .int .i64 k.off]) (Kd.v ⟨k.obj, 255, 2147483647⟩)).run Try.prog w' = .ok () w' := fun w' => run_guard_kd _ _ k _ w'
  have hq3 : ∀ w', (binOp .eql 23 (.agg #[.int .i64 k.obj, .int .i64 k.kind, .int .i64 k.off]) (Kd.v ⟨k.obj, 255, 2147483647⟩)).run Try.prog w' = .ok (.bool false) w' := fun w' => by
    have := run_eql_kd k ⟨k.obj, 255, 2147483647⟩ w'
    have h := H.out
    have hk := Hk.out
    rw [show k.same ⟨k.obj, 255, 2147483647⟩ = false by first | exact decide_eq_true (by dsimp only; omega) | exact decide_eq_false (by dsimp only; omega)] at this
    exact this
  have BD3 : Below (w.heap.size + 2) w2 w2.drew := (Below.refl _ w2).drew
  go_region_held3 (fun w' => w'.cell? ⟨w.heap.size, 0, none⟩ = some (.int .i64 k.obj) ∧ w'.cell? ⟨w.heap.size, 1, none⟩ = some (.int .i64 k.kind) ∧ w'.cell? ⟨w.heap.size, 2, none⟩ = some (.int .i64 k.off) ∧ Below (w.heap.size + 2) w2 w')
    (first | assumption | exact hS3 _ BD3 | exact hS3 _ bb3)
    (first
      | (go_at_call 23; refine (last_any k.obj 255 _).mono ?_; rintro e w3 ⟨rfl, hb3⟩; have bb3 : Below (w.heap.size + 2) w2 w3 := BD3.trans (hb3.mono z2))
      | fail)
  have K3 := K2.below bb3 (by omega)
  have R3 := R2.below bb3 (by omega)
  have B3 := B2.trans (bb3.mono (by omega))
  have z3 : w.heap.size + 2 ≤ w3.heap.size := by have := bb3.size; omega
  clear hS3 hg3 hq3 BD3 bb3 hb3 K2 R2 B2 z2
  have q0 := K3.c0
  have q1 := K3.c1
  have q2 := K3.c2
  go_wp2_with fail
  clear q0 q1 q2
  have hS4 : ∀ w' : World, Below (w.heap.size + 2) w3 w' → w'.cell? ⟨w.heap.size, 0, none⟩ = some (.int .i64 k.obj) ∧ w'.cell? ⟨w.heap.size, 1, none⟩ = some (.int .i64 k.kind) ∧ w'.cell? ⟨w.heap.size, 2, none⟩ = some (.int .i64 k.off) ∧ Below (w.heap.size + 2) w3 w' :=
    fun w' hb => ⟨(K3.below hb (by omega)).c0, (K3.below hb (by omega)).c1, (K3.below hb (by omega)).c2, hb⟩
  have hg4 : ∀ w', (eqGuard .eql 23 (.tmp 20) (.tmp 25) (.agg #[.int .i64 k.obj, .int .i64 k.kind, .int .i64 k.off]) (Kd.v ⟨k.obj, k.kind, 2147483647⟩)).run Try.prog w' = .ok () w' := fun w' => run_guard_kd _ _ k _ w'
  have hq4 : ∀ w', (binOp .eql 23 (.agg #[.int .i64 k.obj, .int .i64 k.kind, .int .i64 k.off]) (Kd.v ⟨k.obj, k.kind, 2147483647⟩)).run Try.prog w' = .ok (.bool false) w' := fun w' => by
    have := run_eql_kd k ⟨k.obj, k.kind, 2147483647⟩ w'
    have h := H.out
    have hk := Hk.out
    rw [show k.same ⟨k.obj, k.kind, 2147483647⟩ = false by first | exact decide_eq_true (by dsimp only; omega) | exact decide_eq_false (by dsimp only; omega)] at this
    exact this
  have BD4 : Below (w.heap.size + 2) w3 w3.drew := (Below.refl _ w3).drew
  go_region_held3 (fun w' => w'.cell? ⟨w.heap.size, 0, none⟩ = some (.int .i64 k.obj) ∧ w'.cell? ⟨w.heap.size, 1, none⟩ = some (.int .i64 k.kind) ∧ w'.cell? ⟨w.heap.size, 2, none⟩ = some (.int .i64 k.off) ∧ Below (w.heap.size + 2) w3 w')
    (first | assumption | exact hS4 _ BD4 | exact hS4 _ bb4)
    (first
      | (go_at_call 23; refine (last_any k.obj k.kind _).mono ?_; rintro e w4 ⟨rfl, hb4⟩; have bb4 : Below (w.heap.size + 2) w3 w4 := BD4.trans (hb4.mono z3))
      | fail)
  have K4 := K3.below bb4 (by omega)
  have R4 := R3.below bb4 (by omega)
  have B4 := B3.trans (bb4.mono (by omega))
  have z4 : w.heap.size + 2 ≤ w4.heap.size := by have := bb4.size; omega
  clear hS4 hg4 hq4 BD4 bb4 hb4 K3 R3 B3 z3
  have q0 := K4.c0
  have q1 := K4.c1
  have q2 := K4.c2
  have f2 := K4.fz 2
  have K5 := K4.set2 (k.off + 1)
  have R5 := R4.keep (w' := w4.setCell ⟨w.heap.size, 2, none⟩ (.int .i64 (k.off + 1))) (Below.heap_setCell _ _ _ _ (by show w.heap.size + 1 ≠ w.heap.size; omega))
  have B5 := B4.setCell (p := ⟨w.heap.size, 2, none⟩) (Nat.le_refl w.heap.size) (.int .i64 (k.off + 1))
  go_wp2_with (first
    | (refine wp_load_kd rfl (.tmp 1) rfl w.heap.size rfl ⟨k.obj, k.kind, k.off + 1⟩ K5 ?_)
    | (refine wp_store_kd rfl (.tmp 2) (.tmp 37) rfl (w.heap.size + 1) rfl ⟨k.obj, k.kind, k.off + 1⟩ _ rfl R5 ?_; intro wz Rz Tz)
    | fail)
  refine bodyPost_ret (res_c2 Try.results20 rfl (load_kd Rz)) rfl ?_
  refine ⟨?_, B5.trans ((Tz.belowOne R5.lt).mono (by omega))⟩
  have h := H.out
  have hk := Hk.out
  have e1 : k.next = ⟨k.obj, k.kind, k.off + 1⟩ := by unfold Kd.next; rw [if_pos (by omega)]
  have e2 : k.nextE = 0 := by unfold Kd.nextE Kd.hasNext; rw [if_pos (decide_eq_true (by omega))]
  rw [e1, e2]
  rfl

theorem next_any (k : Kd) (w : World) (hk : k.may = true) :
    Calls Try.prog 20 #[.agg #[.int .i64 k.obj, .int .i64 k.kind, .int .i64 k.off]] w fun e w' => e = .returned (.tuple #[k.next.v, .int .i64 k.nextE]) ∧ Below w.heap.size w w' := by
  have hk' := (Kd.may_iff k).1 hk
  by_cases h1 : k.off < 2147483647
  · exact next_off k w hk h1
  · by_cases h2 : k.kind < 255
    · exact next_kind k w hk ⟨h2, by omega⟩
    · by_cases h3 : k.obj < 2147483647
      · exact next_obj k w hk ⟨h3, by omega, by omega⟩
      · exact next_none k w hk ⟨by omega, by omega, by omega⟩

end Go.Proofs.Ytkeefphkcmkhmaa
