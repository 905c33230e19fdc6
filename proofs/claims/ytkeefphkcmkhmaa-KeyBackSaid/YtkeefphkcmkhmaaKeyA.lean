/- Keys: the code's and the reference's Less and May; First and Last. -/
import Derived.Test.YtkeefphkcmkhmaaKeyPl
import Derived.Test.YtkeefphkcmkhmaaE14
import Derived.Deep.MidRow
namespace Go.Proofs.Ytkeefphkcmkhmaa
open Go Go.RowKit Go.Proofs

def Kd.v (k : Kd) : Value := .agg #[.int .i64 k.obj, .int .i64 k.kind, .int .i64 k.off]
def Kd.vs (k : Kd) : List Value := [.int .i64 k.obj, .int .i64 k.kind, .int .i64 k.off]
/-- The block that holds a key. -/
def KB (w : World) (b : Nat) (k : Kd) : Prop := ∃ t, w.heap[b]? = some (.cells #[.int .i64 k.obj, .int .i64 k.kind, .int .i64 k.off] t (0, 0))
theorem KB.new (w : World) (x y z : Int) (t : TypeId) : KB (w.alloc (.cells #[.int .i64 x, .int .i64 y, .int .i64 z] t)) w.heap.size ⟨x, y, z⟩ := ⟨t, heap_alloc_new w _⟩
theorem KB.below {w w' : World} {b : Nat} {k : Kd} (H : KB w b k) {B : Nat} (hb : Below B w w') (hB : b < B) : KB w' b k := by
  obtain ⟨t, H⟩ := H
  exact ⟨t, (hb.block b hB).trans H⟩
theorem KB.range {w : World} {b : Nat} {k : Kd} (H : KB w b k) : w.rangeAt b 0 k.vs := fun j v hv => by
  obtain ⟨t, H⟩ := H
  rw [cell_of_row _ _ _ _ _ _ H, Nat.zero_add]
  simpa [Kd.vs] using hv
theorem KB.c0 {w : World} {b : Nat} {k : Kd} (H : KB w b k) : w.cell? ⟨b, 0, none⟩ = some (.int .i64 k.obj) := H.range 0 _ rfl
theorem KB.c1 {w : World} {b : Nat} {k : Kd} (H : KB w b k) : w.cell? ⟨b, 1, none⟩ = some (.int .i64 k.kind) := H.range 1 _ rfl
theorem KB.c2 {w : World} {b : Nat} {k : Kd} (H : KB w b k) : w.cell? ⟨b, 2, none⟩ = some (.int .i64 k.off) := H.range 2 _ rfl
theorem load_kd {w : World} {b : Nat} {k : Kd} (H : KB w b k) : (loadVar 23 ⟨b, 0, none⟩).run Try.prog w = .ok k.v w :=
  run_loadVar_mid w b 0 23 k.vs _ H.range Try.underlying23 rfl (by kernel_rfl)
theorem res_c1 {fn : Func} {p : Tmp} {ty : TypeId} {ad : Addr} {v : Value} {P : Program} {w : World} {tmps : Array Value} (h : fn.results = #[.cell p ty]) (hp : tmps.getD p undef = .pointer (some ad)) (hl : (loadVar ty ad).run P w = .ok v w) :
    (results fn tmps).run P w = .ok v w := by
  have e : (results fn tmps).run P w = ((asAddr (tmps.getD p undef)).run P w).andThen fun a w₁ => (loadVar ty a).run P w₁ := by
    simp only [results, h]
    simp [Sem.run_bind, Result.andThen]
    try rfl
  rw [e, hp]
  simp [asAddr, hl]
theorem res_c2 {fn : Func} {p a : Tmp} {ty : TypeId} {ad : Addr} {v : Value} {P : Program} {w : World} {tmps : Array Value} (h : fn.results = #[.cell p ty, .tmp a]) (hp : tmps.getD p undef = .pointer (some ad)) (hl : (loadVar ty ad).run P w = .ok v w) :
    (results fn tmps).run P w = .ok (.tuple #[v, tmps.getD a undef]) w := by
  have e : (results fn tmps).run P w = ((asAddr (tmps.getD p undef)).run P w).andThen fun ad w₁ => ((loadVar ty ad).run P w₁).andThen fun v w₂ => .ok (.tuple #[v, tmps.getD a undef]) w₂ := by
    simp only [results, h]
    simp [Sem.run_bind, Result.andThen]
  rw [e, hp]
  simp [asAddr, hl]
theorem res_c3 {fn : Func} {p a b : Tmp} {ty : TypeId} {ad : Addr} {v : Value} {P : Program} {w : World} {tmps : Array Value} (h : fn.results = #[.cell p ty, .tmp a, .tmp b]) (hp : tmps.getD p undef = .pointer (some ad)) (hl : (loadVar ty ad).run P w = .ok v w) :
    (results fn tmps).run P w = .ok (.tuple #[v, tmps.getD a undef, tmps.getD b undef]) w := by
  have e : (results fn tmps).run P w = ((asAddr (tmps.getD p undef)).run P w).andThen fun ad w₁ => ((loadVar ty ad).run P w₁).andThen fun v w₂ => .ok (.tuple #[v, tmps.getD a undef, tmps.getD b undef]) w₂ := by
    simp only [results, h]
    simp [Sem.run_bind, Result.andThen]
  rw [e, hp]
  simp [asAddr, hl]

set_option maxHeartbeats 1000000 in
theorem less_any (a b : Kd) (w : World) :
    Calls Try.prog 11 #[.agg #[.int .i64 a.obj, .int .i64 a.kind, .int .i64 a.off], .agg #[.int .i64 b.obj, .int .i64 b.kind, .int .i64 b.off]] w fun e w' => e = .returned (.bool (a.less b)) ∧ Below w.heap.size w w' := by
  obtain ⟨r, hr⟩ : ∃ r, a.less b = r := ⟨_, rfl⟩
  rw [hr]
  unfold Kd.less at hr
  by_cases h1 : a.obj = b.obj
  · rw [if_pos h1] at hr
    by_cases h2 : a.kind = b.kind
    · rw [if_pos h2] at hr
      go_enter Try.func11, Try.ntmps11
      go_wp2
      go_ret
      exact ⟨by rw [← hr]; rfl, ((Below.refl _ _).alloc (Nat.le_refl _) _).alloc (by simp) _⟩
    · rw [if_neg h2] at hr
      go_enter Try.func11, Try.ntmps11
      go_wp2
      go_ret
      exact ⟨by rw [← hr]; rfl, ((Below.refl _ _).alloc (Nat.le_refl _) _).alloc (by simp) _⟩
  · rw [if_neg h1] at hr
    go_enter Try.func11, Try.ntmps11
    go_wp2
    go_ret
    exact ⟨by rw [← hr]; rfl, ((Below.refl _ _).alloc (Nat.le_refl _) _).alloc (by simp) _⟩

set_option maxHeartbeats 1000000 in
theorem refless_any (a b : Kd) (w : World) :
    Calls Try.prog 12 #[.agg #[.int .i64 a.obj, .int .i64 a.kind, .int .i64 a.off], .agg #[.int .i64 b.obj, .int .i64 b.kind, .int .i64 b.off]] w fun e w' => e = .returned (.bool (a.less b)) ∧ Below w.heap.size w w' := by
  obtain ⟨r, hr⟩ : ∃ r, a.less b = r := ⟨_, rfl⟩
  rw [hr]
  unfold Kd.less at hr
  by_cases h1 : a.obj = b.obj
  · rw [if_pos h1] at hr
    by_cases h2 : a.kind = b.kind
    · rw [if_pos h2] at hr
      go_enter Try.func12, Try.ntmps12
      go_wp2
      go_ret
      exact ⟨by rw [← hr]; rfl, ((Below.refl _ _).alloc (Nat.le_refl _) _).alloc (by simp) _⟩
    · rw [if_neg h2] at hr
      go_enter Try.func12, Try.ntmps12
      go_wp2
      go_ret
      exact ⟨by rw [← hr]; rfl, ((Below.refl _ _).alloc (Nat.le_refl _) _).alloc (by simp) _⟩
  · rw [if_neg h1] at hr
    go_enter Try.func12, Try.ntmps12
    go_wp2
    go_ret
    exact ⟨by rw [← hr]; rfl, ((Below.refl _ _).alloc (Nat.le_refl _) _).alloc (by simp) _⟩

theorem within_any (x m : Int) (w : World) :
    Calls Try.prog 24 #[.int .i64 x, .int .i64 m] w fun e w' => e = .returned (.bool (decide (0 ≤ x ∧ x ≤ m))) ∧ w = w' := by
  go_enter Try.func24, Try.ntmps24
  go_wp2
  all_goals
    go_ret
    refine ⟨congrArg (fun x => Ending.returned (Value.bool x)) ?_, rfl⟩
    first
      | exact (decide_eq_false (by omega)).symm
      | exact decide_eq_decide.2 (by omega)
      | (rw [Bool.eq_iff_iff]; simp; omega)

set_option maxHeartbeats 1000000 in
theorem may_any (k : Kd) (w : World) :
    Calls Try.prog 13 #[.agg #[.int .i64 k.obj, .int .i64 k.kind, .int .i64 k.off]] w fun e w' => e = .returned (.bool k.may) ∧ Below w.heap.size w w' := by
  obtain ⟨b, hb⟩ : ∃ b, k.may = b := ⟨_, rfl⟩
  rw [hb]
  unfold Kd.may at hb
  go_enter Try.func13, Try.ntmps13
  go_wp2_with fail
  refine (within_any k.obj 2147483647 _).mono ?_
  by_cases h1 : 0 ≤ k.obj ∧ k.obj ≤ 2147483647
  · rw [decide_eq_true h1]
    rintro e w1 ⟨rfl, rfl⟩
    go_wp2_with fail
    refine (within_any k.kind 255 _).mono ?_
    by_cases h2 : 0 ≤ k.kind ∧ k.kind ≤ 255
    · rw [decide_eq_true h2]
      rintro e w1 ⟨rfl, rfl⟩
      go_wp2_with fail
      refine (within_any k.off 2147483647 _).mono ?_
      rintro e w1 ⟨rfl, rfl⟩
      go_wp2
      go_ret
      exact ⟨by rw [← hb]; exact congrArg (fun x => Ending.returned (Value.bool x)) (by rw [Bool.eq_iff_iff]; simp; omega), (Below.refl _ _).alloc (Nat.le_refl _) _⟩
    · rw [decide_eq_false h2]
      rintro e w1 ⟨rfl, rfl⟩
      go_wp2
      go_ret
      exact ⟨by rw [← hb]; exact congrArg (fun x => Ending.returned (Value.bool x)) (decide_eq_false (by omega)).symm, (Below.refl _ _).alloc (Nat.le_refl _) _⟩
  · rw [decide_eq_false h1]
    rintro e w1 ⟨rfl, rfl⟩
    go_wp2
    go_ret
    exact ⟨by rw [← hb]; exact congrArg (fun x => Ending.returned (Value.bool x)) (decide_eq_false (by omega)).symm, (Below.refl _ _).alloc (Nat.le_refl _) _⟩

set_option maxHeartbeats 4000000 in
theorem refmay_any (k : Kd) (w : World) :
    Calls Try.prog 14 #[.agg #[.int .i64 k.obj, .int .i64 k.kind, .int .i64 k.off]] w fun e w' => e = .returned (.bool k.may) ∧ Below w.heap.size w w' := by
  obtain ⟨b, hb⟩ : ∃ b, k.may = b := ⟨_, rfl⟩
  rw [hb]
  unfold Kd.may at hb
  go_enter Try.func14, Try.ntmps14
  go_wp2
  all_goals
    go_ret
    refine ⟨?_, (Below.refl _ _).alloc (Nat.le_refl _) _⟩
    rw [← hb]
    first
      | exact congrArg (fun x => Ending.returned (Value.bool x)) (decide_eq_false (by omega)).symm
      | exact congrArg (fun x => Ending.returned (Value.bool x)) (decide_eq_decide.2 (by omega))

theorem first_any (x y : Int) (w : World) :
    Calls Try.prog 22 #[.int .i64 x, .int .i64 y] w fun e w' => e = .returned (Kd.v ⟨x, y, 0⟩) ∧ Below w.heap.size w w' := by
  go_enter Try.func22, Try.ntmps22
  go_wp2
  refine bodyPost_ret (res_c1 Try.results22 rfl (load_kd (KB.new w x y 0 _))) rfl ⟨rfl, (Below.refl _ _).alloc (Nat.le_refl _) _⟩

theorem last_any (x y : Int) (w : World) :
    Calls Try.prog 23 #[.int .i64 x, .int .i64 y] w fun e w' => e = .returned (Kd.v ⟨x, y, 2147483647⟩) ∧ Below w.heap.size w w' := by
  go_enter Try.func23, Try.ntmps23
  go_wp2
  refine bodyPost_ret (res_c1 Try.results23 rfl (load_kd (KB.new w x y 2147483647 _))) rfl ⟨rfl, (Below.refl _ _).alloc (Nat.le_refl _) _⟩

end Go.Proofs.Ytkeefphkcmkhmaa
