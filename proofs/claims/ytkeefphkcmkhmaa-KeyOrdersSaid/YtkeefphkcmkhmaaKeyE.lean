/- Keys: the reference's Next; the laws' shown and few. -/
import Derived.Test.YtkeefphkcmkhmaaKeyD
namespace Go.Proofs.Ytkeefphkcmkhmaa
open Go Go.RowKit Go.Proofs

theorem KB.new2 (w : World) (o : Obj) (x y z : Int) (t : TypeId) : KB ((w.alloc o).alloc (.cells #[.int .i64 x, .int .i64 y, .int .i64 z] t)) (w.heap.size + 1) ⟨x, y, z⟩ := by
  have := KB.new (w.alloc o) x y z t
  rwa [World.size_alloc] at this

set_option maxHeartbeats 2000000 in
theorem refnext_off (k : Kd) (w : World) (hk : k.may = true) (h : k.off < 2147483647) :
    Calls Try.prog 21 #[.agg #[.int .i64 k.obj, .int .i64 k.kind, .int .i64 k.off]] w fun e w' => e = .returned (.tuple #[k.next.v, .int .i64 k.nextE]) ∧ Below w.heap.size w w' := by
  rw [Kd.may_iff] at hk
  have H := Lib.hid h
  obtain ⟨⟨y1, y2⟩, ⟨y3, y4⟩, y5, y6⟩ := hk
  go_enter Try.func21, Try.ntmps21
  go_wp2
  refine bodyPost_ret (res_c2 Try.results21 rfl (load_kd (KB.new2 w _ (k.obj) (k.kind) (k.off + 1) _))) rfl ?_
  refine ⟨?_, ((Below.refl _ _).alloc (Nat.le_refl _) _).alloc (by simp) _⟩
  have h := H.out
  have e1 : k.next = ⟨k.obj, k.kind, k.off + 1⟩ := by unfold Kd.next; rw [if_pos (by omega)]
  have e2 : k.nextE = 0 := by unfold Kd.nextE Kd.hasNext; rw [if_pos (decide_eq_true (by omega))]
  rw [e1, e2]
  rfl

set_option maxHeartbeats 2000000 in
theorem refnext_kind (k : Kd) (w : World) (hk : k.may = true) (h : ¬ k.off < 2147483647 ∧ k.kind < 255) :
    Calls Try.prog 21 #[.agg #[.int .i64 k.obj, .int .i64 k.kind, .int .i64 k.off]] w fun e w' => e = .returned (.tuple #[k.next.v, .int .i64 k.nextE]) ∧ Below w.heap.size w w' := by
  rw [Kd.may_iff] at hk
  have H := Lib.hid h
  obtain ⟨⟨y1, y2⟩, ⟨y3, y4⟩, y5, y6⟩ := hk
  go_enter Try.func21, Try.ntmps21
  go_wp2
  refine bodyPost_ret (res_c2 Try.results21 rfl (load_kd (KB.new2 w _ (k.obj) (k.kind + 1) (0) _))) rfl ?_
  refine ⟨?_, ((Below.refl _ _).alloc (Nat.le_refl _) _).alloc (by simp) _⟩
  have h := H.out
  have e1 : k.next = ⟨k.obj, k.kind + 1, 0⟩ := by unfold Kd.next; rw [if_neg (by omega), if_pos (by omega)]
  have e2 : k.nextE = 0 := by unfold Kd.nextE Kd.hasNext; rw [if_pos (decide_eq_true (by omega))]
  rw [e1, e2]
  rfl

set_option maxHeartbeats 2000000 in
theorem refnext_obj (k : Kd) (w : World) (hk : k.may = true) (h : ¬ k.off < 2147483647 ∧ ¬ k.kind < 255 ∧ k.obj < 2147483647) :
    Calls Try.prog 21 #[.agg #[.int .i64 k.obj, .int .i64 k.kind, .int .i64 k.off]] w fun e w' => e = .returned (.tuple #[k.next.v, .int .i64 k.nextE]) ∧ Below w.heap.size w w' := by
  rw [Kd.may_iff] at hk
  have H := Lib.hid h
  obtain ⟨⟨y1, y2⟩, ⟨y3, y4⟩, y5, y6⟩ := hk
  go_enter Try.func21, Try.ntmps21
  go_wp2
  refine bodyPost_ret (res_c2 Try.results21 rfl (load_kd (KB.new2 w _ (k.obj + 1) (0) (0) _))) rfl ?_
  refine ⟨?_, ((Below.refl _ _).alloc (Nat.le_refl _) _).alloc (by simp) _⟩
  have h := H.out
  have e1 : k.next = ⟨k.obj + 1, 0, 0⟩ := by unfold Kd.next; rw [if_neg (by omega), if_neg (by omega), if_pos (by omega)]
  have e2 : k.nextE = 0 := by unfold Kd.nextE Kd.hasNext; rw [if_pos (decide_eq_true (by omega))]
  rw [e1, e2]
  rfl

set_option maxHeartbeats 2000000 in
theorem refnext_none (k : Kd) (w : World) (hk : k.may = true) (h : ¬ k.off < 2147483647 ∧ ¬ k.kind < 255 ∧ ¬ k.obj < 2147483647) :
    Calls Try.prog 21 #[.agg #[.int .i64 k.obj, .int .i64 k.kind, .int .i64 k.off]] w fun e w' => e = .returned (.tuple #[k.next.v, .int .i64 k.nextE]) ∧ Below w.heap.size w w' := by
  rw [Kd.may_iff] at hk
  have H := Lib.hid h
  obtain ⟨⟨y1, y2⟩, ⟨y3, y4⟩, y5, y6⟩ := hk
  go_enter Try.func21, Try.ntmps21
  go_wp2
  refine bodyPost_ret (res_c2 Try.results21 rfl (load_kd (KB.new2 w _ (0) (0) (0) _))) rfl ?_
  refine ⟨?_, ((Below.refl _ _).alloc (Nat.le_refl _) _).alloc (by simp) _⟩
  have h := H.out
  have e1 : k.next = ⟨0, 0, 0⟩ := by unfold Kd.next; rw [if_neg (by omega), if_neg (by omega), if_neg (by omega)]
  have e2 : k.nextE = 10 := by unfold Kd.nextE Kd.hasNext; rw [if_neg (by simp; omega)]
  rw [e1, e2]
  rfl

theorem refnext_any (k : Kd) (w : World) (hk : k.may = true) :
    Calls Try.prog 21 #[.agg #[.int .i64 k.obj, .int .i64 k.kind, .int .i64 k.off]] w fun e w' => e = .returned (.tuple #[k.next.v, .int .i64 k.nextE]) ∧ Below w.heap.size w w' := by
  by_cases h1 : k.off < 2147483647
  · exact refnext_off k w hk h1
  · by_cases h2 : k.kind < 255
    · exact refnext_kind k w hk ⟨h1, h2⟩
    · by_cases h3 : k.obj < 2147483647
      · exact refnext_obj k w hk ⟨h1, h2, h3⟩
      · exact refnext_none k w hk ⟨h1, h2, h3⟩

end Go.Proofs.Ytkeefphkcmkhmaa
