/- Keys: the code's and the reference's Less and May; First and Last. Keys: Put, the code's and the reference's. Keys: Take, the code's and the reference's. Keys: contracts with the numbers written out; boxes; what is laid and taken, as texts. Nothing here speaks of the laws of layer 5. The reference's may: whether keys may be, and rise. Keys: Next, the code's and the reference's. Keys: the reference's Next; the laws' shown and few. The reference's Next, of any key. -/
import Derived.Test.YtgedmodnkiijkaaGreatDoorFn2
import Derived.Test.YtgedmodnkiijkaaGreatDoorFn3
import Derived.Test.YtgedmodnkiijkaaGreatDoorFn4
import Derived.Deep.MidRow
import Derived.Deep.RegionHeld3
import Derived.Laws.StructEq
namespace Go.Proofs.YtgedmodnkiijkaaGreatDoor
open Go Go.RowKit Go.Proofs

def Kd.v (k : Kd) : Value := .agg #[.int .i64 k.obj, .int .i64 k.kind, .int .i64 k.off]
def Kd.vs (k : Kd) : List Value := [.int .i64 k.obj, .int .i64 k.kind, .int .i64 k.off]
/-- The block that holds a key. -/
def KB (w : World) (b : Nat) (k : Kd) : Prop := ∃ t, w.heap[b]? = some (.cells #[.int .i64 k.obj, .int .i64 k.kind, .int .i64 k.off] t (0, 0))
theorem KB.new (w : World) (x y z : Int) (t : TypeId) : KB (w.alloc (.cells #[.int .i64 x, .int .i64 y, .int .i64 z] t)) w.heap.size ⟨x, y, z⟩ := ⟨t, heap_alloc_new w _⟩
theorem KB.below {w w' : World} {b : Nat} {k : Kd} (H : KB w b k) {B : Nat} (hb : Below B w w') (hB : b < B) : KB w' b k := by
  obtain ⟨t, H⟩ := H
  exact ⟨t, (hb.block b hB).trans H⟩
theorem KB.range {w : World} {b : Nat} {k : Kd} (H : KB w b k) : w.rangeAt b 0 k.vs := fun j v hv => by
  obtain ⟨t, H⟩ := H
  rw [cell_of_row _ _ _ _ _ _ H, Nat.zero_add]
  simpa [Kd.vs] using hv
theorem KB.c0 {w : World} {b : Nat} {k : Kd} (H : KB w b k) : w.cell? ⟨b, 0, none⟩ = some (.int .i64 k.obj) := H.range 0 _ rfl
theorem KB.c1 {w : World} {b : Nat} {k : Kd} (H : KB w b k) : w.cell? ⟨b, 1, none⟩ = some (.int .i64 k.kind) := H.range 1 _ rfl
theorem KB.c2 {w : World} {b : Nat} {k : Kd} (H : KB w b k) : w.cell? ⟨b, 2, none⟩ = some (.int .i64 k.off) := H.range 2 _ rfl
theorem load_kd {w : World} {b : Nat} {k : Kd} (H : KB w b k) : (loadVar 39 ⟨b, 0, none⟩).run Tryz.prog w = .ok k.v w :=
  run_loadVar_mid w b 0 39 k.vs _ H.range Tryz.underlying39 rfl (by kernel_rfl)
theorem res_c1 {fn : Func} {p : Tmp} {ty : TypeId} {ad : Addr} {v : Value} {P : Program} {w : World} {tmps : Array Value} (h : fn.results = #[.cell p ty]) (hp : tmps.getD p undef = .pointer (some ad)) (hl : (loadVar ty ad).run P w = .ok v w) :
    (results fn tmps).run P w = .ok v w := by
  have e : (results fn tmps).run P w = ((asAddr (tmps.getD p undef)).run P w).andThen fun a w₁ => (loadVar ty a).run P w₁ := by
    simp only [results, h]
    simp [Sem.run_bind, Result.andThen]
    try rfl
  rw [e, hp]
  simp [asAddr, hl]
theorem res_c2 {fn : Func} {p a : Tmp} {ty : TypeId} {ad : Addr} {v : Value} {P : Program} {w : World} {tmps : Array Value} (h : fn.results = #[.cell p ty, .tmp a]) (hp : tmps.getD p undef = .pointer (some ad)) (hl : (loadVar ty ad).run P w = .ok v w) :
    (results fn tmps).run P w = .ok (.tuple #[v, tmps.getD a undef]) w := by
  have e : (results fn tmps).run P w = ((asAddr (tmps.getD p undef)).run P w).andThen fun ad w₁ => ((loadVar ty ad).run P w₁).andThen fun v w₂ => .ok (.tuple #[v, tmps.getD a undef]) w₂ := by
    simp only [results, h]
    simp [Sem.run_bind, Result.andThen]
  rw [e, hp]
  simp [asAddr, hl]
theorem res_c3 {fn : Func} {p a b : Tmp} {ty : TypeId} {ad : Addr} {v : Value} {P : Program} {w : World} {tmps : Array Value} (h : fn.results = #[.cell p ty, .tmp a, .tmp b]) (hp : tmps.getD p undef = .pointer (some ad)) (hl : (loadVar ty ad).run P w = .ok v w) :
    (results fn tmps).run P w = .ok (.tuple #[v, tmps.getD a undef, tmps.getD b undef]) w := by
  have e : (results fn tmps).run P w = ((asAddr (tmps.getD p undef)).run P w).andThen fun ad w₁ => ((loadVar ty ad).run P w₁).andThen fun v w₂ => .ok (.tuple #[v, tmps.getD a undef, tmps.getD b undef]) w₂ := by
    simp only [results, h]
    simp [Sem.run_bind, Result.andThen]
  rw [e, hp]
  simp [asAddr, hl]

set_option maxHeartbeats 1000000 in
theorem less_any (a b : Kd) (w : World) :
    Calls Tryz.prog 42 #[.agg #[.int .i64 a.obj, .int .i64 a.kind, .int .i64 a.off], .agg #[.int .i64 b.obj, .int .i64 b.kind, .int .i64 b.off]] w fun e w' => e = .returned (.bool (a.less b)) ∧ Below w.heap.size w w' := by
  obtain ⟨r, hr⟩ : ∃ r, a.less b = r := ⟨_, rfl⟩
  rw [hr]
  unfold Kd.less at hr
  by_cases h1 : a.obj = b.obj
  · rw [if_pos h1] at hr
    by_cases h2 : a.kind = b.kind
    · rw [if_pos h2] at hr
      go_enter Tryz.func42, Tryz.ntmps42
      go_wp2
      go_ret
      exact ⟨by rw [← hr]; rfl, ((Below.refl _ _).alloc (Nat.le_refl _) _).alloc (by simp) _⟩
    · rw [if_neg h2] at hr
      go_enter Tryz.func42, Tryz.ntmps42
      go_wp2
      go_ret
      exact ⟨by rw [← hr]; rfl, ((Below.refl _ _).alloc (Nat.le_refl _) _).alloc (by simp) _⟩
  · rw [if_neg h1] at hr
    go_enter Tryz.func42, Tryz.ntmps42
    go_wp2
    go_ret
    exact ⟨by rw [← hr]; rfl, ((Below.refl _ _).alloc (Nat.le_refl _) _).alloc (by simp) _⟩

set_option maxHeartbeats 1000000 in
theorem refless_any (a b : Kd) (w : World) :
    Calls Tryz.prog 26 #[.agg #[.int .i64 a.obj, .int .i64 a.kind, .int .i64 a.off], .agg #[.int .i64 b.obj, .int .i64 b.kind, .int .i64 b.off]] w fun e w' => e = .returned (.bool (a.less b)) ∧ Below w.heap.size w w' := by
  obtain ⟨r, hr⟩ : ∃ r, a.less b = r := ⟨_, rfl⟩
  rw [hr]
  unfold Kd.less at hr
  by_cases h1 : a.obj = b.obj
  · rw [if_pos h1] at hr
    by_cases h2 : a.kind = b.kind
    · rw [if_pos h2] at hr
      go_enter Tryz.func26, Tryz.ntmps26
      go_wp2
      go_ret
      exact ⟨by rw [← hr]; rfl, ((Below.refl _ _).alloc (Nat.le_refl _) _).alloc (by simp) _⟩
    · rw [if_neg h2] at hr
      go_enter Tryz.func26, Tryz.ntmps26
      go_wp2
      go_ret
      exact ⟨by rw [← hr]; rfl, ((Below.refl _ _).alloc (Nat.le_refl _) _).alloc (by simp) _⟩
  · rw [if_neg h1] at hr
    go_enter Tryz.func26, Tryz.ntmps26
    go_wp2
    go_ret
    exact ⟨by rw [← hr]; rfl, ((Below.refl _ _).alloc (Nat.le_refl _) _).alloc (by simp) _⟩

theorem within_any (x m : Int) (w : World) :
    Calls Tryz.prog 142 #[.int .i64 x, .int .i64 m] w fun e w' => e = .returned (.bool (decide (0 ≤ x ∧ x ≤ m))) ∧ w = w' := by
  go_enter Tryz.func142, Tryz.ntmps142
  go_wp2
  all_goals
    go_ret
    refine ⟨congrArg (fun x => Ending.returned (Value.bool x)) ?_, rfl⟩
    first
      | exact (decide_eq_false (by omega)).symm
      | exact decide_eq_decide.2 (by omega)
      | (rw [Bool.eq_iff_iff]; simp; omega)

set_option maxHeartbeats 1000000 in
theorem may_any (k : Kd) (w : World) :
    Calls Tryz.prog 123 #[.agg #[.int .i64 k.obj, .int .i64 k.kind, .int .i64 k.off]] w fun e w' => e = .returned (.bool k.may) ∧ Below w.heap.size w w' := by
  obtain ⟨b, hb⟩ : ∃ b, k.may = b := ⟨_, rfl⟩
  rw [hb]
  unfold Kd.may at hb
  go_enter Tryz.func123, Tryz.ntmps123
  go_wp2_with fail
  refine (within_any k.obj 2147483647 _).mono ?_
  by_cases h1 : 0 ≤ k.obj ∧ k.obj ≤ 2147483647
  · rw [decide_eq_true h1]
    rintro e w1 ⟨rfl, rfl⟩
    go_wp2_with fail
    refine (within_any k.kind 255 _).mono ?_
    by_cases h2 : 0 ≤ k.kind ∧ k.kind ≤ 255
    · rw [decide_eq_true h2]
      rintro e w1 ⟨rfl, rfl⟩
      go_wp2_with fail
      refine (within_any k.off 2147483647 _).mono ?_
      rintro e w1 ⟨rfl, rfl⟩
      go_wp2
      go_ret
      exact ⟨by rw [← hb]; exact congrArg (fun x => Ending.returned (Value.bool x)) (by rw [Bool.eq_iff_iff]; simp; omega), (Below.refl _ _).alloc (Nat.le_refl _) _⟩
    · rw [decide_eq_false h2]
      rintro e w1 ⟨rfl, rfl⟩
      go_wp2
      go_ret
      exact ⟨by rw [← hb]; exact congrArg (fun x => Ending.returned (Value.bool x)) (decide_eq_false (by omega)).symm, (Below.refl _ _).alloc (Nat.le_refl _) _⟩
  · rw [decide_eq_false h1]
    rintro e w1 ⟨rfl, rfl⟩
    go_wp2
    go_ret
    exact ⟨by rw [← hb]; exact congrArg (fun x => Ending.returned (Value.bool x)) (decide_eq_false (by omega)).symm, (Below.refl _ _).alloc (Nat.le_refl _) _⟩

set_option maxHeartbeats 4000000 in
theorem krefmay_any (k : Kd) (w : World) :
    Calls Tryz.prog 24 #[.agg #[.int .i64 k.obj, .int .i64 k.kind, .int .i64 k.off]] w fun e w' => e = .returned (.bool k.may) ∧ Below w.heap.size w w' := by
  obtain ⟨b, hb⟩ : ∃ b, k.may = b := ⟨_, rfl⟩
  rw [hb]
  unfold Kd.may at hb
  go_enter Tryz.func24, Tryz.ntmps24
  go_wp2
  all_goals
    go_ret
    refine ⟨?_, (Below.refl _ _).alloc (Nat.le_refl _) _⟩
    rw [← hb]
    first
      | exact congrArg (fun x => Ending.returned (Value.bool x)) (decide_eq_false (by omega)).symm
      | exact congrArg (fun x => Ending.returned (Value.bool x)) (decide_eq_decide.2 (by omega))

end Go.Proofs.YtgedmodnkiijkaaGreatDoor

namespace Go.Proofs.YtgedmodnkiijkaaGreatDoor
open Go Go.RowKit Go.Proofs

theorem pin (l : List UInt8) (x n : Int) (h1 : 1 ≤ n) (h2 : n ≤ 8) : putS l x n = l ++ dig x n.toNat := if_pos ⟨h1, h2⟩
theorem KB.lt {w : World} {b : Nat} {k : Kd} (H : KB w b k) : b < w.heap.size := by
  obtain ⟨t, H⟩ := H
  exact lt_of_heap H
theorem KB.there {w : World} {b : Nat} {k : Kd} (H : KB w b k) : w.there b 0 3 := fun j hj => by
  obtain ⟨t, H⟩ := H
  refine ⟨?_, by unfold World.frozen?; rw [H]; simp⟩
  rw [cell_of_row _ _ _ _ _ _ H, Nat.zero_add, Array.getElem?_eq_getElem (by simpa using hj)]; rfl
theorem KB.stored {w : World} {b : Nat} {k : Kd} (H : KB w b k) (k2 : Kd) : KB (w.setCells b 0 k2.vs) b k2 := by
  obtain ⟨t, H⟩ := H
  exact ⟨t, setCell_at _ (setCell_at _ (setCell_at _ H))⟩
theorem KB.keep {w w' : World} {b : Nat} {k : Kd} (H : KB w b k) (h : w'.heap[b]? = w.heap[b]?) : KB w' b k := by
  obtain ⟨t, H⟩ := H
  exact ⟨t, h.trans H⟩
theorem KB.fz {w : World} {b : Nat} {k : Kd} (H : KB w b k) (i : Nat) : w.frozen? ⟨b, i, none⟩ = false := by
  obtain ⟨t, H⟩ := H
  unfold World.frozen?
  rw [H]
  simp
theorem KB.set0 {w : World} {b : Nat} {k : Kd} (H : KB w b k) (x : Int) : KB (w.setCell ⟨b, 0, none⟩ (.int .i64 x)) b ⟨x, k.kind, k.off⟩ := by
  obtain ⟨t, H⟩ := H
  exact ⟨t, setCell_at _ H⟩
theorem KB.set1 {w : World} {b : Nat} {k : Kd} (H : KB w b k) (x : Int) : KB (w.setCell ⟨b, 1, none⟩ (.int .i64 x)) b ⟨k.obj, x, k.off⟩ := by
  obtain ⟨t, H⟩ := H
  exact ⟨t, setCell_at _ H⟩
theorem KB.set2 {w : World} {b : Nat} {k : Kd} (H : KB w b k) (x : Int) : KB (w.setCell ⟨b, 2, none⟩ (.int .i64 x)) b ⟨k.obj, k.kind, x⟩ := by
  obtain ⟨t, H⟩ := H
  exact ⟨t, setCell_at _ H⟩
theorem wp_load_kd {ops : Array Oper} {rest : List Oper} {o : Oper} {a : Act} {w : World} {Q : Exit → Act → World → Prop} (hg : o.guard = none) (x : Operand) (hop : o.op = Op.load 39 x)
    (b : Nat) (hx : a.eval x = .pointer (some ⟨b, 0, none⟩)) (k : Kd) (H : KB w b k) (hK : wpList Tryz.prog ops Q rest (a.put o.dst k.v) w) : wpList Tryz.prog ops Q (o :: rest) a w :=
  wpList_load_mid hg _ x hop b 0 hx k.vs _ H.range Tryz.underlying39 rfl (by kernel_rfl) hK
theorem wp_store_kd {ops : Array Oper} {rest : List Oper} {o : Oper} {a : Act} {w : World} {Q : Exit → Act → World → Prop} (hg : o.guard = none) (x y : Operand) (hop : o.op = Op.store 39 x y)
    (b : Nat) (hx : a.eval x = .pointer (some ⟨b, 0, none⟩)) (k k0 : Kd) (hy : a.eval y = k.v) (H : KB w b k0)
    (hK : ∀ w', KB w' b k → Turn (fun g => g = b) w w' → wpList Tryz.prog ops Q rest (a.put o.dst undef) w') : wpList Tryz.prog ops Q (o :: rest) a w :=
  wpList_store_mid hg _ x y hop b 0 k.vs.toArray hx hy H.there (by kernel_rfl) (by simp [Kd.vs, Value.oneCell'])
    (hK _ (H.stored k) (turn_setCells (S := fun g => g = b) rfl k.vs 0 w))
theorem Own.keep {w w' : World} {base n c : Nat} {e : TypeId} {A : Option Addr} {l : List UInt8} (h : Own w base e A n c l) (hk : ∀ g, base ≤ g → g < w.heap.size → w'.heap[g]? = w.heap[g]?) : Own w' base e A n c l := by
  refine ⟨h.1, ?_⟩
  rcases h.2 with hv | ⟨g, cap, cur, hv, h1, hg, r⟩
  · exact .inl hv
  · exact .inr ⟨g, cap, cur, hv, h1, (hk g h1 (Array.getElem?_eq_some_iff.1 hg).1).trans hg, r⟩
theorem own_none (w : World) (base : Nat) (e : TypeId) : Own w base e none 0 0 [] := ⟨by simp, .inl ⟨rfl, rfl⟩⟩
theorem Turn.belowOne {b : Nat} {w w' : World} (h : Turn (fun g => g = b) w w') (hb : b < w.heap.size) : Below b w w' := h.below (fun x hx => by omega) (by omega)
/-- What is laid behind bytes: the nine bytes of a key. -/
theorem three_puts (l : List UInt8) (k : Kd) : l ++ dig k.obj (4 : Int).toNat ++ dig k.kind (1 : Int).toNat ++ dig k.off (4 : Int).toNat = l ++ k.bytes := by
  unfold Kd.bytes
  rw [List.append_assoc, List.append_assoc]
  rfl

theorem putin_any (A : Option Addr) (k c : Nat) (l : List UInt8) (x n : Int) (w : World) (h : Sl w A k c l) (hk : k ≤ 17592186044416) (h1 : 1 ≤ n) (h2 : n ≤ 8) :
    Calls Tryz.prog 110 #[.slice A k c, .int .i64 x, .int .i64 n] w fun e w' => ∃ A' n' c', e = .returned (.slice A' n' c') ∧ Own w' w.heap.size 5 A' n' c' (l ++ dig x n.toNat) ∧ n' ≤ k + 8 ∧ Below w.heap.size w w' := by
  have h := put_any A k c l x n w h hk
  rw [pin _ _ n h1 h2] at h
  refine h.mono ?_
  rintro e w' ⟨A', n', c', rfl, own, hb⟩
  refine ⟨A', n', c', rfl, own, ?_, hb⟩
  have h3 := own.len
  rw [List.length_append, dig_len, (show l.length = k from (by assumption : Sl w A k c l).len)] at h3
  omega

set_option maxHeartbeats 1000000 in
theorem kput_any (A : Option Addr) (n c : Nat) (l : List UInt8) (k : Kd) (w : World) (h : Sl w A n c l) (hn : n ≤ 4398046511104) :
    Calls Tryz.prog 126 #[.slice A n c, .agg #[.int .i64 k.obj, .int .i64 k.kind, .int .i64 k.off]] w fun e w' => ∃ A' n' c', e = .returned (.slice A' n' c') ∧ Own w' w.heap.size 5 A' n' c' (l ++ k.bytes) ∧ Below w.heap.size w w' := by
  have hlen := Lib.hid h.len
  go_enter Tryz.func126, Tryz.ntmps126
  go_wp2_with fail
  have K1 := KB.new w k.obj k.kind k.off 39
  have h1 := h.alloc (.cells #[.int .i64 k.obj, .int .i64 k.kind, .int .i64 k.off] 39)
  have b1 : Below w.heap.size w (w.alloc (.cells #[.int .i64 k.obj, .int .i64 k.kind, .int .i64 k.off] 39)) := (Below.refl _ _).alloc (Nat.le_refl _) _
  generalize w.alloc (.cells #[.int .i64 k.obj, .int .i64 k.kind, .int .i64 k.off] 39) = w1 at K1 h1 b1 ⊢
  have z1 := K1.lt
  refine (putin_any A n c l k.obj 4 w1 h1 (by omega) (by omega) (by omega)).mono ?_
  rintro e w2 ⟨A2, n2, c2, rfl, own2, hn2, hb2⟩
  have K2 := K1.below hb2 z1
  have z2 := K2.lt
  have q1 := K2.c1
  go_wp2_with fail
  refine (putin_any A2 n2 c2 _ k.kind 1 w2 own2.sl (by omega) (by omega) (by omega)).mono ?_
  rintro e w3 ⟨A3, n3, c3, rfl, own3, hn3, hb3⟩
  have K3 := K2.below hb3 z2
  have z3 := K3.lt
  have q2 := K3.c2
  clear q1
  go_wp2_with fail
  refine (putin_any A3 n3 c3 _ k.off 4 w3 own3.sl (by omega) (by omega) (by omega)).mono ?_
  rw [three_puts]
  rintro e w4 ⟨A4, n4, c4, rfl, own4, _, hb4⟩
  have s2 := hb2.size
  have s3 := hb3.size
  have hB3 := b1.trans ((hb2.trans (hb3.mono s2)).mono b1.size)
  have h9 : w.heap.size ≤ w3.heap.size := hB3.size
  have hB4 := hB3.trans (hb4.mono h9)
  have o5 := own4.less h9
  go_wp2
  go_ret
  exact ⟨A4, n4, c4, rfl, o5, hB4⟩

end Go.Proofs.YtgedmodnkiijkaaGreatDoor

namespace Go.Proofs.YtgedmodnkiijkaaGreatDoor
open Go Go.RowKit Go.Proofs

/-- The key that bytes say. -/
def kdOf (l : List UInt8) : Kd := ⟨(numL (l.take 4) : Int), (numL ((l.drop 4).take 1) : Int), (numL ((l.drop 5).take 4) : Int)⟩
/-- P5.2's answer. -/
def ktY (l : List UInt8) : Bool := decide (9 ≤ l.length) && (kdOf l).may
def ktK (l : List UInt8) : Kd := if ktY l = true then kdOf l else ⟨0, 0, 0⟩
def ktR (l : List UInt8) : List UInt8 := if ktY l = true then l.drop 9 else []
def ktE (l : List UInt8) : Int := if ktY l = true then 0 else if l.length < 9 then 2 else 3
theorem kt_short {l : List UInt8} (h : l.length < 9) : ktK l = ⟨0, 0, 0⟩ ∧ ktR l = [] ∧ ktE l = 2 := by
  have hy : ktY l = false := by unfold ktY; rw [decide_eq_false (by omega)]; rfl
  unfold ktK ktR ktE
  rw [hy, if_pos h]
  exact ⟨rfl, rfl, rfl⟩
theorem kt_no {l : List UInt8} (h : ¬ l.length < 9) (hm : (kdOf l).may = false) : ktK l = ⟨0, 0, 0⟩ ∧ ktR l = [] ∧ ktE l = 3 := by
  have hy : ktY l = false := by unfold ktY; rw [hm, Bool.and_false]
  unfold ktK ktR ktE
  rw [hy, if_neg h]
  exact ⟨rfl, rfl, rfl⟩
theorem kt_yes {l : List UInt8} (h : ¬ l.length < 9) (hm : (kdOf l).may = true) : ktK l = kdOf l ∧ ktR l = l.drop 9 ∧ ktE l = 0 := by
  have hy : ktY l = true := by unfold ktY; rw [hm, decide_eq_true (by omega)]; rfl
  unfold ktK ktR ktE
  rw [hy]
  exact ⟨rfl, rfl, rfl⟩
theorem drop54 (l : List UInt8) : (l.drop (4 : Int).toNat).drop (1 : Int).toNat = l.drop 5 := by rw [List.drop_drop]; rfl
theorem drop95 (l : List UInt8) : (l.drop 5).drop (4 : Int).toNat = l.drop 9 := by rw [List.drop_drop]; rfl
theorem ktake_says (A : Option Addr) (k c : Nat) (l : List UInt8) (n : Int) (m : Nat) (w : World) (h : Sl w A k c l) (hk : k ≤ 17592186044416) (h1 : 1 ≤ n) (h7 : n ≤ 7) (hn : n ≤ (k : Int)) (hm : m = k - n.toNat) :
    Calls Tryz.prog 119 #[.slice A k c, .int .i64 n] w fun e w' => ∃ A' c', e = .returned (.tuple #[.int .i64 (numL (l.take n.toNat)), .slice A' m c', .int .i64 0]) ∧ Own w' w.heap.size 5 A' m c' (l.drop n.toNat) ∧ Below w.heap.size w w' := by
  refine (take_yes A k c l n w h hk h1 h7 hn).mono ?_
  rintro e w' ⟨A', n', c', rfl, own, hb⟩
  have := own.len
  rw [List.length_drop, h.len] at this
  obtain rfl : n' = m := by omega
  exact ⟨A', c', rfl, own, hb⟩
set_option maxHeartbeats 2000000 in
theorem ktake_any (A : Option Addr) (n c : Nat) (l : List UInt8) (w : World) (h : Sl w A n c l) (hn : n ≤ 17592186044416) :
    Calls Tryz.prog 117 #[.slice A n c] w fun e w' => ∃ A' n' c', e = .returned (.tuple #[(ktK l).v, .slice A' n' c', .int .i64 (ktE l)]) ∧ Own w' w.heap.size 5 A' n' c' (ktR l) ∧ Below w.heap.size w w' := by
  have hlen := Lib.hid h.len
  have hB0 : ∀ o, Below w.heap.size w (w.alloc o) := fun o => (Below.refl _ _).alloc (Nat.le_refl _) o
  by_cases h9 : n < 9
  · obtain ⟨e1, e2, e3⟩ := kt_short (l := l) (by rw [hlen.out]; exact h9)
    rw [e1, e2, e3]
    go_enter Tryz.func117, Tryz.ntmps117
    go_wp2
    refine bodyPost_ret (res_c3 Tryz.results117 rfl (load_kd (KB.new w 0 0 0 _))) rfl ?_
    exact ⟨_, _, _, rfl, own_none _ _ _, hB0 _⟩
  · have hnl : ¬ l.length < 9 := by rw [hlen.out]; exact h9
    go_enter Tryz.func117, Tryz.ntmps117
    go_wp2_with fail
    have R2 : KB ((w.alloc (.cells #[.int .i64 0, .int .i64 0, .int .i64 0] 39)).alloc (.cells #[.int .i64 0, .int .i64 0, .int .i64 0] 39)) w.heap.size ⟨0, 0, 0⟩ := (KB.new w 0 0 0 _).below ((Below.refl _ _).alloc (Nat.le_refl _) _) (by simp)
    have K2 : KB ((w.alloc (.cells #[.int .i64 0, .int .i64 0, .int .i64 0] 39)).alloc (.cells #[.int .i64 0, .int .i64 0, .int .i64 0] 39)) (w.heap.size + 1) ⟨0, 0, 0⟩ := by
      have := KB.new (w.alloc (.cells #[.int .i64 0, .int .i64 0, .int .i64 0] 39)) 0 0 0 39
      rwa [World.size_alloc] at this
    have B2 : Below w.heap.size w ((w.alloc (.cells #[.int .i64 0, .int .i64 0, .int .i64 0] 39)).alloc (.cells #[.int .i64 0, .int .i64 0, .int .i64 0] 39)) := (hB0 _).alloc (by simp) _
    generalize (w.alloc (.cells #[.int .i64 0, .int .i64 0, .int .i64 0] 39)).alloc (.cells #[.int .i64 0, .int .i64 0, .int .i64 0] 39) = w2 at R2 K2 B2 ⊢
    have h2 := h.below B2
    have z2 := K2.lt
    refine (ktake_says A n c l 4 (n - 4) w2 h2 hn (by omega) (by omega) (by omega) rfl).mono ?_
    rintro e w3 ⟨A3, c3, rfl, own3, hb3⟩
    have R3 := R2.below hb3 R2.lt
    have K3 := K2.below hb3 z2
    have B3 := B2.trans (hb3.mono B2.size)
    clear R2 K2 h2 hb3
    have q0 := K3.c0
    have f0 := K3.fz 0
    have o3 := own3.less (show w.heap.size + 2 ≤ w2.heap.size by omega)
    obtain ⟨X, hX⟩ : ∃ X, numL (l.take (4 : Int).toNat) = X := ⟨_, rfl⟩
    rw [hX]
    clear own3 z2
    go_wp2_with fail
    have K4 := K3.set0 (X : Int)
    have R4 := R3.keep (w' := w3.setCell ⟨w.heap.size + 1, 0, none⟩ (.int .i64 (X : Int))) (Below.heap_setCell _ _ _ _ (by show w.heap.size ≠ w.heap.size + 1; omega))
    have o4 := o3.keep (w' := w3.setCell ⟨w.heap.size + 1, 0, none⟩ (.int .i64 (X : Int))) (fun g hg _ => Below.heap_setCell _ _ _ _ (by show g ≠ w.heap.size + 1; omega))
    have B4 := B3.setCell (p := ⟨w.heap.size + 1, 0, none⟩) (show w.heap.size ≤ w.heap.size + 1 by omega) (.int .i64 (X : Int))
    clear q0 f0
    generalize w3.setCell ⟨w.heap.size + 1, 0, none⟩ (.int .i64 (X : Int)) = w4 at K4 R4 o4 B4 ⊢
    have z4 := K4.lt
    refine (ktake_says A3 (n - 4) c3 _ 1 (n - 5) w4 o4.sl (by omega) (by omega) (by omega) (by omega) rfl).mono ?_
    rw [drop54]
    rintro e w5 ⟨A5, c5, rfl, own5, hb5⟩
    have R5 := R4.below hb5 R4.lt
    have K5 := K4.below hb5 z4
    have B5 := B4.trans (hb5.mono B4.size)
    have q0 := K5.c1
    have f0 := K5.fz 1
    have o5 := own5.less (show w.heap.size + 2 ≤ w4.heap.size by omega)
    obtain ⟨Y, hY⟩ : ∃ Y, numL ((l.drop (4 : Int).toNat).take (1 : Int).toNat) = Y := ⟨_, rfl⟩
    rw [hY]
    clear own5 z4 R3 K3 B3 R4 K4 B4 o3 o4 hb5
    go_wp2_with fail
    have K6 := K5.set1 (Y : Int)
    have R6 := R5.keep (w' := w5.setCell ⟨w.heap.size + 1, 1, none⟩ (.int .i64 (Y : Int))) (Below.heap_setCell _ _ _ _ (by show w.heap.size ≠ w.heap.size + 1; omega))
    have o6 := o5.keep (w' := w5.setCell ⟨w.heap.size + 1, 1, none⟩ (.int .i64 (Y : Int))) (fun g hg _ => Below.heap_setCell _ _ _ _ (by show g ≠ w.heap.size + 1; omega))
    have B6 := B5.setCell (p := ⟨w.heap.size + 1, 1, none⟩) (show w.heap.size ≤ w.heap.size + 1 by omega) (.int .i64 (Y : Int))
    clear q0 f0
    generalize w5.setCell ⟨w.heap.size + 1, 1, none⟩ (.int .i64 (Y : Int)) = w6 at K6 R6 o6 B6 ⊢
    have z6 := K6.lt
    refine (ktake_says A5 (n - 5) c5 _ 4 (n - 9) w6 o6.sl (by omega) (by omega) (by omega) (by omega) rfl).mono ?_
    rw [drop95]
    rintro e w7 ⟨A7, c7, rfl, own7, hb7⟩
    have R7 := R6.below hb7 R6.lt
    have K7 := K6.below hb7 z6
    have B7 := B6.trans (hb7.mono B6.size)
    have q0 := K7.c2
    have f0 := K7.fz 2
    have o7 := own7.less (show w.heap.size + 2 ≤ w6.heap.size by omega)
    obtain ⟨U, hU⟩ : ∃ U, numL ((l.drop 5).take (4 : Int).toNat) = U := ⟨_, rfl⟩
    rw [hU]
    have hK : kdOf l = ⟨(X : Int), (Y : Int), (U : Int)⟩ := by rw [← hX, ← hY, ← hU]; rfl
    clear own7 z6 R5 K5 B5 R6 K6 B6 o5 o6 hb7
    have K8 := K7.set2 (U : Int)
    have R8 := R7.keep (w' := w7.setCell ⟨w.heap.size + 1, 2, none⟩ (.int .i64 (U : Int))) (Below.heap_setCell _ _ _ _ (by show w.heap.size ≠ w.heap.size + 1; omega))
    have o8 := o7.keep (w' := w7.setCell ⟨w.heap.size + 1, 2, none⟩ (.int .i64 (U : Int))) (fun g hg _ => Below.heap_setCell _ _ _ _ (by show g ≠ w.heap.size + 1; omega))
    have B8 := B7.setCell (p := ⟨w.heap.size + 1, 2, none⟩) (show w.heap.size ≤ w.heap.size + 1 by omega) (.int .i64 (U : Int))
    go_wp2_with (first
      | (refine wp_load_kd rfl (.tmp 5) rfl (w.heap.size + 1) rfl ⟨(X : Int), (Y : Int), (U : Int)⟩ K8 ?_)
      | fail)
    clear q0 f0 K7 R7 o7 B7
    generalize w7.setCell ⟨w.heap.size + 1, 2, none⟩ (.int .i64 (U : Int)) = w8 at K8 R8 o8 B8 ⊢
    have z8 := K8.lt
    refine (may_any ⟨(X : Int), (Y : Int), (U : Int)⟩ w8).mono ?_
    obtain ⟨b, hb⟩ : ∃ b, (⟨(X : Int), (Y : Int), (U : Int)⟩ : Kd).may = b := ⟨_, rfl⟩
    have hm : (kdOf l).may = b := by rw [hK, hb]
    rw [hb]
    cases b
    · obtain ⟨e1, e2, e3⟩ := kt_no hnl hm
      rintro e w9 ⟨rfl, hb9⟩
      have R9 := R8.below hb9 R8.lt
      have B9 := B8.trans (hb9.mono B8.size)
      go_wp2_with (first
        | (refine wp_store_kd rfl (.tmp 2) (.tmp 34) rfl w.heap.size rfl ⟨0, 0, 0⟩ _ rfl R9 ?_; intro wz Rz Tz)
        | fail)
      refine bodyPost_ret (res_c3 Tryz.results117 rfl (load_kd Rz)) rfl ?_
      rw [e1, e2, e3]
      exact ⟨_, _, _, rfl, own_none _ _ _, B9.trans (Tz.belowOne R9.lt)⟩
    · obtain ⟨e1, e2, e3⟩ := kt_yes hnl hm
      rintro e w9 ⟨rfl, hb9⟩
      have R9 := R8.below hb9 R8.lt
      have K9 := K8.below hb9 z8
      have B9 := B8.trans (hb9.mono B8.size)
      have o9 := o8.below hb9
      go_wp2_with (first
        | (refine wp_load_kd rfl (.tmp 5) rfl (w.heap.size + 1) rfl ⟨(X : Int), (Y : Int), (U : Int)⟩ K9 ?_)
        | (refine wp_store_kd rfl (.tmp 2) (.tmp 35) rfl w.heap.size rfl ⟨(X : Int), (Y : Int), (U : Int)⟩ _ rfl R9 ?_; intro wz Rz Tz)
        | fail)
      rw [← hK] at Rz
      refine bodyPost_ret (res_c3 Tryz.results117 rfl (load_kd Rz)) rfl ?_
      rw [e1, e2, e3]
      refine ⟨A7, n - 9, c7, rfl, ?_, B9.trans (Tz.belowOne R9.lt)⟩
      exact (o9.keep fun g hg hl => Tz.block g hl (by show ¬ g = w.heap.size; omega)).less (by omega)

end Go.Proofs.YtgedmodnkiijkaaGreatDoor

namespace Go.Proofs.YtgedmodnkiijkaaGreatDoor
open Go Go.RowKit Go.Proofs

theorem run_eql_kd (a b : Kd) (w : World) : (binOp .eql 39 a.v b.v).run Tryz.prog w = .ok (.bool (a.same b)) w := by
  unfold Kd.v
  rw [run_eql_struct, run_equalIn_agg w 9999 39 _ _ (by kernel_rfl) (by kernel_rfl)]
  unfold Program.fieldsOf
  rw [Tryz.underlying39]
  simp [go_sem, Tryz.underlying3]
  unfold Kd.same
  by_cases h1 : a.obj = b.obj
  · by_cases h2 : a.kind = b.kind
    · by_cases h3 : a.off = b.off
      · simp [h1, h2, h3]
      · simp [h1, h2, h3]
    · simp [h1, h2]
  · simp [h1]

theorem KB.new2 (w : World) (o : Obj) (x y z : Int) (t : TypeId) : KB ((w.alloc o).alloc (.cells #[.int .i64 x, .int .i64 y, .int .i64 z] t)) (w.heap.size + 1) ⟨x, y, z⟩ := by
  have := KB.new (w.alloc o) x y z t
  rwa [World.size_alloc] at this

theorem strB {w : World} {A : Option Addr} {n c : Nat} {l : List UInt8} (h : Sl w A n c l) : (convert 35 9 (.slice A n c)).run Tryz.prog w = .ok (.string ⟨l.toArray⟩) w :=
  run_conv_bs _ _ _ T22 Tryz.underlying5 Tryz.underlying9 h
theorem guard_says (x y : Operand) (xs ys : Array Value) (w : World) : (eqGuard .eql 39 x y (.agg xs) (.agg ys)).run Tryz.prog w = .ok () w :=
  run_eqGuard_agg w .eql 39 x y xs ys (by kernel_rfl)
theorem eql_says (a b : Kd) (r : Bool) (h : a.same b = r) (w : World) : (binOp .eql 39 (.agg #[.int .i64 a.obj, .int .i64 a.kind, .int .i64 a.off]) (.agg #[.int .i64 b.obj, .int .i64 b.kind, .int .i64 b.off])).run Tryz.prog w = .ok (.bool r) w := by
  have := run_eql_kd a b w
  rw [h] at this
  exact this
theorem less_says (a b : Kd) (r : Bool) (h : a.less b = r) (w : World) :
    Calls Tryz.prog 42 #[.agg #[.int .i64 a.obj, .int .i64 a.kind, .int .i64 a.off], .agg #[.int .i64 b.obj, .int .i64 b.kind, .int .i64 b.off]] w fun e w' => e = .returned (.bool r) ∧ Below w.heap.size w w' := by
  have := less_any a b w
  rw [h] at this
  exact this
theorem may_says (a : Kd) (r : Bool) (h : a.may = r) (w : World) :
    Calls Tryz.prog 123 #[.agg #[.int .i64 a.obj, .int .i64 a.kind, .int .i64 a.off]] w fun e w' => e = .returned (.bool r) ∧ Below w.heap.size w w' := by
  have := may_any a w
  rw [h] at this
  exact this
theorem boxes1 (w : World) (a : Kd) : KB (w.alloc (.cells #[.int .i64 a.obj, .int .i64 a.kind, .int .i64 a.off] 39)) w.heap.size a ∧ Below w.heap.size w (w.alloc (.cells #[.int .i64 a.obj, .int .i64 a.kind, .int .i64 a.off] 39)) :=
  ⟨KB.new w a.obj a.kind a.off _, (Below.refl _ _).alloc (Nat.le_refl _) _⟩
theorem boxes2 (w : World) (a b : Kd) : KB ((w.alloc (.cells #[.int .i64 a.obj, .int .i64 a.kind, .int .i64 a.off] 39)).alloc (.cells #[.int .i64 b.obj, .int .i64 b.kind, .int .i64 b.off] 39)) w.heap.size a ∧ KB ((w.alloc (.cells #[.int .i64 a.obj, .int .i64 a.kind, .int .i64 a.off] 39)).alloc (.cells #[.int .i64 b.obj, .int .i64 b.kind, .int .i64 b.off] 39)) (w.heap.size + 1) b ∧ Below w.heap.size w ((w.alloc (.cells #[.int .i64 a.obj, .int .i64 a.kind, .int .i64 a.off] 39)).alloc (.cells #[.int .i64 b.obj, .int .i64 b.kind, .int .i64 b.off] 39)) :=
  ⟨(KB.new w a.obj a.kind a.off _).below ((Below.refl _ _).alloc (Nat.le_refl _) _) (by simp), KB.new2 w _ b.obj b.kind b.off _, ((Below.refl _ _).alloc (Nat.le_refl _) _).alloc (by simp) _⟩
theorem kd_back (k : Kd) (hk : k.may = true) (l : List UInt8) : kdOf (k.bytes ++ l) = k := by
  obtain ⟨⟨y1, y2⟩, ⟨y3, y4⟩, y5, y6⟩ := (Kd.may_iff k).1 hk
  have e0 : k.bytes ++ l = dig k.obj 4 ++ (dig k.kind 1 ++ (dig k.off 4 ++ l)) := by unfold Kd.bytes; rw [List.append_assoc, List.append_assoc]
  have e1 : (k.bytes ++ l).take 4 = dig k.obj 4 := by rw [e0]; exact List.take_left' (dig_len _ _)
  have e2 : (k.bytes ++ l).drop 4 = dig k.kind 1 ++ (dig k.off 4 ++ l) := by rw [e0]; exact List.drop_left' (dig_len _ _)
  have e3 : (k.bytes ++ l).drop 5 = dig k.off 4 ++ l := by
    rw [show (5 : Nat) = 4 + 1 from rfl, ← List.drop_drop, e2]; exact List.drop_left' (dig_len _ _)
  unfold kdOf
  rw [e1, e2, e3, List.take_left' (dig_len _ _), List.take_left' (dig_len _ _), num_back k.obj 4 y1 (by omega), num_back k.kind 1 y3 (by omega), num_back k.off 4 y5 (by omega)]
theorem kt_back (k : Kd) (hk : k.may = true) (l : List UInt8) : ktK (k.bytes ++ l) = k ∧ ktR (k.bytes ++ l) = l ∧ ktE (k.bytes ++ l) = 0 := by
  have hb := kd_back k hk l
  obtain ⟨h1, h2, h3⟩ := kt_yes (l := k.bytes ++ l) (by rw [List.length_append, Kd.bytes_len]; omega) (by rw [hb]; exact hk)
  rw [h1, h2, h3, hb]
  exact ⟨rfl, List.drop_left' (Kd.bytes_len k), rfl⟩
theorem refless_says (a b : Kd) (r : Bool) (h : a.less b = r) (w : World) :
    Calls Tryz.prog 26 #[.agg #[.int .i64 a.obj, .int .i64 a.kind, .int .i64 a.off], .agg #[.int .i64 b.obj, .int .i64 b.kind, .int .i64 b.off]] w fun e w' => e = .returned (.bool r) ∧ Below w.heap.size w w' := by
  have := refless_any a b w
  rw [h] at this
  exact this
theorem krefmay_says (a : Kd) (r : Bool) (h : a.may = r) (w : World) :
    Calls Tryz.prog 24 #[.agg #[.int .i64 a.obj, .int .i64 a.kind, .int .i64 a.off]] w fun e w' => e = .returned (.bool r) ∧ Below w.heap.size w w' := by
  have := krefmay_any a w
  rw [h] at this
  exact this

theorem ktake_txt (A : Option Addr) (n c : Nat) (l : List UInt8) (K : Kd) (R : List UInt8) (E : Int) (hK : ktK l = K) (hR : ktR l = R) (hE : ktE l = E) (w : World) (h : Sl w A n c l) (hn : n ≤ 17592186044416) :
    Calls Tryz.prog 117 #[.slice A n c] w fun e w' => ∃ A' n' c', e = .returned (.tuple #[.agg #[.int .i64 K.obj, .int .i64 K.kind, .int .i64 K.off], .slice A' n' c', .int .i64 E]) ∧ Own w' w.heap.size 5 A' n' c' R ∧ Below w.heap.size w w' := by
  have := ktake_any A n c l w h hn
  rw [hK, hR, hE] at this
  exact this
end Go.Proofs.YtgedmodnkiijkaaGreatDoor

namespace Go.Proofs.YtgedmodnkiijkaaGreatDoor
open Go Go.RowKit Go.Proofs

/-- Whether the i-th key may be, and stands behind the one ahead of it; kept shut. -/
def riseOk (ks : List Kd) (i : Nat) : Bool := (keyAt ks i).may && (decide (i = 0) || (keyAt ks (i - 1)).less (keyAt ks i))
/-- Whether keys may be, and rise. -/
def rises (ks : List Kd) : Bool := (List.range ks.length).all (riseOk ks)
theorem rises_yes {ks : List Kd} (h : ∀ j, j < ks.length → riseOk ks j = true) : rises ks = true := by
  unfold rises
  rw [List.all_eq_true]
  exact fun j hj => h j (List.mem_range.1 hj)

end Go.Proofs.YtgedmodnkiijkaaGreatDoor

namespace Go.Proofs.YtgedmodnkiijkaaGreatDoor
open Go Go.RowKit Go.Proofs

def Kd.nextE (k : Kd) : Int := if k.hasNext = true then 0 else 10
end Go.Proofs.YtgedmodnkiijkaaGreatDoor

namespace Go.Proofs.YtgedmodnkiijkaaGreatDoor
open Go Go.RowKit Go.Proofs

set_option maxHeartbeats 2000000 in
theorem refnext_off (k : Kd) (w : World) (hk : k.may = true) (h : k.off < 2147483647) :
    Calls Tryz.prog 25 #[.agg #[.int .i64 k.obj, .int .i64 k.kind, .int .i64 k.off]] w fun e w' => e = .returned (.tuple #[k.next.v, .int .i64 k.nextE]) ∧ Below w.heap.size w w' := by
  rw [Kd.may_iff] at hk
  have H := Lib.hid h
  obtain ⟨⟨y1, y2⟩, ⟨y3, y4⟩, y5, y6⟩ := hk
  go_enter Tryz.func25, Tryz.ntmps25
  go_wp2
  refine bodyPost_ret (res_c2 Tryz.results25 rfl (load_kd (KB.new2 w _ (k.obj) (k.kind) (k.off + 1) _))) rfl ?_
  refine ⟨?_, ((Below.refl _ _).alloc (Nat.le_refl _) _).alloc (by simp) _⟩
  have h := H.out
  have e1 : k.next = ⟨k.obj, k.kind, k.off + 1⟩ := by unfold Kd.next; rw [if_pos (by omega)]
  have e2 : k.nextE = 0 := by unfold Kd.nextE Kd.hasNext; rw [if_pos (decide_eq_true (by omega))]
  rw [e1, e2]
  rfl

set_option maxHeartbeats 2000000 in
theorem refnext_kind (k : Kd) (w : World) (hk : k.may = true) (h : ¬ k.off < 2147483647 ∧ k.kind < 255) :
    Calls Tryz.prog 25 #[.agg #[.int .i64 k.obj, .int .i64 k.kind, .int .i64 k.off]] w fun e w' => e = .returned (.tuple #[k.next.v, .int .i64 k.nextE]) ∧ Below w.heap.size w w' := by
  rw [Kd.may_iff] at hk
  have H := Lib.hid h
  obtain ⟨⟨y1, y2⟩, ⟨y3, y4⟩, y5, y6⟩ := hk
  go_enter Tryz.func25, Tryz.ntmps25
  go_wp2
  refine bodyPost_ret (res_c2 Tryz.results25 rfl (load_kd (KB.new2 w _ (k.obj) (k.kind + 1) (0) _))) rfl ?_
  refine ⟨?_, ((Below.refl _ _).alloc (Nat.le_refl _) _).alloc (by simp) _⟩
  have h := H.out
  have e1 : k.next = ⟨k.obj, k.kind + 1, 0⟩ := by unfold Kd.next; rw [if_neg (by omega), if_pos (by omega)]
  have e2 : k.nextE = 0 := by unfold Kd.nextE Kd.hasNext; rw [if_pos (decide_eq_true (by omega))]
  rw [e1, e2]
  rfl

set_option maxHeartbeats 2000000 in
theorem refnext_obj (k : Kd) (w : World) (hk : k.may = true) (h : ¬ k.off < 2147483647 ∧ ¬ k.kind < 255 ∧ k.obj < 2147483647) :
    Calls Tryz.prog 25 #[.agg #[.int .i64 k.obj, .int .i64 k.kind, .int .i64 k.off]] w fun e w' => e = .returned (.tuple #[k.next.v, .int .i64 k.nextE]) ∧ Below w.heap.size w w' := by
  rw [Kd.may_iff] at hk
  have H := Lib.hid h
  obtain ⟨⟨y1, y2⟩, ⟨y3, y4⟩, y5, y6⟩ := hk
  go_enter Tryz.func25, Tryz.ntmps25
  go_wp2
  refine bodyPost_ret (res_c2 Tryz.results25 rfl (load_kd (KB.new2 w _ (k.obj + 1) (0) (0) _))) rfl ?_
  refine ⟨?_, ((Below.refl _ _).alloc (Nat.le_refl _) _).alloc (by simp) _⟩
  have h := H.out
  have e1 : k.next = ⟨k.obj + 1, 0, 0⟩ := by unfold Kd.next; rw [if_neg (by omega), if_neg (by omega), if_pos (by omega)]
  have e2 : k.nextE = 0 := by unfold Kd.nextE Kd.hasNext; rw [if_pos (decide_eq_true (by omega))]
  rw [e1, e2]
  rfl

set_option maxHeartbeats 2000000 in
theorem refnext_none (k : Kd) (w : World) (hk : k.may = true) (h : ¬ k.off < 2147483647 ∧ ¬ k.kind < 255 ∧ ¬ k.obj < 2147483647) :
    Calls Tryz.prog 25 #[.agg #[.int .i64 k.obj, .int .i64 k.kind, .int .i64 k.off]] w fun e w' => e = .returned (.tuple #[k.next.v, .int .i64 k.nextE]) ∧ Below w.heap.size w w' := by
  rw [Kd.may_iff] at hk
  have H := Lib.hid h
  obtain ⟨⟨y1, y2⟩, ⟨y3, y4⟩, y5, y6⟩ := hk
  go_enter Tryz.func25, Tryz.ntmps25
  go_wp2
  refine bodyPost_ret (res_c2 Tryz.results25 rfl (load_kd (KB.new2 w _ (0) (0) (0) _))) rfl ?_
  refine ⟨?_, ((Below.refl _ _).alloc (Nat.le_refl _) _).alloc (by simp) _⟩
  have h := H.out
  have e1 : k.next = ⟨0, 0, 0⟩ := by unfold Kd.next; rw [if_neg (by omega), if_neg (by omega), if_neg (by omega)]
  have e2 : k.nextE = 10 := by unfold Kd.nextE Kd.hasNext; rw [if_neg (by simp; omega)]
  rw [e1, e2]
  rfl

theorem refnext_any (k : Kd) (w : World) (hk : k.may = true) :
    Calls Tryz.prog 25 #[.agg #[.int .i64 k.obj, .int .i64 k.kind, .int .i64 k.off]] w fun e w' => e = .returned (.tuple #[k.next.v, .int .i64 k.nextE]) ∧ Below w.heap.size w w' := by
  by_cases h1 : k.off < 2147483647
  · exact refnext_off k w hk h1
  · by_cases h2 : k.kind < 255
    · exact refnext_kind k w hk ⟨h1, h2⟩
    · by_cases h3 : k.obj < 2147483647
      · exact refnext_obj k w hk ⟨h1, h2, h3⟩
      · exact refnext_none k w hk ⟨h1, h2, h3⟩

end Go.Proofs.YtgedmodnkiijkaaGreatDoor

namespace Go.Proofs.YtgedmodnkiijkaaGreatDoor
open Go Go.RowKit Go.Proofs

/-- Some key, and some error. -/
def NextAny (w : World) (e : Ending) (w' : World) : Prop := ∃ (z : Kd) (x : Int), e = .returned (.tuple #[.agg #[.int .i64 z.obj, .int .i64 z.kind, .int .i64 z.off], .int .i64 x]) ∧ Below w.heap.size w w'
theorem nextAny_of {w w' : World} {e : Ending} (z : Kd) (x : Int) (he : e = .returned (.tuple #[.agg #[.int .i64 z.obj, .int .i64 z.kind, .int .i64 z.off], .int .i64 x])) (hb : Below w.heap.size w w') : NextAny w e w' := ⟨z, x, he, hb⟩
set_option maxHeartbeats 4000000 in
theorem refnext_ex (k : Kd) (w : World) : Calls Tryz.prog 25 #[.agg #[.int .i64 k.obj, .int .i64 k.kind, .int .i64 k.off]] w fun e w' => NextAny w e w' := by
  by_cases h1 : k.off < 2147483647
  · go_enter Tryz.func25, Tryz.ntmps25
    go_wp2
    refine bodyPost_ret (res_c2 Tryz.results25 rfl (load_kd (KB.new2 w _ _ _ _ _))) rfl ?_
    exact nextAny_of ⟨_, _, _⟩ _ rfl (((Below.refl _ _).alloc (Nat.le_refl _) _).alloc (by simp) _)
  · by_cases h2 : k.kind < 255
    · go_enter Tryz.func25, Tryz.ntmps25
      go_wp2
      refine bodyPost_ret (res_c2 Tryz.results25 rfl (load_kd (KB.new2 w _ _ _ _ _))) rfl ?_
      exact nextAny_of ⟨_, _, _⟩ _ rfl (((Below.refl _ _).alloc (Nat.le_refl _) _).alloc (by simp) _)
    · by_cases h3 : k.obj < 2147483647
      · go_enter Tryz.func25, Tryz.ntmps25
        go_wp2
        refine bodyPost_ret (res_c2 Tryz.results25 rfl (load_kd (KB.new2 w _ _ _ _ _))) rfl ?_
        exact nextAny_of ⟨_, _, _⟩ _ rfl (((Below.refl _ _).alloc (Nat.le_refl _) _).alloc (by simp) _)
      · go_enter Tryz.func25, Tryz.ntmps25
        go_wp2
        refine bodyPost_ret (res_c2 Tryz.results25 rfl (load_kd (KB.new2 w _ _ _ _ _))) rfl ?_
        exact nextAny_of ⟨_, _, _⟩ _ rfl (((Below.refl _ _).alloc (Nat.le_refl _) _).alloc (by simp) _)
theorem refnext_says (k : Kd) (w : World) (hk : k.may = true) (z : Kd) (hz : k.next = z) (x : Int) (hx : k.nextE = x) : Calls Tryz.prog 25 #[.agg #[.int .i64 k.obj, .int .i64 k.kind, .int .i64 k.off]] w fun e w' => e = .returned (.tuple #[.agg #[.int .i64 z.obj, .int .i64 z.kind, .int .i64 z.off], .int .i64 x]) ∧ Below w.heap.size w w' := by
  subst hz
  subst hx
  exact refnext_any k w hk
end Go.Proofs.YtgedmodnkiijkaaGreatDoor
