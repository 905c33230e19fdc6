/- A node as plain data; how one that comes in is opened. -/
import Derived.Test.YtipejjgodnnkaaaGreatDoorPy2
import Derived.Test.YtipejjgodnnkaaaGreatDoorRow
import Derived.Deep.Fields
import Derived.WideShapes
namespace Go.Proofs.YtipejjgodnnkaaaGreatDoor
open Go Go.RowKit Go.Proofs Go.ChangeShapes Go.WideShapes Go.ChangeAt Go.Deep

/-- An item, a kid, a node. -/
structure Itm where
  k : Kd
  v : List UInt8
structure Kidd where
  k : Kd
  a : Int
structure Nd where
  lvl : Int
  items : List Itm
  kids : List Kidd
def kvs (k : Kd) : List Value := [.int .i64 k.obj, .int .i64 k.kind, .int .i64 k.off]
def Kidd.vs (x : Kidd) : List Value := [.int .i64 x.k.obj, .int .i64 x.k.kind, .int .i64 x.k.off, .int .i64 x.a]
/-- The cells of an item whose bytes are there. -/
def ItOk (w : World) (r : List Value) (x : Itm) : Prop := ∃ B m d, r = [.int .i64 x.k.obj, .int .i64 x.k.kind, .int .i64 x.k.off, .slice B m d] ∧ Sl w B m d x.v
/-- A slice of items; of kids; of keys. -/
def Itms (w : World) (A : Option Addr) (n c : Nat) (xs : List Itm) : Prop := ∃ raw, Sls w 4 A n c raw ∧ raw.length = xs.length ∧ ∀ (j : Nat) r x, raw[j]? = some r → xs[j]? = some x → ItOk w r x
def Kidl (w : World) (A : Option Addr) (n c : Nat) (xs : List Kidd) : Prop := Sls w 4 A n c (xs.map Kidd.vs)
def Keyl (w : World) (A : Option Addr) (n c : Nat) (xs : List Kd) : Prop := Sls w 3 A n c (xs.map kvs)
section
variable {w w' : World} {n c : Nat} {A : Option Addr}
theorem ItOk.below {r : List Value} {x : Itm} (h : ItOk w r x) (hb : Below w.heap.size w w') : ItOk w' r x := by
  obtain ⟨B, m, d, e, hs⟩ := h
  exact ⟨B, m, d, e, hs.below hb⟩
theorem Itms.below {xs : List Itm} (h : Itms w A n c xs) (hb : Below w.heap.size w w') : Itms w' A n c xs := by
  obtain ⟨raw, h1, h2, h3⟩ := h
  exact ⟨raw, h1.below hb, h2, fun j r x hr hx => (h3 j r x hr hx).below hb⟩
theorem Kidl.below {xs : List Kidd} (h : Kidl w A n c xs) (hb : Below w.heap.size w w') : Kidl w' A n c xs := Sls.below h hb
theorem Keyl.below {xs : List Kd} (h : Keyl w A n c xs) (hb : Below w.heap.size w w') : Keyl w' A n c xs := Sls.below h hb
theorem Itms.len {xs : List Itm} (h : Itms w A n c xs) : xs.length = n := by
  obtain ⟨raw, h1, h2, _⟩ := h
  rw [← h2]; exact h1.len
theorem Kidl.len {xs : List Kidd} (h : Kidl w A n c xs) : xs.length = n := by simpa using Sls.len h
theorem Keyl.len {xs : List Kd} (h : Keyl w A n c xs) : xs.length = n := by simpa using Sls.len h
theorem Itms.take {xs : List Itm} (h : Itms w A n c xs) {k : Nat} (hk : k ≤ n) : Itms w A k c (xs.take k) := by
  obtain ⟨raw, h1, h2, h3⟩ := h
  refine ⟨raw.take k, h1.take hk, by simp [h2], fun j r x hr hx => ?_⟩
  rw [List.getElem?_take] at hr hx
  split at hr
  · rename_i hj
    rw [if_pos hj] at hx
    exact h3 j r x hr hx
  · cases hr
theorem Kidl.take {xs : List Kidd} (h : Kidl w A n c xs) {k : Nat} (hk : k ≤ n) : Kidl w A k c (xs.take k) := by
  have := Sls.take h hk
  rw [← List.map_take] at this
  exact this
/-- The j-th one; kept shut. -/
def itAt (xs : List Itm) (j : Nat) : Itm := xs.getD j ⟨⟨0, 0, 0⟩, []⟩
def kidAt (xs : List Kidd) (j : Nat) : Kidd := xs.getD j ⟨⟨0, 0, 0⟩, 0⟩
def keyAt (xs : List Kd) (j : Nat) : Kd := xs.getD j ⟨0, 0, 0⟩
theorem itAt_get {xs : List Itm} {j : Nat} (h : j < xs.length) : xs[j]? = some (itAt xs j) := by simp [itAt, List.getD, h]
theorem kidAt_get {xs : List Kidd} {j : Nat} (h : j < xs.length) : xs[j]? = some (kidAt xs j) := by simp [kidAt, List.getD, h]
theorem keyAt_get {xs : List Kd} {j : Nat} (h : j < xs.length) : xs[j]? = some (keyAt xs j) := by simp [keyAt, List.getD, h]
theorem Itms.cell {xs : List Itm} (h : Itms w A n c xs) {j : Nat} (hj : j < n) : ∃ g o B m d, A = some ⟨g, o, none⟩ ∧ g < w.heap.size ∧ w.cell? ⟨g, o + j * 4, none⟩ = some (.int .i64 (itAt xs j).k.obj) ∧ w.cell? ⟨g, o + j * 4 + 1, none⟩ = some (.int .i64 (itAt xs j).k.kind) ∧
    w.cell? ⟨g, o + j * 4 + 2, none⟩ = some (.int .i64 (itAt xs j).k.off) ∧ w.cell? ⟨g, o + j * 4 + 3, none⟩ = some (.slice B m d) ∧ Sl w B m d (itAt xs j).v := by
  have hl := h.len
  obtain ⟨raw, h1, h2, h3⟩ := h
  have hr : raw[j]? = some (raw[j]'(by omega)) := List.getElem?_eq_getElem (by omega)
  obtain ⟨B, m, d, e, hs⟩ := h3 j _ _ hr (itAt_get (by omega))
  obtain ⟨g, o, rfl, hg, _, hc⟩ := h1.2.2.2 j _ hr
  rw [e] at hc
  exact ⟨g, o, B, m, d, rfl, hg, hc 0 _ rfl, hc 1 _ rfl, hc 2 _ rfl, hc 3 _ rfl, hs⟩
theorem Kidl.cell {xs : List Kidd} (h : Kidl w A n c xs) {j : Nat} (hj : j < n) : ∃ g o, A = some ⟨g, o, none⟩ ∧ g < w.heap.size ∧ w.cell? ⟨g, o + j * 4, none⟩ = some (.int .i64 (kidAt xs j).k.obj) ∧ w.cell? ⟨g, o + j * 4 + 1, none⟩ = some (.int .i64 (kidAt xs j).k.kind) ∧
    w.cell? ⟨g, o + j * 4 + 2, none⟩ = some (.int .i64 (kidAt xs j).k.off) ∧ w.cell? ⟨g, o + j * 4 + 3, none⟩ = some (.int .i64 (kidAt xs j).a) := by
  have hl := h.len
  obtain ⟨g, o, rfl, hg, _, hc⟩ := h.2.2.2 j (kidAt xs j).vs (by rw [List.getElem?_map, kidAt_get (by omega)]; rfl)
  exact ⟨g, o, rfl, hg, hc 0 _ rfl, hc 1 _ rfl, hc 2 _ rfl, hc 3 _ rfl⟩
theorem Keyl.cell {xs : List Kd} (h : Keyl w A n c xs) {j : Nat} (hj : j < n) : ∃ g o, A = some ⟨g, o, none⟩ ∧ g < w.heap.size ∧ w.cell? ⟨g, o + j * 3, none⟩ = some (.int .i64 (keyAt xs j).obj) ∧ w.cell? ⟨g, o + j * 3 + 1, none⟩ = some (.int .i64 (keyAt xs j).kind) ∧
    w.cell? ⟨g, o + j * 3 + 2, none⟩ = some (.int .i64 (keyAt xs j).off) := by
  have hl := h.len
  obtain ⟨g, o, rfl, hg, _, hc⟩ := h.2.2.2 j (kvs (keyAt xs j)) (by rw [List.getElem?_map, keyAt_get (by omega)]; rfl)
  exact ⟨g, o, rfl, hg, hc 0 _ rfl, hc 1 _ rfl, hc 2 _ rfl⟩
end

section
variable {H : Type} {enc : TypeId × Value → H} {P : Program} {W : World}
/-- How keys, items and kids lie, of any program. -/
structure KeyT (P : Program) (t : TypeId) (f0 f1 f2 : Field) : Prop where
  st : P.underlying t = some (.struct #[f0, f1, f2])
  one : oneCellFields P #[f0, f1, f2] = true
  cells : P.cellsOf t = 3
  h0 : P.underlying f0.type = some (.int .i64)
  h1 : P.underlying f1.type = some (.int .i64)
  h2 : P.underlying f2.type = some (.int .i64)
end
end Go.Proofs.YtipejjgodnnkaaaGreatDoor
