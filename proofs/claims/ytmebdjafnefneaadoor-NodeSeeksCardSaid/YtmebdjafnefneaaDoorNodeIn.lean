/- A node as plain data; how one that comes in is opened. -/
import Derived.Test.YtmebdjafnefneaaDoorKeyPl
import Derived.Test.YtmebdjafnefneaaDoorRow
import Derived.Deep.Fields
import Derived.WideShapes
namespace Go.Proofs.YtmebdjafnefneaaDoor
open Go Go.RowKit Go.Proofs Go.ChangeShapes Go.WideShapes Go.ChangeAt Go.Deep

/-- An item, a kid, a node. -/
structure Itm where
  k : Kd
  v : List UInt8
structure Kidd where
  k : Kd
  a : Int
structure Nd where
  lvl : Int
  items : List Itm
  kids : List Kidd
def kvs (k : Kd) : List Value := [.int .i64 k.obj, .int .i64 k.kind, .int .i64 k.off]
def Kidd.vs (x : Kidd) : List Value := [.int .i64 x.k.obj, .int .i64 x.k.kind, .int .i64 x.k.off, .int .i64 x.a]
/-- The cells of an item whose bytes are there. -/
def ItOk (w : World) (r : List Value) (x : Itm) : Prop := ∃ B m d, r = [.int .i64 x.k.obj, .int .i64 x.k.kind, .int .i64 x.k.off, .slice B m d] ∧ Sl w B m d x.v
/-- A slice of items; of kids; of keys. -/
def Itms (w : World) (A : Option Addr) (n c : Nat) (xs : List Itm) : Prop := ∃ raw, Sls w 4 A n c raw ∧ raw.length = xs.length ∧ ∀ (j : Nat) r x, raw[j]? = some r → xs[j]? = some x → ItOk w r x
def Kidl (w : World) (A : Option Addr) (n c : Nat) (xs : List Kidd) : Prop := Sls w 4 A n c (xs.map Kidd.vs)
def Keyl (w : World) (A : Option Addr) (n c : Nat) (xs : List Kd) : Prop := Sls w 3 A n c (xs.map kvs)
section
variable {w w' : World} {n c : Nat} {A : Option Addr}
theorem ItOk.below {r : List Value} {x : Itm} (h : ItOk w r x) (hb : Below w.heap.size w w') : ItOk w' r x := by
  obtain ⟨B, m, d, e, hs⟩ := h
  exact ⟨B, m, d, e, hs.below hb⟩
theorem Itms.below {xs : List Itm} (h : Itms w A n c xs) (hb : Below w.heap.size w w') : Itms w' A n c xs := by
  obtain ⟨raw, h1, h2, h3⟩ := h
  exact ⟨raw, h1.below hb, h2, fun j r x hr hx => (h3 j r x hr hx).below hb⟩
theorem Kidl.below {xs : List Kidd} (h : Kidl w A n c xs) (hb : Below w.heap.size w w') : Kidl w' A n c xs := Sls.below h hb
theorem Keyl.below {xs : List Kd} (h : Keyl w A n c xs) (hb : Below w.heap.size w w') : Keyl w' A n c xs := Sls.below h hb
theorem Itms.len {xs : List Itm} (h : Itms w A n c xs) : xs.length = n := by
  obtain ⟨raw, h1, h2, _⟩ := h
  rw [← h2]; exact h1.len
theorem Kidl.len {xs : List Kidd} (h : Kidl w A n c xs) : xs.length = n := by simpa using Sls.len h
theorem Keyl.len {xs : List Kd} (h : Keyl w A n c xs) : xs.length = n := by simpa using Sls.len h
theorem Itms.bounds {xs : List Itm} (h : Itms w A n c xs) : n ≤ c ∧ c ≤ maxLen := by
  obtain ⟨raw, h1, _⟩ := h
  exact ⟨h1.cap, h1.max⟩
theorem Kidl.bounds {xs : List Kidd} (h : Kidl w A n c xs) : n ≤ c ∧ c ≤ maxLen := ⟨Sls.cap h, Sls.max h⟩
theorem Keyl.bounds {xs : List Kd} (h : Keyl w A n c xs) : n ≤ c ∧ c ≤ maxLen := ⟨Sls.cap h, Sls.max h⟩
theorem Itms.take {xs : List Itm} (h : Itms w A n c xs) {k : Nat} (hk : k ≤ n) : Itms w A k c (xs.take k) := by
  obtain ⟨raw, h1, h2, h3⟩ := h
  refine ⟨raw.take k, h1.take hk, by simp [h2], fun j r x hr hx => ?_⟩
  rw [List.getElem?_take] at hr hx
  split at hr
  · rename_i hj
    rw [if_pos hj] at hx
    exact h3 j r x hr hx
  · cases hr
theorem Kidl.take {xs : List Kidd} (h : Kidl w A n c xs) {k : Nat} (hk : k ≤ n) : Kidl w A k c (xs.take k) := by
  have := Sls.take h hk
  rw [← List.map_take] at this
  exact this
/-- The j-th one; kept shut. -/
def itAt (xs : List Itm) (j : Nat) : Itm := xs.getD j ⟨⟨0, 0, 0⟩, []⟩
def kidAt (xs : List Kidd) (j : Nat) : Kidd := xs.getD j ⟨⟨0, 0, 0⟩, 0⟩
def keyAt (xs : List Kd) (j : Nat) : Kd := xs.getD j ⟨0, 0, 0⟩
theorem itAt_get {xs : List Itm} {j : Nat} (h : j < xs.length) : xs[j]? = some (itAt xs j) := by simp [itAt, List.getD, h]
theorem kidAt_get {xs : List Kidd} {j : Nat} (h : j < xs.length) : xs[j]? = some (kidAt xs j) := by simp [kidAt, List.getD, h]
theorem keyAt_get {xs : List Kd} {j : Nat} (h : j < xs.length) : xs[j]? = some (keyAt xs j) := by simp [keyAt, List.getD, h]
theorem Itms.cell {xs : List Itm} (h : Itms w A n c xs) {j : Nat} (hj : j < n) : ∃ g o B m d, A = some ⟨g, o, none⟩ ∧ g < w.heap.size ∧ w.cell? ⟨g, o + j * 4, none⟩ = some (.int .i64 (itAt xs j).k.obj) ∧ w.cell? ⟨g, o + j * 4 + 1, none⟩ = some (.int .i64 (itAt xs j).k.kind) ∧
    w.cell? ⟨g, o + j * 4 + 2, none⟩ = some (.int .i64 (itAt xs j).k.off) ∧ w.cell? ⟨g, o + j * 4 + 3, none⟩ = some (.slice B m d) ∧ Sl w B m d (itAt xs j).v := by
  have hl := h.len
  obtain ⟨raw, h1, h2, h3⟩ := h
  have hr : raw[j]? = some (raw[j]'(by omega)) := List.getElem?_eq_getElem (by omega)
  obtain ⟨B, m, d, e, hs⟩ := h3 j _ _ hr (itAt_get (by omega))
  obtain ⟨g, o, rfl, hg, _, hc⟩ := h1.2.2.2 j _ hr
  rw [e] at hc
  exact ⟨g, o, B, m, d, rfl, hg, hc 0 _ rfl, hc 1 _ rfl, hc 2 _ rfl, hc 3 _ rfl, hs⟩
theorem Kidl.cell {xs : List Kidd} (h : Kidl w A n c xs) {j : Nat} (hj : j < n) : ∃ g o, A = some ⟨g, o, none⟩ ∧ g < w.heap.size ∧ w.cell? ⟨g, o + j * 4, none⟩ = some (.int .i64 (kidAt xs j).k.obj) ∧ w.cell? ⟨g, o + j * 4 + 1, none⟩ = some (.int .i64 (kidAt xs j).k.kind) ∧
    w.cell? ⟨g, o + j * 4 + 2, none⟩ = some (.int .i64 (kidAt xs j).k.off) ∧ w.cell? ⟨g, o + j * 4 + 3, none⟩ = some (.int .i64 (kidAt xs j).a) := by
  have hl := h.len
  obtain ⟨g, o, rfl, hg, _, hc⟩ := h.2.2.2 j (kidAt xs j).vs (by rw [List.getElem?_map, kidAt_get (by omega)]; rfl)
  exact ⟨g, o, rfl, hg, hc 0 _ rfl, hc 1 _ rfl, hc 2 _ rfl, hc 3 _ rfl⟩
theorem Keyl.cell {xs : List Kd} (h : Keyl w A n c xs) {j : Nat} (hj : j < n) : ∃ g o, A = some ⟨g, o, none⟩ ∧ g < w.heap.size ∧ w.cell? ⟨g, o + j * 3, none⟩ = some (.int .i64 (keyAt xs j).obj) ∧ w.cell? ⟨g, o + j * 3 + 1, none⟩ = some (.int .i64 (keyAt xs j).kind) ∧
    w.cell? ⟨g, o + j * 3 + 2, none⟩ = some (.int .i64 (keyAt xs j).off) := by
  have hl := h.len
  obtain ⟨g, o, rfl, hg, _, hc⟩ := h.2.2.2 j (kvs (keyAt xs j)) (by rw [List.getElem?_map, keyAt_get (by omega)]; rfl)
  exact ⟨g, o, rfl, hg, hc 0 _ rfl, hc 1 _ rfl, hc 2 _ rfl⟩
theorem itms_nil (w : World) : Itms w none 0 0 [] := ⟨[], sls_nil w 4, rfl, fun j r x hr => by simp at hr⟩
theorem kidl_nil (w : World) : Kidl w none 0 0 [] := sls_nil w 4
end

section
variable {H : Type} {enc : TypeId × Value → H} {P : Program} {W : World}
theorem spot_none' {g o : Nat} {s : Option Nat} {v : Value} (h : W.cell? ⟨g, o, s⟩ = some v) : s = none := by
  cases s with
  | none => rfl
  | some k =>
    unfold World.cell? at h
    split at h <;> simp at h
/-- A slice of structs that comes in: its rows, and what each datum says. -/
theorem open_sls {t e : TypeId} {s : Nat} (hs : 0 < s) (ht : P.underlying t = some (.slice e)) (hc : P.cellsOf e = s) {fuel : Nat} {v : Value} {y : DataW H × List MemPlace}
    (hf : DataW.trod enc P W 0 (fun _ => true) true fuel t [v] = some y) : ∃ A n c raw, v = .slice A n c ∧ Sls W s A n c raw ∧ ∀ r ∈ raw, ∃ f y, DataW.trod enc P W 0 (fun _ => true) true f e r = some y := by
  rcases Deep.open_slice ht hf with ⟨hcs, _⟩ | ⟨a, len, cap, m, f, D, Pl, hcs, _, hl, hm, hmm, _, hi⟩
  · obtain rfl : v = .slice none 0 0 := by simpa using hcs
    exact ⟨_, _, _, [], rfl, sls_nil W s, fun r hr => by simp at hr⟩
  · obtain rfl : v = .slice (some a) len cap := by simpa using hcs
    rw [if_pos rfl] at hmm
    have key : ∀ i, i < len → ∃ cs : List Value, cs.length = s ∧ (∀ j, j < s → W.cell? ((a.add (i * s)).add j) = cs[j]?) ∧ ∃ f y, DataW.trod enc P W 0 (fun _ => true) true f e cs = some y := fun i hil => by
      obtain ⟨cs, g1, g2⟩ := hi i (by omega)
      rw [hc] at g1
      obtain ⟨_, hlen, hat⟩ := World.cells?_some g1
      exact ⟨cs, hlen, fun j hj => hat j hj, _, _, g2⟩
    obtain ⟨g, o, sp⟩ := a
    have ks : 0 < len → sp = none := fun h0 => by
      obtain ⟨cs, h1, h2, _⟩ := key 0 h0
      have h3 := h2 0 hs
      rw [List.getElem?_eq_getElem (by omega)] at h3
      exact spot_none' (show W.cell? ⟨g, o, sp⟩ = some (cs[0]'(by omega)) by simpa [Addr.add] using h3)
    classical
    let F : Nat → List Value := fun i => if h : i < len then (key i h).choose else []
    have hF : ∀ i (h : i < len), F i = (key i h).choose := fun i h => dif_pos h
    refine ⟨_, _, _, (List.range len).map F, rfl, ⟨by simp, hl, hm, fun j x hx => ?_⟩, fun r hr => ?_⟩
    · have hj : j < len := by have := (List.getElem?_eq_some_iff.1 hx).1; simpa using this
      rw [List.getElem?_map, List.getElem?_range hj] at hx
      obtain rfl : F j = x := by simpa using hx
      obtain rfl := ks (by omega)
      rw [hF j hj]
      have hq := (key j hj).choose_spec
      generalize (key j hj).choose = X at hq ⊢
      obtain ⟨q1, q2, _⟩ := hq
      have q3 : ∀ i v, X[i]? = some v → W.cell? ⟨g, o + j * s + i, none⟩ = some v := fun i v hv => by
        have hi : i < s := by have := (List.getElem?_eq_some_iff.1 hv).1; omega
        have := q2 i hi
        rw [Addr.add_mid, Addr.add_mid, hv] at this
        exact this
      exact ⟨g, o, rfl, World.block_lt_of_cell? W _ (q3 0 _ (List.getElem?_eq_getElem (by omega))), q1, q3⟩
    · obtain ⟨j, hj, rfl⟩ := List.mem_map.1 hr
      have hj := List.mem_range.1 hj
      rw [hF j hj]
      exact (key j hj).choose_spec.2.2
theorem bytes_trod {t e : TypeId} (T : ByteT P t e) (he : P.underlying e = some (.int .u8)) {fuel : Nat} {v : Value} {y : DataW H × List MemPlace} (hf : DataW.trod enc P W 0 (fun _ => true) true fuel t [v] = some y) : ∃ A n c l, v = .slice A n c ∧ Sl W A n c l := by
  have hv : ∃ a len cap, v = .slice a len cap := by
    rcases Deep.open_slice T.sl hf with ⟨hcs, _⟩ | ⟨a, len, cap, m, f, D, Pl, hcs, _⟩
    · exact ⟨_, _, _, by simpa using hcs⟩
    · exact ⟨_, _, _, by simpa using hcs⟩
  obtain ⟨a, len, cap, rfl⟩ := hv
  exact open_bytes (d := y.1) (ps := y.2) T he ⟨_, _, _, rfl⟩ ⟨fuel, hf⟩
theorem int_trod {e : TypeId} (he : P.underlying e = some (.int .i64)) {m : Nat} {c : Value} {y : DataW H × List MemPlace} (h : DataW.trod enc P W 0 (fun _ => true) true m e [c] = some y) : ∃ z, c = .int .i64 z := by
  obtain ⟨z, hcs, _, _⟩ := DataW.trod_int he h
  exact ⟨z, by simpa using hcs⟩
/-- A key's three cells. -/
theorem key_trod {t : TypeId} {f0 f1 f2 : Field} (ht : P.underlying t = some (.struct #[f0, f1, f2])) (hone : oneCellFields P #[f0, f1, f2] = true) (hct : P.cellsOf t = 3)
    (h0 : P.underlying f0.type = some (.int .i64)) (h1 : P.underlying f1.type = some (.int .i64)) (h2 : P.underlying f2.type = some (.int .i64)) {fuel : Nat} {cs : List Value} {y : DataW H × List MemPlace}
    (hf : DataW.trod enc P W 0 (fun _ => true) true fuel t cs = some y) : ∃ k : Kd, cs = kvs k := by
  obtain ⟨ys, n', hn', hy, hlen, hyl, hff⟩ := DataW.trod_struct ht hf
  rw [hct] at hlen
  match cs, hlen with
  | [v0, v1, v2], _ =>
    have q : ∀ (j : Nat) (ff : Field), (#[f0, f1, f2] : Array Field)[j]? = some ff → ∃ vv y, [v0, v1, v2][j]? = some vv ∧ DataW.trod enc P W 0 (fun _ => true) true n' ff.type [vv] = some y := fun j ff hj => by
      obtain ⟨ho, hk1⟩ := hone_of hone j ff hj
      have hjl : j < 3 := (Array.getElem?_eq_some_iff.1 hj).1
      have g3 := hff j ff hj
      have hys : ys[j]? = some (ys[j]'(by rw [hyl]; exact hjl)) := List.getElem?_eq_getElem _
      rw [ho, hk1, hys, List.drop_eq_getElem_cons (by simpa using hjl)] at g3
      exact ⟨_, _, List.getElem?_eq_getElem (by simpa using hjl), g3⟩
    obtain ⟨u0, y0, e0, t0⟩ := q 0 f0 rfl
    obtain ⟨u1, y1, e1, t1⟩ := q 1 f1 rfl
    obtain ⟨u2, y2, e2, t2⟩ := q 2 f2 rfl
    obtain ⟨z0, rfl⟩ := int_trod h0 t0
    obtain ⟨z1, rfl⟩ := int_trod h1 t1
    obtain ⟨z2, rfl⟩ := int_trod h2 t2
    simp at e0 e1 e2
    exact ⟨⟨z0, z1, z2⟩, by rw [e0, e1, e2]; rfl⟩
/-- The fields of a struct of two, three and one cells. -/
theorem two_parts {t : TypeId} {f0 f1 : Field} (ht : P.underlying t = some (.struct #[f0, f1])) (hct : P.cellsOf t = 4) (o0 : f0.offset = 0) (o1 : f1.offset = 3) (c0 : P.cellsOf f0.type = 3) (c1 : P.cellsOf f1.type = 1) {fuel : Nat} {cs : List Value} {y : DataW H × List MemPlace}
    (hf : DataW.trod enc P W 0 (fun _ => true) true fuel t cs = some y) : ∃ v0 v1 v2 v3 n y0 y1, cs = [v0, v1, v2, v3] ∧ DataW.trod enc P W 0 (fun _ => true) true n f0.type [v0, v1, v2] = some y0 ∧ DataW.trod enc P W 0 (fun _ => true) true n f1.type [v3] = some y1 := by
  obtain ⟨ys, n', hn', hy, hlen, hyl, hff⟩ := DataW.trod_struct ht hf
  rw [hct] at hlen
  match cs, hlen with
  | [v0, v1, v2, v3], _ =>
    have g0 := hff 0 f0 rfl
    have g1 := hff 1 f1 rfl
    have hyl : ys.length = 2 := hyl
    rw [o0, c0, List.getElem?_eq_getElem (by omega)] at g0
    rw [o1, c1, List.getElem?_eq_getElem (by omega)] at g1
    exact ⟨v0, v1, v2, v3, n', _, _, rfl, g0, g1⟩
/-- How keys, items and kids lie, of any program. -/
structure KeyT (P : Program) (t : TypeId) (f0 f1 f2 : Field) : Prop where
  st : P.underlying t = some (.struct #[f0, f1, f2])
  one : oneCellFields P #[f0, f1, f2] = true
  cells : P.cellsOf t = 3
  h0 : P.underlying f0.type = some (.int .i64)
  h1 : P.underlying f1.type = some (.int .i64)
  h2 : P.underlying f2.type = some (.int .i64)
theorem open_itms {ts t te : TypeId} {f0 f1 k0 k1 k2 : Field} (hts : P.underlying ts = some (.slice t)) (ht : P.underlying t = some (.struct #[f0, f1])) (hct : P.cellsOf t = 4) (o0 : f0.offset = 0) (o1 : f1.offset = 3) (c1 : P.cellsOf f1.type = 1)
    (K : KeyT P f0.type k0 k1 k2) (T : ByteT P f1.type te) (he : P.underlying te = some (.int .u8)) {fuel : Nat} {v : Value} {y : DataW H × List MemPlace}
    (hf : DataW.trod enc P W 0 (fun _ => true) true fuel ts [v] = some y) : ∃ A n c xs, v = .slice A n c ∧ Itms W A n c xs := by
  obtain ⟨A, n, c, raw, rfl, hs, hr⟩ := open_sls (by omega : 0 < 4) hts hct hf
  have key : ∀ r ∈ raw, ∃ x : Itm, ItOk W r x := fun r hm => by
    obtain ⟨f, y, h⟩ := hr r hm
    obtain ⟨v0, v1, v2, v3, n', y0, y1, rfl, g0, g1⟩ := two_parts ht hct o0 o1 K.cells c1 h
    obtain ⟨k, hk⟩ := key_trod K.st K.one K.cells K.h0 K.h1 K.h2 g0
    obtain ⟨B, m, d, l, rfl, hl⟩ := bytes_trod T he g1
    unfold kvs at hk
    injection hk with e0 hk
    injection hk with e1 hk
    injection hk with e2 _
    exact ⟨⟨k, l⟩, B, m, d, by rw [e0, e1, e2], hl⟩
  classical
  let F : List Value → Itm := fun r => if h : r ∈ raw then (key r h).choose else ⟨⟨0, 0, 0⟩, []⟩
  refine ⟨A, n, c, raw.map F, rfl, raw, hs, by simp, fun j r x h1 h2 => ?_⟩
  rw [List.getElem?_map, h1] at h2
  obtain rfl : F r = x := by simpa using h2
  have hm := List.mem_of_getElem? h1
  have hF : F r = (key r hm).choose := dif_pos hm
  rw [hF]
  exact (key r hm).choose_spec
theorem open_kidl {ts t : TypeId} {f0 f1 k0 k1 k2 : Field} (hts : P.underlying ts = some (.slice t)) (ht : P.underlying t = some (.struct #[f0, f1])) (hct : P.cellsOf t = 4) (o0 : f0.offset = 0) (o1 : f1.offset = 3) (c1 : P.cellsOf f1.type = 1)
    (K : KeyT P f0.type k0 k1 k2) (he : P.underlying f1.type = some (.int .i64)) {fuel : Nat} {v : Value} {y : DataW H × List MemPlace}
    (hf : DataW.trod enc P W 0 (fun _ => true) true fuel ts [v] = some y) : ∃ A n c xs, v = .slice A n c ∧ Kidl W A n c xs := by
  obtain ⟨A, n, c, raw, rfl, hs, hr⟩ := open_sls (by omega : 0 < 4) hts hct hf
  have key : ∀ r ∈ raw, ∃ x : Kidd, r = x.vs := fun r hm => by
    obtain ⟨f, y, h⟩ := hr r hm
    obtain ⟨v0, v1, v2, v3, n', y0, y1, rfl, g0, g1⟩ := two_parts ht hct o0 o1 K.cells c1 h
    obtain ⟨k, hk⟩ := key_trod K.st K.one K.cells K.h0 K.h1 K.h2 g0
    obtain ⟨z, rfl⟩ := int_trod he g1
    unfold kvs at hk
    injection hk with e0 hk
    injection hk with e1 hk
    injection hk with e2 _
    exact ⟨⟨k, z⟩, by rw [e0, e1, e2]; rfl⟩
  classical
  let F : List Value → Kidd := fun r => if h : r ∈ raw then (key r h).choose else ⟨⟨0, 0, 0⟩, 0⟩
  have hF : (raw.map F).map Kidd.vs = raw := by
    rw [List.map_map]
    conv => rhs; rw [← List.map_id raw]
    refine List.map_congr_left fun r hm => ?_
    have : F r = (key r hm).choose := dif_pos hm
    show (F r).vs = r
    rw [this]
    exact (key r hm).choose_spec.symm
  exact ⟨A, n, c, raw.map F, rfl, by unfold Kidl; rw [hF]; exact hs⟩
/-- A node that comes in. -/
theorem open_node {tn : TypeId} {g0 g1 g2 : Field} {t1 t2 te : TypeId} {i0 i1 j0 j1 k0 k1 k2 l0 l1 l2 : Field} (hn : P.underlying tn = some (.struct #[g0, g1, g2])) (hone : oneCellFields P #[g0, g1, g2] = true) (hct : P.cellsOf tn = 3) (h0 : P.underlying g0.type = some (.int .i64))
    (hs1 : P.underlying g1.type = some (.slice t1)) (hi : P.underlying t1 = some (.struct #[i0, i1])) (hci : P.cellsOf t1 = 4) (o0 : i0.offset = 0) (o1 : i1.offset = 3) (c1 : P.cellsOf i1.type = 1) (K : KeyT P i0.type k0 k1 k2) (T : ByteT P i1.type te) (he : P.underlying te = some (.int .u8))
    (hs2 : P.underlying g2.type = some (.slice t2)) (hj : P.underlying t2 = some (.struct #[j0, j1])) (hcj : P.cellsOf t2 = 4) (p0 : j0.offset = 0) (p1 : j1.offset = 3) (d1 : P.cellsOf j1.type = 1) (L : KeyT P j0.type l0 l1 l2) (ha : P.underlying j1.type = some (.int .i64))
    {r : Reach} {b0 : Nat} {v : Value} {d : DataW H} {ps : List MemPlace} (hv : Value.okWide P W r b0 tn v) (h : DataW.Trod enc P W 0 (fun _ => true) true tn v d ps) :
    ∃ (N : Nd) (A : Option Addr) (n c : Nat) (B : Option Addr) (m e : Nat), v = .agg #[.int .i64 N.lvl, .slice A n c, .slice B m e] ∧ Itms W A n c N.items ∧ Kidl W B m e N.kids := by
  obtain ⟨cs, rfl, hsz⟩ := okWide_struct hn hv
  obtain ⟨f, hf⟩ := h
  obtain ⟨xs, m, _, _, hl, hxl, hff⟩ := DataW.trod_struct hn hf
  have hlen : cs.toList.length = 3 := by rw [Array.length_toList, hsz, hct]
  obtain ⟨v0, v1, v2, hcs⟩ : ∃ v0 v1 v2, cs.toList = [v0, v1, v2] := by
    match cs.toList, hlen with
    | [a, b, c], _ => exact ⟨a, b, c, rfl⟩
  have q : ∀ (j : Nat) (ff : Field), (#[g0, g1, g2] : Array Field)[j]? = some ff → ∃ vv y, [v0, v1, v2][j]? = some vv ∧ DataW.trod enc P W 0 (fun _ => true) true m ff.type [vv] = some y := fun j ff hj => by
    obtain ⟨ho, hk1⟩ := hone_of hone j ff hj
    have hjl : j < 3 := (Array.getElem?_eq_some_iff.1 hj).1
    have g3 := hff j ff hj
    have hys : xs[j]? = some (xs[j]'(by rw [hxl]; exact hjl)) := List.getElem?_eq_getElem _
    have h3 : (Value.agg cs).cells.toList = cs.toList := rfl
    rw [ho, hk1, hys, h3, hcs, List.drop_eq_getElem_cons (by simpa using hjl)] at g3
    exact ⟨_, _, List.getElem?_eq_getElem (by simpa using hjl), g3⟩
  obtain ⟨u0, y0, e0, q0⟩ := q 0 g0 rfl
  obtain ⟨u1, y1, e1, q1⟩ := q 1 g1 rfl
  obtain ⟨u2, y2, e2, q2⟩ := q 2 g2 rfl
  obtain ⟨z, rfl⟩ := int_trod h0 q0
  obtain ⟨A, n, c, its, rfl, hits⟩ := open_itms hs1 hi hci o0 o1 c1 K T he q1
  obtain ⟨B, m', e', ks, rfl, hks⟩ := open_kidl hs2 hj hcj p0 p1 d1 L ha q2
  simp at e0 e1 e2
  refine ⟨⟨z, its, ks⟩, A, n, c, B, m', e', ?_, hits, hks⟩
  rw [e0, e1, e2] at hcs
  exact congrArg Value.agg (by rw [← hcs])
end
end Go.Proofs.YtmebdjafnefneaaDoor
