/- Rows of structs: slices whose elements are rows of s cells; nothing here speaks of one program. A node as plain data; how one that comes in is opened. What a call may turn: a set of blocks. And rows of sectors of 256 bytes. Nothing here speaks of one program. Rows of structs that grow beside values in blocks of their own: an append turns the row's own block alone. A node, and a key, that come in, over this program's types. How rows of keys come in. How two keys in one array come in. -/
import Derived.Test.YtgedmodnkiijkaaGreatDoorFn1
import Derived.Test.YtgedmodnkiijkaaGreatDoorFn2
import Derived.Deep.MidRow
import Derived.Deep.Slices
import Derived.Maps.AppendAt
import Derived.Deep.Fields
import Derived.WideShapes
import Derived.Deep.WholeRow
namespace Go.Proofs.YtgedmodnkiijkaaGreatDoor
open Go Go.RowKit Go.Proofs

/-- The slice (A, n, c) of elements of s cells reads as xs. -/
def Sls (w : World) (s : Nat) (A : Option Addr) (n c : Nat) (xs : List (List Value)) : Prop :=
  xs.length = n ∧ n ≤ c ∧ c ≤ maxLen ∧ ∀ (j : Nat) x, xs[j]? = some x → ∃ g o, A = some ⟨g, o, none⟩ ∧ g < w.heap.size ∧ x.length = s ∧ w.rangeAt g (o + j * s) x
section
variable {w w' : World} {s n c : Nat} {A : Option Addr} {xs : List (List Value)}
theorem Sls.len (h : Sls w s A n c xs) : xs.length = n := h.1
theorem Sls.cap (h : Sls w s A n c xs) : n ≤ c := h.2.1
theorem Sls.max (h : Sls w s A n c xs) : c ≤ maxLen := h.2.2.1
theorem Sls.keep (h : Sls w s A n c xs) (hz : w.heap.size ≤ w'.heap.size) (hk : ∀ g o, A = some ⟨g, o, none⟩ → g < w.heap.size → w'.heap[g]? = w.heap[g]?) : Sls w' s A n c xs :=
  ⟨h.1, h.2.1, h.2.2.1, fun j x hx => by
    obtain ⟨g, o, e, hg, hl, hr⟩ := h.2.2.2 j x hx
    exact ⟨g, o, e, by omega, hl, fun i v hv => (World.cell?_of_block (a := ⟨g, o + j * s + i, none⟩) (hk g o e hg)).trans (hr i v hv)⟩⟩
theorem Sls.below (h : Sls w s A n c xs) (hb : Below w.heap.size w w') : Sls w' s A n c xs := h.keep hb.size fun g _ _ hg => hb.block g hg
theorem Sls.drew (h : Sls w s A n c xs) : Sls w.drew s A n c xs := h
theorem Sls.take (h : Sls w s A n c xs) {k : Nat} (hk : k ≤ n) : Sls w s A k c (xs.take k) := by
  refine ⟨by have := h.len; simp; omega, by have := h.cap; omega, h.max, fun j x hx => h.2.2.2 j x ?_⟩
  rw [List.getElem?_take] at hx
  split at hx
  · exact hx
  · cases hx
theorem Sls.at_ (h : Sls w s A n c xs) {j : Nat} (hj : j < n) : ∃ g o, A = some ⟨g, o, none⟩ ∧ g < w.heap.size ∧ (xs.getD j []).length = s ∧ w.rangeAt g (o + j * s) (xs.getD j []) := by
  have hl : j < xs.length := by have := h.len; omega
  exact h.2.2.2 j _ (by simp [List.getD, hl])
theorem sls_nil (w : World) (s : Nat) : Sls w s none 0 0 [] := ⟨rfl, Nat.le_refl _, Nat.zero_le _, fun j u hu => by simp at hu⟩
end

/-- t is the type of slices of e: s cells and b bytes an element, z at first. -/
structure RowT (P : Program) (t e : TypeId) (s b : Nat) (z : Value) : Prop where
  sl : P.underlying t = some (.slice e)
  info : (P.info? e).map (fun i => (i.zero, i.size, i.bytes)) = some (some z, s, b)
  cells : z.cells.size = s
  pos : 0 < s
/-- The call's own row of structs. -/
def OwnS (w : World) (base : Nat) (e : TypeId) (s : Nat) (A : Option Addr) (n c : Nat) (xs : List (List Value)) : Prop := w.ownsRow base e s (.slice A n c) n xs.flatten ∧ ∀ x ∈ xs, x.length = s
theorem fl_len {s : Nat} : ∀ {xs : List (List Value)}, (∀ x ∈ xs, x.length = s) → xs.flatten.length = xs.length * s
  | [], _ => by simp
  | x :: xs, h => by
    rw [List.flatten_cons, List.length_append, fl_len (fun y hy => h y (List.mem_cons_of_mem _ hy)), h x (List.mem_cons_self ..), List.length_cons, Nat.add_mul, Nat.one_mul, Nat.add_comm]
theorem fl_get {s : Nat} : ∀ {xs : List (List Value)}, (∀ x ∈ xs, x.length = s) → ∀ (j : Nat) x, xs[j]? = some x → ∀ (i : Nat) v, x[i]? = some v → xs.flatten[j * s + i]? = some v
  | [], _, j, x, hx, _, _, _ => by simp at hx
  | y :: xs, h, 0, x, hx, i, v, hv => by
    obtain rfl : y = x := by simpa using hx
    rw [List.flatten_cons, Nat.zero_mul, Nat.zero_add, List.getElem?_append_left (List.getElem?_eq_some_iff.1 hv).1]
    exact hv
  | y :: xs, h, j + 1, x, hx, i, v, hv => by
    have hy := h y (List.mem_cons_self ..)
    rw [List.flatten_cons, List.getElem?_append_right (by rw [hy, Nat.add_mul]; omega), hy, show (j + 1) * s + i - s = j * s + i by rw [Nat.add_mul]; omega]
    exact fl_get (fun z hz => h z (List.mem_cons_of_mem _ hz)) j x (by simpa using hx) i v hv
theorem fl_at {s : Nat} (hs : 0 < s) {xs : List (List Value)} (h : ∀ x ∈ xs, x.length = s) (m : Nat) (v : Value) (hv : xs.flatten[m]? = some v) : ∃ x, xs[m / s]? = some x ∧ x[m % s]? = some v := by
  have hm : m < xs.length * s := by rw [← fl_len h]; exact (List.getElem?_eq_some_iff.1 hv).1
  have hj : m / s < xs.length := Nat.div_lt_of_lt_mul (by rw [Nat.mul_comm]; exact hm)
  have hx : xs[m / s]? = some xs[m / s] := List.getElem?_eq_getElem hj
  have hi : m % s < xs[m / s].length := by rw [h _ (List.getElem_mem hj)]; exact Nat.mod_lt _ hs
  refine ⟨_, hx, ?_⟩
  have h2 := fl_get h (m / s) _ hx (m % s) _ (List.getElem?_eq_getElem hi)
  rw [Nat.mul_comm, Nat.div_add_mod] at h2
  rw [List.getElem?_eq_getElem hi, ← hv, h2]
section
variable {w w' : World} {base s n c : Nat} {e : TypeId} {A : Option Addr} {xs : List (List Value)}
theorem OwnS.len (h : OwnS w base e s A n c xs) (hs : 0 < s) : xs.length = n := by
  have h1 := h.1.1
  rw [fl_len h.2] at h1
  exact Nat.eq_of_mul_eq_mul_right hs h1
theorem OwnS.sls (h : OwnS w base e s A n c xs) (hs : 0 < s) : Sls w s A n c xs := by
  have hl := h.len hs
  refine ⟨hl, ?_, ?_, fun j x hx => ?_⟩
  · rcases h.1.2 with ⟨hv, rfl⟩ | ⟨g, cap, cur, hv, _, _, h1, h2, _⟩
    · omega
    · injection hv with _ _ h3; omega
  · rcases h.1.2 with ⟨hv, rfl⟩ | ⟨g, cap, cur, hv, _, _, h1, h2, _⟩
    · injection hv with _ _ h3; unfold maxLen; omega
    · injection hv with _ _ h3; omega
  · have hj := (List.getElem?_eq_some_iff.1 hx).1
    rcases h.1.2 with ⟨hv, rfl⟩ | ⟨g, cap, cur, hv, hb, hg, h1, h2, h3, h4⟩
    · omega
    · have hA : A = some ⟨g, 0, none⟩ := by injection hv
      refine ⟨g, 0, hA, (Array.getElem?_eq_some_iff.1 hg).1, h.2 x (List.mem_of_getElem? hx), fun i v hi => ?_⟩
      have h5 := fl_get h.2 j x hx i v hi
      rw [← h4, List.getElem?_take] at h5
      split at h5
      · rw [cell_of_row _ _ _ _ _ _ hg, Nat.zero_add]
        simpa using h5
      · cases h5
theorem OwnS.less {b : Nat} (h : OwnS w base e s A n c xs) (hb : b ≤ base) : OwnS w b e s A n c xs := by
  refine ⟨⟨h.1.1, ?_⟩, h.2⟩
  rcases h.1.2 with hv | ⟨g, cap, cur, hv, h1, r⟩
  · exact .inl hv
  · exact .inr ⟨g, cap, cur, hv, Nat.le_trans hb h1, r⟩
theorem OwnS.keep (h : OwnS w base e s A n c xs) (hk : ∀ g, base ≤ g → g < w.heap.size → w'.heap[g]? = w.heap[g]?) : OwnS w' base e s A n c xs := by
  refine ⟨⟨h.1.1, ?_⟩, h.2⟩
  rcases h.1.2 with hv | ⟨g, cap, cur, hv, h1, hg, r⟩
  · exact .inl hv
  · exact .inr ⟨g, cap, cur, hv, h1, (hk g h1 (Array.getElem?_eq_some_iff.1 hg).1).trans hg, r⟩
theorem OwnS.below (h : OwnS w base e s A n c xs) (hb : Below w.heap.size w w') : OwnS w' base e s A n c xs := h.keep fun g _ hg => hb.block g hg
theorem OwnS.drew (h : OwnS w base e s A n c xs) : OwnS w.drew base e s A n c xs := h
theorem owns_none (w : World) (base : Nat) (e : TypeId) (s : Nat) : OwnS w base e s none 0 0 [] := ⟨⟨by simp, .inl ⟨rfl, rfl⟩⟩, fun x hx => by simp at hx⟩
/-- An empty literal; a literal of one element. -/
theorem owns_lit0 (w : World) (e : TypeId) (s : Nat) : OwnS (w.alloc (.cells #[] e)) w.heap.size e s (some ⟨w.heap.size, 0, none⟩) 0 0 [] :=
  ⟨⟨by simp, .inr ⟨w.heap.size, 0, #[], rfl, Nat.le_refl _, heap_alloc_new w _, Nat.le_refl _, Nat.zero_le _, by simp, by simp⟩⟩, fun x hx => by simp at hx⟩
theorem owns_lit1 (w : World) (e : TypeId) (s : Nat) (x : List Value) (cs : Array Value) (hc : cs = x.toArray) (hx : x.length = s) : OwnS (w.alloc (.cells cs e)) w.heap.size e s (some ⟨w.heap.size, 0, none⟩) 1 1 [x] := by
  subst hc
  subst hx
  refine ⟨⟨by simp, .inr ⟨w.heap.size, 1, x.toArray, rfl, Nat.le_refl _, heap_alloc_new w _, Nat.le_refl _, by unfold maxLen; omega, by simp, by simp⟩⟩, fun y hy => ?_⟩
  obtain rfl : y = x := by simpa using hy
  rfl
end
section
variable {P : Program} {t e : TypeId} {s b : Nat} {z : Value} (w : World)
theorem run_append_s (T : RowT P t e s b z) (ty : TypeId) (base : Nat) (A : Option Addr) (n c : Nat) (xs : List (List Value)) (hown : OwnS w base e s A n c xs)
    (B : Option Addr) (m d : Nat) (ys : List (List Value)) (hr : Sls w s B m d ys) (hm0 : 0 < m) (h1 : ∀ y ∈ ys, ∀ u ∈ y, u.oneCell' = true) (hnm : n + m ≤ 1000000) (hb : b ≤ 100000) (hbase : base ≤ w.heap.size) :
    ∃ A' c' w', (Builtin.append_ #[t, t] ty #[.slice A n c, .slice B m d]).run P w = .ok (.slice A' (n + m) c') w' ∧ OwnS w' base e s A' (n + m) c' (xs ++ ys) ∧ Below base w w' := by
  obtain ⟨i, hi, hz0, hz1, hz2⟩ := info_parts T.info
  obtain ⟨g, o, rfl, hg, hl0, hr0⟩ := hr.at_ hm0
  have hys : ∀ y ∈ ys, y.length = s := fun y hy => by
    obtain ⟨j, hj⟩ := List.mem_iff_getElem?.1 hy
    obtain ⟨_, _, _, _, h, _⟩ := hr.2.2.2 j y hj
    exact h
  have hcells : ∀ j u, ys.flatten[j]? = some u → w.cell? ((⟨g, o, none⟩ : Addr).add j) = some u := by
    intro j u hu
    obtain ⟨y, hy, hv⟩ := fl_at T.pos hys j u hu
    obtain ⟨g', o', e', _, _, hr'⟩ := hr.2.2.2 _ y hy
    injection e' with e'
    injection e' with e1 e2
    subst e1 e2
    have := hr' _ u hv
    rw [Addr.add_mid]
    rw [Nat.add_assoc, Nat.mul_comm, Nat.div_add_mod] at this
    exact this
  have hbb : (n + m) * b ≤ 140737488355328 := Nat.le_trans (Nat.mul_le_mul hnm hb) (by decide)
  obtain ⟨v', w', hrun, h2, h3, h4, _⟩ := run_append_own_at (P := P) w base t ty e i z s b T.sl hi hz0 hz1 hz2 T.cells T.pos _ n _ hown.1 ⟨g, o, none⟩ m d ys.flatten (by rw [fl_len hys, hr.len]) hcells (fun u hu => by
    obtain ⟨y, hy, hu⟩ := List.mem_flatten.1 hu
    exact h1 y hy u hu) (by unfold maxLen; omega) hbb hbase
  have hB : Below base w w' := (Below.refl _ _).grown h3 hbase (fun k hk => by
    rcases hown.1.2 with ⟨hv, _⟩ | ⟨g, cap, cur, hv, h1, _⟩
    · rw [hv] at hk; simp [Value.ownBlock] at hk
    · rw [hv] at hk; simp [Value.ownBlock] at hk; omega)
  rw [← List.flatten_append] at h2
  have hall : ∀ x ∈ xs ++ ys, x.length = s := fun x hx => by
    rcases List.mem_append.1 hx with h | h
    · exact hown.2 x h
    · exact hys x h
  rcases h2.2 with ⟨rfl, h0⟩ | ⟨g', cap, cur, rfl, _⟩
  · omega
  · exact ⟨_, _, w', hrun, ⟨h2, hall⟩, hB⟩
/-- append onto the call's own row of structs. -/
theorem wp_append_s (T : RowT P t e s b z) {ops : Array Oper} {rest : List Oper} {o : Oper} {a : Act} {Q : Exit → Act → World → Prop} (hgd : o.guard = none) (so x : Operand)
    (ho : o.op = .call { callee := .builtin .append, args := #[so, x], argTypes := #[t, t] })
    (base : Nat) (A : Option Addr) (n c : Nat) (xs : List (List Value)) (hs : a.eval so = .slice A n c) (hown : OwnS w base e s A n c xs)
    (B : Option Addr) (m d : Nat) (ys : List (List Value)) (hx : a.eval x = .slice B m d) (hr : Sls w s B m d ys) (hm0 : 0 < m) (h1 : ∀ y ∈ ys, ∀ u ∈ y, u.oneCell' = true) (hnm : n + m ≤ 1000000) (hb : b ≤ 100000) (hbase : base ≤ w.heap.size)
    (h : ∀ A' c' w', OwnS w' base e s A' (n + m) c' (xs ++ ys) → Below base w w' → wpList P ops Q rest (a.put o.dst (.slice A' (n + m) c')) w') : wpList P ops Q (o :: rest) a w :=
  wpList_plain hgd fun K hK => by
    obtain ⟨A', c', w', hrun, h2, h3⟩ := run_append_s (P := P) w T o.type base A n c xs hown B m d ys hr hm0 h1 hnm hb hbase
    unfold Oper.wp execOp
    simp only [ho, resolve, invoke, builtin, Sem.run_bind, Sem.run_pure, Result.andThen_ok, List.map_toArray, List.map_cons, List.map_nil, hs, hx, hrun]
    exact hK _ _ (h A' c' w' h2 h3)
end
end Go.Proofs.YtgedmodnkiijkaaGreatDoor

namespace Go.Proofs.YtgedmodnkiijkaaGreatDoor
open Go Go.RowKit Go.Proofs Go.ChangeShapes Go.WideShapes Go.ChangeAt Go.Deep

/-- An item, a kid, a node. -/
structure Itm where
  k : Kd
  v : List UInt8
structure Kidd where
  k : Kd
  a : Int
structure Nd where
  lvl : Int
  items : List Itm
  kids : List Kidd
def kvs (k : Kd) : List Value := [.int .i64 k.obj, .int .i64 k.kind, .int .i64 k.off]
def Kidd.vs (x : Kidd) : List Value := [.int .i64 x.k.obj, .int .i64 x.k.kind, .int .i64 x.k.off, .int .i64 x.a]
/-- The cells of an item whose bytes are there. -/
def ItOk (w : World) (r : List Value) (x : Itm) : Prop := ∃ B m d, r = [.int .i64 x.k.obj, .int .i64 x.k.kind, .int .i64 x.k.off, .slice B m d] ∧ Sl w B m d x.v
/-- A slice of items; of kids; of keys. -/
def Itms (w : World) (A : Option Addr) (n c : Nat) (xs : List Itm) : Prop := ∃ raw, Sls w 4 A n c raw ∧ raw.length = xs.length ∧ ∀ (j : Nat) r x, raw[j]? = some r → xs[j]? = some x → ItOk w r x
def Kidl (w : World) (A : Option Addr) (n c : Nat) (xs : List Kidd) : Prop := Sls w 4 A n c (xs.map Kidd.vs)
def Keyl (w : World) (A : Option Addr) (n c : Nat) (xs : List Kd) : Prop := Sls w 3 A n c (xs.map kvs)
section
variable {w w' : World} {n c : Nat} {A : Option Addr}
theorem ItOk.below {r : List Value} {x : Itm} (h : ItOk w r x) (hb : Below w.heap.size w w') : ItOk w' r x := by
  obtain ⟨B, m, d, e, hs⟩ := h
  exact ⟨B, m, d, e, hs.below hb⟩
theorem Itms.below {xs : List Itm} (h : Itms w A n c xs) (hb : Below w.heap.size w w') : Itms w' A n c xs := by
  obtain ⟨raw, h1, h2, h3⟩ := h
  exact ⟨raw, h1.below hb, h2, fun j r x hr hx => (h3 j r x hr hx).below hb⟩
theorem Kidl.below {xs : List Kidd} (h : Kidl w A n c xs) (hb : Below w.heap.size w w') : Kidl w' A n c xs := Sls.below h hb
theorem Keyl.below {xs : List Kd} (h : Keyl w A n c xs) (hb : Below w.heap.size w w') : Keyl w' A n c xs := Sls.below h hb
theorem Itms.len {xs : List Itm} (h : Itms w A n c xs) : xs.length = n := by
  obtain ⟨raw, h1, h2, _⟩ := h
  rw [← h2]; exact h1.len
theorem Kidl.len {xs : List Kidd} (h : Kidl w A n c xs) : xs.length = n := by simpa using Sls.len h
theorem Keyl.len {xs : List Kd} (h : Keyl w A n c xs) : xs.length = n := by simpa using Sls.len h
theorem Itms.bounds {xs : List Itm} (h : Itms w A n c xs) : n ≤ c ∧ c ≤ maxLen := by
  obtain ⟨raw, h1, _⟩ := h
  exact ⟨h1.cap, h1.max⟩
theorem Kidl.bounds {xs : List Kidd} (h : Kidl w A n c xs) : n ≤ c ∧ c ≤ maxLen := ⟨Sls.cap h, Sls.max h⟩
theorem Keyl.bounds {xs : List Kd} (h : Keyl w A n c xs) : n ≤ c ∧ c ≤ maxLen := ⟨Sls.cap h, Sls.max h⟩
theorem Itms.take {xs : List Itm} (h : Itms w A n c xs) {k : Nat} (hk : k ≤ n) : Itms w A k c (xs.take k) := by
  obtain ⟨raw, h1, h2, h3⟩ := h
  refine ⟨raw.take k, h1.take hk, by simp [h2], fun j r x hr hx => ?_⟩
  rw [List.getElem?_take] at hr hx
  split at hr
  · rename_i hj
    rw [if_pos hj] at hx
    exact h3 j r x hr hx
  · cases hr
theorem Kidl.take {xs : List Kidd} (h : Kidl w A n c xs) {k : Nat} (hk : k ≤ n) : Kidl w A k c (xs.take k) := by
  have := Sls.take h hk
  rw [← List.map_take] at this
  exact this
/-- The j-th one; kept shut. -/
def itAt (xs : List Itm) (j : Nat) : Itm := xs.getD j ⟨⟨0, 0, 0⟩, []⟩
def kidAt (xs : List Kidd) (j : Nat) : Kidd := xs.getD j ⟨⟨0, 0, 0⟩, 0⟩
def keyAt (xs : List Kd) (j : Nat) : Kd := xs.getD j ⟨0, 0, 0⟩
theorem itAt_get {xs : List Itm} {j : Nat} (h : j < xs.length) : xs[j]? = some (itAt xs j) := by simp [itAt, List.getD, h]
theorem kidAt_get {xs : List Kidd} {j : Nat} (h : j < xs.length) : xs[j]? = some (kidAt xs j) := by simp [kidAt, List.getD, h]
theorem keyAt_get {xs : List Kd} {j : Nat} (h : j < xs.length) : xs[j]? = some (keyAt xs j) := by simp [keyAt, List.getD, h]
theorem Itms.cell {xs : List Itm} (h : Itms w A n c xs) {j : Nat} (hj : j < n) : ∃ g o B m d, A = some ⟨g, o, none⟩ ∧ g < w.heap.size ∧ w.cell? ⟨g, o + j * 4, none⟩ = some (.int .i64 (itAt xs j).k.obj) ∧ w.cell? ⟨g, o + j * 4 + 1, none⟩ = some (.int .i64 (itAt xs j).k.kind) ∧
    w.cell? ⟨g, o + j * 4 + 2, none⟩ = some (.int .i64 (itAt xs j).k.off) ∧ w.cell? ⟨g, o + j * 4 + 3, none⟩ = some (.slice B m d) ∧ Sl w B m d (itAt xs j).v := by
  have hl := h.len
  obtain ⟨raw, h1, h2, h3⟩ := h
  have hr : raw[j]? = some (raw[j]'(by omega)) := List.getElem?_eq_getElem (by omega)
  obtain ⟨B, m, d, e, hs⟩ := h3 j _ _ hr (itAt_get (by omega))
  obtain ⟨g, o, rfl, hg, _, hc⟩ := h1.2.2.2 j _ hr
  rw [e] at hc
  exact ⟨g, o, B, m, d, rfl, hg, hc 0 _ rfl, hc 1 _ rfl, hc 2 _ rfl, hc 3 _ rfl, hs⟩
theorem Kidl.cell {xs : List Kidd} (h : Kidl w A n c xs) {j : Nat} (hj : j < n) : ∃ g o, A = some ⟨g, o, none⟩ ∧ g < w.heap.size ∧ w.cell? ⟨g, o + j * 4, none⟩ = some (.int .i64 (kidAt xs j).k.obj) ∧ w.cell? ⟨g, o + j * 4 + 1, none⟩ = some (.int .i64 (kidAt xs j).k.kind) ∧
    w.cell? ⟨g, o + j * 4 + 2, none⟩ = some (.int .i64 (kidAt xs j).k.off) ∧ w.cell? ⟨g, o + j * 4 + 3, none⟩ = some (.int .i64 (kidAt xs j).a) := by
  have hl := h.len
  obtain ⟨g, o, rfl, hg, _, hc⟩ := h.2.2.2 j (kidAt xs j).vs (by rw [List.getElem?_map, kidAt_get (by omega)]; rfl)
  exact ⟨g, o, rfl, hg, hc 0 _ rfl, hc 1 _ rfl, hc 2 _ rfl, hc 3 _ rfl⟩
theorem Keyl.cell {xs : List Kd} (h : Keyl w A n c xs) {j : Nat} (hj : j < n) : ∃ g o, A = some ⟨g, o, none⟩ ∧ g < w.heap.size ∧ w.cell? ⟨g, o + j * 3, none⟩ = some (.int .i64 (keyAt xs j).obj) ∧ w.cell? ⟨g, o + j * 3 + 1, none⟩ = some (.int .i64 (keyAt xs j).kind) ∧
    w.cell? ⟨g, o + j * 3 + 2, none⟩ = some (.int .i64 (keyAt xs j).off) := by
  have hl := h.len
  obtain ⟨g, o, rfl, hg, _, hc⟩ := h.2.2.2 j (kvs (keyAt xs j)) (by rw [List.getElem?_map, keyAt_get (by omega)]; rfl)
  exact ⟨g, o, rfl, hg, hc 0 _ rfl, hc 1 _ rfl, hc 2 _ rfl⟩
theorem itms_nil (w : World) : Itms w none 0 0 [] := ⟨[], sls_nil w 4, rfl, fun j r x hr => by simp at hr⟩
theorem kidl_nil (w : World) : Kidl w none 0 0 [] := sls_nil w 4
end

section
variable {H : Type} {enc : TypeId × Value → H} {P : Program} {W : World}
theorem spot_none' {g o : Nat} {s : Option Nat} {v : Value} (h : W.cell? ⟨g, o, s⟩ = some v) : s = none := by
  cases s with
  | none => rfl
  | some k =>
    unfold World.cell? at h
    split at h <;> simp at h
/-- A slice of structs that comes in: its rows, and what each datum says. -/
theorem open_sls {t e : TypeId} {s : Nat} (hs : 0 < s) (ht : P.underlying t = some (.slice e)) (hc : P.cellsOf e = s) {fuel : Nat} {v : Value} {y : DataW H × List MemPlace}
    (hf : DataW.trod enc P W 0 (fun _ => true) true fuel t [v] = some y) : ∃ A n c raw, v = .slice A n c ∧ Sls W s A n c raw ∧ ∀ r ∈ raw, ∃ f y, DataW.trod enc P W 0 (fun _ => true) true f e r = some y := by
  rcases Deep.open_slice ht hf with ⟨hcs, _⟩ | ⟨a, len, cap, m, f, D, Pl, hcs, _, hl, hm, hmm, _, hi⟩
  · obtain rfl : v = .slice none 0 0 := by simpa using hcs
    exact ⟨_, _, _, [], rfl, sls_nil W s, fun r hr => by simp at hr⟩
  · obtain rfl : v = .slice (some a) len cap := by simpa using hcs
    rw [if_pos rfl] at hmm
    have key : ∀ i, i < len → ∃ cs : List Value, cs.length = s ∧ (∀ j, j < s → W.cell? ((a.add (i * s)).add j) = cs[j]?) ∧ ∃ f y, DataW.trod enc P W 0 (fun _ => true) true f e cs = some y := fun i hil => by
      obtain ⟨cs, g1, g2⟩ := hi i (by omega)
      rw [hc] at g1
      obtain ⟨_, hlen, hat⟩ := World.cells?_some g1
      exact ⟨cs, hlen, fun j hj => hat j hj, _, _, g2⟩
    obtain ⟨g, o, sp⟩ := a
    have ks : 0 < len → sp = none := fun h0 => by
      obtain ⟨cs, h1, h2, _⟩ := key 0 h0
      have h3 := h2 0 hs
      rw [List.getElem?_eq_getElem (by omega)] at h3
      exact spot_none' (show W.cell? ⟨g, o, sp⟩ = some (cs[0]'(by omega)) by simpa [Addr.add] using h3)
    classical
    let F : Nat → List Value := fun i => if h : i < len then (key i h).choose else []
    have hF : ∀ i (h : i < len), F i = (key i h).choose := fun i h => dif_pos h
    refine ⟨_, _, _, (List.range len).map F, rfl, ⟨by simp, hl, hm, fun j x hx => ?_⟩, fun r hr => ?_⟩
    · have hj : j < len := by have := (List.getElem?_eq_some_iff.1 hx).1; simpa using this
      rw [List.getElem?_map, List.getElem?_range hj] at hx
      obtain rfl : F j = x := by simpa using hx
      obtain rfl := ks (by omega)
      rw [hF j hj]
      have hq := (key j hj).choose_spec
      generalize (key j hj).choose = X at hq ⊢
      obtain ⟨q1, q2, _⟩ := hq
      have q3 : ∀ i v, X[i]? = some v → W.cell? ⟨g, o + j * s + i, none⟩ = some v := fun i v hv => by
        have hi : i < s := by have := (List.getElem?_eq_some_iff.1 hv).1; omega
        have := q2 i hi
        rw [Addr.add_mid, Addr.add_mid, hv] at this
        exact this
      exact ⟨g, o, rfl, World.block_lt_of_cell? W _ (q3 0 _ (List.getElem?_eq_getElem (by omega))), q1, q3⟩
    · obtain ⟨j, hj, rfl⟩ := List.mem_map.1 hr
      have hj := List.mem_range.1 hj
      rw [hF j hj]
      exact (key j hj).choose_spec.2.2
theorem bytes_trod {t e : TypeId} (T : ByteT P t e) (he : P.underlying e = some (.int .u8)) {fuel : Nat} {v : Value} {y : DataW H × List MemPlace} (hf : DataW.trod enc P W 0 (fun _ => true) true fuel t [v] = some y) : ∃ A n c l, v = .slice A n c ∧ Sl W A n c l := by
  have hv : ∃ a len cap, v = .slice a len cap := by
    rcases Deep.open_slice T.sl hf with ⟨hcs, _⟩ | ⟨a, len, cap, m, f, D, Pl, hcs, _⟩
    · exact ⟨_, _, _, by simpa using hcs⟩
    · exact ⟨_, _, _, by simpa using hcs⟩
  obtain ⟨a, len, cap, rfl⟩ := hv
  exact open_bytes (d := y.1) (ps := y.2) T he ⟨_, _, _, rfl⟩ ⟨fuel, hf⟩
theorem int_trod {e : TypeId} (he : P.underlying e = some (.int .i64)) {m : Nat} {c : Value} {y : DataW H × List MemPlace} (h : DataW.trod enc P W 0 (fun _ => true) true m e [c] = some y) : ∃ z, c = .int .i64 z := by
  obtain ⟨z, hcs, _, _⟩ := DataW.trod_int he h
  exact ⟨z, by simpa using hcs⟩
/-- A key's three cells. -/
theorem key_trod {t : TypeId} {f0 f1 f2 : Field} (ht : P.underlying t = some (.struct #[f0, f1, f2])) (hone : oneCellFields P #[f0, f1, f2] = true) (hct : P.cellsOf t = 3)
    (h0 : P.underlying f0.type = some (.int .i64)) (h1 : P.underlying f1.type = some (.int .i64)) (h2 : P.underlying f2.type = some (.int .i64)) {fuel : Nat} {cs : List Value} {y : DataW H × List MemPlace}
    (hf : DataW.trod enc P W 0 (fun _ => true) true fuel t cs = some y) : ∃ k : Kd, cs = kvs k := by
  obtain ⟨ys, n', hn', hy, hlen, hyl, hff⟩ := DataW.trod_struct ht hf
  rw [hct] at hlen
  match cs, hlen with
  | [v0, v1, v2], _ =>
    have q : ∀ (j : Nat) (ff : Field), (#[f0, f1, f2] : Array Field)[j]? = some ff → ∃ vv y, [v0, v1, v2][j]? = some vv ∧ DataW.trod enc P W 0 (fun _ => true) true n' ff.type [vv] = some y := fun j ff hj => by
      obtain ⟨ho, hk1⟩ := hone_of hone j ff hj
      have hjl : j < 3 := (Array.getElem?_eq_some_iff.1 hj).1
      have g3 := hff j ff hj
      have hys : ys[j]? = some (ys[j]'(by rw [hyl]; exact hjl)) := List.getElem?_eq_getElem _
      rw [ho, hk1, hys, List.drop_eq_getElem_cons (by simpa using hjl)] at g3
      exact ⟨_, _, List.getElem?_eq_getElem (by simpa using hjl), g3⟩
    obtain ⟨u0, y0, e0, t0⟩ := q 0 f0 rfl
    obtain ⟨u1, y1, e1, t1⟩ := q 1 f1 rfl
    obtain ⟨u2, y2, e2, t2⟩ := q 2 f2 rfl
    obtain ⟨z0, rfl⟩ := int_trod h0 t0
    obtain ⟨z1, rfl⟩ := int_trod h1 t1
    obtain ⟨z2, rfl⟩ := int_trod h2 t2
    simp at e0 e1 e2
    exact ⟨⟨z0, z1, z2⟩, by rw [e0, e1, e2]; rfl⟩
/-- The fields of a struct of two, three and one cells. -/
theorem two_parts {t : TypeId} {f0 f1 : Field} (ht : P.underlying t = some (.struct #[f0, f1])) (hct : P.cellsOf t = 4) (o0 : f0.offset = 0) (o1 : f1.offset = 3) (c0 : P.cellsOf f0.type = 3) (c1 : P.cellsOf f1.type = 1) {fuel : Nat} {cs : List Value} {y : DataW H × List MemPlace}
    (hf : DataW.trod enc P W 0 (fun _ => true) true fuel t cs = some y) : ∃ v0 v1 v2 v3 n y0 y1, cs = [v0, v1, v2, v3] ∧ DataW.trod enc P W 0 (fun _ => true) true n f0.type [v0, v1, v2] = some y0 ∧ DataW.trod enc P W 0 (fun _ => true) true n f1.type [v3] = some y1 := by
  obtain ⟨ys, n', hn', hy, hlen, hyl, hff⟩ := DataW.trod_struct ht hf
  rw [hct] at hlen
  match cs, hlen with
  | [v0, v1, v2, v3], _ =>
    have g0 := hff 0 f0 rfl
    have g1 := hff 1 f1 rfl
    have hyl : ys.length = 2 := hyl
    rw [o0, c0, List.getElem?_eq_getElem (by omega)] at g0
    rw [o1, c1, List.getElem?_eq_getElem (by omega)] at g1
    exact ⟨v0, v1, v2, v3, n', _, _, rfl, g0, g1⟩
/-- How keys, items and kids lie, of any program. -/
structure KeyT (P : Program) (t : TypeId) (f0 f1 f2 : Field) : Prop where
  st : P.underlying t = some (.struct #[f0, f1, f2])
  one : oneCellFields P #[f0, f1, f2] = true
  cells : P.cellsOf t = 3
  h0 : P.underlying f0.type = some (.int .i64)
  h1 : P.underlying f1.type = some (.int .i64)
  h2 : P.underlying f2.type = some (.int .i64)
theorem open_itms {ts t te : TypeId} {f0 f1 k0 k1 k2 : Field} (hts : P.underlying ts = some (.slice t)) (ht : P.underlying t = some (.struct #[f0, f1])) (hct : P.cellsOf t = 4) (o0 : f0.offset = 0) (o1 : f1.offset = 3) (c1 : P.cellsOf f1.type = 1)
    (K : KeyT P f0.type k0 k1 k2) (T : ByteT P f1.type te) (he : P.underlying te = some (.int .u8)) {fuel : Nat} {v : Value} {y : DataW H × List MemPlace}
    (hf : DataW.trod enc P W 0 (fun _ => true) true fuel ts [v] = some y) : ∃ A n c xs, v = .slice A n c ∧ Itms W A n c xs := by
  obtain ⟨A, n, c, raw, rfl, hs, hr⟩ := open_sls (by omega : 0 < 4) hts hct hf
  have key : ∀ r ∈ raw, ∃ x : Itm, ItOk W r x := fun r hm => by
    obtain ⟨f, y, h⟩ := hr r hm
    obtain ⟨v0, v1, v2, v3, n', y0, y1, rfl, g0, g1⟩ := two_parts ht hct o0 o1 K.cells c1 h
    obtain ⟨k, hk⟩ := key_trod K.st K.one K.cells K.h0 K.h1 K.h2 g0
    obtain ⟨B, m, d, l, rfl, hl⟩ := bytes_trod T he g1
    unfold kvs at hk
    injection hk with e0 hk
    injection hk with e1 hk
    injection hk with e2 _
    exact ⟨⟨k, l⟩, B, m, d, by rw [e0, e1, e2], hl⟩
  classical
  let F : List Value → Itm := fun r => if h : r ∈ raw then (key r h).choose else ⟨⟨0, 0, 0⟩, []⟩
  refine ⟨A, n, c, raw.map F, rfl, raw, hs, by simp, fun j r x h1 h2 => ?_⟩
  rw [List.getElem?_map, h1] at h2
  obtain rfl : F r = x := by simpa using h2
  have hm := List.mem_of_getElem? h1
  have hF : F r = (key r hm).choose := dif_pos hm
  rw [hF]
  exact (key r hm).choose_spec
end
end Go.Proofs.YtgedmodnkiijkaaGreatDoor

namespace Go.Proofs.YtgedmodnkiijkaaGreatDoor
open Go Go.RowKit
open Go.ChangeMaps (setBlock)

/-- w' is w but for the blocks of S, and new ones. -/
structure Turn (S : Nat → Prop) (w w' : World) : Prop where
  os : w'.os = w.os
  tape : w'.tape = w.tape
  output : w'.output = w.output
  size : w.heap.size ≤ w'.heap.size
  block : ∀ k, k < w.heap.size → ¬ S k → w'.heap[k]? = w.heap[k]?

section
variable {S S' : Nat → Prop} {w w' w'' : World}
theorem Turn.refl (S : Nat → Prop) (w : World) : Turn S w w := ⟨rfl, rfl, rfl, Nat.le_refl _, fun _ _ _ => rfl⟩
theorem Turn.trans (h : Turn S w w') (k : Turn S' w' w'') (hs : ∀ x, S' x → S x ∨ w.heap.size ≤ x) : Turn S w w'' :=
  ⟨k.os.trans h.os, k.tape.trans h.tape, k.output.trans h.output, Nat.le_trans h.size k.size, fun i hi hn => (k.block i (Nat.lt_of_lt_of_le hi h.size) (fun hx => by rcases hs i hx with h1 | h1; exact hn h1; omega)).trans (h.block i hi hn)⟩
theorem Turn.then (h : Turn S w w') (k : Turn S w' w'') : Turn S w w'' := h.trans k fun _ => .inl
theorem Turn.mono (h : Turn S w w') (hs : ∀ x, S x → S' x) : Turn S' w w' := ⟨h.os, h.tape, h.output, h.size, fun k hk hn => h.block k hk fun hx => hn (hs k hx)⟩
theorem Turn.drew (h : Turn S w w') : Turn S w w'.drew := ⟨h.os, h.tape, h.output, h.size, h.block⟩
theorem Turn.drewN (h : Turn S w w') (n : Nat) : Turn S w (w'.drewN n) := ⟨h.os, h.tape, h.output, h.size, h.block⟩
theorem turn_below (h : Below w.heap.size w w') : Turn S w w' := ⟨h.os, h.tape, h.output, h.size, fun k hk _ => h.block k hk⟩
theorem Turn.below {B : Nat} (h : Turn S w w') (hs : ∀ x, S x → B ≤ x) (hB : B ≤ w.heap.size) : Below B w w' :=
  ⟨h.os, h.tape, h.output, h.size, fun k hk => h.block k (by omega) fun hx => by have := hs k hx; omega⟩
theorem turn_alloc (S : Nat → Prop) (w : World) (o : Obj) : Turn S w (w.alloc o) := turn_below ((Below.refl _ _).alloc (Nat.le_refl _) o)
theorem turn_grown {row : Option Nat} (h : w.grownBy w' row) (hr : ∀ k, row = some k → S k) : Turn S w w' :=
  ⟨h.os, h.tape, h.output, h.size, fun k hk hn => h.block k hk fun e => hn (hr k e.symm)⟩
theorem turn_setCell {a : Addr} (u : Value) (h : S a.block) : Turn S w (w.setCell a u) :=
  ⟨rfl, rfl, rfl, by simp [World.setCell], fun k _ hn => Below.heap_setCell _ _ _ _ (fun e => hn (e ▸ h))⟩
theorem turn_setCells {b : Nat} (h : S b) : ∀ (vs : List Value) (o : Nat) (w : World), Turn S w (w.setCells b o vs)
  | [], _, w => Turn.refl S w
  | v :: r, o, w => by
    rw [World.setCells]
    exact (turn_setCell (a := ⟨b, o, none⟩) v h).then (turn_setCells h r (o + 1) _)
theorem turn_setBlock {b : Nat} (o : Obj) (h : S b) : Turn S w (setBlock w b o) :=
  ⟨rfl, rfl, rfl, by simp [setBlock], fun k _ hn => by
    show (w.heap.setIfInBounds b o)[k]? = _
    rw [Array.getElem?_setIfInBounds_ne (fun (e : b = k) => hn (e ▸ h))]⟩
theorem setCells_size (b : Nat) : ∀ (vs : List Value) (o : Nat) (w : World), (w.setCells b o vs).heap.size = w.heap.size
  | [], _, w => rfl
  | v :: r, o, w => by rw [World.setCells, setCells_size b r]; simp [World.setCell]
theorem setBlock_size (w : World) (b : Nat) (o : Obj) : (setBlock w b o).heap.size = w.heap.size := by simp [setBlock]
theorem setBlock_at {b : Nat} {o : Obj} (h : b < w.heap.size) : (setBlock w b o).heap[b]? = some o := by
  show (w.heap.setIfInBounds b o)[b]? = _
  rw [Array.getElem?_setIfInBounds_self_of_lt h]
theorem setCell_at {b j : Nat} {c : Array Value} {t : TypeId} {fr : Nat × Nat} (u : Value) (h : w.heap[b]? = some (.cells c t fr)) : (w.setCell ⟨b, j, none⟩ u).heap[b]? = some (.cells (c.setIfInBounds j u) t fr) := by
  simp [World.setCell, Array.getElem?_modify, h]
theorem lt_of_heap {b : Nat} {o : Obj} (h : w.heap[b]? = some o) : b < w.heap.size := (Array.getElem?_eq_some_iff.1 h).1
theorem range_keep {b o : Nat} {cs : List Value} (h : w.rangeAt b o cs) (e : w'.heap[b]? = w.heap[b]?) : w'.rangeAt b o cs := fun j v hv => (World.cell?_of_block (a := ⟨b, o + j, none⟩) e).trans (h j v hv)
theorem there_keep {b o n : Nat} (h : w.there b o n) (e : w'.heap[b]? = w.heap[b]?) : w'.there b o n := fun j hj => by
  obtain ⟨h1, h2⟩ := h j hj
  exact ⟨by rw [World.cell?_of_block (a := ⟨b, o + j, none⟩) e]; exact h1, by rw [World.frozen?_of_block (a := ⟨b, o + j, none⟩) e]; exact h2⟩
theorem owns_keep {base : Nat} {e : TypeId} {size n : Nat} {v : Value} {xs : List Value} (h : w.ownsRow base e size v n xs) (hk : ∀ g, v.ownBlock = some g → w'.heap[g]? = w.heap[g]?) : w'.ownsRow base e size v n xs := by
  refine ⟨h.1, ?_⟩
  rcases h.2 with hv | ⟨g, cap, cur, hv, h1, hg, r⟩
  · exact .inl hv
  · exact .inr ⟨g, cap, cur, hv, h1, (hk g (by rw [hv]; rfl)).trans hg, r⟩
theorem owns_base {base base' : Nat} {e : TypeId} {size n : Nat} {v : Value} {xs : List Value} (h : w.ownsRow base e size v n xs) (hb : base' ≤ base) : w.ownsRow base' e size v n xs := by
  refine ⟨h.1, ?_⟩
  rcases h.2 with hv | ⟨g, cap, cur, hv, h1, r⟩
  · exact .inl hv
  · exact .inr ⟨g, cap, cur, hv, by omega, r⟩
theorem owns_form {base : Nat} {e : TypeId} {size n : Nat} {v : Value} {xs : List Value} (h : w.ownsRow base e size v n xs) (hn : 0 < n) : ∃ g c, v = .slice (some ⟨g, 0, none⟩) n c ∧ n ≤ c ∧ c ≤ maxLen := by
  rcases h.2 with hv | ⟨g, cap, cur, hv, _, _, h1, h2, _⟩
  · omega
  · exact ⟨g, cap, hv, h1, h2⟩
theorem owns_any {base : Nat} {e : TypeId} {size n : Nat} {v : Value} {xs : List Value} (h : w.ownsRow base e size v n xs) : ∃ A c, v = .slice A n c ∧ n ≤ c ∧ c ≤ maxLen := by
  rcases h.2 with ⟨rfl, rfl⟩ | ⟨g, cap, cur, hv, _, _, h1, h2, _⟩
  · exact ⟨none, 0, rfl, Nat.le_refl _, Nat.zero_le _⟩
  · exact ⟨_, cap, hv, h1, h2⟩
end

/-! ### Sectors -/
/-- Sectors, one behind the other, as cells. Kept shut. -/
def flat (ls : List (List UInt8)) : List Value := ls.flatten.map bv
/-- Each has 256 bytes. -/
def Secs (ls : List (List UInt8)) : Prop := ∀ l ∈ ls, l.length = 256
/-- A sector as cells. Kept shut. -/
def bvs (l : List UInt8) : List Value := l.map bv
theorem bvs_len (l : List UInt8) : (bvs l).length = l.length := by simp [bvs]
theorem bvs_one (l : List UInt8) : ∀ u ∈ bvs l, u.oneCell' = true := bv_one l
theorem flat_snoc (ls : List (List UInt8)) (l : List UInt8) : flat (ls ++ [l]) = flat ls ++ bvs l := by simp [flat, bvs]
theorem flat_cons (l : List UInt8) (ls : List (List UInt8)) : flat (l :: ls) = bvs l ++ flat ls := by simp [flat, bvs]
theorem flat_at : ∀ {ls : List (List UInt8)}, Secs ls → ∀ (i : Nat) (hi : i < ls.length) (j : Nat) (_hj : j < 256), (flat ls)[i * 256 + j]? = (bvs ls[i])[j]?
  | l :: ls, h, i, hi, j, hj => by
    have hl : (bvs l).length = 256 := by rw [bvs_len, h l (by simp)]
    rw [flat_cons]
    rcases i with _ | i
    · rw [List.getElem?_append_left (by omega)]; simp
    · rw [List.getElem?_append_right (by omega), hl]
      have e : (i + 1) * 256 + j - 256 = i * 256 + j := by omega
      rw [e, flat_at (fun x hx => h x (by simp [hx])) i (by simpa using hi) j hj]; simp
theorem flat_set : ∀ {ls : List (List UInt8)}, Secs ls → ∀ (i : Nat) (hi : i < ls.length) (j : Nat) (_hj : j < 256) (b : UInt8), (flat ls).set (i * 256 + j) (bv b) = flat (ls.set i (ls[i].set j b))
  | l :: ls, h, i, hi, j, hj, b => by
    have hl : (bvs l).length = 256 := by rw [bvs_len, h l (by simp)]
    rcases i with _ | i
    · rw [flat_cons, List.set_append_left _ _ (by omega)]
      simp [flat, bvs, List.map_set]
    · rw [flat_cons, List.set_append_right _ _ (by omega), hl]
      have e : (i + 1) * 256 + j - 256 = i * 256 + j := by omega
      rw [e, flat_set (fun x hx => h x (by simp [hx])) i (by simpa using hi) j hj b]
      simp [flat_cons]
/-- The i-th sector of a row of the call's own. -/
theorem owns_range {w : World} {base g n c : Nat} {e : TypeId} {ls : List (List UInt8)} (h : w.ownsRow base e 256 (.slice (some ⟨g, 0, none⟩) n c) n (flat ls)) (hs : Secs ls) (hn : ls.length = n) (i : Nat) (hi : i < ls.length) :
    w.rangeAt g (i * 256) (bvs ls[i]) := fun j v hv => by
  have hj : j < 256 := by
    have := (List.getElem?_eq_some_iff.1 hv).1
    rw [bvs_len, hs _ (List.getElem_mem hi)] at this
    exact this
  rw [World.ownsRow.cellAt h (i * 256 + j) (by subst hn; have : i * 256 + 256 ≤ ls.length * 256 := (by omega); omega), flat_at hs i hi j hj]
  exact hv
theorem sl_range {w : World} {g o c : Nat} {l : List UInt8} (h : w.rangeAt g o (bvs l)) (hg : g < w.heap.size) (hc : l.length ≤ c) (hm : c ≤ maxLen) : Sl w (some ⟨g, o, none⟩) l.length c l :=
  ⟨by simp, hc, hm, fun j u hu => ⟨_, rfl, hg, by rw [Addr.add_mid]; exact h j u hu⟩⟩
theorem range_sl {w : World} {A : Option Addr} {n c : Nat} {l : List UInt8} (h : Sl w A n c l) (hl : 0 < l.length) : ∃ g o, A = some ⟨g, o, none⟩ ∧ g < w.heap.size ∧ w.rangeAt g o (bvs l) := by
  obtain ⟨ad, e, hb, hc0⟩ := h.2.2.2 0 (bv l[0]) (by simp [hl])
  obtain ⟨g, o, sp⟩ := ad
  have hsp : sp = none := by
    cases sp with
    | none => rfl
    | some x =>
      simp only [World.cell?, Addr.add, if_true] at hc0
      split at hc0 <;> simp at hc0
  subst hsp
  refine ⟨g, o, e, hb, fun j v hv => ?_⟩
  obtain ⟨ad', e', _, hc⟩ := h.2.2.2 j v hv
  obtain rfl := Option.some.inj (e.symm.trans e')
  rw [← Addr.add_mid]; exact hc
end Go.Proofs.YtgedmodnkiijkaaGreatDoor

namespace Go.Proofs.YtgedmodnkiijkaaGreatDoor
open Go Go.RowKit Go.Proofs

/-- The block of a slice's address. -/
def blockOf : Option Addr → Option Nat
  | some a => some a.block
  | none => none
section
variable {P : Program} {t e : TypeId} {s b : Nat} {z : Value} (w : World)
theorem run_append_g (T : RowT P t e s b z) (ty : TypeId) (base : Nat) (A : Option Addr) (n c : Nat) (xs : List (List Value)) (hown : OwnS w base e s A n c xs)
    (B : Option Addr) (m d : Nat) (ys : List (List Value)) (hr : Sls w s B m d ys) (hm0 : 0 < m) (h1 : ∀ y ∈ ys, ∀ u ∈ y, u.oneCell' = true) (hnm : n + m ≤ 1000000) (hb : b ≤ 100000) (hbase : base ≤ w.heap.size) :
    ∃ A' c' w', (Builtin.append_ #[t, t] ty #[.slice A n c, .slice B m d]).run P w = .ok (.slice A' (n + m) c') w' ∧ OwnS w' base e s A' (n + m) c' (xs ++ ys) ∧ Turn (fun k => blockOf A = some k) w w' ∧ (blockOf A' = blockOf A ∨ blockOf A' = some w.heap.size) ∧ blockOf A' ≠ none := by
  obtain ⟨i, hi, hz0, hz1, hz2⟩ := info_parts T.info
  obtain ⟨g, o, rfl, hg, hl0, hr0⟩ := hr.at_ hm0
  have hys : ∀ y ∈ ys, y.length = s := fun y hy => by
    obtain ⟨j, hj⟩ := List.mem_iff_getElem?.1 hy
    obtain ⟨_, _, _, _, h, _⟩ := hr.2.2.2 j y hj
    exact h
  have hcells : ∀ j u, ys.flatten[j]? = some u → w.cell? ((⟨g, o, none⟩ : Addr).add j) = some u := by
    intro j u hu
    obtain ⟨y, hy, hv⟩ := fl_at T.pos hys j u hu
    obtain ⟨g', o', e', _, _, hr'⟩ := hr.2.2.2 _ y hy
    injection e' with e'
    injection e' with e1 e2
    subst e1 e2
    have := hr' _ u hv
    rw [Addr.add_mid]
    rw [Nat.add_assoc, Nat.mul_comm, Nat.div_add_mod] at this
    exact this
  have hbb : (n + m) * b ≤ 140737488355328 := Nat.le_trans (Nat.mul_le_mul hnm hb) (by decide)
  obtain ⟨v', w', hrun, h2, h3, h4, h5⟩ := run_append_own_at (P := P) w base t ty e i z s b T.sl hi hz0 hz1 hz2 T.cells T.pos _ n _ hown.1 ⟨g, o, none⟩ m d ys.flatten (by rw [fl_len hys, hr.len]) hcells (fun u hu => by
    obtain ⟨y, hy, hu⟩ := List.mem_flatten.1 hu
    exact h1 y hy u hu) (by unfold maxLen; omega) hbb hbase
  have hob : ∀ (X : Option Addr) p q, Value.ownBlock (.slice X p q) = blockOf X := fun X p q => by cases X <;> rfl
  rw [hob] at h3 h5
  rw [← List.flatten_append] at h2
  have hall : ∀ x ∈ xs ++ ys, x.length = s := fun x hx => by
    rcases List.mem_append.1 hx with h | h
    · exact hown.2 x h
    · exact hys x h
  rcases h2.2 with ⟨rfl, h0⟩ | ⟨g', cap, cur, rfl, _⟩
  · omega
  · rw [hob] at h5
    exact ⟨_, _, w', hrun, ⟨h2, hall⟩, turn_grown h3 (fun k hk => hk), h5, by simp [blockOf]⟩
/-- append onto the call's own row of structs: only the row's block turns. -/
theorem wp_append_g (T : RowT P t e s b z) {ops : Array Oper} {rest : List Oper} {o : Oper} {a : Act} {Q : Exit → Act → World → Prop} (hgd : o.guard = none) (so x : Operand)
    (ho : o.op = .call { callee := .builtin .append, args := #[so, x], argTypes := #[t, t] })
    (base : Nat) (A : Option Addr) (n c : Nat) (xs : List (List Value)) (hs : a.eval so = .slice A n c) (hown : OwnS w base e s A n c xs)
    (B : Option Addr) (m d : Nat) (ys : List (List Value)) (hx : a.eval x = .slice B m d) (hr : Sls w s B m d ys) (hm0 : 0 < m) (h1 : ∀ y ∈ ys, ∀ u ∈ y, u.oneCell' = true) (hnm : n + m ≤ 1000000) (hb : b ≤ 100000) (hbase : base ≤ w.heap.size)
    (h : ∀ A' c' w', OwnS w' base e s A' (n + m) c' (xs ++ ys) → Turn (fun k => blockOf A = some k) w w' → (blockOf A' = blockOf A ∨ blockOf A' = some w.heap.size) → blockOf A' ≠ none → wpList P ops Q rest (a.put o.dst (.slice A' (n + m) c')) w') : wpList P ops Q (o :: rest) a w :=
  wpList_plain hgd fun K hK => by
    obtain ⟨A', c', w', hrun, h2, h3, h4, h5⟩ := run_append_g (P := P) w T o.type base A n c xs hown B m d ys hr hm0 h1 hnm hb hbase
    unfold Oper.wp execOp
    simp only [ho, resolve, invoke, builtin, Sem.run_bind, Sem.run_pure, Result.andThen_ok, List.map_toArray, List.map_cons, List.map_nil, hs, hx, hrun]
    exact hK _ _ (h A' c' w' h2 h3 h4 h5)
end
/-- A slice that reads stays where its block does not turn. -/
theorem Sl.turned {w w' : World} {A : Option Addr} {n c : Nat} {l : List UInt8} (h : Sl w A n c l) {S : Nat → Prop} (T : Turn S w w') (hA : ∀ k, blockOf A = some k → ¬ S k) : Sl w' A n c l :=
  ⟨h.1, h.2.1, h.2.2.1, fun j u hu => by
    obtain ⟨ad, e, hb, hc⟩ := h.2.2.2 j u hu
    refine ⟨ad, e, by have := T.size; omega, ?_⟩
    rw [World.cell?_of_block (a := ad.add j) (w' := w') (w := w) (by rw [addr_block]; exact T.block _ hb (hA _ (by rw [e]; rfl)))]
    exact hc⟩
theorem OwnS.turned {w w' : World} {base : Nat} {e : TypeId} {s : Nat} {A : Option Addr} {n c : Nat} {xs : List (List Value)} (h : OwnS w base e s A n c xs) {S : Nat → Prop} (T : Turn S w w') (hA : ∀ k, blockOf A = some k → ¬ S k) : OwnS w' base e s A n c xs := by
  refine ⟨⟨h.1.1, ?_⟩, h.2⟩
  rcases h.1.2 with hv | ⟨g, cap, cur, hv, h1, hg, r⟩
  · exact .inl hv
  · refine .inr ⟨g, cap, cur, hv, h1, (T.block g (Array.getElem?_eq_some_iff.1 hg).1 (hA g ?_)).trans hg, r⟩
    injection hv with hv
    rw [hv]; rfl
theorem OwnS.blockLt {w : World} {base : Nat} {e : TypeId} {s : Nat} {A : Option Addr} {n c : Nat} {xs : List (List Value)} (h : OwnS w base e s A n c xs) : ∀ k, blockOf A = some k → base ≤ k ∧ k < w.heap.size := by
  intro k hk
  rcases h.1.2 with ⟨hv, _⟩ | ⟨g, cap, cur, hv, h1, hg, r⟩
  · injection hv with hv
    rw [hv] at hk; cases hk
  · injection hv with hv
    rw [hv] at hk
    obtain rfl : g = k := Option.some.inj hk
    exact ⟨h1, (Array.getElem?_eq_some_iff.1 hg).1⟩
end Go.Proofs.YtgedmodnkiijkaaGreatDoor

namespace Go.Proofs.YtgedmodnkiijkaaGreatDoor
open Go Go.RowKit Go.Proofs Go.ChangeShapes Go.WideShapes Go.ChangeAt Go.Deep

theorem keyT : ∃ f0 f1 f2, KeyT Tryz.prog 39 f0 f1 f2 := ⟨_, _, _, Tryz.underlying39, by kernel_rfl, by kernel_rfl, Tryz.underlying3, Tryz.underlying3, Tryz.underlying3⟩
set_option maxRecDepth 100000 in
theorem open_kd {H : Type} {enc : TypeId × Value → H} {W : World} {r : Reach} {b0 : Nat} {v : Value} {d : DataW H} {ps : List MemPlace} (hv : Value.okWide Tryz.prog W r b0 39 v) (h : DataW.Trod enc Tryz.prog W 0 (fun _ => true) true 39 v d ps) :
    ∃ k : Kd, v = .agg #[.int .i64 k.obj, .int .i64 k.kind, .int .i64 k.off] := by
  obtain ⟨zs, rfl, hl⟩ := open_struct_ints Tryz.underlying39 (by kernel_rfl) (by kernel_rfl) (by kernel_rfl) hv h
  obtain ⟨a, b, c, rfl⟩ := three_of hl
  exact ⟨⟨a, b, c⟩, rfl⟩
end Go.Proofs.YtgedmodnkiijkaaGreatDoor

namespace Go.Proofs.YtgedmodnkiijkaaGreatDoor
open Go Go.RowKit Go.Proofs Go.ChangeShapes Go.WideShapes Go.ChangeAt Go.Deep

section
variable {H : Type} {enc : TypeId × Value → H} {W : World}
theorem keys_of {raw : List (List Value)} (h : ∀ r ∈ raw, ∃ k : Kd, r = kvs k) : ∃ ks : List Kd, raw = ks.map kvs := by
  induction raw with
  | nil => exact ⟨[], rfl⟩
  | cons r l ih =>
    obtain ⟨x, hx⟩ := h r (List.mem_cons_self ..)
    obtain ⟨xs, h1⟩ := ih fun r hr => h r (List.mem_cons_of_mem _ hr)
    exact ⟨x :: xs, by rw [List.map_cons, ← hx, ← h1]⟩
set_option maxRecDepth 100000 in
theorem open_keys {v : Value} {d : DataW H} {ps : List MemPlace} (hv : ∃ a len cap, v = .slice a len cap) (h : DataW.Trod enc Tryz.prog W 0 (fun _ => true) true 26 v d ps) : ∃ A n c ks, v = .slice A n c ∧ Keyl W A n c ks := by
  obtain ⟨a, len, cap, rfl⟩ := hv
  obtain ⟨fuel, hf⟩ := h
  obtain ⟨A, n, c, raw, e, hs, hr⟩ := open_sls (s := 3) (by omega) Tryz.underlying26 (by kernel_rfl) hf
  obtain ⟨f0, f1, f2, K⟩ := keyT
  obtain ⟨ks, rfl⟩ := keys_of fun r hm => by
    obtain ⟨f, y, hy⟩ := hr r hm
    exact key_trod K.st K.one K.cells K.h0 K.h1 K.h2 hy
  exact ⟨A, n, c, ks, e, hs⟩
end
end Go.Proofs.YtgedmodnkiijkaaGreatDoor

namespace Go.Proofs.YtgedmodnkiijkaaGreatDoor
open Go Go.RowKit Go.Proofs Go.ChangeShapes Go.WideShapes Go.ChangeAt Go.Deep

section
variable {H : Type} {enc : TypeId × Value → H} {W : World}
theorem six_of {α : Type} : ∀ {l : List α}, l.length = 6 → ∃ a b c d e f, l = [a, b, c, d, e, f]
  | [a, b, c, d, e, f], _ => ⟨a, b, c, d, e, f, rfl⟩
set_option maxRecDepth 100000 in
theorem open_two_kd {r : Reach} {b0 : Nat} {v : Value} {d : DataW H} {ps : List MemPlace} (hv : Value.okWide Tryz.prog W r b0 44 v) (h : DataW.Trod enc Tryz.prog W 0 (fun _ => true) true 44 v d ps) :
    ∃ a b : Kd, v = .agg #[.int .i64 a.obj, .int .i64 a.kind, .int .i64 a.off, .int .i64 b.obj, .int .i64 b.kind, .int .i64 b.off] := by
  obtain ⟨f0, f1, f2, K⟩ := keyT
  have ht := Tryz.underlying44
  simp only [Value.okWide, ht] at hv
  obtain ⟨cs, rfl, _, _⟩ := hv
  obtain ⟨f, hf⟩ := h
  obtain ⟨xs, m, _, _, hl, hxl, hi⟩ := DataW.trod_array ht hf
  have hct : Tryz.prog.cellsOf 44 = 6 := by kernel_rfl
  have h3 : (Value.agg cs).cells.toList = cs.toList := rfl
  have hlen : cs.toList.length = 6 := hl.trans hct
  obtain ⟨a, b, c, d, e, g, hcs⟩ := six_of hlen
  have h0 := hi 0 (by omega)
  have h1 := hi 1 (by omega)
  have e0 : xs[0]? = some (xs[0]'(by omega)) := List.getElem?_eq_getElem (by omega)
  have e1 : xs[1]? = some (xs[1]'(by omega)) := List.getElem?_eq_getElem (by omega)
  rw [K.cells, e0, h3, hcs] at h0
  rw [K.cells, e1, h3, hcs] at h1
  obtain ⟨x, hx⟩ := key_trod (cs := [a, b, c]) K.st K.one K.cells K.h0 K.h1 K.h2 h0
  obtain ⟨y, hy⟩ := key_trod (cs := [d, e, g]) K.st K.one K.cells K.h0 K.h1 K.h2 h1
  unfold kvs at hx hy
  injection hx with hx1 hx
  injection hx with hx2 hx
  injection hx with hx3 _
  injection hy with hy1 hy
  injection hy with hy2 hy
  injection hy with hy3 _
  refine ⟨x, y, congrArg Value.agg ?_⟩
  rw [← hx1, ← hx2, ← hx3, ← hy1, ← hy2, ← hy3]
  rw [← hcs]
end
end Go.Proofs.YtgedmodnkiijkaaGreatDoor
