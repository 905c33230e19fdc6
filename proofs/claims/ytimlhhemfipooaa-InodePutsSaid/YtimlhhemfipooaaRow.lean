/- Rows of structs: slices whose elements are rows of s cells; nothing here speaks of one program. -/
import Derived.Test.YtimlhhemfipooaaLaw
import Derived.Deep.MidRow
import Derived.Deep.Slices
import Derived.Maps.AppendAt
namespace Go.Proofs.Ytimlhhemfipooaa
open Go Go.RowKit Go.Proofs

/-- The slice (A, n, c) of elements of s cells reads as xs. -/
def Sls (w : World) (s : Nat) (A : Option Addr) (n c : Nat) (xs : List (List Value)) : Prop :=
  xs.length = n ∧ n ≤ c ∧ c ≤ maxLen ∧ ∀ (j : Nat) x, xs[j]? = some x → ∃ g o, A = some ⟨g, o, none⟩ ∧ g < w.heap.size ∧ x.length = s ∧ w.rangeAt g (o + j * s) x
section
variable {w w' : World} {s n c : Nat} {A : Option Addr} {xs : List (List Value)}
theorem Sls.len (h : Sls w s A n c xs) : xs.length = n := h.1
theorem Sls.cap (h : Sls w s A n c xs) : n ≤ c := h.2.1
theorem Sls.max (h : Sls w s A n c xs) : c ≤ maxLen := h.2.2.1
theorem Sls.keep (h : Sls w s A n c xs) (hz : w.heap.size ≤ w'.heap.size) (hk : ∀ g o, A = some ⟨g, o, none⟩ → g < w.heap.size → w'.heap[g]? = w.heap[g]?) : Sls w' s A n c xs :=
  ⟨h.1, h.2.1, h.2.2.1, fun j x hx => by
    obtain ⟨g, o, e, hg, hl, hr⟩ := h.2.2.2 j x hx
    exact ⟨g, o, e, by omega, hl, fun i v hv => (World.cell?_of_block (a := ⟨g, o + j * s + i, none⟩) (hk g o e hg)).trans (hr i v hv)⟩⟩
theorem Sls.below (h : Sls w s A n c xs) (hb : Below w.heap.size w w') : Sls w' s A n c xs := h.keep hb.size fun g _ _ hg => hb.block g hg
theorem Sls.drew (h : Sls w s A n c xs) : Sls w.drew s A n c xs := h
theorem Sls.take (h : Sls w s A n c xs) {k : Nat} (hk : k ≤ n) : Sls w s A k c (xs.take k) := by
  refine ⟨by have := h.len; simp; omega, by have := h.cap; omega, h.max, fun j x hx => h.2.2.2 j x ?_⟩
  rw [List.getElem?_take] at hx
  split at hx
  · exact hx
  · cases hx
theorem Sls.at_ (h : Sls w s A n c xs) {j : Nat} (hj : j < n) : ∃ g o, A = some ⟨g, o, none⟩ ∧ g < w.heap.size ∧ (xs.getD j []).length = s ∧ w.rangeAt g (o + j * s) (xs.getD j []) := by
  have hl : j < xs.length := by have := h.len; omega
  exact h.2.2.2 j _ (by simp [List.getD, hl])
theorem sls_nil (w : World) (s : Nat) : Sls w s none 0 0 [] := ⟨rfl, Nat.le_refl _, Nat.zero_le _, fun j u hu => by simp at hu⟩
end

/-- t is the type of slices of e: s cells and b bytes an element, z at first. -/
structure RowT (P : Program) (t e : TypeId) (s b : Nat) (z : Value) : Prop where
  sl : P.underlying t = some (.slice e)
  info : (P.info? e).map (fun i => (i.zero, i.size, i.bytes)) = some (some z, s, b)
  cells : z.cells.size = s
  pos : 0 < s
/-- The call's own row of structs. -/
def OwnS (w : World) (base : Nat) (e : TypeId) (s : Nat) (A : Option Addr) (n c : Nat) (xs : List (List Value)) : Prop := w.ownsRow base e s (.slice A n c) n xs.flatten ∧ ∀ x ∈ xs, x.length = s
theorem fl_len {s : Nat} : ∀ {xs : List (List Value)}, (∀ x ∈ xs, x.length = s) → xs.flatten.length = xs.length * s
  | [], _ => by simp
  | x :: xs, h => by
    rw [List.flatten_cons, List.length_append, fl_len (fun y hy => h y (List.mem_cons_of_mem _ hy)), h x (List.mem_cons_self ..), List.length_cons, Nat.add_mul, Nat.one_mul, Nat.add_comm]
theorem fl_get {s : Nat} : ∀ {xs : List (List Value)}, (∀ x ∈ xs, x.length = s) → ∀ (j : Nat) x, xs[j]? = some x → ∀ (i : Nat) v, x[i]? = some v → xs.flatten[j * s + i]? = some v
  | [], _, j, x, hx, _, _, _ => by simp at hx
  | y :: xs, h, 0, x, hx, i, v, hv => by
    obtain rfl : y = x := by simpa using hx
    rw [List.flatten_cons, Nat.zero_mul, Nat.zero_add, List.getElem?_append_left (List.getElem?_eq_some_iff.1 hv).1]
    exact hv
  | y :: xs, h, j + 1, x, hx, i, v, hv => by
    have hy := h y (List.mem_cons_self ..)
    rw [List.flatten_cons, List.getElem?_append_right (by rw [hy, Nat.add_mul]; omega), hy, show (j + 1) * s + i - s = j * s + i by rw [Nat.add_mul]; omega]
    exact fl_get (fun z hz => h z (List.mem_cons_of_mem _ hz)) j x (by simpa using hx) i v hv
theorem fl_at {s : Nat} (hs : 0 < s) {xs : List (List Value)} (h : ∀ x ∈ xs, x.length = s) (m : Nat) (v : Value) (hv : xs.flatten[m]? = some v) : ∃ x, xs[m / s]? = some x ∧ x[m % s]? = some v := by
  have hm : m < xs.length * s := by rw [← fl_len h]; exact (List.getElem?_eq_some_iff.1 hv).1
  have hj : m / s < xs.length := Nat.div_lt_of_lt_mul (by rw [Nat.mul_comm]; exact hm)
  have hx : xs[m / s]? = some xs[m / s] := List.getElem?_eq_getElem hj
  have hi : m % s < xs[m / s].length := by rw [h _ (List.getElem_mem hj)]; exact Nat.mod_lt _ hs
  refine ⟨_, hx, ?_⟩
  have h2 := fl_get h (m / s) _ hx (m % s) _ (List.getElem?_eq_getElem hi)
  rw [Nat.mul_comm, Nat.div_add_mod] at h2
  rw [List.getElem?_eq_getElem hi, ← hv, h2]
section
variable {w w' : World} {base s n c : Nat} {e : TypeId} {A : Option Addr} {xs : List (List Value)}
theorem OwnS.len (h : OwnS w base e s A n c xs) (hs : 0 < s) : xs.length = n := by
  have h1 := h.1.1
  rw [fl_len h.2] at h1
  exact Nat.eq_of_mul_eq_mul_right hs h1
theorem OwnS.sls (h : OwnS w base e s A n c xs) (hs : 0 < s) : Sls w s A n c xs := by
  have hl := h.len hs
  refine ⟨hl, ?_, ?_, fun j x hx => ?_⟩
  · rcases h.1.2 with ⟨hv, rfl⟩ | ⟨g, cap, cur, hv, _, _, h1, h2, _⟩
    · omega
    · injection hv with _ _ h3; omega
  · rcases h.1.2 with ⟨hv, rfl⟩ | ⟨g, cap, cur, hv, _, _, h1, h2, _⟩
    · injection hv with _ _ h3; unfold maxLen; omega
    · injection hv with _ _ h3; omega
  · have hj := (List.getElem?_eq_some_iff.1 hx).1
    rcases h.1.2 with ⟨hv, rfl⟩ | ⟨g, cap, cur, hv, hb, hg, h1, h2, h3, h4⟩
    · omega
    · have hA : A = some ⟨g, 0, none⟩ := by injection hv
      refine ⟨g, 0, hA, (Array.getElem?_eq_some_iff.1 hg).1, h.2 x (List.mem_of_getElem? hx), fun i v hi => ?_⟩
      have h5 := fl_get h.2 j x hx i v hi
      rw [← h4, List.getElem?_take] at h5
      split at h5
      · rw [cell_of_row _ _ _ _ _ _ hg, Nat.zero_add]
        simpa using h5
      · cases h5
theorem OwnS.less {b : Nat} (h : OwnS w base e s A n c xs) (hb : b ≤ base) : OwnS w b e s A n c xs := by
  refine ⟨⟨h.1.1, ?_⟩, h.2⟩
  rcases h.1.2 with hv | ⟨g, cap, cur, hv, h1, r⟩
  · exact .inl hv
  · exact .inr ⟨g, cap, cur, hv, Nat.le_trans hb h1, r⟩
theorem OwnS.keep (h : OwnS w base e s A n c xs) (hk : ∀ g, base ≤ g → g < w.heap.size → w'.heap[g]? = w.heap[g]?) : OwnS w' base e s A n c xs := by
  refine ⟨⟨h.1.1, ?_⟩, h.2⟩
  rcases h.1.2 with hv | ⟨g, cap, cur, hv, h1, hg, r⟩
  · exact .inl hv
  · exact .inr ⟨g, cap, cur, hv, h1, (hk g h1 (Array.getElem?_eq_some_iff.1 hg).1).trans hg, r⟩
theorem OwnS.below (h : OwnS w base e s A n c xs) (hb : Below w.heap.size w w') : OwnS w' base e s A n c xs := h.keep fun g _ hg => hb.block g hg
theorem OwnS.drew (h : OwnS w base e s A n c xs) : OwnS w.drew base e s A n c xs := h
theorem owns_none (w : World) (base : Nat) (e : TypeId) (s : Nat) : OwnS w base e s none 0 0 [] := ⟨⟨by simp, .inl ⟨rfl, rfl⟩⟩, fun x hx => by simp at hx⟩
/-- An empty literal; a literal of one element. -/
theorem owns_lit0 (w : World) (e : TypeId) (s : Nat) : OwnS (w.alloc (.cells #[] e)) w.heap.size e s (some ⟨w.heap.size, 0, none⟩) 0 0 [] :=
  ⟨⟨by simp, .inr ⟨w.heap.size, 0, #[], rfl, Nat.le_refl _, heap_alloc_new w _, Nat.le_refl _, Nat.zero_le _, by simp, by simp⟩⟩, fun x hx => by simp at hx⟩
theorem owns_lit1 (w : World) (e : TypeId) (s : Nat) (x : List Value) (cs : Array Value) (hc : cs = x.toArray) (hx : x.length = s) : OwnS (w.alloc (.cells cs e)) w.heap.size e s (some ⟨w.heap.size, 0, none⟩) 1 1 [x] := by
  subst hc
  subst hx
  refine ⟨⟨by simp, .inr ⟨w.heap.size, 1, x.toArray, rfl, Nat.le_refl _, heap_alloc_new w _, Nat.le_refl _, by unfold maxLen; omega, by simp, by simp⟩⟩, fun y hy => ?_⟩
  obtain rfl : y = x := by simpa using hy
  rfl
end
section
variable {P : Program} {t e : TypeId} {s b : Nat} {z : Value} (w : World)
theorem run_append_s (T : RowT P t e s b z) (ty : TypeId) (base : Nat) (A : Option Addr) (n c : Nat) (xs : List (List Value)) (hown : OwnS w base e s A n c xs)
    (B : Option Addr) (m d : Nat) (ys : List (List Value)) (hr : Sls w s B m d ys) (hm0 : 0 < m) (h1 : ∀ y ∈ ys, ∀ u ∈ y, u.oneCell' = true) (hnm : n + m ≤ 1000000) (hb : b ≤ 100000) (hbase : base ≤ w.heap.size) :
    ∃ A' c' w', (Builtin.append_ #[t, t] ty #[.slice A n c, .slice B m d]).run P w = .ok (.slice A' (n + m) c') w' ∧ OwnS w' base e s A' (n + m) c' (xs ++ ys) ∧ Below base w w' := by
  obtain ⟨i, hi, hz0, hz1, hz2⟩ := info_parts T.info
  obtain ⟨g, o, rfl, hg, hl0, hr0⟩ := hr.at_ hm0
  have hys : ∀ y ∈ ys, y.length = s := fun y hy => by
    obtain ⟨j, hj⟩ := List.mem_iff_getElem?.1 hy
    obtain ⟨_, _, _, _, h, _⟩ := hr.2.2.2 j y hj
    exact h
  have hcells : ∀ j u, ys.flatten[j]? = some u → w.cell? ((⟨g, o, none⟩ : Addr).add j) = some u := by
    intro j u hu
    obtain ⟨y, hy, hv⟩ := fl_at T.pos hys j u hu
    obtain ⟨g', o', e', _, _, hr'⟩ := hr.2.2.2 _ y hy
    injection e' with e'
    injection e' with e1 e2
    subst e1 e2
    have := hr' _ u hv
    rw [Addr.add_mid]
    rw [Nat.add_assoc, Nat.mul_comm, Nat.div_add_mod] at this
    exact this
  have hbb : (n + m) * b ≤ 140737488355328 := Nat.le_trans (Nat.mul_le_mul hnm hb) (by decide)
  obtain ⟨v', w', hrun, h2, h3, h4, _⟩ := run_append_own_at (P := P) w base t ty e i z s b T.sl hi hz0 hz1 hz2 T.cells T.pos _ n _ hown.1 ⟨g, o, none⟩ m d ys.flatten (by rw [fl_len hys, hr.len]) hcells (fun u hu => by
    obtain ⟨y, hy, hu⟩ := List.mem_flatten.1 hu
    exact h1 y hy u hu) (by unfold maxLen; omega) hbb hbase
  have hB : Below base w w' := (Below.refl _ _).grown h3 hbase (fun k hk => by
    rcases hown.1.2 with ⟨hv, _⟩ | ⟨g, cap, cur, hv, h1, _⟩
    · rw [hv] at hk; simp [Value.ownBlock] at hk
    · rw [hv] at hk; simp [Value.ownBlock] at hk; omega)
  rw [← List.flatten_append] at h2
  have hall : ∀ x ∈ xs ++ ys, x.length = s := fun x hx => by
    rcases List.mem_append.1 hx with h | h
    · exact hown.2 x h
    · exact hys x h
  rcases h2.2 with ⟨rfl, h0⟩ | ⟨g', cap, cur, rfl, _⟩
  · omega
  · exact ⟨_, _, w', hrun, ⟨h2, hall⟩, hB⟩
/-- append onto the call's own row of structs. -/
theorem wp_append_s (T : RowT P t e s b z) {ops : Array Oper} {rest : List Oper} {o : Oper} {a : Act} {Q : Exit → Act → World → Prop} (hgd : o.guard = none) (so x : Operand)
    (ho : o.op = .call { callee := .builtin .append, args := #[so, x], argTypes := #[t, t] })
    (base : Nat) (A : Option Addr) (n c : Nat) (xs : List (List Value)) (hs : a.eval so = .slice A n c) (hown : OwnS w base e s A n c xs)
    (B : Option Addr) (m d : Nat) (ys : List (List Value)) (hx : a.eval x = .slice B m d) (hr : Sls w s B m d ys) (hm0 : 0 < m) (h1 : ∀ y ∈ ys, ∀ u ∈ y, u.oneCell' = true) (hnm : n + m ≤ 1000000) (hb : b ≤ 100000) (hbase : base ≤ w.heap.size)
    (h : ∀ A' c' w', OwnS w' base e s A' (n + m) c' (xs ++ ys) → Below base w w' → wpList P ops Q rest (a.put o.dst (.slice A' (n + m) c')) w') : wpList P ops Q (o :: rest) a w :=
  wpList_plain hgd fun K hK => by
    obtain ⟨A', c', w', hrun, h2, h3⟩ := run_append_s (P := P) w T o.type base A n c xs hown B m d ys hr hm0 h1 hnm hb hbase
    unfold Oper.wp execOp
    simp only [ho, resolve, invoke, builtin, Sem.run_bind, Sem.run_pure, Result.andThen_ok, List.map_toArray, List.map_cons, List.map_nil, hs, hx, hrun]
    exact hK _ _ (h A' c' w' h2 h3)
end
end Go.Proofs.Ytimlhhemfipooaa
