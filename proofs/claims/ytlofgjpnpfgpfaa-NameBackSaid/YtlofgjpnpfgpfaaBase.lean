/- Words for slices whose cells are read, over the kit's library; nothing here speaks of one program. -/
import Derived.WalkKit
import Derived.Deep.Draws
import Derived.Deep.AppendLies
import Derived.Maps.AppendAt
import Derived.Lib.Hide
import Derived.Lib.ConvBytes
namespace Go.Proofs.Ytlofgjpnpfgpfaa
open Go Go.RowKit

/-- What is made leaves all that was. -/
theorem blA {w : World} {o : Obj} : Below w.heap.size w (w.alloc o) := (Below.refl _ _).alloc (Nat.le_refl _) _
theorem ret_int {k : IntKind} {a b : Int} (h : a = b) : Ending.returned (.int k a) = .returned (.int k b) := by rw [h]
/-- One byte as the model's value. -/
def bv (b : UInt8) : Value := .int .u8 (b.toNat : Int)

/-- The k-th byte as a number, kept shut. -/
def byt (l : List UInt8) (k : Nat) : Nat := (l.getD k 0).toNat
theorem byt_le (l : List UInt8) (k : Nat) : byt l k ≤ 255 := by have := (l.getD k 0).toNat_lt; unfold byt; omega
theorem take_next (l : List UInt8) (k : Nat) (h : k < l.length) : l.take (k + 1) = l.take k ++ [UInt8.ofNat (byt l k)] := by
  rw [List.take_succ_eq_append_getElem h]; simp [byt, List.getD, h]
theorem addr_block (a : Addr) (n : Nat) : (a.add n).block = a.block := by unfold Addr.add; split <;> rfl
theorem addr_add (a : Addr) (i j : Nat) : (a.add i).add j = a.add (i + j) := by
  unfold Addr.add
  by_cases hi : i = 0 <;> by_cases hj : j = 0 <;> simp [hi, hj, Nat.add_assoc]

/-- The slice (A, n, c) holds the one-cell values xs, below block B. -/
def Holds (w : World) (B : Nat) (A : Option Addr) (n c : Nat) (xs : List Value) : Prop :=
  xs.length = n ∧ n ≤ c ∧ c ≤ maxLen ∧ ∀ (j : Nat) u, xs[j]? = some u → ∃ ad, A = some ad ∧ ad.block < B ∧ w.cell? (ad.add j) = some u

/-- A slice of bytes that reads as l. -/
def Sl (w : World) (A : Option Addr) (n c : Nat) (l : List UInt8) : Prop := Holds w w.heap.size A n c (l.map bv)

section
variable {w w' : World} {B B' n c : Nat} {A : Option Addr} {xs : List Value}
theorem Holds.len (h : Holds w B A n c xs) : xs.length = n := h.1
theorem Holds.keep (h : Holds w B A n c xs) (hk : ∀ p : Addr, p.block < B → w'.cell? p = w.cell? p) : Holds w' B A n c xs :=
  ⟨h.1, h.2.1, h.2.2.1, fun j u hu => by
    obtain ⟨ad, e, hb, hc⟩ := h.2.2.2 j u hu
    exact ⟨ad, e, hb, (hk _ (by rw [addr_block]; exact hb)).trans hc⟩⟩
theorem Holds.more (h : Holds w B A n c xs) (hB : B ≤ B') : Holds w B' A n c xs :=
  ⟨h.1, h.2.1, h.2.2.1, fun j u hu => by
    obtain ⟨ad, e, hb, hc⟩ := h.2.2.2 j u hu
    exact ⟨ad, e, by omega, hc⟩⟩
theorem Holds.below (h : Holds w B A n c xs) (hb : Below B w w') : Holds w' B A n c xs := h.keep fun _ hp => hb.cell hp
end
section
variable {w w' : World} {n c : Nat} {A : Option Addr} {l : List UInt8}
theorem Sl.len (h : Sl w A n c l) : l.length = n := by simpa using h.1
theorem Sl.cap (h : Sl w A n c l) : n ≤ c := h.2.1
theorem Sl.max (h : Sl w A n c l) : c ≤ maxLen := h.2.2.1
theorem Sl.below (h : Sl w A n c l) (hb : Below w.heap.size w w') : Sl w' A n c l := (Holds.below h hb).more hb.size
theorem Sl.drew (h : Sl w A n c l) : Sl w.drew A n c l := h
theorem Sl.drewN (h : Sl w A n c l) (k : Nat) : Sl (w.drewN k) A n c l := h
theorem Sl.cell (h : Sl w A n c l) {k : Nat} (hk : k < n) : ∃ ad, A = some ad ∧ ad.block < w.heap.size ∧ w.cell? (ad.add k) = some (.int .u8 (byt l k : Int)) := by
  have hl : k < l.length := by have := h.len; omega
  obtain ⟨ad, e, hb, hc⟩ := h.2.2.2 k (bv l[k]) (by simp [hl])
  exact ⟨ad, e, hb, by rw [hc]; unfold byt bv; rw [List.getD_eq_getElem?_getD, List.getElem?_eq_getElem hl]; rfl⟩
theorem Sl.take (h : Sl w A n c l) {k : Nat} (hk : k ≤ n) : Sl w A k c (l.take k) := by
  refine ⟨by have := h.len; simp; omega, by have := h.cap; omega, h.max, fun j u hu => h.2.2.2 j u ?_⟩
  rw [List.map_take, List.getElem?_take] at hu
  split at hu
  · exact hu
  · cases hu
theorem Sl.drop (h : Sl w A n c l) {k : Nat} (hk : k ≤ n) : Sl w (if c = k then A else A.map (·.add k)) (n - k) (c - k) (l.drop k) := by
  refine ⟨by have := h.len; simp; omega, by have := h.cap; omega, by have := h.max; omega, fun j u hu => ?_⟩
  rw [List.map_drop, List.getElem?_drop] at hu
  obtain ⟨ad, rfl, hb, hc⟩ := h.2.2.2 _ u hu
  have hj : k + j < n := by
    have := h.1; have h2 := (List.getElem?_eq_some_iff.1 hu).1; omega
  rw [if_neg (by have := h.cap; omega)]
  exact ⟨ad.add k, rfl, by rw [addr_block]; exact hb, by rw [addr_add]; exact hc⟩
end

/-- t is the type of slices of e, one cell and one byte an element, nought at first. -/
structure ByteT (P : Program) (t e : TypeId) : Prop where
  sl : P.underlying t = some (.slice e)
  info : (P.info? e).map (fun i => (i.zero, i.size, i.bytes)) = some (some (.int .u8 0), 1, 1)

/-- The call's own row of bytes. -/
def Own (w : World) (base : Nat) (e : TypeId) (A : Option Addr) (n c : Nat) (l : List UInt8) : Prop := w.ownsRow base e 1 (.slice A n c) n (l.map bv)

theorem bv_one (l : List UInt8) : ∀ u ∈ l.map bv, u.oneCell' = true := by
  intro u hu
  obtain ⟨_, _, rfl⟩ := List.mem_map.1 hu
  rfl
section
variable {w w' : World} {base n c : Nat} {e : TypeId} {A : Option Addr} {l : List UInt8}
theorem Own.len (h : Own w base e A n c l) : l.length = n := by have := h.1; simpa using this
theorem Own.sl (h : Own w base e A n c l) : Sl w A n c l := by
  refine ⟨by have := h.len; simpa using this, ?_, ?_, fun j u hu => ?_⟩
  · rcases h.2 with ⟨hv, rfl⟩ | ⟨g, cap, cur, hv, _, _, h1, h2, _⟩
    · omega
    · injection hv with _ _ h3; omega
  · rcases h.2 with ⟨hv, rfl⟩ | ⟨g, cap, cur, hv, _, _, h1, h2, _⟩
    · injection hv with _ _ h3; unfold maxLen; omega
    · injection hv with _ _ h3; omega
  · rcases h.2 with ⟨hv, rfl⟩ | ⟨g, cap, cur, hv, hb, hg, h1, h2, h3, h4⟩
    · have := h.len; have h0 := (List.getElem?_eq_some_iff.1 hu).1; simp at h0; omega
    · have hA : A = some ⟨g, 0, none⟩ := by injection hv
      subst hA
      exact ⟨_, rfl, (Array.getElem?_eq_some_iff.1 hg).1, h.cells (g := g) rfl j u hu⟩
theorem Own.block (h : Own w base e A n c l) : ∀ ad, A = some ad → base ≤ ad.block ∧ ad.block < w.heap.size := by
  intro ad had; subst had
  exact h.lt ad.block rfl
theorem Own.at_ {g : Nat} (h : Own w base e (some ⟨g, 0, none⟩) n c l) (j : Nat) (hj : j < n) : w.cell? ⟨g, j, none⟩ = some (.int .u8 (byt l j : Int)) ∧ w.frozen? ⟨g, j, none⟩ = false := by
  have hl := h.len
  refine ⟨?_, World.ownsRow.frozenAt h j⟩
  rw [World.ownsRow.cellAt h j (by omega), List.getElem?_map, List.getElem?_eq_getElem (by omega)]
  unfold byt
  rw [List.getD_eq_getElem?_getD, List.getElem?_eq_getElem (by omega)]; rfl
theorem Own.set_ {g : Nat} (h : Own w base e (some ⟨g, 0, none⟩) n c l) (j : Nat) (b : UInt8) : Own (w.setCell ⟨g, j, none⟩ (bv b)) base e (some ⟨g, 0, none⟩) n c (l.set j b) := by
  unfold Own
  rw [List.map_set]
  exact (World.ownsRow.stored h j (bv b)).1
theorem Own.less {b : Nat} (h : Own w base e A n c l) (hb : b ≤ base) : Own w b e A n c l := by
  refine ⟨h.1, ?_⟩
  rcases h.2 with hv | ⟨g, cap, cur, hv, h1, r⟩
  · exact .inl hv
  · exact .inr ⟨g, cap, cur, hv, Nat.le_trans hb h1, r⟩
theorem Own.drew (h : Own w base e A n c l) : Own w.drew base e A n c l := h
theorem Own.below (h : Own w base e A n c l) (hb : Below w.heap.size w w') : Own w' base e A n c l := by
  refine ⟨h.1, ?_⟩
  rcases h.2 with hv | ⟨g, cap, cur, hv, h1, hg, r⟩
  · exact .inl hv
  · exact .inr ⟨g, cap, cur, hv, h1, (hb.block g (Array.getElem?_eq_some_iff.1 hg).1).trans hg, r⟩
end

section
variable {P : Program} {t e : TypeId} (w : World)
theorem madeBytes (n : Nat) : (madeCells (Value.int .u8 0).cells (n * 1)).toList = (List.replicate n (0 : UInt8)).map bv := by
  rw [show (Value.int .u8 0).cells = #[.int .u8 0] from rfl, Nat.mul_one, toList_madeCells_one]
  simp [bv]
/-- make of n noughts. -/
theorem wp_make_b (T : ByteT P t e) {ops : Array Oper} {rest : List Oper} {o : Oper} {a : Act} {Q : Exit → Act → World → Prop}
    (hg : o.guard = none) (l c : Operand) (hop : o.op = Op.makeSlice t l c) (kl kc : IntKind) (n : Nat) (hl : a.eval l = .int kl (n : Int)) (hc : a.eval c = .int kc (n : Int)) (b2 : n ≤ 281474976710656)
    (hK : ∀ w', Own w' w.heap.size e (some ⟨w.heap.size, 0, none⟩) n n (List.replicate n 0) → Below w.heap.size w w' → wpList P ops Q rest (a.put o.dst (.slice (some ⟨w.heap.size, 0, none⟩) n n)) w') :
    wpList P ops Q (o :: rest) a w := by
  obtain ⟨i, hi, hz0, hz1, hz2⟩ := info_parts T.info
  refine wpList_make_full w hg l c t hop w.heap.size e i _ 1 T.sl hi hz0 hz1 kl kc _ _ n hl hc rfl rfl (by rw [hz2]; omega) (by unfold maxLen; omega) (Nat.le_refl _) fun w' h1 h2 => ?_
  refine hK w' ?_ ((Below.refl _ _).grown h2 (Nat.le_refl _) (by simp))
  unfold Own; rw [← madeBytes]; exact h1
/-- make of none, with room for n. -/
theorem wp_make_c (T : ByteT P t e) {ops : Array Oper} {rest : List Oper} {o : Oper} {a : Act} {Q : Exit → Act → World → Prop}
    (hg : o.guard = none) (l c : Operand) (hop : o.op = Op.makeSlice t l c) (kl kc : IntKind) (n : Nat) (hl : a.eval l = .int kl 0) (hc : a.eval c = .int kc (n : Int)) (b2 : n ≤ 281474976710656)
    (hK : ∀ w', Own w' w.heap.size e (some ⟨w.heap.size, 0, none⟩) 0 n [] → Below w.heap.size w w' → wpList P ops Q rest (a.put o.dst (.slice (some ⟨w.heap.size, 0, none⟩) 0 n)) w') :
    wpList P ops Q (o :: rest) a w := by
  obtain ⟨i, hi, hz0, hz1, hz2⟩ := info_parts T.info
  refine wpList_make_own w hg l c t hop w.heap.size e i _ 1 T.sl hi hz0 hz1 kl kc _ n hl hc rfl (by rw [hz2]; omega) (by unfold maxLen; omega) (Nat.le_refl _) fun w' h1 h2 => ?_
  exact hK w' h1 ((Below.refl _ _).grown h2 (Nat.le_refl _) (by simp))

theorem run_append_sl (T : ByteT P t e) (ty : TypeId) (base : Nat) (A : Option Addr) (n c : Nat) (l : List UInt8) (hown : Own w base e A n c l)
    (B : Option Addr) (m d : Nat) (l2 : List UInt8) (hr : Sl w B m d l2) (hnm : n + m ≤ 140737488355328) (hbase : base ≤ w.heap.size) :
    ∃ A' c' w', (Builtin.append_ #[t, t] ty #[.slice A n c, .slice B m d]).run P w = .ok (.slice A' (n + m) c') w' ∧ Own w' base e A' (n + m) c' (l ++ l2) ∧ Below base w w' ∧
      w.grownBy w' (Value.ownBlock (.slice A n c)) := by
  obtain ⟨i, hi, hz0, hz1, hz2⟩ := info_parts T.info
  have fin : ∀ v' w', (Builtin.append_ #[t, t] ty #[.slice A n c, .slice B m d]).run P w = .ok v' w' → w'.ownsRow base e 1 v' (n + m) (l.map bv ++ l2.map bv) →
      w.grownBy w' (Value.ownBlock (.slice A n c)) → ∃ A' c' w', (Builtin.append_ #[t, t] ty #[.slice A n c, .slice B m d]).run P w = .ok (.slice A' (n + m) c') w' ∧ Own w' base e A' (n + m) c' (l ++ l2) ∧ Below base w w' ∧
      w.grownBy w' (Value.ownBlock (.slice A n c)) := by
    intro v' w' h1 h2 h3
    have hb : Below base w w' := (Below.refl _ _).grown h3 hbase (fun k hk => (hown.lt k hk).1)
    rw [← List.map_append] at h2
    rcases h2.2 with ⟨rfl, h0⟩ | ⟨g, cap, cur, rfl, _⟩
    · exact ⟨none, 0, w', by rw [h1, h0], by unfold Own; rw [h0] at h2 ⊢; exact h2, hb, h3⟩
    · exact ⟨_, _, w', h1, h2, hb, h3⟩
  rcases B with _ | ad
  · have hm : m = 0 := by
      rcases Nat.eq_zero_or_pos m with h0 | h0
      · exact h0
      · obtain ⟨ad, h, _⟩ := hr.cell h0
        cases h
    subst hm
    have hn : l2 = [] := List.eq_nil_of_length_eq_zero hr.len
    subst hn
    refine fin (.slice A n c) w ?_ (by rw [Nat.add_zero, List.map_nil, List.append_nil]; exact hown) (World.grownBy.refl w _)
    rcases hown.2 with ⟨hv, rfl⟩ | ⟨g, cap, cur, hv, _, _, hnc, _⟩
    · rw [hv]; simp [Builtin.append_, run_underlying T.sl, sizeOf, typeInfo, hi, Builtin.lenOf, Builtin.firstCells]
    · rw [hv]; simp [Builtin.append_, run_underlying T.sl, sizeOf, typeInfo, hi, Builtin.lenOf, Builtin.firstCells, hnc, storeCells]
  · have hcells : ∀ j u, (l2.map bv)[j]? = some u → w.cell? (ad.add j) = some u := by
      intro j u hu
      obtain ⟨ad', h, _, hc⟩ := hr.2.2.2 j u hu
      injection h with h
      subst h
      exact hc
    obtain ⟨v', w', h1, h2, h3, _, _⟩ := run_append_own_at (P := P) w base t ty e i _ 1 1 T.sl hi hz0 hz1 hz2 rfl (by omega) _ n _ hown ad m d (l2.map bv) (by have := hr.len; simpa using this) hcells (bv_one _) (by unfold maxLen; omega) (by omega) hbase
    exact fin v' w' h1 h2 h3

/-- append onto the call's own row. -/
theorem wp_append_b (T : ByteT P t e) {ops : Array Oper} {rest : List Oper} {o : Oper} {a : Act} {Q : Exit → Act → World → Prop} (hgd : o.guard = none) (s x : Operand)
    (ho : o.op = .call { callee := .builtin .append, args := #[s, x], argTypes := #[t, t] })
    (base : Nat) (A : Option Addr) (n c : Nat) (l : List UInt8) (hs : a.eval s = .slice A n c) (hown : Own w base e A n c l)
    (B : Option Addr) (m d : Nat) (l2 : List UInt8) (hx : a.eval x = .slice B m d) (hr : Sl w B m d l2) (hnm : n + m ≤ 140737488355328) (hbase : base ≤ w.heap.size)
    (h : ∀ A' c' w', Own w' base e A' (n + m) c' (l ++ l2) → Below base w w' → wpList P ops Q rest (a.put o.dst (.slice A' (n + m) c')) w') : wpList P ops Q (o :: rest) a w :=
  wpList_plain hgd fun K hK => by
    obtain ⟨A', c', w', hrun, h2, h3, _⟩ := run_append_sl (P := P) w T o.type base A n c l hown B m d l2 hr hnm hbase
    unfold Oper.wp execOp
    simp only [ho, resolve, invoke, builtin, Sem.run_bind, Sem.run_pure, Result.andThen_ok, List.map_toArray, List.map_cons, List.map_nil, hs, hx, hrun]
    exact hK _ _ (h A' c' w' h2 h3)
end

/-- The j-th list. Kept shut. -/
def nth (ls : List (List UInt8)) (j : Nat) : List UInt8 := ls.getD j []
/-- A slice of slices of bytes that reads as ls. -/
def Parts (w : World) (A : Option Addr) (k c : Nat) (ls : List (List UInt8)) : Prop :=
  ls.length = k ∧ k ≤ c ∧ c ≤ maxLen ∧ ∀ (j : Nat) l, ls[j]? = some l → ∃ ad B n d, A = some ad ∧ ad.block < w.heap.size ∧ w.cell? (ad.add j) = some (.slice B n d) ∧ Sl w B n d l
section
variable {w w' : World} {k c : Nat} {A : Option Addr} {ls : List (List UInt8)}
theorem Parts.len (h : Parts w A k c ls) : ls.length = k := h.1
theorem Parts.below (h : Parts w A k c ls) (hb : Below w.heap.size w w') : Parts w' A k c ls :=
  ⟨h.1, h.2.1, h.2.2.1, fun j l hl => by
    obtain ⟨ad, B, n, d, e, hlt, hc, hs⟩ := h.2.2.2 j l hl
    exact ⟨ad, B, n, d, e, Nat.lt_of_lt_of_le hlt hb.size, (hb.cell (by rw [addr_block]; exact hlt)).trans hc, hs.below hb⟩⟩
theorem Parts.cell (h : Parts w A k c ls) {j : Nat} (hj : j < k) : ∃ ad B n d, A = some ad ∧ ad.block < w.heap.size ∧ w.cell? (ad.add j) = some (.slice B n d) ∧ Sl w B n d (nth ls j) := by
  have hl : j < ls.length := by have := h.1; omega
  have hg : ls[j]? = some (nth ls j) := by simp [nth, List.getD, hl]
  exact h.2.2.2 j _ hg
end
/-- The first j lists, one behind the other; and how long that is. Kept shut. -/
def cat (ls : List (List UInt8)) (j : Nat) : List UInt8 := (ls.take j).flatten
def tot (ls : List (List UInt8)) (j : Nat) : Nat := (cat ls j).length
theorem cat_zero (ls : List (List UInt8)) : cat ls 0 = [] := by simp [cat]
theorem tot_zero (ls : List (List UInt8)) : tot ls 0 = 0 := by simp [tot, cat]
theorem cat_next (ls : List (List UInt8)) (k : Nat) (h : k < ls.length) : cat ls (k + 1) = cat ls k ++ nth ls k := by
  unfold cat nth
  rw [List.take_succ_eq_append_getElem h, List.flatten_append]; simp [List.getD, h]
theorem tot_next (ls : List (List UInt8)) (k : Nat) (h : k < ls.length) : tot ls (k + 1) = tot ls k + (nth ls k).length := by
  unfold tot
  rw [cat_next ls k h, List.length_append]
theorem tot_le (ls : List (List UInt8)) (k m : Nat) (h : k ≤ m) : tot ls k ≤ tot ls m := by
  unfold tot cat
  have e : (ls.take m).flatten = (ls.take k).flatten ++ ((ls.take m).drop k).flatten := by
    rw [← List.flatten_append]
    congr 1
    have h2 := List.take_append_drop k (ls.take m)
    rw [List.take_take, Nat.min_eq_left h] at h2
    exact h2.symm
  rw [e, List.length_append]; omega

theorem Sl.alloc {w : World} {A : Option Addr} {n c : Nat} {l : List UInt8} (h : Sl w A n c l) (o : Obj) : Sl (w.alloc o) A n c l := h.below ((Below.refl _ _).alloc (Nat.le_refl _) o)
theorem newCell (w : World) (cs : Array Value) (t : TypeId) (j : Nat) : (w.alloc (.cells cs t)).cell? ((⟨w.heap.size, 0, none⟩ : Addr).add j) = cs[j]? := by
  rw [Addr.add_lit, Nat.zero_add]
  exact cell_of_row (w.alloc (.cells cs t)) w.heap.size j cs t (0, 0) (heap_alloc_new w _)
theorem parts1 {w : World} (t : TypeId) {B : Option Addr} {n d : Nat} {l : List UInt8} (h : Sl w B n d l) : Parts (w.alloc (.cells #[.slice B n d] t)) (some ⟨w.heap.size, 0, none⟩) 1 1 [l] := by
  refine ⟨rfl, Nat.le_refl _, by unfold maxLen; omega, fun j l' hl => ?_⟩
  rcases j with _ | j
  · obtain rfl : l = l' := by simpa using hl
    exact ⟨_, B, n, d, rfl, by simp, newCell w _ t 0, h.alloc _⟩
  · simp at hl
theorem parts2 {w : World} (t : TypeId) {B B2 : Option Addr} {n d n2 d2 : Nat} {l l2 : List UInt8} (h : Sl w B n d l) (h2 : Sl w B2 n2 d2 l2) :
    Parts (w.alloc (.cells #[.slice B n d, .slice B2 n2 d2] t)) (some ⟨w.heap.size, 0, none⟩) 2 2 [l, l2] := by
  refine ⟨rfl, Nat.le_refl _, by unfold maxLen; omega, fun j l' hl => ?_⟩
  rcases j with _ | _ | j
  · obtain rfl : l = l' := by simpa using hl
    exact ⟨_, B, n, d, rfl, by simp, newCell w _ t 0, h.alloc _⟩
  · obtain rfl : l2 = l' := by simpa using hl
    exact ⟨_, B2, n2, d2, rfl, by simp, newCell w _ t 1, h2.alloc _⟩
  · simp at hl
theorem parts3 {w : World} (t : TypeId) {B B2 B3 : Option Addr} {n d n2 d2 n3 d3 : Nat} {l l2 l3 : List UInt8} (h : Sl w B n d l) (h2 : Sl w B2 n2 d2 l2) (h3 : Sl w B3 n3 d3 l3) :
    Parts (w.alloc (.cells #[.slice B n d, .slice B2 n2 d2, .slice B3 n3 d3] t)) (some ⟨w.heap.size, 0, none⟩) 3 3 [l, l2, l3] := by
  refine ⟨rfl, Nat.le_refl _, by unfold maxLen; omega, fun j l' hl => ?_⟩
  rcases j with _ | _ | _ | j
  · obtain rfl : l = l' := by simpa using hl
    exact ⟨_, B, n, d, rfl, by simp, newCell w _ t 0, h.alloc _⟩
  · obtain rfl : l2 = l' := by simpa using hl
    exact ⟨_, B2, n2, d2, rfl, by simp, newCell w _ t 1, h2.alloc _⟩
  · obtain rfl : l3 = l' := by simpa using hl
    exact ⟨_, B3, n3, d3, rfl, by simp, newCell w _ t 2, h3.alloc _⟩
  · simp at hl
theorem cat1 (l : List UInt8) : cat [l] 1 = l := by simp [cat]
theorem cat2 (l l2 : List UInt8) : cat [l, l2] 2 = l ++ l2 := by simp [cat]
theorem cat3 (l l2 l3 : List UInt8) : cat [l, l2, l3] 3 = l ++ (l2 ++ l3) := by simp [cat]
theorem tot1 (l : List UInt8) : tot [l] 1 = l.length := by simp [tot, cat]
theorem tot2 (l l2 : List UInt8) : tot [l, l2] 2 = l.length + l2.length := by simp [tot, cat]
theorem tot3 (l l2 l3 : List UInt8) : tot [l, l2, l3] 3 = l.length + (l2.length + l3.length) := by simp [tot, cat]
theorem own_empty (w : World) (e : TypeId) : Own (w.alloc (.cells #[] e)) w.heap.size e (some ⟨w.heap.size, 0, none⟩) 0 0 [] :=
  World.ownsRow_lit (size := 1) w #[] 0 (Nat.le_refl _) (Nat.zero_le _) rfl
theorem own_lit (w : World) (e : TypeId) (l : List UInt8) (cs : Array Value) (h : cs.toList = l.map bv) (hm : l.length ≤ 16777216) : Own (w.alloc (.cells cs e)) w.heap.size e (some ⟨w.heap.size, 0, none⟩) l.length l.length l := by
  have hs : cs.size = l.length := by rw [← Array.length_toList, h, List.length_map]
  have := World.ownsRow_lit (e := e) (size := 1) w cs l.length (Nat.le_refl _) (by unfold maxLen; omega) (by omega)
  rw [h] at this
  exact this
theorem Own.alloc {w : World} {base : Nat} {e : TypeId} {A : Option Addr} {n c : Nat} {l : List UInt8} (h : Own w base e A n c l) (o : Obj) : Own (w.alloc o) base e A n c l :=
  h.below ((Below.refl _ _).alloc (Nat.le_refl _) o)
theorem own_one (w : World) (e : TypeId) (b : UInt8) (v : Value) (h : bv b = v) : Own (w.alloc (.cells #[v] e)) w.heap.size e (some ⟨w.heap.size, 0, none⟩) 1 1 [b] :=
  own_lit w e [b] #[v] (by rw [← h]; rfl) (by simp)
/-- A step behind a new block. -/
theorem below_new {w w' : World} (o : Obj) {B : Nat} (hb : Below B (w.alloc o) w') (hB : B ≤ w.heap.size) : Below B w w' := ((Below.refl _ _).alloc hB o).trans hb
theorem below_drewN {B : Nat} {a w : World} (h : Below B a w) (n : Nat) : Below B a (w.drewN n) := ⟨h.os, h.tape, h.output, h.size, h.block⟩

/-! ### Bytes to a string and back -/
theorem foldl_push (l : List UInt8) (b : ByteArray) : (l.map (fun x : UInt8 => (x.toNat : Int))).foldl (fun r n => r.push (UInt8.ofNat n.toNat)) b = ⟨b.data ++ l.toArray⟩ := by
  induction l generalizing b with
  | nil => simp
  | cons x l ih =>
    rw [List.map_cons, List.foldl_cons, ih]
    have e : UInt8.ofNat ((x.toNat : Int)).toNat = x := by simp
    rw [e]
    cases b
    simp [ByteArray.push]
/-- 'string(b)' -/
theorem run_conv_bs {P : Program} (src dst e : TypeId) (T : ByteT P src e) (he : P.underlying e = some (.int .u8)) (hd : P.underlying dst = some .string) {w : World} {A : Option Addr} {n c : Nat} {l : List UInt8} (h : Sl w A n c l) :
    (convert src dst (.slice A n c)).run P w = .ok (.string ⟨l.toArray⟩) w := by
  rw [run_convert_bytes_string w src dst e A n c T.sl he hd]
  rcases A with _ | a
  · have hl : l = [] := by
      rcases l with _ | ⟨x, l⟩
      · rfl
      · obtain ⟨ad, h', _⟩ := h.2.2.2 0 (bv x) rfl
        cases h'
    subst hl
    simp [Conv.bytesToString, Sem.run_pure]
    rfl
  · have hc : ∀ (j : Nat) v, (l.map bv)[j]? = some v → w.cell? (a.add j) = some v := fun j u hu => by
      obtain ⟨ad, h', _, hc⟩ := h.2.2.2 j u hu
      injection h' with h'
      subst h'
      exact hc
    have h2 := run_loadCells_list (P := P) w a (l.map bv) hc
    rw [List.length_map, h.len] at h2
    have e2 : l.map bv = (l.map (fun x : UInt8 => (x.toNat : Int))).map (Value.int .u8) := by simp [bv, Function.comp_def]
    rw [e2] at h2
    rw [run_bytesToString w a n c _ h2, foldl_push]
    simp [ByteArray.empty, ByteArray.emptyWithCapacity]
    rfl
/-- '[]byte(s)' -/
theorem sl_conv_sb (w : World) (e : TypeId) (s : ByteArray) (h : s.size ≤ maxLen) : Sl (Lib.bytesWorld w e s) (some ⟨w.heap.size, 0, none⟩) s.size (grownCap w s.size 0 e) s.data.toList := by
  refine ⟨by simp, grownCap_ge _ _ _ _, grownCap_le_maxLen _ _ _ _ h, fun j u hu => ⟨_, rfl, by rw [Lib.bytesWorld_size]; simp, ?_⟩⟩
  have hj : j < s.size := by have := (List.getElem?_eq_some_iff.1 hu).1; simpa using this
  rw [Addr.add_lit, Nat.zero_add, Lib.bytesWorld_cell w e s j hj]
  have hj2 : j < s.data.toList.length := by simpa using hj
  rw [List.getElem?_map, List.getElem?_eq_getElem hj2] at hu
  rw [← hu, List.getD_eq_getElem?_getD, List.getElem?_eq_getElem hj2]
  rfl
theorem below_conv_sb (w : World) (e : TypeId) (s : ByteArray) : Below w.heap.size w (Lib.bytesWorld w e s) :=
  ⟨rfl, rfl, rfl, by rw [Lib.bytesWorld_size]; omega, fun k hk => Lib.bytesWorld_at_old w e s k hk⟩
theorem sl_nil (w : World) : Sl w none 0 0 [] := ⟨rfl, Nat.le_refl _, Nat.zero_le _, fun j u hu => by simp at hu⟩

/-! ### append onto an empty literal: nothing that was there is written -/
section
variable {P : Program} {t e : TypeId} (w : World)
theorem run_append_lit (T : ByteT P t e) (ty : TypeId) (base g : Nat) (hown : Own w base e (some ⟨g, 0, none⟩) 0 0 [])
    (B : Option Addr) (m d : Nat) (l2 : List UInt8) (hr : Sl w B m d l2) (hnm : m ≤ 140737488355328) (hbase : base ≤ w.heap.size) :
    ∃ A' c' w', (Builtin.append_ #[t, t] ty #[.slice (some ⟨g, 0, none⟩) 0 0, .slice B m d]).run P w = .ok (.slice A' m c') w' ∧ Own w' base e A' m c' l2 ∧ Below w.heap.size w w' := by
  obtain ⟨i, hi, hz0, hz1, hz2⟩ := info_parts T.info
  rcases Nat.eq_zero_or_pos m with h0 | h0
  · subst h0
    have hn : l2 = [] := List.eq_nil_of_length_eq_zero hr.len
    subst hn
    refine ⟨some ⟨g, 0, none⟩, 0, w, ?_, hown, Below.refl _ _⟩
    rcases B with _ | ad
    · simp [Builtin.append_, run_underlying T.sl, sizeOf, typeInfo, hi, Builtin.lenOf, Builtin.firstCells, storeCells]
    · simp [Builtin.append_, run_underlying T.sl, sizeOf, typeInfo, hi, Builtin.lenOf, Builtin.firstCells, storeCells, loadCells, loadCellsFrom]
  · obtain ⟨ad, rfl, _⟩ := hr.cell h0
    have hcells : ∀ j u, (l2.map bv)[j]? = some u → w.cell? (ad.add j) = some u := by
      intro j u hu
      obtain ⟨ad', h, _, hc⟩ := hr.2.2.2 j u hu
      injection h with h
      subst h
      exact hc
    have hl : (l2.map bv).length = m := by have := hr.len; simpa using this
    have hrun := run_append_grow (P := P) w t ty e i _ T.sl hi hz0 ⟨g, 0, none⟩ 0 0 [] (by simp) (by simp) ad m d (l2.map bv) (by rw [hz1, hl]; omega) hcells (by omega) (by omega) (growslice_fits (by omega) (by rw [hz2]; omega))
    rw [Nat.zero_add] at hrun
    have hge := grownCap_ge w m 0 e
    refine ⟨_, _, _, hrun, ⟨by rw [hl]; omega, .inr ⟨w.heap.size, _, _, rfl, hbase, heap_alloc_new w.drew _, hge, grownCap_le_maxLen w m 0 e (by unfold maxLen; omega), ?_, ?_⟩⟩, (Below.refl _ _).drew.alloc (Nat.le_refl _) _⟩
    · simp only [Array.size_append, List.size_toArray, size_zeroCells, List.length_nil, hl, show (Value.int .u8 0).cells.size = 1 from rfl]
      omega
    · simp only [Array.toList_append, List.nil_append]
      rw [List.take_append_of_le_length (by simp; have := hr.len; omega)]
      simp [List.take_of_length_le, hr.len]
theorem wp_append_lit0 (T : ByteT P t e) {o : Oper} {a : Act} {K : Act → World → Prop} {Q : Exit → Act → World → Prop} (s x : Operand)
    (ho : o.op = .call { callee := .builtin .append, args := #[s, x], argTypes := #[t, t] })
    (base g : Nat) (hs : a.eval s = .slice (some ⟨g, 0, none⟩) 0 0) (hown : Own w base e (some ⟨g, 0, none⟩) 0 0 [])
    (B : Option Addr) (m d : Nat) (l2 : List UInt8) (hx : a.eval x = .slice B m d) (hr : Sl w B m d l2) (hnm : m ≤ 140737488355328) (hbase : base ≤ w.heap.size)
    (h : ∀ A' c' w', Own w' base e A' m c' l2 → Below w.heap.size w w' → K (a.put o.dst (.slice A' m c')) w') : o.wp P a w K Q := by
  obtain ⟨A', c', w', hrun, h2, h3⟩ := run_append_lit (P := P) w T o.type base g hown B m d l2 hr hnm hbase
  unfold Oper.wp execOp
  simp only [ho, resolve, invoke, builtin, Sem.run_bind, Sem.run_pure, Result.andThen_ok, List.map_toArray, List.map_cons, List.map_nil, hs, hx, hrun]
  exact h A' c' w' h2 h3
/-- In a plain region. -/
theorem wp_append_lit (T : ByteT P t e) {ops : Array Oper} {rest : List Oper} {o : Oper} {a : Act} {Q : Exit → Act → World → Prop} (hgd : o.guard = none) (s x : Operand)
    (ho : o.op = .call { callee := .builtin .append, args := #[s, x], argTypes := #[t, t] })
    (base g : Nat) (hs : a.eval s = .slice (some ⟨g, 0, none⟩) 0 0) (hown : Own w base e (some ⟨g, 0, none⟩) 0 0 [])
    (B : Option Addr) (m d : Nat) (l2 : List UInt8) (hx : a.eval x = .slice B m d) (hr : Sl w B m d l2) (hnm : m ≤ 140737488355328) (hbase : base ≤ w.heap.size)
    (h : ∀ A' c' w', Own w' base e A' m c' l2 → Below w.heap.size w w' → wpList P ops Q rest (a.put o.dst (.slice A' m c')) w') : wpList P ops Q (o :: rest) a w :=
  wpList_plain hgd fun _ hK => wp_append_lit0 w T s x ho base g hs hown B m d l2 hx hr hnm hbase fun A' c' w' h1 h2 => hK _ _ (h A' c' w' h1 h2)
/-- In a region that draws. -/
theorem step_append_lit (T : ByteT P t e) {ops : Array Oper} {o : Oper} {a : Act} {K : Act → World → Prop} {Q : Exit → Act → World → Prop} {E : Prop} (hgd : o.guard = none) (s x : Operand)
    (ho : o.op = .call { callee := .builtin .append, args := #[s, x], argTypes := #[t, t] })
    (base g : Nat) (hs : a.eval s = .slice (some ⟨g, 0, none⟩) 0 0) (hown : Own w base e (some ⟨g, 0, none⟩) 0 0 [])
    (B : Option Addr) (m d : Nat) (l2 : List UInt8) (hx : a.eval x = .slice B m d) (hr : Sl w B m d l2) (hnm : m ≤ 140737488355328) (hbase : base ≤ w.heap.size)
    (h : ∀ A' c' w', Own w' base e A' m c' l2 → Below w.heap.size w w' → K (a.put o.dst (.slice A' m c')) w') :
    if Region.wanted o (yielded ops a.tmps) = true then Oper.wp P o a w K Q else E := by
  rw [if_pos (by simp [Region.wanted, hgd])]
  exact wp_append_lit0 w T s x ho base g hs hown B m d l2 hx hr hnm hbase h
end

/-! ### A slice of texts -/
/-- The k-th text, kept shut. -/
def txt (ss : List ByteArray) (k : Nat) : ByteArray := ss.getD k ByteArray.empty
/-- A slice of texts that reads as ss. -/
def StrSl (w : World) (A : Option Addr) (n c : Nat) (ss : List ByteArray) : Prop :=
  Holds w w.heap.size A n c (ss.map Value.string) ∧ ∀ s ∈ ss, s.size ≤ maxLen
section
variable {w w' : World} {n c : Nat} {A : Option Addr} {ss : List ByteArray}
theorem StrSl.len (h : StrSl w A n c ss) : ss.length = n := by simpa using h.1.1
theorem StrSl.cap (h : StrSl w A n c ss) : n ≤ c := h.1.2.1
theorem StrSl.max (h : StrSl w A n c ss) : c ≤ maxLen := h.1.2.2.1
theorem StrSl.below (h : StrSl w A n c ss) (hb : Below w.heap.size w w') : StrSl w' A n c ss := ⟨(Holds.below h.1 hb).more hb.size, h.2⟩
theorem StrSl.cell (h : StrSl w A n c ss) {k : Nat} (hk : k < n) : ∃ ad, A = some ad ∧ ad.block < w.heap.size ∧ w.cell? (ad.add k) = some (.string (txt ss k)) ∧ (txt ss k).size ≤ maxLen := by
  have hl : k < ss.length := by have := h.len; omega
  have e : txt ss k = ss[k] := by unfold txt; rw [List.getD_eq_getElem?_getD, List.getElem?_eq_getElem hl]; rfl
  obtain ⟨ad, ha, hb, hc⟩ := h.1.2.2.2 k (.string ss[k]) (by simp [hl])
  exact ⟨ad, ha, hb, by rw [e]; exact hc, by rw [e]; exact h.2 _ (List.getElem_mem hl)⟩
end
theorem strsl_nil (w : World) : StrSl w none 0 0 [] := ⟨⟨rfl, Nat.le_refl _, Nat.zero_le _, fun j u hu => by simp at hu⟩, fun s hs => by simp at hs⟩
end Go.Proofs.Ytlofgjpnpfgpfaa
