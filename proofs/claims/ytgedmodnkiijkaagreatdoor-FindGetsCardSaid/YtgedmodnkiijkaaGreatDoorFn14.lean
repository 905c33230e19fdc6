/- A superblock as plain data: its cells, the blocks that hold one, or a subvolume; what a label is, whether one may be. Superblocks: loads, stores and comparisons of this program; the code's within and digit; what a label is, the code's and the reference's Label. -/
import Derived.Test.YtgedmodnkiijkaaGreatDoorFn3
import Derived.Test.YtgedmodnkiijkaaGreatDoorGrown
import Derived.Test.YtgedmodnkiijkaaGreatDoorFn13
import Derived.DeepKeys
import Derived.Deep.RegionHeld3
namespace Go.Proofs.YtgedmodnkiijkaaGreatDoor
open Go Go.RowKit Go.Proofs

/-- A subvolume; none. -/
structure Vl where
  name : ByteArray
  ro : Bool
  root : Int
  next : Int
def Vl.vs (v : Vl) : List Value := [.string v.name, .bool v.ro, .int .i64 v.root, .int .i64 v.next]
def Vl.v (v : Vl) : Value := .agg #[.string v.name, .bool v.ro, .int .i64 v.root, .int .i64 v.next]
def Vl.zero : Vl := ⟨⟨#[]⟩, false, 0, 0⟩
def Vl.same (a b : Vl) : Bool := a.name.toList == b.name.toList && a.ro == b.ro && a.root == b.root && a.next == b.next
theorem Vl.ext' {a b : Vl} (h1 : a.name = b.name) (h2 : a.ro = b.ro) (h3 : a.root = b.root) (h4 : a.next = b.next) : a = b := by
  cases a; cases b; simp_all
theorem Vl.same_iff (a b : Vl) : a.same b = true ↔ a = b := by
  unfold Vl.same
  rw [ByteArray.toList_eq, ByteArray.toList_eq]
  constructor
  · intro h
    simp only [Bool.and_eq_true, beq_iff_eq] at h
    obtain ⟨⟨⟨h1, h2⟩, h3⟩, h4⟩ := h
    refine Vl.ext' ?_ h2 h3 h4
    obtain ⟨⟨⟨x⟩⟩, _, _, _⟩ := a
    obtain ⟨⟨⟨y⟩⟩, _, _, _⟩ := b
    simpa using h1
  · rintro rfl
    simp
/-- A superblock; none. -/
structure Sp where
  gen : Int
  sectors : Int
  log : Int
  vols : List Vl
  len : vols.length = 8
def Sp.vs (S : Sp) : List Value := .int .i64 S.gen :: .int .i64 S.sectors :: .int .i64 S.log :: S.vols.flatMap Vl.vs
def Sp.v (S : Sp) : Value := .agg S.vs.toArray
def Sp.zero : Sp := ⟨0, 0, 0, List.replicate 8 Vl.zero, rfl⟩
def Sp.setV (S : Sp) (k : Nat) (v : Vl) : Sp := ⟨S.gen, S.sectors, S.log, S.vols.set k v, by rw [List.length_set]; exact S.len⟩
/-- The k-th subvolume; kept shut. -/
def Sp.at_ (S : Sp) (k : Nat) : Vl := S.vols.getD k Vl.zero
theorem Sp.ext' {a b : Sp} (h1 : a.gen = b.gen) (h2 : a.sectors = b.sectors) (h3 : a.log = b.log) (h4 : a.vols = b.vols) : a = b := by
  cases a; cases b; simp_all
theorem Sp.get (S : Sp) {k : Nat} (hk : k < 8) : S.vols[k]? = some (S.at_ k) := by
  have := S.len
  simp [Sp.at_, List.getD, show k < S.vols.length by omega]
theorem vs_len (v : Vl) : v.vs.length = 4 := rfl
theorem fm_len (l : List Vl) : (l.flatMap Vl.vs).length = 4 * l.length := by
  induction l with
  | nil => rfl
  | cons v l ih => rw [List.flatMap_cons, List.length_append, ih, vs_len, List.length_cons]; omega
theorem Sp.vs_len (S : Sp) : S.vs.length = 35 := by unfold Sp.vs; simp only [List.length_cons, fm_len, S.len]
theorem fm_get : ∀ (l : List Vl) (k : Nat) (v : Vl), l[k]? = some v → ∀ (j : Nat) x, v.vs[j]? = some x → (l.flatMap Vl.vs)[4 * k + j]? = some x
  | [], k, v, h, _, _, _ => by simp at h
  | u :: l, 0, v, h, j, x, hx => by
    obtain rfl : u = v := by simpa using h
    rw [List.flatMap_cons, Nat.mul_zero, Nat.zero_add, List.getElem?_append_left (List.getElem?_eq_some_iff.1 hx).1]
    exact hx
  | u :: l, k + 1, v, h, j, x, hx => by
    rw [List.flatMap_cons, List.getElem?_append_right (by rw [Go.Proofs.YtgedmodnkiijkaaGreatDoor.vs_len]; omega), Go.Proofs.YtgedmodnkiijkaaGreatDoor.vs_len, show 4 * (k + 1) + j - 4 = 4 * k + j by omega]
    exact fm_get l k v (by simpa using h) j x hx
theorem Sp.cell (S : Sp) {k : Nat} (hk : k < 8) {j : Nat} {x : Value} (hx : (S.at_ k).vs[j]? = some x) : S.vs[3 + 4 * k + j]? = some x := by
  unfold Sp.vs
  rw [show 3 + 4 * k + j = (4 * k + j) + 1 + 1 + 1 by omega]
  simp only [List.getElem?_cons_succ]
  exact fm_get _ k _ (S.get hk) j x hx
theorem fm_set : ∀ (l : List Vl) (k : Nat) (v : Vl), k < l.length → (l.set k v).flatMap Vl.vs = splice (l.flatMap Vl.vs) (4 * k) v.vs
  | [], k, v, h => by simp at h
  | u :: l, 0, v, h => by
    unfold splice
    rw [List.set_cons_zero, List.flatMap_cons, List.flatMap_cons, Nat.mul_zero, List.take_zero, List.nil_append, Nat.zero_add, List.drop_left' (by rfl)]
  | u :: l, k + 1, v, h => by
    rw [List.set_cons_succ, List.flatMap_cons, List.flatMap_cons, fm_set l k v (by simpa using h)]
    unfold splice
    rw [show 4 * (k + 1) = u.vs.length + 4 * k by rw [Go.Proofs.YtgedmodnkiijkaaGreatDoor.vs_len]; omega, List.take_length_add_append, Nat.add_assoc, List.drop_length_add_append, List.append_assoc]
theorem Sp.vs_set (S : Sp) {k : Nat} (hk : k < 8) (v : Vl) : (S.setV k v).vs = splice S.vs (3 + 4 * k) v.vs := by
  have h := fm_set S.vols k v (by rw [S.len]; exact hk)
  unfold Sp.vs Sp.setV
  dsimp only
  rw [h]
  unfold splice
  rw [show 3 + 4 * k = 4 * k + 1 + 1 + 1 by omega, show 4 * k + 1 + 1 + 1 + v.vs.length = (4 * k + v.vs.length) + 1 + 1 + 1 by omega]
  simp only [List.take_succ_cons, List.drop_succ_cons, List.cons_append]
theorem Sp.one (S : Sp) : ∀ x ∈ S.vs, x.oneCell' = true := by
  intro x hx
  unfold Sp.vs at hx
  simp only [List.mem_cons, List.mem_flatMap, Vl.vs, List.not_mem_nil, or_false] at hx
  rcases hx with rfl | rfl | rfl | ⟨v, _, rfl | rfl | rfl | rfl⟩ <;> rfl

/-- The block that holds a superblock; a subvolume. -/
def SB (w : World) (b : Nat) (S : Sp) : Prop := ∃ t, w.heap[b]? = some (.cells S.vs.toArray t (0, 0))
def VB (w : World) (b : Nat) (v : Vl) : Prop := ∃ t, w.heap[b]? = some (.cells v.vs.toArray t (0, 0))
section
variable {w w' : World} {b : Nat} {S : Sp} {v : Vl}
theorem SB.new (w : World) (S : Sp) (t : TypeId) : SB (w.alloc (.cells S.vs.toArray t)) w.heap.size S := ⟨t, heap_alloc_new w _⟩
theorem VB.new (w : World) (v : Vl) (t : TypeId) : VB (w.alloc (.cells v.vs.toArray t)) w.heap.size v := ⟨t, heap_alloc_new w _⟩
theorem SB.lt (H : SB w b S) : b < w.heap.size := by
  obtain ⟨t, H⟩ := H
  exact (Array.getElem?_eq_some_iff.1 H).1
theorem VB.lt (H : VB w b v) : b < w.heap.size := by
  obtain ⟨t, H⟩ := H
  exact (Array.getElem?_eq_some_iff.1 H).1
theorem SB.block (H : SB w b S) (h : w'.heap[b]? = w.heap[b]?) : SB w' b S := by
  obtain ⟨t, H⟩ := H
  exact ⟨t, h.trans H⟩
theorem VB.block (H : VB w b v) (h : w'.heap[b]? = w.heap[b]?) : VB w' b v := by
  obtain ⟨t, H⟩ := H
  exact ⟨t, h.trans H⟩
theorem SB.below (H : SB w b S) {B : Nat} (hb : Below B w w') (hB : b < B) : SB w' b S := H.block (hb.block b hB)
theorem VB.below (H : VB w b v) {B : Nat} (hb : Below B w w') (hB : b < B) : VB w' b v := H.block (hb.block b hB)
theorem SB.range (H : SB w b S) : w.rangeAt b 0 S.vs := fun j x hx => by
  obtain ⟨t, H⟩ := H
  rw [cell_of_row _ _ _ _ _ _ H, Nat.zero_add]
  simpa using hx
theorem VB.range (H : VB w b v) : w.rangeAt b 0 v.vs := fun j x hx => by
  obtain ⟨t, H⟩ := H
  rw [cell_of_row _ _ _ _ _ _ H, Nat.zero_add]
  simpa using hx
theorem SB.c0 (H : SB w b S) : w.cell? ⟨b, 0, none⟩ = some (.int .i64 S.gen) := H.range 0 _ rfl
theorem SB.c1 (H : SB w b S) : w.cell? ⟨b, 1, none⟩ = some (.int .i64 S.sectors) := H.range 1 _ rfl
theorem SB.c2 (H : SB w b S) : w.cell? ⟨b, 2, none⟩ = some (.int .i64 S.log) := H.range 2 _ rfl
theorem VB.c0 (H : VB w b v) : w.cell? ⟨b, 0, none⟩ = some (.string v.name) := H.range 0 _ rfl
theorem VB.c1 (H : VB w b v) : w.cell? ⟨b, 1, none⟩ = some (.bool v.ro) := H.range 1 _ rfl
theorem VB.c2 (H : VB w b v) : w.cell? ⟨b, 2, none⟩ = some (.int .i64 v.root) := H.range 2 _ rfl
theorem VB.c3 (H : VB w b v) : w.cell? ⟨b, 3, none⟩ = some (.int .i64 v.next) := H.range 3 _ rfl
/-- Of a superblock's block: the k-th subvolume's cells, all eight. -/
theorem SB.vol (H : SB w b S) {k : Nat} (hk : k < 8) : w.rangeAt b (3 + 4 * k) (S.at_ k).vs := fun j x hx => by
  have := H.range (3 + 4 * k + j) x (S.cell hk hx)
  rwa [Nat.zero_add] at this
theorem SB.vols (H : SB w b S) : w.rangeAt b 3 (S.vols.flatMap Vl.vs) := fun j x hx => by
  have := H.range (3 + j) x (by unfold Sp.vs; rw [show 3 + j = j + 1 + 1 + 1 by omega]; exact hx)
  rwa [Nat.zero_add] at this
theorem SB.sls (H : SB w b S) : Sls w 4 (some ⟨b, 3, none⟩) 8 8 (S.vols.map Vl.vs) := by
  refine ⟨by rw [List.length_map, S.len], Nat.le_refl _, by unfold maxLen; omega, fun j x hx => ?_⟩
  have hj : j < 8 := by have := (List.getElem?_eq_some_iff.1 hx).1; rw [List.length_map, S.len] at this; exact this
  rw [List.getElem?_map, S.get hj] at hx
  obtain rfl : (S.at_ j).vs = x := by simpa using hx
  refine ⟨b, 3, rfl, H.lt, rfl, ?_⟩
  have := H.vol hj
  rwa [Nat.mul_comm] at this
theorem SB.there (H : SB w b S) : w.there b 0 35 := fun j hj => by
  obtain ⟨t, H⟩ := H
  refine ⟨?_, by unfold World.frozen?; rw [H]; simp⟩
  rw [cell_of_row _ _ _ _ _ _ H, Nat.zero_add, Array.getElem?_eq_getElem (by rw [List.size_toArray, S.vs_len]; exact hj)]; rfl
theorem VB.there (H : VB w b v) : w.there b 0 4 := fun j hj => by
  obtain ⟨t, H⟩ := H
  refine ⟨?_, by unfold World.frozen?; rw [H]; simp⟩
  rw [cell_of_row _ _ _ _ _ _ H, Nat.zero_add, Array.getElem?_eq_getElem (by simpa [Vl.vs] using hj)]; rfl
theorem SB.fz (H : SB w b S) (j : Nat) : w.frozen? ⟨b, j, none⟩ = false := by
  obtain ⟨t, H⟩ := H
  unfold World.frozen?
  rw [H]
  simp
theorem VB.fz (H : VB w b v) (j : Nat) : w.frozen? ⟨b, j, none⟩ = false := by
  obtain ⟨t, H⟩ := H
  unfold World.frozen?
  rw [H]
  simp
end

/-! ### This program's types -/
theorem load_sp {w : World} {b : Nat} {S : Sp} (H : SB w b S) : (loadVar 87 ⟨b, 0, none⟩).run Tryz.prog w = .ok S.v w :=
  run_loadVar_mid w b 0 87 S.vs _ H.range Tryz.underlying87 rfl (by rw [S.vs_len]; kernel_rfl)
theorem load_vl {w : World} {b : Nat} {v : Vl} (H : VB w b v) : (loadVar 84 ⟨b, 0, none⟩).run Tryz.prog w = .ok v.v w :=
  run_loadVar_mid w b 0 84 v.vs _ H.range Tryz.underlying84 rfl (by kernel_rfl)
end Go.Proofs.YtgedmodnkiijkaaGreatDoor

namespace Go.Proofs.YtgedmodnkiijkaaGreatDoor
open Go Go.RowKit Go.Proofs

section
variable {w : World} {b : Nat} {S : Sp} {v : Vl}
theorem la_sp (H : SB w b S) : (Instr.loadAt 87 (.pointer (some ⟨b, 0, none⟩))).run Tryz.prog w = .ok (.agg S.vs.toArray) w :=
  run_loadAt_mid w b 0 87 S.vs _ H.range Tryz.underlying87 rfl (by rw [S.vs_len]; kernel_rfl)
theorem la_va (H : SB w b S) : (Instr.loadAt 85 (.pointer (some ⟨b, 3, none⟩))).run Tryz.prog w = .ok (.agg (S.vols.flatMap Vl.vs).toArray) w :=
  run_loadAt_mid w b 3 85 (S.vols.flatMap Vl.vs) _ H.vols Tryz.underlying85 rfl (by rw [fm_len, S.len]; kernel_rfl)
theorem eight_of {α : Type} : ∀ {l : List α}, l.length = 8 → ∃ a b c d e f g h, l = [a, b, c, d, e, f, g, h]
  | [a, b, c, d, e, f, g, h], _ => ⟨a, b, c, d, e, f, g, h, rfl⟩
theorem ix_vl (S : Sp) {k : Nat} (hk : k < 8) (w : World) : (Instr.index 85 (.agg (S.vols.flatMap Vl.vs).toArray) (.int .i64 (k : Int))).run Tryz.prog w = .ok (.agg #[.string (S.at_ k).name, .bool (S.at_ k).ro, .int .i64 (S.at_ k).root, .int .i64 (S.at_ k).next]) w := by
  unfold Sp.at_
  obtain ⟨a, b, c, d, e, f, g, h, hl⟩ := eight_of S.len
  rw [hl]
  match k, hk with
  | 0, _ => show (Instr.index 85 _ (.int .i64 0)).run Tryz.prog w = _; kernel_rfl
  | 1, _ => show (Instr.index 85 _ (.int .i64 1)).run Tryz.prog w = _; kernel_rfl
  | 2, _ => show (Instr.index 85 _ (.int .i64 2)).run Tryz.prog w = _; kernel_rfl
  | 3, _ => show (Instr.index 85 _ (.int .i64 3)).run Tryz.prog w = _; kernel_rfl
  | 4, _ => show (Instr.index 85 _ (.int .i64 4)).run Tryz.prog w = _; kernel_rfl
  | 5, _ => show (Instr.index 85 _ (.int .i64 5)).run Tryz.prog w = _; kernel_rfl
  | 6, _ => show (Instr.index 85 _ (.int .i64 6)).run Tryz.prog w = _; kernel_rfl
  | 7, _ => show (Instr.index 85 _ (.int .i64 7)).run Tryz.prog w = _; kernel_rfl
end

theorem splice_cons {α : Type} (L : List α) (o : Nat) (v : α) (r : List α) (h : o < L.length) : splice (L.set o v) (o + 1) r = splice L o (v :: r) := by
  unfold splice
  have e1 : (L.set o v).take (o + 1) = L.take o ++ [v] := by
    rw [List.take_succ_eq_append_getElem (by simpa using h), List.take_set_of_le (Nat.le_refl _), List.getElem_set_self]
  have e2 : (L.set o v).drop (o + 1 + r.length) = L.drop (o + (v :: r).length) := by
    rw [List.drop_set_of_lt (by omega), List.length_cons]
    congr 1
    omega
  rw [e1, e2, List.append_assoc]
  rfl
theorem heap_setCells_row (b : Nat) (t : TypeId) : ∀ (vs : List Value) (o : Nat) (w : World) (L : List Value), w.heap[b]? = some (.cells L.toArray t (0, 0)) → o + vs.length ≤ L.length →
    (w.setCells b o vs).heap[b]? = some (.cells (splice L o vs).toArray t (0, 0))
  | [], o, w, L, H, _ => by
    unfold splice
    simpa [World.setCells] using H
  | v :: r, o, w, L, H, hl => by
    have hl' : o + (r.length + 1) ≤ L.length := by simpa using hl
    have h1 := heap_setCell_same w b o L.toArray t v H
    rw [show L.toArray.setIfInBounds o v = (L.set o v).toArray by simp] at h1
    have h2 := heap_setCells_row b t r (o + 1) (w.setCell ⟨b, o, none⟩ v) (L.set o v) h1 (by rw [List.length_set]; omega)
    rw [splice_cons L o v r (by omega)] at h2
    exact h2
theorem splice_over {α : Type} (L C : List α) (h : L.length = C.length) : splice L 0 C = C := by
  unfold splice
  rw [List.take_zero, List.nil_append, List.drop_of_length_le (by omega), List.append_nil]

/-- The whole superblock is stored. -/
theorem wp_store_sp {ops : Array Oper} {rest : List Oper} {o : Oper} {a : Act} {w : World} {Q : Exit → Act → World → Prop} (hg : o.guard = none) (x y : Operand) (hop : o.op = Op.store 87 x y)
    (b : Nat) (hx : a.eval x = .pointer (some ⟨b, 0, none⟩)) (S S0 : Sp) (hy : a.eval y = .agg S.vs.toArray) (H : SB w b S0)
    (hK : ∀ w', SB w' b S → (∀ B, B ≤ b → Below B w w') → Turn (fun k => k = b) w w' → wpList Tryz.prog ops Q rest (a.put o.dst undef) w') : wpList Tryz.prog ops Q (o :: rest) a w := by
  have ht : w.there b 0 S.vs.toArray.size := by rw [List.size_toArray, S.vs_len]; exact H.there
  refine wpList_store_mid hg _ x y hop b 0 S.vs.toArray hx hy ht (by rw [List.size_toArray, S.vs_len]; kernel_rfl) (all_oneCell_toArray S.one) ?_
  have T := turn_setCells (S := fun k => k = b) rfl S.vs 0 w
  refine hK _ ?_ (fun B hB => T.below (fun x hx => by omega) (by have := H.lt; omega)) T
  obtain ⟨t, H⟩ := H
  have e := heap_setCells_row b t S.vs 0 w S0.vs H (by rw [S.vs_len, S0.vs_len]; omega)
  rw [splice_over _ _ (by rw [S.vs_len, S0.vs_len])] at e
  exact ⟨t, e⟩
/-- The k-th subvolume is stored. -/
theorem wp_store_vk {ops : Array Oper} {rest : List Oper} {o : Oper} {a : Act} {w : World} {Q : Exit → Act → World → Prop} (hg : o.guard = none) (x y : Operand) (hop : o.op = Op.store 84 x y)
    (b k : Nat) (hk : k < 8) (hx : a.eval x = .pointer (some ⟨b, 3 + 4 * k, none⟩)) (v : Vl) (S : Sp) (hy : a.eval y = v.v) (H : SB w b S)
    (hK : ∀ w', SB w' b (S.setV k v) → (∀ B, B ≤ b → Below B w w') → Turn (fun k => k = b) w w' → wpList Tryz.prog ops Q rest (a.put o.dst undef) w') : wpList Tryz.prog ops Q (o :: rest) a w := by
  have ht : w.there b (3 + 4 * k) v.vs.toArray.size := fun j hj => by
    have := H.there (3 + 4 * k + j) (by have : j < 4 := hj; omega)
    rwa [Nat.zero_add] at this
  refine wpList_store_mid hg _ x y hop b (3 + 4 * k) v.vs.toArray hx hy ht (by kernel_rfl) (all_oneCell_toArray (by simp [Vl.vs, Value.oneCell'])) ?_
  have T := turn_setCells (S := fun k => k = b) rfl v.vs (3 + 4 * k) w
  refine hK _ ?_ (fun B hB => T.below (fun x hx => by omega) (by have := H.lt; omega)) T
  obtain ⟨t, H⟩ := H
  have e := heap_setCells_row b t v.vs (3 + 4 * k) w S.vs H (by rw [S.vs_len, vs_len]; omega)
  rw [← S.vs_set hk] at e
  exact ⟨t, e⟩
/-- A whole subvolume is stored. -/
theorem wp_store_vl {ops : Array Oper} {rest : List Oper} {o : Oper} {a : Act} {w : World} {Q : Exit → Act → World → Prop} (hg : o.guard = none) (x y : Operand) (hop : o.op = Op.store 84 x y)
    (b : Nat) (hx : a.eval x = .pointer (some ⟨b, 0, none⟩)) (v v0 : Vl) (hy : a.eval y = v.v) (H : VB w b v0)
    (hK : ∀ w', VB w' b v → (∀ B, B ≤ b → Below B w w') → Turn (fun k => k = b) w w' → wpList Tryz.prog ops Q rest (a.put o.dst undef) w') : wpList Tryz.prog ops Q (o :: rest) a w := by
  refine wpList_store_mid hg _ x y hop b 0 v.vs.toArray hx hy H.there (by kernel_rfl) (all_oneCell_toArray (by simp [Vl.vs, Value.oneCell'])) ?_
  have T := turn_setCells (S := fun k => k = b) rfl v.vs 0 w
  refine hK _ ?_ (fun B hB => T.below (fun x hx => by omega) (by have := H.lt; omega)) T
  obtain ⟨t, H⟩ := H
  have e := heap_setCells_row b t v.vs 0 w v0.vs H (by rw [vs_len, vs_len]; omega)
  rw [splice_over v0.vs v.vs rfl] at e
  exact ⟨t, e⟩

theorem wp_load_va {ops : Array Oper} {rest : List Oper} {o : Oper} {a : Act} {w : World} {Q : Exit → Act → World → Prop} (hg : o.guard = none) (x : Operand) (hop : o.op = Op.load 85 x)
    (b : Nat) (hx : a.eval x = .pointer (some ⟨b, 3, none⟩)) (S : Sp) (H : SB w b S) (hK : wpList Tryz.prog ops Q rest (a.put o.dst (.agg (S.vols.flatMap Vl.vs).toArray)) w) : wpList Tryz.prog ops Q (o :: rest) a w :=
  wpList_load_mid hg _ x hop b 3 hx (S.vols.flatMap Vl.vs) _ H.vols Tryz.underlying85 rfl (by rw [fm_len, S.len]; kernel_rfl) hK
/-! ### Comparisons -/
theorem eqlIn_vl (d : Nat) (a b : Vl) (w : World) : (Op.equalIn (d + 2) 84 a.v b.v).run Tryz.prog w = .ok (a.same b) w := by
  unfold Vl.v
  rw [run_equalIn_agg w (d + 1) 84 _ _ (by kernel_rfl) (by kernel_rfl)]
  unfold Program.fieldsOf
  rw [Tryz.underlying84]
  simp [go_sem, Tryz.underlying3, Tryz.underlying9, Tryz.underlying4]
  unfold Vl.same
  by_cases h1 : a.name.toList = b.name.toList
  · by_cases h2 : a.ro = b.ro
    · by_cases h3 : a.root = b.root
      · by_cases h4 : a.next = b.next
        · simp [h1, h2, h3, h4]
        · simp [h1, h2, h3, h4]
      · simp [h1, h2, h3]
    · simp [h1, h2]
  · simp [h1]
theorem neq_vl (a b : Vl) (r : Bool) (h : a.same b = r) (w : World) : (binOp .neq 84 (.agg #[.string a.name, .bool a.ro, .int .i64 a.root, .int .i64 a.next]) (.agg #[.string b.name, .bool b.ro, .int .i64 b.root, .int .i64 b.next])).run Tryz.prog w = .ok (.bool (!r)) w := by
  rw [run_neq_struct]
  have := eqlIn_vl 9998 a b w
  unfold Vl.v at this
  rw [this, h]
  rfl
/-- Two sectors, as arrays of bytes. -/
theorem part_bytes (l : List UInt8) (k : Nat) (hk : k < l.length) (w : World) : (Go.part 5 (l.map bv).toArray (k * 1)).run Tryz.prog w = .ok (bv (l.getD k 0)) w := by
  refine run_part_plain w (by kernel_rfl) ?_
  rw [Nat.mul_one]
  simp [List.getD, hk]
theorem eqItems_bytes (d : Nat) (l m : List UInt8) (w : World) : ∀ is : List Nat, (∀ i ∈ is, i < l.length ∧ i < m.length) → (Op.eqItems (d + 1) 5 1 (l.map bv).toArray (m.map bv).toArray is).run Tryz.prog w = .ok (is.all fun i => l.getD i 0 == m.getD i 0) w
  | [], _ => rfl
  | i :: is, h => by
    obtain ⟨h1, h2⟩ := h i (List.mem_cons_self ..)
    have ih := eqItems_bytes d l m w is fun j hj => h j (List.mem_cons_of_mem _ hj)
    have e : (Op.equalIn (d + 1) 5 (bv (l.getD i 0)) (bv (m.getD i 0))).run Tryz.prog w = .ok (l.getD i 0 == m.getD i 0) w := by
      unfold bv
      rw [run_equalIn_int w d 5 .u8 .u8 _ _ Tryz.underlying5]
      congr 1
      rw [Bool.eq_iff_iff, beq_iff_eq, beq_iff_eq]
      exact ⟨fun h => UInt8.toNat_inj.1 (by omega), fun h => by rw [h]⟩
    simp only [Op.eqItems, Sem.run_bind, part_bytes l i h1 w, part_bytes m i h2 w, e, Result.andThen_ok, List.all_cons]
    cases l.getD i 0 == m.getD i 0
    · simp
    · simpa using ih
theorem all_eq (l m : List UInt8) (n : Nat) (h1 : l.length = n) (h2 : m.length = n) : ((List.range n).all fun i => l.getD i 0 == m.getD i 0) = decide (l = m) := by
  rw [Bool.eq_iff_iff, List.all_eq_true, decide_eq_true_eq]
  constructor
  · intro h
    refine List.ext_getElem (by omega) fun i hi hj => ?_
    have := h i (List.mem_range.2 (by omega))
    simpa [List.getD, hi, hj] using this
  · rintro rfl i _
    simp
theorem neq_bytes (l m : List UInt8) (h1 : l.length = 256) (h2 : m.length = 256) (r : Bool) (hr : decide (l = m) = r) (w : World) : (binOp .neq 105 (.agg (l.map bv).toArray) (.agg (m.map bv).toArray)).run Tryz.prog w = .ok (.bool (!r)) w := by
  have hi : ∃ i, Tryz.prog.info? 5 = some i ∧ Tryz.prog.cellsOf 5 = 1 := (Option.isSome_iff_exists.1 (show (Tryz.prog.info? 5).isSome = true by kernel_rfl)).elim fun i hi => ⟨i, hi, by kernel_rfl⟩
  obtain ⟨i, hi, hc⟩ := hi
  rw [run_neq_struct, run_equalIn_array w 9999 _ _ Tryz.underlying105 hi, hc, eqItems_bytes 9998 l m w _ (fun i hi => by have := List.mem_range.1 hi; omega), all_eq l m 256 h1 h2, hr]
  rfl

/-! ### within, digit, Label -/
theorem swithin_any (x a b : Int) (r : Bool) (h : decide (a ≤ x ∧ x ≤ b) = r) (w : World) :
    Calls Tryz.prog 58 #[.int .i64 x, .int .i64 a, .int .i64 b] w fun e w' => e = .returned (.bool r) ∧ w = w' := by
  subst h
  go_enter Tryz.func58, Tryz.ntmps58
  go_wp2
  all_goals
    go_ret
    refine ⟨congrArg (fun x => Ending.returned (Value.bool x)) ?_, rfl⟩
    first
      | exact (decide_eq_false (by omega)).symm
      | exact decide_eq_decide.2 (by omega)
      | (rw [Bool.eq_iff_iff]; simp; omega)
def dgt (b : Bool) : Int := if b = true then 1 else 0
theorem sdigit_any (b : Bool) (w : World) :
    Calls Tryz.prog 155 #[.bool b] w fun e w' => e = .returned (.int .i64 (dgt b)) ∧ w = w' := by
  cases b
  all_goals
    go_enter Tryz.func155, Tryz.ntmps155
    go_wp2
    go_ret
    exact ⟨rfl, rfl⟩

/-- Whether a byte may stand in a label. -/
def labC (c : Nat) : Bool := decide ((97 ≤ c ∧ c ≤ 122) ∨ (48 ≤ c ∧ c ≤ 57) ∨ c = 45)
def labA (s : ByteArray) : Bool := (List.range s.size).all fun j => labC (byt s.data.toList j)
/-- Whether a text is a label. -/
def labL (s : ByteArray) : Bool := labA s && decide (1 ≤ s.size ∧ s.size ≤ 10)
theorem lab_no {s : ByteArray} {j : Nat} (hj : j < s.size) (h : labC (byt s.data.toList j) = false) : labL s = false := by
  have : labA s = false := by
    unfold labA
    rw [List.all_eq_false]
    exact ⟨j, List.mem_range.2 hj, by rw [h]; simp⟩
  unfold labL
  rw [this, Bool.false_and]
theorem lab_yes {s : ByteArray} (h : ∀ j, j < s.size → labC (byt s.data.toList j) = true) : labL s = decide (1 ≤ s.size ∧ s.size ≤ 10) := by
  have : labA s = true := by
    unfold labA
    rw [List.all_eq_true]
    exact fun j hj => h j (List.mem_range.1 hj)
  unfold labL
  rw [this, Bool.true_and]
theorem run_ixs (s : ByteArray) (k : Nat) (hk : k < s.size) (w : World) : (Instr.index 9 (.string s) (.int .i64 (k : Int))).run Tryz.prog w = .ok (.int .u8 (byt s.data.toList k : Int)) w := by
  rw [run_index_string w 9 s .i64 _ Tryz.underlying9, dif_pos (by omega)]
  congr 3
  unfold byt
  rw [List.getD_eq_getElem?_getD, List.getElem?_eq_getElem (by simpa using hk)]
  simp [ByteArray.getElem_eq_getElem_data]
set_option maxRecDepth 10000 in
set_option maxHeartbeats 2000000 in
theorem slabel_any (s : ByteArray) (r : Bool) (hr : labL s = r) (w : World) (hm : s.size ≤ maxLen) :
    Calls Tryz.prog 102 #[.string s] w fun e w' => e = .returned (.bool r) ∧ w = w' := by
  subst hr
  unfold maxLen at hm
  go_enter Tryz.func102, Tryz.ntmps102
  go_wp2_with fail
  go_loop [7] (fun i => ∃ k : Nat, k ≤ s.size ∧ i = .int .i64 (k : Int) ∧ ∀ j < k, labC (byt s.data.toList j) = true) (fun i => s.size - (intOf i).toNat)
  case atStart => exact ⟨0, Nat.zero_le _, rfl, fun j hj => by omega⟩
  case round =>
    obtain ⟨k, hk, rfl, hin⟩ := hrel
    by_cases hlt : k < s.size
    · have hix := run_ixs s k hlt
      have hno := fun h => lab_no (s := s) (j := k) hlt h
      obtain ⟨c, hc⟩ : ∃ c, byt s.data.toList k = c := ⟨_, rfl⟩
      have hle := byt_le s.data.toList k
      rw [hc] at hix hno hle
      have Hno := Lib.hid hno
      have next : labC c = true → ∀ j < k + 1, labC (byt s.data.toList j) = true := fun h j hj => by
        by_cases hjk : j = k
        · rw [hjk, hc]; exact h
        · exact hin j (by omega)
      have Next := Lib.hid next
      have hk0 : (0 : Int) ≤ (k : Int) := by omega
      clear hno next hin hc
      rcases (by omega : (97 ≤ c ∧ c ≤ 122) ∨ 122 < c ∨ (57 < c ∧ c < 97) ∨ (48 ≤ c ∧ c ≤ 57) ∨ (c < 48 ∧ c ≠ 45) ∨ c = 45) with h | h | h | h | h | h
      · have d0 : decide ((c : Int) < 97) = false := decide_eq_false (by omega)
        have d1 : decide (122 < (c : Int)) = false := decide_eq_false (by omega)
        have d2 : decide ((c : Int) < 48) = false := decide_eq_false (by omega)
        have d3 : decide (57 < (c : Int)) = true := decide_eq_true (by omega)
        go_wp2
        exact ⟨⟨k + 1, by omega, by go_num, Next.out (decide_eq_true (by omega))⟩, by simp [intOf]; omega⟩
      · have d0 : decide ((c : Int) < 97) = false := decide_eq_false (by omega)
        have d1 : decide (122 < (c : Int)) = true := decide_eq_true (by omega)
        have d2 : decide ((c : Int) < 48) = false := decide_eq_false (by omega)
        have d3 : decide (57 < (c : Int)) = true := decide_eq_true (by omega)
        have h45 : ¬ (c : Int) = 45 := by omega
        go_wp2
        go_ret
        exact ⟨by rw [Hno.out (decide_eq_false (by omega))]; rfl, rfl⟩
      · have d0 : decide ((c : Int) < 97) = true := decide_eq_true (by omega)
        have d1 : decide (122 < (c : Int)) = false := decide_eq_false (by omega)
        have d2 : decide ((c : Int) < 48) = false := decide_eq_false (by omega)
        have d3 : decide (57 < (c : Int)) = true := decide_eq_true (by omega)
        have h45 : ¬ (c : Int) = 45 := by omega
        go_wp2
        go_ret
        exact ⟨by rw [Hno.out (decide_eq_false (by omega))]; rfl, rfl⟩
      · have d0 : decide ((c : Int) < 97) = true := decide_eq_true (by omega)
        have d1 : decide (122 < (c : Int)) = false := decide_eq_false (by omega)
        have d2 : decide ((c : Int) < 48) = false := decide_eq_false (by omega)
        have d3 : decide (57 < (c : Int)) = false := decide_eq_false (by omega)
        go_wp2
        exact ⟨⟨k + 1, by omega, by go_num, Next.out (decide_eq_true (by omega))⟩, by simp [intOf]; omega⟩
      · have d0 : decide ((c : Int) < 97) = true := decide_eq_true (by omega)
        have d1 : decide (122 < (c : Int)) = false := decide_eq_false (by omega)
        have d2 : decide ((c : Int) < 48) = true := decide_eq_true (by omega)
        have d3 : decide (57 < (c : Int)) = false := decide_eq_false (by omega)
        have h45 : ¬ (c : Int) = 45 := by omega
        go_wp2
        go_ret
        exact ⟨by rw [Hno.out (decide_eq_false (by omega))]; rfl, rfl⟩
      · subst h
        go_wp2
        exact ⟨⟨k + 1, by omega, by go_num, Next.out (by decide)⟩, by simp [intOf]; omega⟩
    · have hks : k = s.size := by omega
      have hlab := Lib.hid (lab_yes (s := s) (by rw [← hks]; exact hin))
      clear hks hin
      go_wp2_with fail
      refine (swithin_any (s.size : Int) 1 10 _ rfl w).mono ?_
      rintro e w2 ⟨rfl, rfl⟩
      go_wp2
      go_ret
      exact ⟨by rw [hlab.out]; exact congrArg (fun x => Ending.returned (Value.bool x)) (by rw [Bool.eq_iff_iff]; simp; omega), rfl⟩
end Go.Proofs.YtgedmodnkiijkaaGreatDoor
