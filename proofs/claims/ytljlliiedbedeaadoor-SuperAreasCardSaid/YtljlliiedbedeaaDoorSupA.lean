/- A superblock as plain data: its cells, the blocks that hold one, or a subvolume; what a label is, whether one may be. -/
import Derived.Test.YtljlliiedbedeaaDoorSealJ
import Derived.Test.YtljlliiedbedeaaDoorRow
import Derived.DeepKeys
namespace Go.Proofs.YtljlliiedbedeaaDoor
open Go Go.RowKit Go.Proofs

/-- A subvolume; none. -/
structure Vl where
  name : ByteArray
  ro : Bool
  root : Int
  next : Int
def Vl.vs (v : Vl) : List Value := [.string v.name, .bool v.ro, .int .i64 v.root, .int .i64 v.next]
def Vl.v (v : Vl) : Value := .agg #[.string v.name, .bool v.ro, .int .i64 v.root, .int .i64 v.next]
def Vl.zero : Vl := ⟨⟨#[]⟩, false, 0, 0⟩
def Vl.same (a b : Vl) : Bool := a.name.toList == b.name.toList && a.ro == b.ro && a.root == b.root && a.next == b.next
theorem Vl.ext' {a b : Vl} (h1 : a.name = b.name) (h2 : a.ro = b.ro) (h3 : a.root = b.root) (h4 : a.next = b.next) : a = b := by
  cases a; cases b; simp_all
theorem Vl.same_iff (a b : Vl) : a.same b = true ↔ a = b := by
  unfold Vl.same
  rw [ByteArray.toList_eq, ByteArray.toList_eq]
  constructor
  · intro h
    simp only [Bool.and_eq_true, beq_iff_eq] at h
    obtain ⟨⟨⟨h1, h2⟩, h3⟩, h4⟩ := h
    refine Vl.ext' ?_ h2 h3 h4
    obtain ⟨⟨⟨x⟩⟩, _, _, _⟩ := a
    obtain ⟨⟨⟨y⟩⟩, _, _, _⟩ := b
    simpa using h1
  · rintro rfl
    simp
/-- A superblock; none. -/
structure Sp where
  gen : Int
  sectors : Int
  log : Int
  vols : List Vl
  len : vols.length = 8
def Sp.vs (S : Sp) : List Value := .int .i64 S.gen :: .int .i64 S.sectors :: .int .i64 S.log :: S.vols.flatMap Vl.vs
def Sp.v (S : Sp) : Value := .agg S.vs.toArray
def Sp.zero : Sp := ⟨0, 0, 0, List.replicate 8 Vl.zero, rfl⟩
def Sp.setV (S : Sp) (k : Nat) (v : Vl) : Sp := ⟨S.gen, S.sectors, S.log, S.vols.set k v, by rw [List.length_set]; exact S.len⟩
/-- The k-th subvolume; kept shut. -/
def Sp.at_ (S : Sp) (k : Nat) : Vl := S.vols.getD k Vl.zero
theorem Sp.ext' {a b : Sp} (h1 : a.gen = b.gen) (h2 : a.sectors = b.sectors) (h3 : a.log = b.log) (h4 : a.vols = b.vols) : a = b := by
  cases a; cases b; simp_all
theorem Sp.get (S : Sp) {k : Nat} (hk : k < 8) : S.vols[k]? = some (S.at_ k) := by
  have := S.len
  simp [Sp.at_, List.getD, show k < S.vols.length by omega]
theorem vs_len (v : Vl) : v.vs.length = 4 := rfl
theorem fm_len (l : List Vl) : (l.flatMap Vl.vs).length = 4 * l.length := by
  induction l with
  | nil => rfl
  | cons v l ih => rw [List.flatMap_cons, List.length_append, ih, vs_len, List.length_cons]; omega
theorem Sp.vs_len (S : Sp) : S.vs.length = 35 := by unfold Sp.vs; simp only [List.length_cons, fm_len, S.len]
theorem fm_get : ∀ (l : List Vl) (k : Nat) (v : Vl), l[k]? = some v → ∀ (j : Nat) x, v.vs[j]? = some x → (l.flatMap Vl.vs)[4 * k + j]? = some x
  | [], k, v, h, _, _, _ => by simp at h
  | u :: l, 0, v, h, j, x, hx => by
    obtain rfl : u = v := by simpa using h
    rw [List.flatMap_cons, Nat.mul_zero, Nat.zero_add, List.getElem?_append_left (List.getElem?_eq_some_iff.1 hx).1]
    exact hx
  | u :: l, k + 1, v, h, j, x, hx => by
    rw [List.flatMap_cons, List.getElem?_append_right (by rw [Go.Proofs.YtljlliiedbedeaaDoor.vs_len]; omega), Go.Proofs.YtljlliiedbedeaaDoor.vs_len, show 4 * (k + 1) + j - 4 = 4 * k + j by omega]
    exact fm_get l k v (by simpa using h) j x hx
theorem Sp.cell (S : Sp) {k : Nat} (hk : k < 8) {j : Nat} {x : Value} (hx : (S.at_ k).vs[j]? = some x) : S.vs[3 + 4 * k + j]? = some x := by
  unfold Sp.vs
  rw [show 3 + 4 * k + j = (4 * k + j) + 1 + 1 + 1 by omega]
  simp only [List.getElem?_cons_succ]
  exact fm_get _ k _ (S.get hk) j x hx
theorem fm_set : ∀ (l : List Vl) (k : Nat) (v : Vl), k < l.length → (l.set k v).flatMap Vl.vs = splice (l.flatMap Vl.vs) (4 * k) v.vs
  | [], k, v, h => by simp at h
  | u :: l, 0, v, h => by
    unfold splice
    rw [List.set_cons_zero, List.flatMap_cons, List.flatMap_cons, Nat.mul_zero, List.take_zero, List.nil_append, Nat.zero_add, List.drop_left' (by rfl)]
  | u :: l, k + 1, v, h => by
    rw [List.set_cons_succ, List.flatMap_cons, List.flatMap_cons, fm_set l k v (by simpa using h)]
    unfold splice
    rw [show 4 * (k + 1) = u.vs.length + 4 * k by rw [Go.Proofs.YtljlliiedbedeaaDoor.vs_len]; omega, List.take_length_add_append, Nat.add_assoc, List.drop_length_add_append, List.append_assoc]
theorem Sp.vs_set (S : Sp) {k : Nat} (hk : k < 8) (v : Vl) : (S.setV k v).vs = splice S.vs (3 + 4 * k) v.vs := by
  have h := fm_set S.vols k v (by rw [S.len]; exact hk)
  unfold Sp.vs Sp.setV
  dsimp only
  rw [h]
  unfold splice
  rw [show 3 + 4 * k = 4 * k + 1 + 1 + 1 by omega, show 4 * k + 1 + 1 + 1 + v.vs.length = (4 * k + v.vs.length) + 1 + 1 + 1 by omega]
  simp only [List.take_succ_cons, List.drop_succ_cons, List.cons_append]
theorem Sp.one (S : Sp) : ∀ x ∈ S.vs, x.oneCell' = true := by
  intro x hx
  unfold Sp.vs at hx
  simp only [List.mem_cons, List.mem_flatMap, Vl.vs, List.not_mem_nil, or_false] at hx
  rcases hx with rfl | rfl | rfl | ⟨v, _, rfl | rfl | rfl | rfl⟩ <;> rfl

/-- The block that holds a superblock; a subvolume. -/
def SB (w : World) (b : Nat) (S : Sp) : Prop := ∃ t, w.heap[b]? = some (.cells S.vs.toArray t (0, 0))
def VB (w : World) (b : Nat) (v : Vl) : Prop := ∃ t, w.heap[b]? = some (.cells v.vs.toArray t (0, 0))
section
variable {w w' : World} {b : Nat} {S : Sp} {v : Vl}
theorem SB.new (w : World) (S : Sp) (t : TypeId) : SB (w.alloc (.cells S.vs.toArray t)) w.heap.size S := ⟨t, heap_alloc_new w _⟩
theorem VB.new (w : World) (v : Vl) (t : TypeId) : VB (w.alloc (.cells v.vs.toArray t)) w.heap.size v := ⟨t, heap_alloc_new w _⟩
theorem SB.lt (H : SB w b S) : b < w.heap.size := by
  obtain ⟨t, H⟩ := H
  exact (Array.getElem?_eq_some_iff.1 H).1
theorem VB.lt (H : VB w b v) : b < w.heap.size := by
  obtain ⟨t, H⟩ := H
  exact (Array.getElem?_eq_some_iff.1 H).1
theorem SB.block (H : SB w b S) (h : w'.heap[b]? = w.heap[b]?) : SB w' b S := by
  obtain ⟨t, H⟩ := H
  exact ⟨t, h.trans H⟩
theorem VB.block (H : VB w b v) (h : w'.heap[b]? = w.heap[b]?) : VB w' b v := by
  obtain ⟨t, H⟩ := H
  exact ⟨t, h.trans H⟩
theorem SB.below (H : SB w b S) {B : Nat} (hb : Below B w w') (hB : b < B) : SB w' b S := H.block (hb.block b hB)
theorem VB.below (H : VB w b v) {B : Nat} (hb : Below B w w') (hB : b < B) : VB w' b v := H.block (hb.block b hB)
theorem SB.range (H : SB w b S) : w.rangeAt b 0 S.vs := fun j x hx => by
  obtain ⟨t, H⟩ := H
  rw [cell_of_row _ _ _ _ _ _ H, Nat.zero_add]
  simpa using hx
theorem VB.range (H : VB w b v) : w.rangeAt b 0 v.vs := fun j x hx => by
  obtain ⟨t, H⟩ := H
  rw [cell_of_row _ _ _ _ _ _ H, Nat.zero_add]
  simpa using hx
theorem SB.c0 (H : SB w b S) : w.cell? ⟨b, 0, none⟩ = some (.int .i64 S.gen) := H.range 0 _ rfl
theorem SB.c1 (H : SB w b S) : w.cell? ⟨b, 1, none⟩ = some (.int .i64 S.sectors) := H.range 1 _ rfl
theorem SB.c2 (H : SB w b S) : w.cell? ⟨b, 2, none⟩ = some (.int .i64 S.log) := H.range 2 _ rfl
theorem VB.c0 (H : VB w b v) : w.cell? ⟨b, 0, none⟩ = some (.string v.name) := H.range 0 _ rfl
theorem VB.c1 (H : VB w b v) : w.cell? ⟨b, 1, none⟩ = some (.bool v.ro) := H.range 1 _ rfl
theorem VB.c2 (H : VB w b v) : w.cell? ⟨b, 2, none⟩ = some (.int .i64 v.root) := H.range 2 _ rfl
theorem VB.c3 (H : VB w b v) : w.cell? ⟨b, 3, none⟩ = some (.int .i64 v.next) := H.range 3 _ rfl
/-- Of a superblock's block: the k-th subvolume's cells, all eight. -/
theorem SB.vol (H : SB w b S) {k : Nat} (hk : k < 8) : w.rangeAt b (3 + 4 * k) (S.at_ k).vs := fun j x hx => by
  have := H.range (3 + 4 * k + j) x (S.cell hk hx)
  rwa [Nat.zero_add] at this
theorem SB.vols (H : SB w b S) : w.rangeAt b 3 (S.vols.flatMap Vl.vs) := fun j x hx => by
  have := H.range (3 + j) x (by unfold Sp.vs; rw [show 3 + j = j + 1 + 1 + 1 by omega]; exact hx)
  rwa [Nat.zero_add] at this
theorem SB.sls (H : SB w b S) : Sls w 4 (some ⟨b, 3, none⟩) 8 8 (S.vols.map Vl.vs) := by
  refine ⟨by rw [List.length_map, S.len], Nat.le_refl _, by unfold maxLen; omega, fun j x hx => ?_⟩
  have hj : j < 8 := by have := (List.getElem?_eq_some_iff.1 hx).1; rw [List.length_map, S.len] at this; exact this
  rw [List.getElem?_map, S.get hj] at hx
  obtain rfl : (S.at_ j).vs = x := by simpa using hx
  refine ⟨b, 3, rfl, H.lt, rfl, ?_⟩
  have := H.vol hj
  rwa [Nat.mul_comm] at this
theorem SB.there (H : SB w b S) : w.there b 0 35 := fun j hj => by
  obtain ⟨t, H⟩ := H
  refine ⟨?_, by unfold World.frozen?; rw [H]; simp⟩
  rw [cell_of_row _ _ _ _ _ _ H, Nat.zero_add, Array.getElem?_eq_getElem (by rw [List.size_toArray, S.vs_len]; exact hj)]; rfl
theorem VB.there (H : VB w b v) : w.there b 0 4 := fun j hj => by
  obtain ⟨t, H⟩ := H
  refine ⟨?_, by unfold World.frozen?; rw [H]; simp⟩
  rw [cell_of_row _ _ _ _ _ _ H, Nat.zero_add, Array.getElem?_eq_getElem (by simpa [Vl.vs] using hj)]; rfl
theorem SB.fz (H : SB w b S) (j : Nat) : w.frozen? ⟨b, j, none⟩ = false := by
  obtain ⟨t, H⟩ := H
  unfold World.frozen?
  rw [H]
  simp
theorem VB.fz (H : VB w b v) (j : Nat) : w.frozen? ⟨b, j, none⟩ = false := by
  obtain ⟨t, H⟩ := H
  unfold World.frozen?
  rw [H]
  simp
end

/-! ### This program's types -/
theorem load_sp {w : World} {b : Nat} {S : Sp} (H : SB w b S) : (loadVar 26 ⟨b, 0, none⟩).run Tryd.prog w = .ok S.v w :=
  run_loadVar_mid w b 0 26 S.vs _ H.range Tryd.underlying26 rfl (by rw [S.vs_len]; kernel_rfl)
theorem load_vl {w : World} {b : Nat} {v : Vl} (H : VB w b v) : (loadVar 23 ⟨b, 0, none⟩).run Tryd.prog w = .ok v.v w :=
  run_loadVar_mid w b 0 23 v.vs _ H.range Tryd.underlying23 rfl (by kernel_rfl)
end Go.Proofs.YtljlliiedbedeaaDoor
