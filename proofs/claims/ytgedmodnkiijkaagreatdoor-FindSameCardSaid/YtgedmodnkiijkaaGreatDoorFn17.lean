/- Counts as plain data; the reference's counts as they lie; its Get, Ref, Unref, Fresh, First. The reference's counts: Ref, Unref, Fresh, First, Alloc, Free. The reference's counts: Alloc, Free. The reference's counts: Commit; noughts. The reference's counts: New. The reference's counts: Body. The reference's counts: Load. The code's counts as they lie within another struct (as CuA .. CuJ have them for a block of their own); Get, counted, free. The code's counts: Commit, Clone, New. The code's counts: New. The code's counts: Body. The code's counts: Alloc, Free. -/
import Derived.Test.YtgedmodnkiijkaaGreatDoorFn3
import Derived.Test.YtgedmodnkiijkaaGreatDoorFn4
import Derived.Deep.RegionHeld3
import Derived.BigQuiet
import Derived.Maps.AppendAt
import Derived.Laws.CopyOwn
namespace Go.Proofs.YtgedmodnkiijkaaGreatDoor
open Go Go.RowKit Go.Proofs

/-- A number as the model's value. -/
def cv (x : Int) : Value := .int .i64 x
theorem cv_one (l : List Int) : ∀ u ∈ l.map cv, u.oneCell' = true := by
  intro u hu
  obtain ⟨_, _, rfl⟩ := List.mem_map.1 hu
  rfl
/-- The k-th number; kept shut. -/
def nm (l : List Int) (k : Nat) : Int := l.getD k 0
theorem nm_set_same (l : List Int) (k : Nat) (x : Int) (h : k < l.length) : nm (l.set k x) k = x := by simp [nm, h]
theorem nm_set_other (l : List Int) (k j : Nat) (x : Int) (h : k ≠ j) : nm (l.set k x) j = nm l j := by simp [nm, h]
/-- Counts: those of now, and the committed ones. -/
structure Ct where
  now : List Int
  done : List Int
  same : done.length = now.length
def Ct.n (C : Ct) : Nat := C.now.length
/-- The first sector behind the areas. -/
def Ct.first (C : Ct) : Nat := 2 + 2 * areaN C.n
def Ct.get (C : Ct) (a : Int) : Int := if 0 ≤ a ∧ a < (C.n : Int) then nm C.now a.toNat else 0
def Ct.put (C : Ct) (k : Nat) (x : Int) : Ct := ⟨C.now.set k x, C.done, by rw [List.length_set]; exact C.same⟩
def Ct.fresh (C : Ct) (a : Int) : Bool := if C.get a = 0 then false else decide (nm C.done a.toNat = 0)
def Ct.isFree (C : Ct) (k : Nat) : Bool := decide (nm C.now k = 0 ∧ nm C.done k = 0)
def Ct.commit (C : Ct) : Ct := ⟨C.now, C.now, rfl⟩
/-- Its numbers are within their bounds; so many sectors may be. -/
def Ct.ok (C : Ct) : Prop := (32 ≤ C.n ∧ C.n ≤ 2048) ∧ ∀ k, k < C.n → 0 ≤ nm C.now k ∧ nm C.now k ≤ 65535
theorem Ct.get_bounds {C : Ct} (h : C.ok) (a : Int) : 0 ≤ C.get a ∧ C.get a ≤ 65535 := by
  unfold Ct.get
  split
  · exact h.2 _ (by omega)
  · omega
theorem Ct.get_in {C : Ct} {a : Int} (h : ¬ C.get a = 0) : 0 ≤ a ∧ a < (C.n : Int) ∧ C.get a = nm C.now a.toNat := by
  unfold Ct.get at h ⊢
  split at h
  · rename_i h2
    rw [if_pos h2]
    exact ⟨h2.1, h2.2, rfl⟩
  · exact absurd rfl h
theorem Ct.put_n (C : Ct) (k : Nat) (x : Int) : (C.put k x).n = C.n := List.length_set
theorem Ct.put_ok {C : Ct} (h : C.ok) (k : Nat) (x : Int) (h1 : 0 ≤ x) (h2 : x ≤ 65535) : (C.put k x).ok := by
  refine ⟨by rw [C.put_n]; exact h.1, fun j hj => ?_⟩
  rw [C.put_n] at hj
  show 0 ≤ nm (C.now.set k x) j ∧ nm (C.now.set k x) j ≤ 65535
  by_cases hk : k = j
  · subst hk
    rw [nm_set_same _ _ _ hj]
    exact ⟨h1, h2⟩
  · rw [nm_set_other _ _ _ _ hk]
    exact h.2 j hj
theorem Ct.commit_ok {C : Ct} (h : C.ok) : C.commit.ok := h

/-- A row of numbers at a block's head. -/
def NRow (w : World) (g n c : Nat) (l : List Int) : Prop := w.ownsRow 0 3 1 (.slice (some ⟨g, 0, none⟩) n c) n (l.map cv)
section
variable {w w' : World} {g n c : Nat} {l : List Int}
theorem NRow.len (h : NRow w g n c l) : l.length = n := by have := h.1; simpa using this
theorem NRow.cap (h : NRow w g n c l) : n ≤ c ∧ c ≤ maxLen := by
  rcases h.2 with ⟨hv, _⟩ | ⟨g', cap, cur, hv, _, _, h1, h2, _⟩
  · injection hv with e1; cases e1
  · injection hv with e1 e2 e3; omega
theorem NRow.lt (h : NRow w g n c l) : g < w.heap.size := by
  rcases h.2 with ⟨hv, _⟩ | ⟨g', cap, cur, hv, _, hg, _⟩
  · injection hv with e1; cases e1
  · injection hv with e1
    injection e1 with e1
    injection e1 with e1
    subst e1
    exact (Array.getElem?_eq_some_iff.1 hg).1
theorem NRow.keep (h : NRow w g n c l) (hk : w'.heap[g]? = w.heap[g]?) : NRow w' g n c l := owns_keep h fun q hq => by
  have : q = g := by
    have : (Value.slice (some ⟨g, 0, none⟩) n c).ownBlock = some g := rfl
    rw [this] at hq
    exact (Option.some.inj hq).symm
  rw [this]; exact hk
theorem NRow.at_ (h : NRow w g n c l) {j : Nat} (hj : j < n) : w.cell? ⟨g, j, none⟩ = some (.int .i64 (nm l j)) ∧ w.frozen? ⟨g, j, none⟩ = false := by
  have hl := h.len
  refine ⟨?_, World.ownsRow.frozenAt h j⟩
  rw [World.ownsRow.cellAt h j (by omega), List.getElem?_map, List.getElem?_eq_getElem (by omega)]
  unfold nm
  rw [List.getD_eq_getElem?_getD, List.getElem?_eq_getElem (by omega)]; rfl
theorem NRow.set_ (h : NRow w g n c l) (j : Nat) (x : Int) : NRow (w.setCell ⟨g, j, none⟩ (.int .i64 x)) g n c (l.set j x) := by
  unfold NRow
  rw [List.map_set]
  exact (World.ownsRow.stored h j (cv x)).1
end

/-- The reference's counts, as they lie in S. -/
def RC (w : World) (p : Nat) (S : Nat → Prop) (C : Ct) : Prop := ∃ (a ca b cb : Nat) (t : TypeId), w.heap[p]? = some (.cells #[.slice (some ⟨a, 0, none⟩) C.n ca, .slice (some ⟨b, 0, none⟩) C.n cb] t (0, 0)) ∧ NRow w a C.n ca C.now ∧ NRow w b C.n cb C.done ∧ (a ≠ b ∧ p ≠ a ∧ p ≠ b) ∧ (S p ∧ S a ∧ S b) ∧ C.ok
theorem RC.ok {w : World} {p : Nat} {S : Nat → Prop} {C : Ct} (h : RC w p S C) : C.ok := by
  obtain ⟨_, _, _, _, _, _, _, _, _, _, h⟩ := h
  exact h
theorem RC.lt {w : World} {p : Nat} {S : Nat → Prop} {C : Ct} (h : RC w p S C) : p < w.heap.size := by
  obtain ⟨_, _, _, _, _, h, _⟩ := h
  exact (Array.getElem?_eq_some_iff.1 h).1
theorem RC.keep {w w' : World} {p : Nat} {S : Nat → Prop} {C : Ct} (h : RC w p S C) (hk : ∀ k, k < w.heap.size → S k → w'.heap[k]? = w.heap[k]?) : RC w' p S C := by
  obtain ⟨a, ca, b, cb, t, h1, h2, h3, h4, h5, h6⟩ := h
  exact ⟨a, ca, b, cb, t, (hk p (Array.getElem?_eq_some_iff.1 h1).1 h5.1).trans h1, h2.keep (hk a h2.lt h5.2.1), h3.keep (hk b h3.lt h5.2.2), h4, h5, h6⟩
theorem RC.mono {w : World} {p : Nat} {S S' : Nat → Prop} {C : Ct} (h : RC w p S C) (hs : ∀ k, S k → S' k) : RC w p S' C := by
  obtain ⟨a, ca, b, cb, t, h1, h2, h3, h4, h5, h6⟩ := h
  exact ⟨a, ca, b, cb, t, h1, h2, h3, h4, ⟨hs _ h5.1, hs _ h5.2.1, hs _ h5.2.2⟩, h6⟩
theorem RC.below {w w' : World} {p : Nat} {S : Nat → Prop} {C : Ct} (h : RC w p S C) (hb : Below w.heap.size w w') : RC w' p S C := h.keep fun k hk _ => hb.block k hk

end Go.Proofs.YtgedmodnkiijkaaGreatDoor

namespace Go.Proofs.YtgedmodnkiijkaaGreatDoor
open Go Go.RowKit Go.Proofs

/-- What the counts' cells are. -/
theorem RC.open_ {w : World} {p : Nat} {S : Nat → Prop} {C : Ct} (H : RC w p S C) : ∃ g cg b cb : Nat, w.cell? ⟨p, 0, none⟩ = some (.slice (some ⟨g, 0, none⟩) C.n cg) ∧ w.cell? ⟨p, 1, none⟩ = some (.slice (some ⟨b, 0, none⟩) C.n cb) ∧
    (C.n ≤ cg ∧ cg ≤ 9223372036854775807) ∧ (C.n ≤ cb ∧ cb ≤ 9223372036854775807) ∧ (∀ k, k < C.n → w.cell? ⟨g, k, none⟩ = some (.int .i64 (nm C.now k)) ∧ w.frozen? ⟨g, k, none⟩ = false) ∧ (∀ k, k < C.n → w.cell? ⟨b, k, none⟩ = some (.int .i64 (nm C.done k))) ∧
    (∀ (k : Nat) (x : Int), k < C.n → 0 ≤ x → x ≤ 65535 → RC (w.setCell ⟨g, k, none⟩ (.int .i64 x)) p S (C.put k x) ∧ Turn S w (w.setCell ⟨g, k, none⟩ (.int .i64 x)) ∧ (w.setCell ⟨g, k, none⟩ (.int .i64 x)).cell? ⟨p, 0, none⟩ = some (.slice (some ⟨g, 0, none⟩) C.n cg) ∧ (w.setCell ⟨g, k, none⟩ (.int .i64 x)).cell? ⟨g, k, none⟩ = some (.int .i64 x)) := by
  obtain ⟨g, cg, b, cb, t, h1, h2, h3, h4, h5, h6⟩ := H
  have k1 := h2.cap
  have k2 := h3.cap
  unfold maxLen at k1 k2
  refine ⟨g, cg, b, cb, by rw [cell_of_row _ _ _ _ _ _ h1]; rfl, by rw [cell_of_row _ _ _ _ _ _ h1]; rfl, ⟨k1.1, by omega⟩, ⟨k2.1, by omega⟩, fun k hk => h2.at_ hk, fun k hk => (h3.at_ hk).1, fun k x hk hx0 hx1 => ?_⟩
  have e : ∀ j, j ≠ g → (w.setCell ⟨g, k, none⟩ (.int .i64 x)).heap[j]? = w.heap[j]? := fun j hj => Below.heap_setCell _ _ _ _ (by show j ≠ g; exact hj)
  have hp := (e p h4.2.1).trans h1
  have hI := h2.set_ k x
  refine ⟨⟨g, cg, b, cb, t, ?_, ?_, ?_, h4, h5, C.put_ok h6 k x hx0 hx1⟩, turn_setCell (a := ⟨g, k, none⟩) _ h5.2.1, by rw [cell_of_row _ _ _ _ _ _ hp]; rfl, ?_⟩
  · rw [C.put_n]; exact hp
  · rw [C.put_n]; exact hI
  · rw [C.put_n]; exact h3.keep (e b (Ne.symm h4.1))
  · have := (hI.at_ hk).1
    rw [nm_set_same _ _ _ (by rw [h2.len]; exact hk)] at this
    exact this

end Go.Proofs.YtgedmodnkiijkaaGreatDoor

namespace Go.Proofs.YtgedmodnkiijkaaGreatDoor
open Go Go.RowKit Go.Proofs

/-- Whether the sector j may be taken; the first one that may; how many there are below k. -/
def Ct.may (C : Ct) (j : Nat) : Bool := decide (C.first ≤ j) && C.isFree j
def Ct.pick (C : Ct) : Option Nat := (List.range C.n).find? C.may
def Ct.allocE (C : Ct) : Int := match C.pick with | some _ => 0 | none => 6
def Ct.allocV (C : Ct) : Int := match C.pick with | some k => (k : Int) | none => 0
def Ct.alloc (C : Ct) : Ct := match C.pick with | some k => C.put k 1 | none => C
def Ct.freeTo (C : Ct) (k : Nat) : Nat := (List.range k).countP C.may
def Ct.free (C : Ct) : Nat := C.freeTo C.n
theorem Ct.pick_some {C : Ct} {k : Nat} (hk : k < C.n) (h : C.may k = true) (hall : ∀ j, j < k → C.may j = false) : C.pick = some k := by
  unfold Ct.pick
  rw [List.find?_range_eq_some]
  exact ⟨h, List.mem_range.2 hk, fun j hj => by rw [hall j hj]; rfl⟩
theorem Ct.pick_none {C : Ct} (hall : ∀ j, j < C.n → C.may j = false) : C.pick = none := by
  unfold Ct.pick
  rw [List.find?_eq_none]
  intro j hj
  rw [hall j (List.mem_range.1 hj)]
  simp
theorem Ct.alloc_some {C : Ct} {k : Nat} (h : C.pick = some k) : C.allocE = 0 ∧ C.allocV = (k : Int) ∧ C.alloc = C.put k 1 := by
  unfold Ct.allocE Ct.allocV Ct.alloc
  rw [h]
  exact ⟨rfl, rfl, rfl⟩
theorem Ct.alloc_none {C : Ct} (h : C.pick = none) : C.allocE = 6 ∧ C.allocV = 0 ∧ C.alloc = C := by
  unfold Ct.allocE Ct.allocV Ct.alloc
  rw [h]
  exact ⟨rfl, rfl, rfl⟩
theorem Ct.freeTo_next (C : Ct) (k : Nat) : C.freeTo (k + 1) = C.freeTo k + (if C.may k = true then 1 else 0) := by
  unfold Ct.freeTo
  rw [List.range_succ, List.countP_append, List.countP_singleton]
end Go.Proofs.YtgedmodnkiijkaaGreatDoor

namespace Go.Proofs.YtgedmodnkiijkaaGreatDoor
open Go Go.RowKit Go.Proofs

/-- t is the type of slices of ints e. -/
structure NumT (P : Program) (t e : TypeId) : Prop where
  sl : P.underlying t = some (.slice e)
  info : (P.info? e).map (fun i => (i.zero, i.size, i.bytes)) = some (some (.int .i64 0), 1, 8)
theorem TN : NumT Tryz.prog 23 3 := ⟨Tryz.underlying23, by kernel_rfl⟩
section
variable {P : Program} {t e : TypeId} (w : World)
end
theorem NRow.cells {w : World} {g n c : Nat} {l : List Int} (h : NRow w g n c l) : ∀ (j : Nat) u, (l.map cv)[j]? = some u → w.cell? ((⟨g, 0, none⟩ : Addr).add j) = some u := fun j u hu => by
  have hj : j < n := by have := (List.getElem?_eq_some_iff.1 hu).1; rw [List.length_map, h.len] at this; exact this
  rw [Addr.add_mid, Nat.zero_add, World.ownsRow.cellAt h j (by omega), hu]

/-- Counts of n sectors, all noughts. -/
def Ct.zero (n : Nat) : Ct := ⟨List.replicate n 0, List.replicate n 0, rfl⟩
theorem Ct.zero_n (n : Nat) : (Ct.zero n).n = n := List.length_replicate
theorem Ct.zero_ok {n : Nat} (h1 : 32 ≤ n) (h2 : n ≤ 2048) : (Ct.zero n).ok := by
  refine ⟨by rw [Ct.zero_n]; exact ⟨h1, h2⟩, fun k hk => ?_⟩
  rw [Ct.zero_n] at hk
  show 0 ≤ nm (List.replicate n 0) k ∧ nm (List.replicate n 0) k ≤ 65535
  unfold nm
  simp [hk]
section
variable {P : Program} {t e : TypeId} (w : World)
theorem madeNums (n : Nat) : (madeCells (Value.int .i64 0).cells (n * 1)).toList = (List.replicate n (0 : Int)).map cv := by
  rw [show (Value.int .i64 0).cells = #[.int .i64 0] from rfl, Nat.mul_one, toList_madeCells_one]
  simp [cv]
end
end Go.Proofs.YtgedmodnkiijkaaGreatDoor

namespace Go.Proofs.YtgedmodnkiijkaaGreatDoor
open Go Go.RowKit Go.Proofs

/-- make of ints, kept shut while the walk runs. -/
def mkI (a b : Value) : Sem Value := Instr.makeSlice 23 a b
theorem mkI_shut (a b : Value) : Instr.makeSlice 23 a b = mkI a b := rfl
def litI (n : Nat) (w : World) : World := w.alloc (.cells (madeCells #[.int .i64 0] (n * 1)) 3)
theorem run_mkI (n : Nat) (hn : n ≤ 1000000) (w : World) : (mkI (.int .i64 (n : Int)) (.int .i64 (n : Int))).run Tryz.prog w = .ok (.slice (some ⟨w.heap.size, 0, none⟩) n n) (litI n w) := by
  obtain ⟨i, hi, hz0, hz1, hz2⟩ := info_parts TN.info
  have h := run_makeSlice (P := Tryz.prog) w 23 3 i _ TN.sl hi hz0 .i64 .i64 n n (by omega) (by omega) (by rw [hz1, Int.toNat_natCast]; omega) (by rw [hz2]; omega) (by omega)
  rw [hz1] at h
  exact h
theorem litI_new (n : Nat) (hn : n ≤ 1000000) (w : World) : NRow (litI n w) w.heap.size n n (List.replicate n 0) := by
  have hm : (madeCells #[.int .i64 0] (n * 1)).toList = (List.replicate n (0 : Int)).map cv := madeNums n
  have hl := congrArg List.length hm
  rw [Array.length_toList, List.length_map, List.length_replicate] at hl
  refine ⟨by rw [List.length_map, List.length_replicate, Nat.mul_one], .inr ⟨w.heap.size, n, _, rfl, Nat.zero_le _, heap_alloc_new w _, Nat.le_refl _, by unfold maxLen; omega, by rw [hl, Nat.mul_one], ?_⟩⟩
  rw [hm, List.take_of_length_le (by rw [List.length_map, List.length_replicate, Nat.mul_one]; exact Nat.le_refl _)]
theorem litI_below (n base : Nat) (w : World) (h : base ≤ w.heap.size) : Below base w (litI n w) := (Below.refl _ _).alloc h _
theorem litI_size (n : Nat) (w : World) : (litI n w).heap.size = w.heap.size + 1 := by simp [litI]

section
attribute [local go_sem ↓] mkI_shut
end
end Go.Proofs.YtgedmodnkiijkaaGreatDoor

namespace Go.Proofs.YtgedmodnkiijkaaGreatDoor
open Go Go.RowKit Go.Proofs

/-- The first k counts from m on, each as two bytes. -/
def Ct.bodyTo (C : Ct) (m : Int) : Nat → List UInt8
  | 0 => []
  | k + 1 => C.bodyTo m k ++ dig (C.get (m + (k : Int))) 2
theorem Ct.bodyTo_len (C : Ct) (m : Int) (k : Nat) : (C.bodyTo m k).length = 2 * k := by
  induction k with
  | zero => rfl
  | succ k ih => show (C.bodyTo m k ++ dig _ 2).length = _; rw [List.length_append, ih, dig_len]; omega
/-- The bytes of the i-th sector of an area. -/
def Ct.body (C : Ct) (i : Int) : List UInt8 := if 0 ≤ i ∧ i < (areaN C.n : Int) then C.bodyTo (i * 118) 118 else []
end Go.Proofs.YtgedmodnkiijkaaGreatDoor

namespace Go.Proofs.YtgedmodnkiijkaaGreatDoor
open Go Go.RowKit Go.Proofs

/-- The k-th number of two bytes. -/
def cntX (l : List UInt8) (k : Nat) : Int := numL ((l.drop (2 * k)).take 2)
/-- A count that may not be. -/
def rowBad (n f i : Nat) (l : List UInt8) (k : Nat) : Bool := decide (cntX l k ≠ 0 ∧ (i * 118 + k < f ∨ n ≤ i * 118 + k))
def rowTo (n i : Nat) (l : List UInt8) (C : Ct) : Nat → Ct
  | 0 => C
  | k + 1 => if i * 118 + k < n then (rowTo n i l C k).put (i * 118 + k) (cntX l k) else rowTo n i l C k
def rowGood (n f i : Nat) (l : List UInt8) : Prop := l.length = 236 ∧ ∀ k, k < 118 → rowBad n f i l k = false
def allTo (n : Nat) (ls : List (List UInt8)) : Nat → Ct
  | 0 => Ct.zero n
  | i + 1 => rowTo n i (nth ls i) (allTo n ls i) 118
open Classical in
/-- What Load answers. -/
noncomputable def loadE (n : Int) (ls : List (List UInt8)) : Int := if ¬ (32 ≤ n ∧ n ≤ 2048) then 1 else if ls.length ≠ areaN n.toNat ∨ ¬ ∀ i, i < areaN n.toNat → rowGood n.toNat (2 + 2 * areaN n.toNat) i (nth ls i) then 3 else 0
def loadC (n : Nat) (ls : List (List UInt8)) : Ct := (allTo n ls (areaN n)).commit
theorem rowTo_n (n i : Nat) (l : List UInt8) (C : Ct) (k : Nat) : (rowTo n i l C k).n = C.n := by
  induction k with
  | zero => rfl
  | succ k ih => unfold rowTo; split; rw [Ct.put_n, ih]; exact ih
theorem allTo_n (n : Nat) (ls : List (List UInt8)) (i : Nat) : (allTo n ls i).n = n := by
  induction i with
  | zero => exact Ct.zero_n n
  | succ i ih => exact (rowTo_n _ _ _ _ _).trans ih
end Go.Proofs.YtgedmodnkiijkaaGreatDoor

namespace Go.Proofs.YtgedmodnkiijkaaGreatDoor
open Go Go.RowKit Go.Proofs

/-- The code's counts, as they lie in S: their cells from o on in p's block. -/
def CCo (w : World) (p o : Nat) (S : Nat → Prop) (C : Ct) : Prop := ∃ (a ca b cb : Nat) (t : TypeId) (cur : Array Value), w.heap[p]? = some (.cells cur t (0, 0)) ∧ (cur[o]? = some (.slice (some ⟨a, 0, none⟩) C.n ca) ∧ cur[o + 1]? = some (.slice (some ⟨b, 0, none⟩) C.n cb) ∧ cur[o + 2]? = some (.int .i64 (areaN C.n : Int)) ∧ cur[o + 3]? = some (.int .i64 (C.first : Int))) ∧ NRow w a C.n ca C.now ∧ NRow w b C.n cb C.done ∧ (a ≠ b ∧ p ≠ a ∧ p ≠ b) ∧ (S a ∧ S b) ∧ C.ok
/-- A cell of a block. -/
theorem cell_at {w : World} {p k : Nat} {cur : Array Value} {t : TypeId} {v : Value} (h : w.heap[p]? = some (.cells cur t (0, 0))) (hk : cur[k]? = some v) : w.cell? ⟨p, k, none⟩ = some v := by rw [cell_of_row _ _ _ _ _ _ h]; exact hk
theorem CCo.ok {w : World} {p o : Nat} {S : Nat → Prop} {C : Ct} (h : CCo w p o S C) : C.ok := by
  obtain ⟨_, _, _, _, _, _, _, _, _, _, _, _, h⟩ := h
  exact h
theorem CCo.lt {w : World} {p o : Nat} {S : Nat → Prop} {C : Ct} (h : CCo w p o S C) : p < w.heap.size := by
  obtain ⟨_, _, _, _, _, _, h, _⟩ := h
  exact (Array.getElem?_eq_some_iff.1 h).1
theorem CCo.keep {w w' : World} {p o : Nat} {S : Nat → Prop} {C : Ct} (h : CCo w p o S C) (hp : w'.heap[p]? = w.heap[p]?) (hk : ∀ k, k < w.heap.size → S k → w'.heap[k]? = w.heap[k]?) : CCo w' p o S C := by
  obtain ⟨a, ca, b, cb, t, cur, h1, hc, h2, h3, h4, h5, h6⟩ := h
  exact ⟨a, ca, b, cb, t, cur, hp.trans h1, hc, h2.keep (hk a h2.lt h5.1), h3.keep (hk b h3.lt h5.2), h4, h5, h6⟩
theorem CCo.mono {w : World} {p o : Nat} {S S' : Nat → Prop} {C : Ct} (h : CCo w p o S C) (hs : ∀ k, S k → S' k) : CCo w p o S' C := by
  obtain ⟨a, ca, b, cb, t, cur, h1, hc, h2, h3, h4, h5, h6⟩ := h
  exact ⟨a, ca, b, cb, t, cur, h1, hc, h2, h3, h4, ⟨hs _ h5.1, hs _ h5.2⟩, h6⟩
theorem CCo.below {w w' : World} {p o : Nat} {S : Nat → Prop} {C : Ct} (h : CCo w p o S C) (hb : Below w.heap.size w w') : CCo w' p o S C := h.keep (hb.block p h.lt) fun k hk _ => hb.block k hk
/-- Its blocks are there. -/
theorem CCo.shrink {w : World} {p o : Nat} {S : Nat → Prop} {C : Ct} (h : CCo w p o S C) : CCo w p o (fun k => S k ∧ k < w.heap.size) C := by
  obtain ⟨a, ca, b, cb, t, cur, h1, hc, h2, h3, h4, h5, h6⟩ := h
  exact ⟨a, ca, b, cb, t, cur, h1, hc, h2, h3, h4, ⟨⟨h5.1, h2.lt⟩, ⟨h5.2, h3.lt⟩⟩, h6⟩
/-- The struct around them turns elsewhere. -/
theorem CCo.around {w w' : World} {p o p' o' : Nat} {S : Nat → Prop} {C : Ct} {cur cur' : Array Value} {t t' : TypeId} (h : CCo w p o S C) (hp : w.heap[p]? = some (.cells cur t (0, 0))) (hp' : w'.heap[p']? = some (.cells cur' t' (0, 0)))
    (hc : ∀ j, j < 4 → cur'[o' + j]? = cur[o + j]?) (hne : ∀ k, S k → p' ≠ k) (hk : ∀ k, k < w.heap.size → S k → w'.heap[k]? = w.heap[k]?) : CCo w' p' o' S C := by
  obtain ⟨a, ca, b, cb, t, cur0, h1, hq, h2, h3, h4, h5, h6⟩ := h
  rw [hp] at h1
  injection h1 with h1
  injection h1 with h1 _ _
  subst h1
  exact ⟨a, ca, b, cb, t', cur', hp', ⟨(hc 0 (by omega)).trans hq.1, (hc 1 (by omega)).trans hq.2.1, (hc 2 (by omega)).trans hq.2.2.1, (hc 3 (by omega)).trans hq.2.2.2⟩, h2.keep (hk a h2.lt h5.1), h3.keep (hk b h3.lt h5.2), ⟨h4.1, hne a h5.1, hne b h5.2⟩, h5, h6⟩
/-- What the counts' cells are. -/
theorem CCo.open_ {w : World} {p o : Nat} {S : Nat → Prop} {C : Ct} (H : CCo w p o S C) : ∃ g cg b cb : Nat, w.cell? ⟨p, o, none⟩ = some (.slice (some ⟨g, 0, none⟩) C.n cg) ∧ w.cell? ⟨p, o + 1, none⟩ = some (.slice (some ⟨b, 0, none⟩) C.n cb) ∧ w.cell? ⟨p, o + 2, none⟩ = some (.int .i64 (areaN C.n : Int)) ∧ w.cell? ⟨p, o + 3, none⟩ = some (.int .i64 (C.first : Int)) ∧
    (C.n ≤ cg ∧ cg ≤ 9223372036854775807) ∧ (C.n ≤ cb ∧ cb ≤ 9223372036854775807) ∧ (∀ k, k < C.n → w.cell? ⟨g, k, none⟩ = some (.int .i64 (nm C.now k)) ∧ w.frozen? ⟨g, k, none⟩ = false) ∧ (∀ k, k < C.n → w.cell? ⟨b, k, none⟩ = some (.int .i64 (nm C.done k))) ∧
    (∀ (k : Nat) (x : Int), k < C.n → 0 ≤ x → x ≤ 65535 → CCo (w.setCell ⟨g, k, none⟩ (.int .i64 x)) p o S (C.put k x) ∧ Turn S w (w.setCell ⟨g, k, none⟩ (.int .i64 x)) ∧ (w.setCell ⟨g, k, none⟩ (.int .i64 x)).cell? ⟨p, o, none⟩ = some (.slice (some ⟨g, 0, none⟩) C.n cg) ∧ (w.setCell ⟨g, k, none⟩ (.int .i64 x)).cell? ⟨g, k, none⟩ = some (.int .i64 x)) := by
  obtain ⟨g, cg, b, cb, t, cur, h1, ⟨q0, q1, q2, q3⟩, h2, h3, h4, h5, h6⟩ := H
  have k1 := h2.cap
  have k2 := h3.cap
  unfold maxLen at k1 k2
  refine ⟨g, cg, b, cb, cell_at h1 q0, cell_at h1 q1, cell_at h1 q2, cell_at h1 q3, ⟨k1.1, by omega⟩, ⟨k2.1, by omega⟩, fun k hk => h2.at_ hk, fun k hk => (h3.at_ hk).1, fun k x hk hx0 hx1 => ?_⟩
  have e : ∀ j, j ≠ g → (w.setCell ⟨g, k, none⟩ (.int .i64 x)).heap[j]? = w.heap[j]? := fun j hj => Below.heap_setCell _ _ _ _ (by show j ≠ g; exact hj)
  have hp := (e p h4.2.1).trans h1
  have hI := h2.set_ k x
  have hf : (C.put k x).first = C.first := by unfold Ct.first; rw [C.put_n]
  refine ⟨⟨g, cg, b, cb, t, cur, hp, ?_, ?_, ?_, h4, h5, C.put_ok h6 k x hx0 hx1⟩, turn_setCell (a := ⟨g, k, none⟩) _ h5.1, cell_at hp q0, ?_⟩
  · rw [C.put_n, hf]; exact ⟨q0, q1, q2, q3⟩
  · rw [C.put_n]; exact hI
  · rw [C.put_n]; exact h3.keep (e b (Ne.symm h4.1))
  · have := (hI.at_ hk).1
    rw [nm_set_same _ _ _ (by rw [h2.len]; exact hk)] at this
    exact this

set_option maxHeartbeats 1000000 in
theorem cget_any {w : World} {p o : Nat} {S : Nat → Prop} {C : Ct} (H : CCo w p o S C) (a x : Int) (hx : C.get a = x) :
    Calls Tryz.prog 111 #[.pointer (some ⟨p, o, none⟩), .int .i64 a] w fun e w' => e = .returned (.int .i64 x) ∧ w = w' := by
  obtain ⟨g, cg, b, cb, c0, c1, c2, c3, k1, k2, hnow, hdone, hput⟩ := H.open_
  have Hnow := Lib.hid hnow
  clear hnow hdone hput c1 c2 c3
  by_cases h0 : 0 ≤ a
  · obtain ⟨k, rfl⟩ := Int.eq_ofNat_of_zero_le h0
    by_cases hk : k < C.n
    · have hgt := Lib.hid (show x = nm C.now k by rw [← hx]; unfold Ct.get; rw [if_pos (by omega)]; rfl)
      obtain ⟨hc, _⟩ := Hnow.out k hk
      have e1 : ¬ (k : Int) < 0 := by omega
      have e2 : ¬ (C.n : Int) ≤ (k : Int) := by omega
      have e3 : (k : Int) < (C.n : Int) := by omega
      go_enter Tryz.func111, Tryz.ntmps111
      go_wp2
      go_ret
      exact ⟨by rw [hgt.out]; rfl, rfl⟩
    · have hgt := Lib.hid (show x = 0 by rw [← hx]; unfold Ct.get; rw [if_neg (by omega)])
      have e1 : ¬ (k : Int) < 0 := by omega
      have e2 : (C.n : Int) ≤ (k : Int) := by omega
      go_enter Tryz.func111, Tryz.ntmps111
      go_wp2
      go_ret
      exact ⟨by rw [hgt.out]; rfl, rfl⟩
  · have hgt := Lib.hid (show x = 0 by rw [← hx]; unfold Ct.get; rw [if_neg (by omega)])
    have e1 : a < 0 := by omega
    go_enter Tryz.func111, Tryz.ntmps111
    go_wp2
    go_ret
    exact ⟨by rw [hgt.out]; rfl, rfl⟩

/-- May a sector have a count? -/
def Ct.counted (C : Ct) (a : Nat) : Bool := decide (C.first ≤ a ∧ a < C.n)
set_option maxHeartbeats 1000000 in
theorem ccounted_any {w : World} {p o : Nat} {S : Nat → Prop} {C : Ct} (H : CCo w p o S C) (a : Nat) (r : Bool) (hr : C.counted a = r) :
    Calls Tryz.prog 124 #[.pointer (some ⟨p, o, none⟩), .int .i64 (a : Int)] w fun e w' => e = .returned (.bool r) ∧ w = w' := by
  obtain ⟨g, cg, b, cb, c0, c1, c2, c3, k1, k2, hnow, hdone, hput⟩ := H.open_
  clear hnow hdone hput c1 c2
  obtain ⟨f, hf⟩ : ∃ f, C.first = f := ⟨_, rfl⟩
  have hr2 := Lib.hid (show r = decide (f ≤ a ∧ a < C.n) by rw [← hr, ← hf]; rfl)
  rw [hf] at c3
  clear hf hr
  by_cases h1 : f ≤ a
  · by_cases h2 : a < C.n
    · have e0 := Lib.hid (show r = true by rw [hr2.out]; exact decide_eq_true ⟨h1, h2⟩)
      have e1 : (f : Int) ≤ (a : Int) := by omega
      have e2 : (a : Int) < (C.n : Int) := by omega
      go_enter Tryz.func124, Tryz.ntmps124
      go_wp2
      go_ret
      exact ⟨by rw [e0.out]; rfl, rfl⟩
    · have e0 := Lib.hid (show r = false by rw [hr2.out]; exact decide_eq_false fun h => h2 h.2)
      have e1 : (f : Int) ≤ (a : Int) := by omega
      have e2 : ¬ (a : Int) < (C.n : Int) := by omega
      go_enter Tryz.func124, Tryz.ntmps124
      go_wp2
      go_ret
      exact ⟨by rw [e0.out]; rfl, rfl⟩
  · have e0 := Lib.hid (show r = false by rw [hr2.out]; exact decide_eq_false fun h => h1 h.1)
    have e1 : ¬ (f : Int) ≤ (a : Int) := by omega
    go_enter Tryz.func124, Tryz.ntmps124
    go_wp2
    go_ret
    exact ⟨by rw [e0.out]; rfl, rfl⟩
set_option maxHeartbeats 2000000 in
theorem cfree_any {w : World} {p o : Nat} {S : Nat → Prop} {C : Ct} (H : CCo w p o S C) (k : Nat) (hk : k < C.n) (r : Bool) (hr : C.may k = r) :
    Calls Tryz.prog 97 #[.pointer (some ⟨p, o, none⟩), .int .i64 (k : Int)] w fun e w' => e = .returned (.bool r) ∧ w = w' := by
  obtain ⟨g, cg, b, cb, c0, c1, c2, c3, k1, k2, hnow, hdone, hput⟩ := H.open_
  obtain ⟨hc, _⟩ := hnow k hk
  have hd := hdone k hk
  clear hnow hdone hput c2 c3
  obtain ⟨x, hx⟩ : ∃ x, nm C.now k = x := ⟨_, rfl⟩
  obtain ⟨y, hy⟩ : ∃ y, nm C.done k = y := ⟨_, rfl⟩
  have hm := Lib.hid (show r = (decide (C.first ≤ k) && decide (x = 0 ∧ y = 0)) by rw [← hr, ← hx, ← hy]; rfl)
  rw [hx] at hc
  rw [hy] at hd
  clear hx hy hr
  have e3 : (k : Int) < (C.n : Int) := by omega
  have e4 : ¬ (C.n : Int) ≤ (k : Int) := by omega
  by_cases h1 : C.first ≤ k
  · have hcn := Lib.hid (show C.counted k = true from decide_eq_true ⟨h1, hk⟩)
    have hm := Lib.hid (show r = decide (x = 0 ∧ y = 0) by rw [hm.out, decide_eq_true h1, Bool.true_and])
    clear h1
    by_cases hx0 : x = 0
    · have hm := Lib.hid (show r = decide (y = 0) by rw [hm.out]; simp [hx0])
      subst hx0
      go_enter Tryz.func97, Tryz.ntmps97
      go_wp2_with fail
      refine (ccounted_any H k true hcn.out).mono ?_
      rintro e w1 ⟨rfl, rfl⟩
      go_wp2
      go_ret
      exact ⟨by rw [hm.out]; first | rfl | (refine congrArg (fun x => Ending.returned (Value.bool x)) ?_; rw [Bool.eq_iff_iff]; simp), rfl⟩
    · have hm := Lib.hid (show r = false by rw [hm.out]; exact decide_eq_false fun h => hx0 h.1)
      have hb : (x == 0) = false := by simpa using hx0
      go_enter Tryz.func97, Tryz.ntmps97
      go_wp2_with fail
      refine (ccounted_any H k true hcn.out).mono ?_
      rintro e w1 ⟨rfl, rfl⟩
      go_wp2
      go_ret
      exact ⟨by rw [hm.out]; rfl, rfl⟩
  · have hcn := Lib.hid (show C.counted k = false from decide_eq_false fun h => h1 h.1)
    have hm := Lib.hid (show r = false by rw [hm.out, decide_eq_false h1, Bool.false_and])
    clear h1
    go_enter Tryz.func97, Tryz.ntmps97
    go_wp2_with fail
    refine (ccounted_any H k false hcn.out).mono ?_
    rintro e w1 ⟨rfl, rfl⟩
    go_wp2
    go_ret
    exact ⟨by rw [hm.out]; rfl, rfl⟩
end Go.Proofs.YtgedmodnkiijkaaGreatDoor

namespace Go.Proofs.YtgedmodnkiijkaaGreatDoor
open Go Go.RowKit Go.Proofs

theorem NRow.whole {w : World} {g n c : Nat} {l : List Int} (h : NRow w g n c l) : ∃ cur : Array Value, w.heap[g]? = some (.cells cur 3 (0, 0)) ∧ cur.size = c ∧ cur.toList.take n = l.map cv ∧ n ≤ c ∧ c ≤ maxLen := by
  rcases h.2 with ⟨hv, _⟩ | ⟨g', cap, cur, hv, hb, hg, h1, h2, h3, h4⟩
  · injection hv with e1; cases e1
  · injection hv with e1 e2 e3
    injection e1 with e1
    injection e1 with e1
    subst e1; subst e3
    rw [Nat.mul_one] at h3 h4
    exact ⟨cur, hg, h3, h4, h1, h2⟩
theorem NRow.of_whole {w : World} {g n c : Nat} {l : List Int} (cur : Array Value) (hg : w.heap[g]? = some (.cells cur 3 (0, 0))) (h3 : cur.size = c) (h4 : cur.toList.take n = l.map cv) (hl : l.length = n) (h1 : n ≤ c) (h2 : c ≤ maxLen) : NRow w g n c l :=
  ⟨by rw [List.length_map, hl, Nat.mul_one], .inr ⟨g, c, cur, rfl, Nat.zero_le _, hg, h1, h2, by rw [h3, Nat.mul_one], by rw [Nat.mul_one]; exact h4⟩⟩
/-- copy of all numbers of a row into another one, as a step of a region that draws its order. -/
theorem step_copy_i {w : World} {ops : Array Oper} {o : Oper} {a : Act} {K : Act → World → Prop} {Q : Exit → Act → World → Prop} {E : Prop} (hgd : o.guard = none) (d s : Operand)
    (ho : o.op = .call { callee := .builtin .copy, args := #[d, s], argTypes := #[23, 23] }) (g n c : Nat) (l : List Int) (hr : NRow w g n c l) (hd : a.eval d = .slice (some ⟨g, 0, none⟩) n c)
    (g2 c2 : Nat) (l2 : List Int) (hr2 : NRow w g2 n c2 l2) (hs : a.eval s = .slice (some ⟨g2, 0, none⟩) n c2)
    (hK : ∀ w', NRow w' g n c l2 → (∀ k, k ≠ g → w'.heap[k]? = w.heap[k]?) → (∀ S : Nat → Prop, S g → Turn S w w') → K (a.put o.dst (goInt n)) w') : if Region.wanted o (yielded ops a.tmps) = true then Oper.wp Tryz.prog o a w K Q else E := by
  rw [if_pos (by simp [Region.wanted, hgd])]
  obtain ⟨i, hi, hz0, hz1, hz2⟩ := info_parts TN.info
  obtain ⟨cur, hg, h3, h4, h1, h2⟩ := hr.whole
  have hl2 := hr2.len
  have hrun := run_copy_row (P := Tryz.prog) w 23 23 o.type 3 g 0 n c ⟨g2, 0, none⟩ n c2 cur 3 (l2.map cv) TN.sl (by rw [hi]; simp [hz1]) hg (by rw [List.length_map, hl2]; exact (Nat.min_self n).symm) hr2.cells (by rw [List.length_map, hl2, h3]; omega) (cv_one _)
  rw [List.length_map, hl2] at hrun
  unfold Oper.wp
  simp [execOp, ho, resolve, invoke, builtin, hd, hs, hrun, Result.andThen]
  have hh : (w.setRow g (l2.map cv ++ cur.toList.drop n).toArray).heap[g]? = some (.cells (l2.map cv ++ cur.toList.drop n).toArray 3 (0, 0)) := setRow_heap w g _ _ 3 _ hg
  have e : ∀ k, k ≠ g → (w.setRow g (l2.map cv ++ cur.toList.drop n).toArray).heap[k]? = w.heap[k]? := fun k hk => setRow_other w g k _ hk
  have key := hK (w.setRow g (l2.map cv ++ cur.toList.drop n).toArray) (NRow.of_whole _ hh (by rw [List.size_toArray, List.length_append, List.length_map, List.length_drop, hl2, Array.length_toList, h3]; omega) (by rw [List.take_left' (by rw [List.length_map, hl2])]) hl2 h1 h2) e (fun S hS => ⟨rfl, rfl, rfl, by simp [World.setRow], fun k _ hn => e k fun h => hn (h ▸ hS)⟩)
  exact key

set_option maxRecDepth 10000 in
set_option maxHeartbeats 2000000 in
theorem ccommit_any {w : World} {p o : Nat} {S : Nat → Prop} {C : Ct} (H : CCo w p o S C) :
    Calls Tryz.prog 37 #[.pointer (some ⟨p, o, none⟩)] w fun e w' => e = .returned (.tuple #[]) ∧ CCo w' p o S C.commit ∧ Turn S w w' := by
  obtain ⟨g, cg, b, cb, t, cur, h1, ⟨q0, q1, q2, q3⟩, h2, h3, h4, h5, h6⟩ := H
  have c0 : w.drew.cell? ⟨p, o, none⟩ = some (.slice (some ⟨g, 0, none⟩) C.n cg) := cell_at (w := w.drew) h1 q0
  have c1 : w.drew.cell? ⟨p, o + 1, none⟩ = some (.slice (some ⟨b, 0, none⟩) C.n cb) := cell_at (w := w.drew) h1 q1
  have h2' : NRow w.drew g C.n cg C.now := h2
  have h3' : NRow w.drew b C.n cb C.done := h3
  go_enter Tryz.func37, Tryz.ntmps37
  go_wp2_with fail
  go_region_held3 (fun w' => w'.cell? ⟨p, o, none⟩ = some (.slice (some ⟨g, 0, none⟩) C.n cg) ∧ w'.cell? ⟨p, o + 1, none⟩ = some (.slice (some ⟨b, 0, none⟩) C.n cb))
    (first | assumption | exact ⟨c0, c1⟩ | exact d01)
    (first
      | (refine step_copy_i rfl (.tmp 5) (.tmp 9) rfl b C.n cb C.done h3' rfl g cg C.now h2' rfl ?_; intro w5 r5 e5 T5; have d01 : w5.cell? ⟨p, o, none⟩ = some (.slice (some ⟨g, 0, none⟩) C.n cg) ∧ w5.cell? ⟨p, o + 1, none⟩ = some (.slice (some ⟨b, 0, none⟩) C.n cb) := ⟨(World.cell?_of_block (a := ⟨p, o, none⟩) (e5 p h4.2.2)).trans c0, (World.cell?_of_block (a := ⟨p, o + 1, none⟩) (e5 p h4.2.2)).trans c1⟩)
      | fail)
  all_goals (
    go_end0
    refine ⟨rfl, ⟨g, cg, b, cb, t, cur, (e5 p h4.2.2).trans h1, ⟨q0, q1, q2, q3⟩, h2.keep (e5 g h4.1), r5, h4, h5, Ct.commit_ok h6⟩, ?_⟩
    have T := T5 S h5.2
    exact (Turn.refl S w).drew.then T)
end Go.Proofs.YtgedmodnkiijkaaGreatDoor

namespace Go.Proofs.YtgedmodnkiijkaaGreatDoor
open Go Go.RowKit Go.Proofs

set_option maxHeartbeats 1000000 in
theorem cnew_bad (n : Int) (h : n < 32 ∨ 2048 < n) (w : World) :
    Calls Tryz.prog 51 #[.int .i64 n] w fun e w' => e = .returned (.tuple #[.pointer none, .int .i64 1]) ∧ w = w' := by
  by_cases h1 : n < 32
  · go_enter Tryz.func51, Tryz.ntmps51
    go_wp2
    go_ret2
    exact ⟨rfl, rfl⟩
  · have h2 : 2048 < n := by omega
    go_enter Tryz.func51, Tryz.ntmps51
    go_wp2
    go_ret2
    exact ⟨rfl, rfl⟩
section
attribute [local go_sem ↓] mkI_shut
set_option maxRecDepth 10000 in
set_option maxHeartbeats 2000000 in
theorem cnew_any (n : Nat) (h1 : 32 ≤ n) (h2 : n ≤ 2048) (w : World) :
    Calls Tryz.prog 51 #[.int .i64 (n : Int)] w fun e w' => ∃ p, e = .returned (.tuple #[.pointer (some ⟨p, 0, none⟩), .int .i64 0]) ∧ CCo w' p 0 (fun k => w.heap.size ≤ k) (Ct.zero n) ∧ w.heap.size ≤ p ∧ Below w.heap.size w w' := by
  have e1 : ¬ (n : Int) < 32 := by omega
  have e2 : ¬ (2048 : Int) < (n : Int) := by omega
  have hn : n ≤ 1000000 := by omega
  obtain ⟨m, hm⟩ : ∃ m, areaN n = m := ⟨_, rfl⟩
  have Hm := Lib.hid hm
  have hfirst := Lib.hid (show ((Ct.zero n).first : Int) = 2 + 2 * (m : Int) by unfold Ct.first; rw [Ct.zero_n, hm]; omega)
  clear hm
  have q1 := run_mkI n hn w.drew
  have q2 := run_mkI n hn (litI n w.drew)
  rw [litI_size] at q2
  have z0 : w.drew.heap.size = w.heap.size := rfl
  rw [z0] at q1 q2
  go_enter Tryz.func51, Tryz.ntmps51
  go_wp2_with fail
  refine (xareas_any (n : Int) n rfl (by omega) m Hm.out w).mono ?_
  rintro e w1 ⟨rfl, rfl⟩
  go_wp2_with fail
  go_region
  all_goals (
    have r2 : NRow (litI n (litI n w.drew)) (w.heap.size + 1) n n (List.replicate n 0) := by
      have := litI_new n hn (litI n w.drew)
      rw [litI_size, z0] at this
      exact this
    have r1 : NRow (litI n (litI n w.drew)) w.heap.size n n (List.replicate n 0) := by
      have h := litI_new n hn w.drew
      rw [z0] at h
      exact h.keep (heap_alloc_old (litI n w.drew) _ (by rw [litI_size, z0]; omega))
    have bW : Below w.heap.size w (litI n (litI n w.drew)) := ((Below.refl _ _).drew.trans (litI_below n _ _ (Nat.le_refl _))).trans (litI_below n _ _ (by rw [litI_size, z0]; omega))
    have zW : (litI n (litI n w.drew)).heap.size = w.heap.size + 2 := by rw [litI_size, litI_size, z0]
    clear q1 q2
    generalize litI n (litI n w.drew) = W at r1 r2 bW zW ⊢
    go_wp2_with fail
    go_ret2
    rw [zW]
    refine ⟨w.heap.size + 2, rfl, ?_, by omega, bW.alloc bW.size _⟩
    have hN := (Ct.zero_n n).symm
    have hF := hfirst.out
    have hM := Hm.out
    first
      | exact ⟨w.heap.size, n, w.heap.size + 1, n, _, _, by rw [← zW]; exact heap_alloc_new W _, ⟨by rw [Ct.zero_n]; rfl, by rw [Ct.zero_n]; rfl, by rw [Ct.zero_n, hM]; rfl, by rw [hF]; rfl⟩, by rw [Ct.zero_n]; exact r1.keep (heap_alloc_old W _ r1.lt), by rw [Ct.zero_n]; exact r2.keep (heap_alloc_old W _ r2.lt), ⟨by omega, by omega, by omega⟩, ⟨by dsimp only; omega, by dsimp only; omega⟩, Ct.zero_ok h1 h2⟩
      | exact ⟨w.heap.size + 1, n, w.heap.size, n, _, _, by rw [← zW]; exact heap_alloc_new W _, ⟨by rw [Ct.zero_n]; rfl, by rw [Ct.zero_n]; rfl, by rw [Ct.zero_n, hM]; rfl, by rw [hF]; rfl⟩, by rw [Ct.zero_n]; exact r2.keep (heap_alloc_old W _ r2.lt), by rw [Ct.zero_n]; exact r1.keep (heap_alloc_old W _ r1.lt), ⟨by omega, by omega, by omega⟩, ⟨by dsimp only; omega, by dsimp only; omega⟩, Ct.zero_ok h1 h2⟩
      | fail)
end
end Go.Proofs.YtgedmodnkiijkaaGreatDoor

namespace Go.Proofs.YtgedmodnkiijkaaGreatDoor
open Go Go.RowKit Go.Proofs

theorem cputin (x : Int) (w : World) :
    Calls Tryz.prog 110 #[.slice none 0 0, .int .i64 x, .int .i64 2] w fun e w' => ∃ A' c', e = .returned (.slice A' 2 c') ∧ Sl w' A' 2 c' (dig x 2) ∧ Below w.heap.size w w' := by
  have h3 := put_any none 0 0 [] x 2 w (sl_nil w) (by omega)
  rw [show putS [] x 2 = dig x 2 from rfl] at h3
  refine h3.mono ?_
  rintro e w' ⟨A', n', c', rfl, own, hb⟩
  have h4 := own.len
  rw [dig_len] at h4
  subst h4
  exact ⟨A', c', rfl, own.sl, hb⟩
set_option maxRecDepth 10000 in
set_option maxHeartbeats 4000000 in
theorem cbody_any {w : World} {p o : Nat} {S : Nat → Prop} {C : Ct} (H : CCo w p o S C) (i : Int) :
    Calls Tryz.prog 68 #[.pointer (some ⟨p, o, none⟩), .int .i64 i] w fun e w' => ∃ A n c, e = .returned (.slice A n c) ∧ Sl w' A n c (C.body i) ∧ Below w.heap.size w w' ∧ ∀ ad, A = some ad → w.heap.size ≤ ad.block := by
  obtain ⟨many, hm⟩ : ∃ m, areaN C.n = m := ⟨_, rfl⟩
  have hok := H.ok.1
  have hm2 : many ≤ 1000 := by rw [← hm]; unfold areaN; omega
  obtain ⟨g, cg, b, cb, c0, c1, c2, c3, k1, k2, hnow, hdone, hput⟩ := H.open_
  clear hnow hdone hput c1 c0 c3 k1 k2
  rw [hm] at c2
  have Hm := Lib.hid hm
  clear hm
  by_cases hi : 0 ≤ i ∧ i < (many : Int)
  · have hbd := Lib.hid (show C.body i = C.bodyTo (i * 118) 118 by unfold Ct.body; rw [Hm.out, if_pos hi])
    obtain ⟨q, rfl⟩ := Int.eq_ofNat_of_zero_le hi.1
    have e1 : ¬ (q : Int) < 0 := by omega
    have e2 : ¬ (many : Int) ≤ (q : Int) := by omega
    have hq : q < many := by omega
    have d1 : decide ((q : Int) < 0) = false := by simp
    have d2 : decide ((many : Int) ≤ (q : Int)) = false := by simp; omega
    have d3 : decide (many ≤ q) = false := by simp; omega
    go_enter Tryz.func68, Tryz.ntmps68
    go_wp2_with (first
      | (at_make; refine wp_make_c _ T22 rfl _ _ rfl _ _ 236 rfl rfl (by omega) ?_)
      | fail)
    intro w1 own0 hb0
    go_wp2_with fail
    go_loopw [5, 6, 18] (fun b _ k wr => ∃ (j : Nat) (A' : Option Addr) (c' : Nat), j ≤ 118 ∧ k = .int .i64 (j : Int) ∧ b = .slice A' (2 * j) c' ∧ Own wr w.heap.size 5 A' (2 * j) c' (C.bodyTo ((q : Int) * 118) j) ∧ Below w.heap.size w wr) (fun _ _ k _ => 118 - (intOf k).toNat)
    case atStart => exact ⟨0, _, _, by omega, rfl, rfl, own0, hb0⟩
    case round =>
      clear own0 hb0
      obtain ⟨j, A', c', hj, rfl, rfl, own, hB⟩ := hrel
      by_cases hlt : j < 118
      · have Hr := H.below hB
        have e3 : (j : Int) < 118 := by omega
        obtain ⟨x, hx⟩ : ∃ x, C.get ((q : Int) * 118 + (j : Int)) = x := ⟨_, rfl⟩
        have Hnext := Lib.hid (show C.bodyTo ((q : Int) * 118) (j + 1) = C.bodyTo ((q : Int) * 118) j ++ dig x 2 by rw [← hx]; rfl)
        have Hx := Lib.hid hx
        clear hx c2
        go_wp2_with fail
        refine (cget_any Hr _ x Hx.out).mono ?_
        rintro e w3 ⟨rfl, rfl⟩
        go_wp2_with fail
        refine (cputin x wr).mono ?_
        rintro e w4 ⟨A4, c4, rfl, sl4, hb4⟩
        have own4 := own.below hb4
        have hB4 := hB.trans (hb4.mono hB.size)
        go_wp2_with (at_builtin; refine wp_append_b _ T22 rfl _ _ rfl w.heap.size A' (2 * j) c' _ rfl own4 A4 2 c4 _ rfl sl4 (by omega) hB4.size ?_)
        intro A5 c5 w5 own5 hb5
        rw [← Hnext.out] at own5
        go_wp2
        exact ⟨⟨j + 1, A5, c5, by omega, by go_num, rfl, own5, hB4.trans hb5⟩, by simp [intOf]; omega⟩
      · have hj2 : j = 118 := by omega
        subst hj2
        have Hown := own.sl
        have Hblk := fun ad e => (own.block ad e).1
        go_wp2
        go_ret
        rw [hbd.out]
        exact ⟨_, _, _, rfl, Hown, hB, Hblk⟩
  · have hbd := Lib.hid (show C.body i = [] by unfold Ct.body; rw [Hm.out, if_neg hi])
    by_cases h0 : i < 0
    · go_enter Tryz.func68, Tryz.ntmps68
      go_wp2
      go_ret
      rw [hbd.out]
      exact ⟨_, _, _, rfl, sl_nil _, Below.refl _ _, fun ad e => by cases e⟩
    · have e2 : (many : Int) ≤ i := by omega
      have e1 : ¬ i < 0 := h0
      go_enter Tryz.func68, Tryz.ntmps68
      go_wp2
      go_ret
      rw [hbd.out]
      exact ⟨_, _, _, rfl, sl_nil _, Below.refl _ _, fun ad e => by cases e⟩
end Go.Proofs.YtgedmodnkiijkaaGreatDoor

namespace Go.Proofs.YtgedmodnkiijkaaGreatDoor
open Go Go.RowKit Go.Proofs

set_option maxRecDepth 10000 in
set_option maxHeartbeats 4000000 in
theorem calloc_any {w : World} {p o : Nat} {S : Nat → Prop} {C : Ct} (H : CCo w p o S C) :
    Calls Tryz.prog 55 #[.pointer (some ⟨p, o, none⟩)] w fun e w' => e = .returned (.tuple #[.int .i64 C.allocV, .int .i64 C.allocE]) ∧ CCo w' p o S C.alloc ∧ Turn S w w' := by
  have hok := H.ok.1
  obtain ⟨g, cg, b, cb, c0, c1, c2, c3, k1, k2, hnow, hdone, hput⟩ := H.open_
  have Hput := Lib.hid hput
  have Hnow := Lib.hid hnow
  clear hput hnow hdone c1 c2 c3 k2
  go_enter Tryz.func55, Tryz.ntmps55
  go_wp2_with fail
  go_loop [4, 10] (fun _ i => ∃ k : Nat, k ≤ C.n ∧ i = .int .i64 (k : Int) ∧ ∀ j, j < k → C.may j = false) (fun _ i => C.n - (intOf i).toNat)
  case atStart => exact ⟨0, Nat.zero_le _, rfl, fun j hj => absurd hj (Nat.not_lt_zero _)⟩
  case round =>
    obtain ⟨k, hk, rfl, hall⟩ := hrel
    by_cases hlt : k < C.n
    · obtain ⟨hc, hfz⟩ := Hnow.out k hlt
      obtain ⟨H2, T2, d0, d1⟩ := Hput.out k 1 hlt (by omega) (by omega)
      obtain ⟨r, hr⟩ : ∃ r, C.may k = r := ⟨_, rfl⟩
      have Hr := Lib.hid hr
      have Hall := Lib.hid hall
      have e3 : (k : Int) < (C.n : Int) := by omega
      have e0 : (0 : Int) ≤ (k : Int) := by omega
      clear hr hall
      go_wp2_with fail
      refine (cfree_any H k hlt r Hr.out).mono ?_
      rintro e w1 ⟨rfl, rfl⟩
      cases r with
      | true =>
        have hE := Lib.hid (Ct.alloc_some (C := C) (k := k) (Ct.pick_some hlt Hr.out Hall.out))
        go_wp2
        go_ret2
        rw [hE.out.1, hE.out.2.1, hE.out.2.2]
        exact ⟨rfl, H2, T2⟩
      | false =>
        go_wp2
        refine ⟨⟨k + 1, by omega, by go_num, fun j hj => ?_⟩, by simp [intOf]; omega⟩
        by_cases hjk : j = k
        · rw [hjk]; exact Hr.out
        · exact Hall.out j (by omega)
    · have hkn : k = C.n := by omega
      have e3 : ¬ (k : Int) < (C.n : Int) := by omega
      have hE := Lib.hid (Ct.alloc_none (Ct.pick_none (C := C) (by rw [← hkn]; exact hall)))
      clear hall hkn
      go_wp2
      go_ret2
      rw [hE.out.1, hE.out.2.1, hE.out.2.2]
      exact ⟨rfl, H, Turn.refl _ _⟩
end Go.Proofs.YtgedmodnkiijkaaGreatDoor
