/- Counts as plain data; the reference's counts as they lie; its Get, Ref, Unref, Fresh, First. -/
import Derived.Test.YtancpkdkfemgfaaArea
import Derived.Test.YtancpkdkfemgfaaTurn
import Derived.Deep.RegionHeld3
namespace Go.Proofs.Ytancpkdkfemgfaa
open Go Go.RowKit Go.Proofs

/-- A number as the model's value. -/
def cv (x : Int) : Value := .int .i64 x
theorem cv_one (l : List Int) : ∀ u ∈ l.map cv, u.oneCell' = true := by
  intro u hu
  obtain ⟨_, _, rfl⟩ := List.mem_map.1 hu
  rfl
/-- The k-th number; kept shut. -/
def nm (l : List Int) (k : Nat) : Int := l.getD k 0
theorem nm_set_same (l : List Int) (k : Nat) (x : Int) (h : k < l.length) : nm (l.set k x) k = x := by simp [nm, h]
theorem nm_set_other (l : List Int) (k j : Nat) (x : Int) (h : k ≠ j) : nm (l.set k x) j = nm l j := by simp [nm, h]
/-- Counts: those of now, and the committed ones. -/
structure Ct where
  now : List Int
  done : List Int
  same : done.length = now.length
def Ct.n (C : Ct) : Nat := C.now.length
/-- The first sector behind the areas. -/
def Ct.first (C : Ct) : Nat := 2 + 2 * areaN C.n
def Ct.get (C : Ct) (a : Int) : Int := if 0 ≤ a ∧ a < (C.n : Int) then nm C.now a.toNat else 0
def Ct.put (C : Ct) (k : Nat) (x : Int) : Ct := ⟨C.now.set k x, C.done, by rw [List.length_set]; exact C.same⟩
def Ct.refE (C : Ct) (a : Int) : Int := if C.get a = 0 then 1 else if C.get a = 65535 then 7 else 0
def Ct.ref (C : Ct) (a : Int) : Ct := if C.refE a = 0 then C.put a.toNat (C.get a + 1) else C
def Ct.unrefE (C : Ct) (a : Int) : Int := if C.get a = 0 then 1 else 0
def Ct.unrefV (C : Ct) (a : Int) : Int := if C.get a = 0 then 0 else C.get a - 1
def Ct.unref (C : Ct) (a : Int) : Ct := if C.get a = 0 then C else C.put a.toNat (C.get a - 1)
def Ct.fresh (C : Ct) (a : Int) : Bool := if C.get a = 0 then false else decide (nm C.done a.toNat = 0)
def Ct.isFree (C : Ct) (k : Nat) : Bool := decide (nm C.now k = 0 ∧ nm C.done k = 0)
def Ct.commit (C : Ct) : Ct := ⟨C.now, C.now, rfl⟩
/-- Its numbers are within their bounds; so many sectors may be. -/
def Ct.ok (C : Ct) : Prop := (32 ≤ C.n ∧ C.n ≤ 2048) ∧ ∀ k, k < C.n → 0 ≤ nm C.now k ∧ nm C.now k ≤ 65535
theorem Ct.get_bounds {C : Ct} (h : C.ok) (a : Int) : 0 ≤ C.get a ∧ C.get a ≤ 65535 := by
  unfold Ct.get
  split
  · exact h.2 _ (by omega)
  · omega
theorem Ct.get_in {C : Ct} {a : Int} (h : ¬ C.get a = 0) : 0 ≤ a ∧ a < (C.n : Int) ∧ C.get a = nm C.now a.toNat := by
  unfold Ct.get at h ⊢
  split at h
  · rename_i h2
    rw [if_pos h2]
    exact ⟨h2.1, h2.2, rfl⟩
  · exact absurd rfl h
theorem Ct.put_n (C : Ct) (k : Nat) (x : Int) : (C.put k x).n = C.n := List.length_set
theorem Ct.put_ok {C : Ct} (h : C.ok) (k : Nat) (x : Int) (h1 : 0 ≤ x) (h2 : x ≤ 65535) : (C.put k x).ok := by
  refine ⟨by rw [C.put_n]; exact h.1, fun j hj => ?_⟩
  rw [C.put_n] at hj
  show 0 ≤ nm (C.now.set k x) j ∧ nm (C.now.set k x) j ≤ 65535
  by_cases hk : k = j
  · subst hk
    rw [nm_set_same _ _ _ hj]
    exact ⟨h1, h2⟩
  · rw [nm_set_other _ _ _ _ hk]
    exact h.2 j hj
theorem Ct.commit_ok {C : Ct} (h : C.ok) : C.commit.ok := h

/-- A row of numbers at a block's head. -/
def NRow (w : World) (g n c : Nat) (l : List Int) : Prop := w.ownsRow 0 3 1 (.slice (some ⟨g, 0, none⟩) n c) n (l.map cv)
section
variable {w w' : World} {g n c : Nat} {l : List Int}
theorem NRow.len (h : NRow w g n c l) : l.length = n := by have := h.1; simpa using this
theorem NRow.cap (h : NRow w g n c l) : n ≤ c ∧ c ≤ maxLen := by
  rcases h.2 with ⟨hv, _⟩ | ⟨g', cap, cur, hv, _, _, h1, h2, _⟩
  · injection hv with e1; cases e1
  · injection hv with e1 e2 e3; omega
theorem NRow.lt (h : NRow w g n c l) : g < w.heap.size := by
  rcases h.2 with ⟨hv, _⟩ | ⟨g', cap, cur, hv, _, hg, _⟩
  · injection hv with e1; cases e1
  · injection hv with e1
    injection e1 with e1
    injection e1 with e1
    subst e1
    exact (Array.getElem?_eq_some_iff.1 hg).1
theorem NRow.keep (h : NRow w g n c l) (hk : w'.heap[g]? = w.heap[g]?) : NRow w' g n c l := owns_keep h fun q hq => by
  have : q = g := by
    have : (Value.slice (some ⟨g, 0, none⟩) n c).ownBlock = some g := rfl
    rw [this] at hq
    exact (Option.some.inj hq).symm
  rw [this]; exact hk
theorem NRow.at_ (h : NRow w g n c l) {j : Nat} (hj : j < n) : w.cell? ⟨g, j, none⟩ = some (.int .i64 (nm l j)) ∧ w.frozen? ⟨g, j, none⟩ = false := by
  have hl := h.len
  refine ⟨?_, World.ownsRow.frozenAt h j⟩
  rw [World.ownsRow.cellAt h j (by omega), List.getElem?_map, List.getElem?_eq_getElem (by omega)]
  unfold nm
  rw [List.getD_eq_getElem?_getD, List.getElem?_eq_getElem (by omega)]; rfl
theorem NRow.set_ (h : NRow w g n c l) (j : Nat) (x : Int) : NRow (w.setCell ⟨g, j, none⟩ (.int .i64 x)) g n c (l.set j x) := by
  unfold NRow
  rw [List.map_set]
  exact (World.ownsRow.stored h j (cv x)).1
end

/-- The reference's counts, as they lie in S. -/
def RC (w : World) (p : Nat) (S : Nat → Prop) (C : Ct) : Prop := ∃ (a ca b cb : Nat) (t : TypeId), w.heap[p]? = some (.cells #[.slice (some ⟨a, 0, none⟩) C.n ca, .slice (some ⟨b, 0, none⟩) C.n cb] t (0, 0)) ∧ NRow w a C.n ca C.now ∧ NRow w b C.n cb C.done ∧ (a ≠ b ∧ p ≠ a ∧ p ≠ b) ∧ (S p ∧ S a ∧ S b) ∧ C.ok
theorem RC.ok {w : World} {p : Nat} {S : Nat → Prop} {C : Ct} (h : RC w p S C) : C.ok := by
  obtain ⟨_, _, _, _, _, _, _, _, _, _, h⟩ := h
  exact h
theorem RC.lt {w : World} {p : Nat} {S : Nat → Prop} {C : Ct} (h : RC w p S C) : p < w.heap.size := by
  obtain ⟨_, _, _, _, _, h, _⟩ := h
  exact (Array.getElem?_eq_some_iff.1 h).1
theorem RC.keep {w w' : World} {p : Nat} {S : Nat → Prop} {C : Ct} (h : RC w p S C) (hk : ∀ k, k < w.heap.size → S k → w'.heap[k]? = w.heap[k]?) : RC w' p S C := by
  obtain ⟨a, ca, b, cb, t, h1, h2, h3, h4, h5, h6⟩ := h
  exact ⟨a, ca, b, cb, t, (hk p (Array.getElem?_eq_some_iff.1 h1).1 h5.1).trans h1, h2.keep (hk a h2.lt h5.2.1), h3.keep (hk b h3.lt h5.2.2), h4, h5, h6⟩
theorem RC.mono {w : World} {p : Nat} {S S' : Nat → Prop} {C : Ct} (h : RC w p S C) (hs : ∀ k, S k → S' k) : RC w p S' C := by
  obtain ⟨a, ca, b, cb, t, h1, h2, h3, h4, h5, h6⟩ := h
  exact ⟨a, ca, b, cb, t, h1, h2, h3, h4, ⟨hs _ h5.1, hs _ h5.2.1, hs _ h5.2.2⟩, h6⟩
theorem RC.below {w w' : World} {p : Nat} {S : Nat → Prop} {C : Ct} (h : RC w p S C) (hb : Below w.heap.size w w') : RC w' p S C := h.keep fun k hk _ => hb.block k hk

set_option maxHeartbeats 1000000 in
theorem crefget_any {w : World} {p : Nat} {S : Nat → Prop} {C : Ct} (H : RC w p S C) (a x : Int) (hx : C.get a = x) :
    Calls Try.prog 36 #[.pointer (some ⟨p, 0, none⟩), .int .i64 a] w fun e w' => e = .returned (.int .i64 x) ∧ w = w' := by
  obtain ⟨g, cg, b, cb, t, h1, h2, h3, h4, h5, h6⟩ := H
  have c0 : w.cell? ⟨p, 0, none⟩ = some (.slice (some ⟨g, 0, none⟩) C.n cg) := by rw [cell_of_row _ _ _ _ _ _ h1]; rfl
  obtain ⟨hc1, hc2⟩ := h2.cap
  unfold maxLen at hc2
  by_cases h0 : 0 ≤ a
  · obtain ⟨k, rfl⟩ := Int.eq_ofNat_of_zero_le h0
    by_cases hk : k < C.n
    · have hgt := Lib.hid (show x = nm C.now k by rw [← hx]; unfold Ct.get; rw [if_pos (by omega)]; rfl)
      obtain ⟨hc, _⟩ := h2.at_ hk
      have e1 : ¬ (k : Int) < 0 := by omega
      have e2 : ¬ (C.n : Int) ≤ (k : Int) := by omega
      have e3 : (k : Int) < (C.n : Int) := by omega
      go_enter Try.func36, Try.ntmps36
      go_wp2
      go_ret
      exact ⟨by rw [hgt.out]; rfl, rfl⟩
    · have hgt := Lib.hid (show x = 0 by rw [← hx]; unfold Ct.get; rw [if_neg (by omega)])
      have e1 : ¬ (k : Int) < 0 := by omega
      have e2 : (C.n : Int) ≤ (k : Int) := by omega
      go_enter Try.func36, Try.ntmps36
      go_wp2
      go_ret
      exact ⟨by rw [hgt.out]; rfl, rfl⟩
  · have hgt := Lib.hid (show x = 0 by rw [← hx]; unfold Ct.get; rw [if_neg (by omega)])
    have e1 : a < 0 := by omega
    go_enter Try.func36, Try.ntmps36
    go_wp2
    go_ret
    exact ⟨by rw [hgt.out]; rfl, rfl⟩
end Go.Proofs.Ytancpkdkfemgfaa
