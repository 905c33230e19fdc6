/- Counts, plain facts: how many are free; all taken one behind the other. -/
import Derived.Test.YtancpkdkfemgfaaCtQ
namespace Go.Proofs.Ytancpkdkfemgfaa
open Go Go.RowKit Go.Proofs

/-- How many sectors below k have a count. -/
def Ct.usedTo (C : Ct) (k : Nat) : Nat := (List.range k).countP fun a => decide (0 < nm C.now a)
theorem Ct.usedTo_next (C : Ct) (k : Nat) : C.usedTo (k + 1) = C.usedTo k + (if 0 < nm C.now k then 1 else 0) := by
  unfold Ct.usedTo
  rw [List.range_succ, List.countP_append, List.countP_singleton]
  simp
theorem Ct.may_eq (C : Ct) (j : Nat) : C.may j = decide (C.first ≤ j ∧ nm C.now j = 0 ∧ nm C.done j = 0) := by
  unfold Ct.may Ct.isFree
  rw [Bool.eq_iff_iff]
  simp
theorem Ct.commit_free {C : Ct} (h : C.ok) (hr : C.res) : ∀ j, j ≤ C.n → C.commit.freeTo j + C.usedTo j = j - C.first := by
  intro j
  induction j with
  | zero => intro _; show 0 + 0 = _; omega
  | succ j ih =>
    intro hj
    have ih := ih (by omega)
    rw [Ct.freeTo_next, Ct.usedTo_next, Ct.may_eq]
    have hb := h.2 j (by omega)
    have e1 : nm C.commit.now j = nm C.now j := rfl
    have e2 : nm C.commit.done j = nm C.now j := rfl
    have e3 : C.commit.first = C.first := rfl
    rw [e1, e2, e3]
    by_cases hf : C.first ≤ j
    · by_cases h0 : nm C.now j = 0
      · rw [if_pos (decide_eq_true ⟨hf, h0, h0⟩), if_neg (by omega)]
        omega
      · rw [if_neg (by rw [decide_eq_true_iff]; exact fun h => h0 h.2.1), if_pos (by omega)]
        omega
    · have h0 := hr j (by omega) (by omega)
      rw [if_neg (by rw [decide_eq_true_iff]; exact fun h => hf h.1), if_neg (by omega)]
      omega

/-- Counts whose rows are known: now a is f a, done a is d a. -/
def Ct.is (C : Ct) (n : Nat) (f d : Nat → Int) : Prop := C.n = n ∧ ∀ a, a < n → nm C.now a = f a ∧ nm C.done a = d a
theorem Ct.is_pick {C : Ct} {n k : Nat} {f d : Nat → Int} (h : C.is n f d) (hk : k < n) (h1 : 2 + 2 * areaN n ≤ k) (h2 : f k = 0 ∧ d k = 0) (h3 : ∀ j, j < k → 2 + 2 * areaN n ≤ j → ¬ (f j = 0 ∧ d j = 0)) : C.pick = some k := by
  obtain ⟨e, hh⟩ := h
  have ef : C.first = 2 + 2 * areaN n := by unfold Ct.first; rw [e]
  refine Ct.pick_some (by omega) ?_ fun j hj => ?_
  · rw [Ct.may_eq, ef, (hh k hk).1, (hh k hk).2]
    exact decide_eq_true ⟨h1, h2⟩
  · rw [Ct.may_eq, ef, (hh j (by omega)).1, (hh j (by omega)).2]
    exact decide_eq_false fun ⟨a, b⟩ => h3 j hj a b
theorem Ct.is_full {C : Ct} {n : Nat} {f d : Nat → Int} (h : C.is n f d) (h3 : ∀ j, j < n → 2 + 2 * areaN n ≤ j → ¬ (f j = 0 ∧ d j = 0)) : C.pick = none := by
  obtain ⟨e, hh⟩ := h
  have ef : C.first = 2 + 2 * areaN n := by unfold Ct.first; rw [e]
  refine Ct.pick_none fun j hj => ?_
  rw [Ct.may_eq, ef, (hh j (by omega)).1, (hh j (by omega)).2]
  exact decide_eq_false fun ⟨a, b⟩ => h3 j (by omega) a b
theorem Ct.is_put {C : Ct} {n : Nat} {f d : Nat → Int} (h : C.is n f d) (k : Nat) (x : Int) : (C.put k x).is n (fun a => if a = k then x else f a) d := by
  obtain ⟨e, hh⟩ := h
  refine ⟨(C.put_n k x).trans e, fun a ha => ⟨?_, (hh a ha).2⟩⟩
  rw [put_now C k x a (by omega), (hh a ha).1]
theorem Ct.is_commit {C : Ct} {n : Nat} {f d : Nat → Int} (h : C.is n f d) : C.commit.is n f f := ⟨h.1, fun a ha => ⟨(h.2 a ha).1, (h.2 a ha).1⟩⟩
theorem Ct.is_zero (n : Nat) : (Ct.zero n).is n (fun _ => 0) (fun _ => 0) := by
  refine ⟨Ct.zero_n n, fun a ha => ?_⟩
  show nm (List.replicate n 0) a = 0 ∧ nm (List.replicate n 0) a = 0
  unfold nm
  simp [ha]
theorem Ct.is_congr {C : Ct} {n : Nat} {f d f' d' : Nat → Int} (h : C.is n f d) (h1 : ∀ a, a < n → f a = f' a ∧ d a = d' a) : C.is n f' d' := ⟨h.1, fun a ha => ⟨(h.2 a ha).1.trans (h1 a ha).1, (h.2 a ha).2.trans (h1 a ha).2⟩⟩
/-- j sectors were taken. -/
def tookN (n j : Nat) : Ct := j.repeat Ct.alloc (Ct.zero n)
def tookF (n j a : Nat) : Int := if 2 + 2 * areaN n ≤ a ∧ a < 2 + 2 * areaN n + j then 1 else 0
theorem took_is (n j : Nat) (h : 2 + 2 * areaN n + j ≤ n) : (tookN n j).is n (tookF n j) (fun _ => 0) := by
  induction j with
  | zero => exact Ct.is_congr (Ct.is_zero n) fun a ha => ⟨by unfold tookF; rw [if_neg (by omega)], rfl⟩
  | succ j ih =>
    have hi := ih (by omega)
    have hp : (tookN n j).pick = some (2 + 2 * areaN n + j) := Ct.is_pick hi (by omega) (by omega) ⟨by unfold tookF; rw [if_neg (by omega)], rfl⟩ fun i h1 h2 hh => by
      have := hh.1
      unfold tookF at this
      rw [if_pos ⟨h2, h1⟩] at this
      omega
    have he : tookN n (j + 1) = (tookN n j).put (2 + 2 * areaN n + j) 1 := (Ct.alloc_some hp).2.2
    rw [he]
    refine Ct.is_congr (Ct.is_put hi _ 1) fun a ha => ⟨?_, rfl⟩
    unfold tookF
    by_cases e : a = 2 + 2 * areaN n + j
    · rw [if_pos e, if_pos (by omega)]
    · rw [if_neg e]
      by_cases h2 : 2 + 2 * areaN n ≤ a ∧ a < 2 + 2 * areaN n + j
      · rw [if_pos h2, if_pos (by omega)]
      · rw [if_neg h2, if_neg (by omega)]
/-- The next one that is taken. -/
theorem took_pick (n j : Nat) (h : 2 + 2 * areaN n + j < n) : (tookN n j).pick = some (2 + 2 * areaN n + j) :=
  Ct.is_pick (took_is n j (by omega)) h (by omega) ⟨by unfold tookF; rw [if_neg (by omega)], rfl⟩ fun i h1 h2 hh => by
    have := hh.1
    unfold tookF at this
    rw [if_pos ⟨h2, h1⟩] at this
    omega
theorem took_full (n j : Nat) (h : 2 + 2 * areaN n + j = n) : (tookN n j).pick = none :=
  Ct.is_full (took_is n j (by omega)) fun i h1 h2 hh => by
    have := hh.1
    unfold tookF at this
    rw [if_pos ⟨h2, by omega⟩] at this
    omega
theorem took_free (n j : Nat) (h : 2 + 2 * areaN n + j ≤ n) : (tookN n j).free = n - (2 + 2 * areaN n) - j := by
  obtain ⟨e, hh⟩ := took_is n j h
  have ef : (tookN n j).first = 2 + 2 * areaN n := by unfold Ct.first; rw [e]
  have key : ∀ k, k ≤ n → (tookN n j).freeTo k = k - (2 + 2 * areaN n) - j := by
    intro k
    induction k with
    | zero => intro _; show 0 = _; omega
    | succ k ih =>
      intro hk
      rw [Ct.freeTo_next, ih (by omega), Ct.may_eq, ef, (hh k (by omega)).1, (hh k (by omega)).2]
      unfold tookF
      by_cases h1 : 2 + 2 * areaN n + j ≤ k
      · rw [if_pos (decide_eq_true ⟨by omega, by rw [if_neg (by omega)], rfl⟩)]
        omega
      · rw [if_neg]
        · omega
        · rw [decide_eq_true_iff]
          rintro ⟨h2, h3, _⟩
          rw [if_pos ⟨h2, by omega⟩] at h3
          omega
  unfold Ct.free
  rw [e]
  exact key n (Nat.le_refl _)
end Go.Proofs.Ytancpkdkfemgfaa
