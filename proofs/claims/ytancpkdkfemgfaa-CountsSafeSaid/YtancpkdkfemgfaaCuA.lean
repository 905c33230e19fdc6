/- The code's counts as they lie; Get, counted, free, Fresh, Ref, Unref. -/
import Derived.Test.YtancpkdkfemgfaaCtC
import Derived.BigQuiet
namespace Go.Proofs.Ytancpkdkfemgfaa
open Go Go.RowKit Go.Proofs

/-- The code's counts, as they lie in S. -/
def CC (w : World) (p : Nat) (S : Nat → Prop) (C : Ct) : Prop := ∃ (a ca b cb : Nat) (t : TypeId), w.heap[p]? = some (.cells #[.slice (some ⟨a, 0, none⟩) C.n ca, .slice (some ⟨b, 0, none⟩) C.n cb, .int .i64 (areaN C.n : Int), .int .i64 (C.first : Int)] t (0, 0)) ∧ NRow w a C.n ca C.now ∧ NRow w b C.n cb C.done ∧ (a ≠ b ∧ p ≠ a ∧ p ≠ b) ∧ (S p ∧ S a ∧ S b) ∧ C.ok
theorem CC.ok {w : World} {p : Nat} {S : Nat → Prop} {C : Ct} (h : CC w p S C) : C.ok := by
  obtain ⟨_, _, _, _, _, _, _, _, _, _, h⟩ := h
  exact h
theorem CC.lt {w : World} {p : Nat} {S : Nat → Prop} {C : Ct} (h : CC w p S C) : p < w.heap.size := by
  obtain ⟨_, _, _, _, _, h, _⟩ := h
  exact (Array.getElem?_eq_some_iff.1 h).1
theorem CC.at_ {w : World} {p : Nat} {S : Nat → Prop} {C : Ct} (h : CC w p S C) : S p := by
  obtain ⟨_, _, _, _, _, _, _, _, _, h, _⟩ := h
  exact h.1
theorem CC.keep {w w' : World} {p : Nat} {S : Nat → Prop} {C : Ct} (h : CC w p S C) (hk : ∀ k, k < w.heap.size → S k → w'.heap[k]? = w.heap[k]?) : CC w' p S C := by
  obtain ⟨a, ca, b, cb, t, h1, h2, h3, h4, h5, h6⟩ := h
  exact ⟨a, ca, b, cb, t, (hk p (Array.getElem?_eq_some_iff.1 h1).1 h5.1).trans h1, h2.keep (hk a h2.lt h5.2.1), h3.keep (hk b h3.lt h5.2.2), h4, h5, h6⟩
theorem CC.mono {w : World} {p : Nat} {S S' : Nat → Prop} {C : Ct} (h : CC w p S C) (hs : ∀ k, S k → S' k) : CC w p S' C := by
  obtain ⟨a, ca, b, cb, t, h1, h2, h3, h4, h5, h6⟩ := h
  exact ⟨a, ca, b, cb, t, h1, h2, h3, h4, ⟨hs _ h5.1, hs _ h5.2.1, hs _ h5.2.2⟩, h6⟩
theorem CC.below {w w' : World} {p : Nat} {S : Nat → Prop} {C : Ct} (h : CC w p S C) (hb : Below w.heap.size w w') : CC w' p S C := h.keep fun k hk _ => hb.block k hk
/-- Its blocks are there. -/
theorem CC.shrink {w : World} {p : Nat} {S : Nat → Prop} {C : Ct} (h : CC w p S C) : CC w p (fun k => S k ∧ k < w.heap.size) C := by
  obtain ⟨a, ca, b, cb, t, h1, h2, h3, h4, h5, h6⟩ := h
  exact ⟨a, ca, b, cb, t, h1, h2, h3, h4, ⟨⟨h5.1, (Array.getElem?_eq_some_iff.1 h1).1⟩, ⟨h5.2.1, h2.lt⟩, ⟨h5.2.2, h3.lt⟩⟩, h6⟩
theorem RC.shrink {w : World} {p : Nat} {S : Nat → Prop} {C : Ct} (h : RC w p S C) : RC w p (fun k => S k ∧ k < w.heap.size) C := by
  obtain ⟨a, ca, b, cb, t, h1, h2, h3, h4, h5, h6⟩ := h
  exact ⟨a, ca, b, cb, t, h1, h2, h3, h4, ⟨⟨h5.1, (Array.getElem?_eq_some_iff.1 h1).1⟩, ⟨h5.2.1, h2.lt⟩, ⟨h5.2.2, h3.lt⟩⟩, h6⟩

/-- What the counts' cells are. -/
theorem CC.open_ {w : World} {p : Nat} {S : Nat → Prop} {C : Ct} (H : CC w p S C) : ∃ g cg b cb : Nat, w.cell? ⟨p, 0, none⟩ = some (.slice (some ⟨g, 0, none⟩) C.n cg) ∧ w.cell? ⟨p, 1, none⟩ = some (.slice (some ⟨b, 0, none⟩) C.n cb) ∧ w.cell? ⟨p, 2, none⟩ = some (.int .i64 (areaN C.n : Int)) ∧ w.cell? ⟨p, 3, none⟩ = some (.int .i64 (C.first : Int)) ∧
    (C.n ≤ cg ∧ cg ≤ 9223372036854775807) ∧ (C.n ≤ cb ∧ cb ≤ 9223372036854775807) ∧ (∀ k, k < C.n → w.cell? ⟨g, k, none⟩ = some (.int .i64 (nm C.now k)) ∧ w.frozen? ⟨g, k, none⟩ = false) ∧ (∀ k, k < C.n → w.cell? ⟨b, k, none⟩ = some (.int .i64 (nm C.done k))) ∧
    (∀ (k : Nat) (x : Int), k < C.n → 0 ≤ x → x ≤ 65535 → CC (w.setCell ⟨g, k, none⟩ (.int .i64 x)) p S (C.put k x) ∧ Turn S w (w.setCell ⟨g, k, none⟩ (.int .i64 x)) ∧ (w.setCell ⟨g, k, none⟩ (.int .i64 x)).cell? ⟨p, 0, none⟩ = some (.slice (some ⟨g, 0, none⟩) C.n cg) ∧ (w.setCell ⟨g, k, none⟩ (.int .i64 x)).cell? ⟨g, k, none⟩ = some (.int .i64 x)) := by
  obtain ⟨g, cg, b, cb, t, h1, h2, h3, h4, h5, h6⟩ := H
  have k1 := h2.cap
  have k2 := h3.cap
  unfold maxLen at k1 k2
  refine ⟨g, cg, b, cb, by rw [cell_of_row _ _ _ _ _ _ h1]; rfl, by rw [cell_of_row _ _ _ _ _ _ h1]; rfl, by rw [cell_of_row _ _ _ _ _ _ h1]; rfl, by rw [cell_of_row _ _ _ _ _ _ h1]; rfl, ⟨k1.1, by omega⟩, ⟨k2.1, by omega⟩, fun k hk => h2.at_ hk, fun k hk => (h3.at_ hk).1, fun k x hk hx0 hx1 => ?_⟩
  have e : ∀ j, j ≠ g → (w.setCell ⟨g, k, none⟩ (.int .i64 x)).heap[j]? = w.heap[j]? := fun j hj => Below.heap_setCell _ _ _ _ (by show j ≠ g; exact hj)
  have hp := (e p h4.2.1).trans h1
  have hI := h2.set_ k x
  have hf : (C.put k x).first = C.first := by unfold Ct.first; rw [C.put_n]
  refine ⟨⟨g, cg, b, cb, t, ?_, ?_, ?_, h4, h5, C.put_ok h6 k x hx0 hx1⟩, turn_setCell (a := ⟨g, k, none⟩) _ h5.2.1, by rw [cell_of_row _ _ _ _ _ _ hp]; rfl, ?_⟩
  · rw [C.put_n, hf]; exact hp
  · rw [C.put_n]; exact hI
  · rw [C.put_n]; exact h3.keep (e b (Ne.symm h4.1))
  · have := (hI.at_ hk).1
    rw [nm_set_same _ _ _ (by rw [h2.len]; exact hk)] at this
    exact this

set_option maxHeartbeats 1000000 in
theorem cget_any {w : World} {p : Nat} {S : Nat → Prop} {C : Ct} (H : CC w p S C) (a x : Int) (hx : C.get a = x) :
    Calls Try.prog 31 #[.pointer (some ⟨p, 0, none⟩), .int .i64 a] w fun e w' => e = .returned (.int .i64 x) ∧ w = w' := by
  obtain ⟨g, cg, b, cb, c0, c1, c2, c3, k1, k2, hnow, hdone, hput⟩ := H.open_
  have Hnow := Lib.hid hnow
  clear hnow hdone hput c1 c2 c3
  by_cases h0 : 0 ≤ a
  · obtain ⟨k, rfl⟩ := Int.eq_ofNat_of_zero_le h0
    by_cases hk : k < C.n
    · have hgt := Lib.hid (show x = nm C.now k by rw [← hx]; unfold Ct.get; rw [if_pos (by omega)]; rfl)
      obtain ⟨hc, _⟩ := Hnow.out k hk
      have e1 : ¬ (k : Int) < 0 := by omega
      have e2 : ¬ (C.n : Int) ≤ (k : Int) := by omega
      have e3 : (k : Int) < (C.n : Int) := by omega
      go_enter Try.func31, Try.ntmps31
      go_wp2
      go_ret
      exact ⟨by rw [hgt.out]; rfl, rfl⟩
    · have hgt := Lib.hid (show x = 0 by rw [← hx]; unfold Ct.get; rw [if_neg (by omega)])
      have e1 : ¬ (k : Int) < 0 := by omega
      have e2 : (C.n : Int) ≤ (k : Int) := by omega
      go_enter Try.func31, Try.ntmps31
      go_wp2
      go_ret
      exact ⟨by rw [hgt.out]; rfl, rfl⟩
  · have hgt := Lib.hid (show x = 0 by rw [← hx]; unfold Ct.get; rw [if_neg (by omega)])
    have e1 : a < 0 := by omega
    go_enter Try.func31, Try.ntmps31
    go_wp2
    go_ret
    exact ⟨by rw [hgt.out]; rfl, rfl⟩

/-- May a sector have a count? -/
def Ct.counted (C : Ct) (a : Nat) : Bool := decide (C.first ≤ a ∧ a < C.n)
set_option maxHeartbeats 1000000 in
theorem ccounted_any {w : World} {p : Nat} {S : Nat → Prop} {C : Ct} (H : CC w p S C) (a : Nat) (r : Bool) (hr : C.counted a = r) :
    Calls Try.prog 44 #[.pointer (some ⟨p, 0, none⟩), .int .i64 (a : Int)] w fun e w' => e = .returned (.bool r) ∧ w = w' := by
  obtain ⟨g, cg, b, cb, c0, c1, c2, c3, k1, k2, hnow, hdone, hput⟩ := H.open_
  clear hnow hdone hput c1 c2
  obtain ⟨f, hf⟩ : ∃ f, C.first = f := ⟨_, rfl⟩
  have hr2 := Lib.hid (show r = decide (f ≤ a ∧ a < C.n) by rw [← hr, ← hf]; rfl)
  rw [hf] at c3
  clear hf hr
  by_cases h1 : f ≤ a
  · by_cases h2 : a < C.n
    · have e0 := Lib.hid (show r = true by rw [hr2.out]; exact decide_eq_true ⟨h1, h2⟩)
      have e1 : (f : Int) ≤ (a : Int) := by omega
      have e2 : (a : Int) < (C.n : Int) := by omega
      go_enter Try.func44, Try.ntmps44
      go_wp2
      go_ret
      exact ⟨by rw [e0.out]; rfl, rfl⟩
    · have e0 := Lib.hid (show r = false by rw [hr2.out]; exact decide_eq_false fun h => h2 h.2)
      have e1 : (f : Int) ≤ (a : Int) := by omega
      have e2 : ¬ (a : Int) < (C.n : Int) := by omega
      go_enter Try.func44, Try.ntmps44
      go_wp2
      go_ret
      exact ⟨by rw [e0.out]; rfl, rfl⟩
  · have e0 := Lib.hid (show r = false by rw [hr2.out]; exact decide_eq_false fun h => h1 h.1)
    have e1 : ¬ (f : Int) ≤ (a : Int) := by omega
    go_enter Try.func44, Try.ntmps44
    go_wp2
    go_ret
    exact ⟨by rw [e0.out]; rfl, rfl⟩
set_option maxHeartbeats 2000000 in
theorem cfree_any {w : World} {p : Nat} {S : Nat → Prop} {C : Ct} (H : CC w p S C) (k : Nat) (hk : k < C.n) (r : Bool) (hr : C.may k = r) :
    Calls Try.prog 34 #[.pointer (some ⟨p, 0, none⟩), .int .i64 (k : Int)] w fun e w' => e = .returned (.bool r) ∧ w = w' := by
  obtain ⟨g, cg, b, cb, c0, c1, c2, c3, k1, k2, hnow, hdone, hput⟩ := H.open_
  obtain ⟨hc, _⟩ := hnow k hk
  have hd := hdone k hk
  clear hnow hdone hput c2 c3
  obtain ⟨x, hx⟩ : ∃ x, nm C.now k = x := ⟨_, rfl⟩
  obtain ⟨y, hy⟩ : ∃ y, nm C.done k = y := ⟨_, rfl⟩
  have hm := Lib.hid (show r = (decide (C.first ≤ k) && decide (x = 0 ∧ y = 0)) by rw [← hr, ← hx, ← hy]; rfl)
  rw [hx] at hc
  rw [hy] at hd
  clear hx hy hr
  have e3 : (k : Int) < (C.n : Int) := by omega
  have e4 : ¬ (C.n : Int) ≤ (k : Int) := by omega
  by_cases h1 : C.first ≤ k
  · have hcn := Lib.hid (show C.counted k = true from decide_eq_true ⟨h1, hk⟩)
    have hm := Lib.hid (show r = decide (x = 0 ∧ y = 0) by rw [hm.out, decide_eq_true h1, Bool.true_and])
    clear h1
    by_cases hx0 : x = 0
    · have hm := Lib.hid (show r = decide (y = 0) by rw [hm.out]; simp [hx0])
      subst hx0
      go_enter Try.func34, Try.ntmps34
      go_wp2_with fail
      refine (ccounted_any H k true hcn.out).mono ?_
      rintro e w1 ⟨rfl, rfl⟩
      go_wp2
      go_ret
      exact ⟨by rw [hm.out]; first | rfl | (refine congrArg (fun x => Ending.returned (Value.bool x)) ?_; rw [Bool.eq_iff_iff]; simp), rfl⟩
    · have hm := Lib.hid (show r = false by rw [hm.out]; exact decide_eq_false fun h => hx0 h.1)
      have hb : (x == 0) = false := by simpa using hx0
      go_enter Try.func34, Try.ntmps34
      go_wp2_with fail
      refine (ccounted_any H k true hcn.out).mono ?_
      rintro e w1 ⟨rfl, rfl⟩
      go_wp2
      go_ret
      exact ⟨by rw [hm.out]; rfl, rfl⟩
  · have hcn := Lib.hid (show C.counted k = false from decide_eq_false fun h => h1 h.1)
    have hm := Lib.hid (show r = false by rw [hm.out, decide_eq_false h1, Bool.false_and])
    clear h1
    go_enter Try.func34, Try.ntmps34
    go_wp2_with fail
    refine (ccounted_any H k false hcn.out).mono ?_
    rintro e w1 ⟨rfl, rfl⟩
    go_wp2
    go_ret
    exact ⟨by rw [hm.out]; rfl, rfl⟩
end Go.Proofs.Ytancpkdkfemgfaa
