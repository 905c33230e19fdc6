/- Corrupt: a byte is turned in what is sure of a sector, and in each of its cached writes. A disk that is written step by step: plain facts. A commit's steps, and what a crash within them leaves: plain facts. A drive that is on its way through a law: what is kept of the caller's memory, call by call. -/
import Derived.Test.YtipejjgodnnkaaaGreatDoorPy10
import Derived.Test.YtipejjgodnnkaaaGreatDoorPy11
import Derived.Laws.BitsAll
namespace Go.Proofs.YtipejjgodnnkaaaGreatDoor
open Go Go.RowKit Go.Proofs
open Go.ChangeMaps (setBlock)

/-- A sector with one byte turned. Kept shut. -/
def turnB (at_ m : Nat) (l : List UInt8) : List UInt8 := l.set at_ (UInt8.ofNat (byt l at_) ^^^ UInt8.ofNat m)
def DM.turn (D : DM) (s at_ m : Nat) : DM := { D with dur := upd D.dur s (turnB at_ m (D.dur s)), cac := upd D.cac s ((D.cac s).map (turnB at_ m)) }

section
variable {w : World} {bp bd bm clock : Nat} {l : List MapEntry} {v : Nat → Value} {S : Nat → Prop} {D : DM}
end
end Go.Proofs.YtipejjgodnnkaaaGreatDoor

namespace Go.Proofs.YtipejjgodnnkaaaGreatDoor
open Go Go.RowKit Go.Proofs

/-- A step that is asked of a disk. -/
inductive Stp where
  | w (s : Nat) (x : List UInt8)
  | fl
def Stp.ok (n : Nat) : Stp → Prop
  | .w s x => s < n ∧ x.length = 256
  | .fl => True
def DM.does (D : DM) : Stp → DM
  | .w s x => D.writeD s x
  | .fl => D.flushD
def DM.says (D : DM) : Stp → Int
  | .w s x => D.writeE s x
  | .fl => D.err
/-- Steps, one behind the other, up to the first one that fails. -/
def DM.runE (D : DM) : List Stp → Int
  | [] => 0
  | a :: l => if D.says a = 0 then (D.does a).runE l else D.says a
def DM.runD (D : DM) : List Stp → DM
  | [] => D
  | a :: l => if D.says a = 0 then (D.does a).runD l else D.does a
theorem runE_append (a b : List Stp) : ∀ D : DM, D.runE (a ++ b) = if D.runE a = 0 then (D.runD a).runE b else D.runE a := by
  induction a with
  | nil => intro D; simp [DM.runE, DM.runD]
  | cons x a ih =>
    intro D
    show (if D.says x = 0 then (D.does x).runE (a ++ b) else D.says x) = _
    by_cases h : D.says x = 0
    · rw [if_pos h, ih]
      simp only [DM.runE, DM.runD, if_pos h]
    · simp only [DM.runE, if_neg h]
theorem runD_append (a b : List Stp) : ∀ D : DM, D.runD (a ++ b) = if D.runE a = 0 then (D.runD a).runD b else D.runD a := by
  induction a with
  | nil => intro D; simp [DM.runE, DM.runD]
  | cons x a ih =>
    intro D
    show (if D.says x = 0 then (D.does x).runD (a ++ b) else D.does x) = _
    by_cases h : D.says x = 0
    · rw [if_pos h, ih]
      simp only [DM.runE, DM.runD, if_pos h]
    · simp only [DM.runE, DM.runD, if_neg h]

/-- What is sure, and what is cached, with no power in sight. -/
structure Mem where
  dur : Nat → List UInt8
  cac : Nat → List (List UInt8)
def DM.mem (D : DM) : Mem := ⟨D.dur, D.cac⟩
def Mem.newest (M : Mem) (s : Nat) : List UInt8 := (M.cac s).getLastD (M.dur s)
def Mem.go (M : Mem) : Stp → Mem
  | .w s x => ⟨M.dur, upd M.cac s (M.cac s ++ [x])⟩
  | .fl => ⟨M.newest, fun _ => []⟩
def Mem.gos (M : Mem) : List Stp → Mem
  | [] => M
  | a :: l => (M.go a).gos l
theorem gos_append (a b : List Stp) : ∀ M : Mem, M.gos (a ++ b) = (M.gos a).gos b := by
  induction a with
  | nil => intro M; rfl
  | cons x a ih => intro M; exact ih _
/-- One step. -/
theorem does_ok {D : DM} {a : Stp} (ha : a.ok D.n) (h : D.stop = false) : D.says a = 0 ∧ (D.does a).mem = D.mem.go a ∧ (D.does a).n = D.n ∧ (D.does a).cap = D.cap ∧ (D.does a).off = false ∧ (D.does a).fused = D.fused ∧ (D.does a).left = (if D.fused then D.left - 1 else D.left) ∧ (D.does a).steps = D.steps + 1 := by
  have hst : D.stepD = { D with off := false, left := if D.fused then D.left - 1 else D.left, steps := D.steps + 1 } := by unfold DM.stepD; rw [h]; rfl
  cases a with
  | w s x =>
    have hb : D.bad s x = false := by unfold DM.bad; exact decide_eq_false (by rintro (h1 | h1); exact h1 ⟨by omega, by have := ha.1; omega⟩; exact h1 ha.2)
    refine ⟨by show D.writeE s x = 0; unfold DM.writeE DM.err; rw [hb, h]; rfl, ?_⟩
    have : D.does (.w s x) = { D.stepD with cac := upd D.cac s (D.cac s ++ [x]) } := by
      show D.writeD s x = _
      unfold DM.writeD
      rw [hb, h]; rfl
    rw [this, hst]
    exact ⟨rfl, rfl, rfl, rfl, rfl, rfl, rfl⟩
  | fl =>
    refine ⟨by show D.err = 0; unfold DM.err; rw [h]; rfl, ?_⟩
    have : D.does .fl = D.stepD.flush := by
      show D.flushD = _
      unfold DM.flushD
      rw [h]; rfl
    rw [this, hst]
    exact ⟨rfl, rfl, rfl, rfl, rfl, rfl, rfl⟩
theorem does_stop {D : DM} {a : Stp} (ha : a.ok D.n) (h : D.stop = true) : D.says a = 4 ∧ (D.does a).mem = D.mem ∧ (D.does a).n = D.n ∧ (D.does a).cap = D.cap ∧ (D.does a).off = true ∧ (D.does a).fused = D.fused ∧ (D.does a).left = D.left ∧ (D.does a).steps = D.steps := by
  have hst : D.stepD = { D with off := true, left := D.left, steps := D.steps } := by unfold DM.stepD; rw [h]; rfl
  cases a with
  | w s x =>
    have hb : D.bad s x = false := by unfold DM.bad; exact decide_eq_false (by rintro (h1 | h1); exact h1 ⟨by omega, by have := ha.1; omega⟩; exact h1 ha.2)
    refine ⟨by show D.writeE s x = 4; unfold DM.writeE DM.err; rw [hb, h]; rfl, ?_⟩
    have : D.does (.w s x) = D.stepD := by
      show D.writeD s x = _
      unfold DM.writeD
      rw [hb, h]; rfl
    rw [this, hst]
    exact ⟨rfl, rfl, rfl, rfl, rfl, rfl, rfl⟩
  | fl =>
    refine ⟨by show D.err = 4; unfold DM.err; rw [h]; rfl, ?_⟩
    have : D.does .fl = D.stepD := by
      show D.flushD = _
      unfold DM.flushD
      rw [h]; rfl
    rw [this, hst]
    exact ⟨rfl, rfl, rfl, rfl, rfl, rfl, rfl⟩
/-- How many of so many steps are done. -/
def DM.room (D : DM) (m : Nat) : Nat := if D.off then 0 else if D.fused then min D.left m else m
theorem room_le (D : DM) (m : Nat) : D.room m ≤ m := by unfold DM.room; split; omega; split <;> omega
theorem run_says (l : List Stp) : ∀ D : DM, (∀ a ∈ l, a.ok D.n) →
    (D.runD l).mem = D.mem.gos (l.take (D.room l.length)) ∧ (D.runD l).n = D.n ∧ (D.runD l).cap = D.cap ∧ (D.runD l).fused = D.fused ∧ (D.runD l).steps = D.steps + D.room l.length ∧ (D.runD l).left = (if D.fused then D.left - D.room l.length else D.left) ∧
      ((D.room l.length = l.length ∧ D.runE l = 0 ∧ (D.runD l).off = D.off) ∨ (D.room l.length < l.length ∧ D.runE l = 4 ∧ (D.runD l).off = true)) := by
  induction l with
  | nil =>
    intro D _
    have hr : D.room 0 = 0 := Nat.le_zero.1 (room_le D 0)
    show D.mem = D.mem.gos (List.take (D.room 0) []) ∧ _
    rw [show ([] : List Stp).length = 0 from rfl, hr]
    exact ⟨rfl, rfl, rfl, rfl, rfl, by split <;> rfl, .inl ⟨rfl, rfl, rfl⟩⟩
  | cons a l ih =>
    intro D hall
    have ha := hall a (List.mem_cons_self ..)
    cases h : D.stop with
    | true =>
      obtain ⟨e0, e1, e2, e3, e4, e5, e6, e7⟩ := does_stop ha h
      have hr : D.room (a :: l).length = 0 := by
        unfold DM.stop at h
        unfold DM.room
        cases ho : D.off with
        | true => rfl
        | false =>
          rw [ho, Bool.false_or, Bool.and_eq_true, decide_eq_true_iff] at h
          rw [h.1, h.2]; simp
      have hD : D.runD (a :: l) = D.does a := by show (if D.says a = 0 then _ else _) = _; rw [if_neg (by rw [e0]; decide)]
      have hE : D.runE (a :: l) = 4 := by show (if D.says a = 0 then _ else _) = _; rw [if_neg (by rw [e0]; decide), e0]
      rw [hD, hE, hr]
      exact ⟨e1, e2, e3, e5, e7, by rw [e6]; split <;> rfl, .inr ⟨by simp, rfl, e4⟩⟩
    | false =>
      obtain ⟨e0, e1, e2, e3, e4, e5, e6, e7⟩ := does_ok ha h
      have ho : D.off = false := by unfold DM.stop at h; cases ho : D.off with | true => rw [ho] at h; simp at h | false => rfl
      have hl : D.fused = true → 0 < D.left := fun hf => by
        unfold DM.stop at h
        rw [ho, hf] at h
        simp at h
        omega
      have hD : D.runD (a :: l) = (D.does a).runD l := by show (if D.says a = 0 then _ else _) = _; rw [if_pos e0]
      have hE : D.runE (a :: l) = (D.does a).runE l := by show (if D.says a = 0 then _ else _) = _; rw [if_pos e0]
      have hr : D.room (a :: l).length = (D.does a).room l.length + 1 := by
        unfold DM.room
        rw [ho, e4, e5, e6]
        cases hf : D.fused with
        | true => have := hl hf; simp; omega
        | false => simp
      obtain ⟨i1, i2, i3, i4, i5, i6, i7⟩ := ih (D.does a) (fun b hb => by rw [e2]; exact hall b (List.mem_cons_of_mem _ hb))
      rw [hD, hE, hr]
      refine ⟨by rw [i1, e1]; rfl, i2.trans e2, i3.trans e3, i4.trans e5, by rw [i5, e7]; omega, ?_, ?_⟩
      · rw [i6, e5, e6]
        cases hf : D.fused with
        | true => simp; omega
        | false => simp
      · rw [ho]
        rcases i7 with ⟨j1, j2, j3⟩ | ⟨j1, j2, j3⟩
        · exact .inl ⟨by simp [j1], j2, j3.trans e4⟩
        · exact .inr ⟨by simp; exact j1, j2, j3⟩

/-! ### What a sector reads as -/
/-- The last write to a sector. -/
def lastW (s : Nat) : List Stp → List UInt8 → List UInt8
  | [], d => d
  | .w t x :: l, d => lastW s l (if t = s then x else d)
  | .fl :: l, d => lastW s l d
theorem newest_go (M : Mem) (a : Stp) (s : Nat) : (M.go a).newest s = (match a with | .w t x => if t = s then x else M.newest s | .fl => M.newest s) := by
  cases a with
  | w t x =>
    show (upd M.cac t (M.cac t ++ [x]) s).getLastD (M.dur s) = if t = s then x else _
    by_cases h : t = s
    · subst h
      rw [upd_same, if_pos rfl]
      simp [List.getLastD_eq_getLast?]
    · rw [upd_other _ _ (fun e => h e.symm), if_neg h]; rfl
  | fl => rfl
theorem newest_gos (s : Nat) : ∀ (l : List Stp) (M : Mem), (M.gos l).newest s = lastW s l (M.newest s)
  | [], M => rfl
  | .w t x :: l, M => by
    show ((M.go (.w t x)).gos l).newest s = lastW s l (if t = s then x else M.newest s)
    rw [newest_gos s l, newest_go]
  | .fl :: l, M => by
    show ((M.go .fl).gos l).newest s = lastW s l (M.newest s)
    rw [newest_gos s l, newest_go]
theorem lastW_append (s : Nat) : ∀ (a b : List Stp) (d : List UInt8), lastW s (a ++ b) d = lastW s b (lastW s a d)
  | [], _, _ => rfl
  | .w _ _ :: a, b, _ => lastW_append s a b _
  | .fl :: a, b, _ => lastW_append s a b _
/-- The steps write no such sector. -/
def spares (s : Nat) (l : List Stp) : Prop := ∀ t x, Stp.w t x ∈ l → t ≠ s
theorem lastW_spares {s : Nat} : ∀ {l : List Stp} (_ : spares s l) (d : List UInt8), lastW s l d = d
  | [], _, _ => rfl
  | .w t x :: l, h, d => by
    show lastW s l (if t = s then x else d) = d
    rw [if_neg (h t x (List.mem_cons_self ..))]
    exact lastW_spares (fun t x hx => h t x (List.mem_cons_of_mem _ hx)) d
  | .fl :: l, h, d => lastW_spares (l := l) (fun t x hx => h t x (List.mem_cons_of_mem _ hx)) d
/-- What a crash may leave of a sector. -/
def Mem.may (M : Mem) (s : Nat) (x : List UInt8) : Prop := x = M.dur s ∨ x ∈ M.cac s
end Go.Proofs.YtipejjgodnnkaaaGreatDoor

namespace Go.Proofs.YtipejjgodnnkaaaGreatDoor
open Go Go.RowKit Go.Proofs

theorem settled_newest {M : Mem} {s : Nat} (h : M.cac s = []) : M.newest s = M.dur s := by unfold Mem.newest; rw [h]; rfl
/-- Blocks, a flush, the superblock, a flush. -/
def cmtL (A : List Stp) (slot : Nat) (sb : List UInt8) : List Stp := A ++ .fl :: [.w slot sb, .fl]
theorem cmt_len (A : List Stp) (slot : Nat) (sb : List UInt8) : (cmtL A slot sb).length = A.length + 3 := by unfold cmtL; simp
/-- What a commit that was done leaves, sure. -/
theorem cmt_done (A : List Stp) (slot : Nat) (sb : List UInt8) (M : Mem) (s : Nat) : (M.gos (cmtL A slot sb)).cac s = [] ∧ (M.gos (cmtL A slot sb)).dur s = if s = slot then sb else lastW s A (M.newest s) := by
  have e : cmtL A slot sb = (A ++ [.fl, .w slot sb]) ++ [.fl] := by unfold cmtL; simp
  rw [e, gos_append]
  refine ⟨rfl, ?_⟩
  show ((M.gos (A ++ [.fl, .w slot sb])).newest s) = _
  rw [newest_gos, lastW_append]
  show (if slot = s then sb else lastW s A (M.newest s)) = _
  by_cases h : s = slot
  · rw [if_pos h.symm, if_pos h]
  · rw [if_neg (fun e => h e.symm), if_neg h]

/-- Writes of a list of sectors, one behind the other. -/
def wAt (at_ : Nat) (l : List (List UInt8)) : List Stp := (List.range l.length).map fun i => .w (at_ + i) (l.getD i [])
theorem wAt_len (at_ : Nat) (l : List (List UInt8)) : (wAt at_ l).length = l.length := by unfold wAt; simp
theorem wAt_mem {at_ : Nat} {l : List (List UInt8)} {s : Nat} {x : List UInt8} (h : Stp.w s x ∈ wAt at_ l) : ∃ i, i < l.length ∧ s = at_ + i ∧ x = l.getD i [] := by
  unfold wAt at h
  rw [List.mem_map] at h
  obtain ⟨i, hi, e⟩ := h
  injection e with e1 e2
  exact ⟨i, List.mem_range.1 hi, e1.symm, e2.symm⟩
theorem wAt_spares {at_ : Nat} {l : List (List UInt8)} {s : Nat} (h : s < at_ ∨ at_ + l.length ≤ s) : spares s (wAt at_ l) := fun t x hx => by
  obtain ⟨i, hi, e, _⟩ := wAt_mem hx
  omega
theorem lastW_map (g : Nat → List UInt8) (at_ : Nat) : ∀ (k i : Nat) (d : List UInt8), lastW (at_ + i) ((List.range k).map fun i => Stp.w (at_ + i) (g i)) d = if i < k then g i else d
  | 0, i, d => rfl
  | k + 1, i, d => by
    rw [List.range_succ, List.map_append, lastW_append, lastW_map g at_ k i d]
    show (if at_ + k = at_ + i then g k else _) = _
    by_cases h : i = k
    · subst h
      rw [if_pos rfl, if_pos (by omega)]
    · rw [if_neg (by omega)]
      by_cases h2 : i < k
      · rw [if_pos h2, if_pos (by omega)]
      · rw [if_neg h2, if_neg (by omega)]
theorem lastW_wAt (at_ : Nat) (l : List (List UInt8)) (i : Nat) (d : List UInt8) (h : i < l.length) : lastW (at_ + i) (wAt at_ l) d = l.getD i [] := by
  unfold wAt
  rw [lastW_map, if_pos h]
theorem wAt_take (at_ : Nat) (ls : List (List UInt8)) {j : Nat} (hj : j < ls.length) : (wAt at_ ls).take (j + 1) = (wAt at_ ls).take j ++ [.w (at_ + j) (ls.getD j [])] := by
  have hl : j < (wAt at_ ls).length := by rw [wAt_len]; exact hj
  rw [List.take_add_one, List.getElem?_eq_getElem hl]
  have : (wAt at_ ls)[j] = .w (at_ + j) (ls.getD j []) := by simp [wAt]
  rw [this]
  rfl
/-- Writes here and there. -/
def wIn (l : List (Nat × List UInt8)) : List Stp := l.map fun b => .w b.1 b.2
theorem wIn_spares {l : List (Nat × List UInt8)} {s : Nat} (h : ∀ b ∈ l, b.1 ≠ s) : spares s (wIn l) := fun t x hx => by
  unfold wIn at hx
  rw [List.mem_map] at hx
  obtain ⟨b, hb, e⟩ := hx
  injection e with e1 e2
  exact e1 ▸ h b hb
theorem lastW_wIn (s : Nat) (x : List UInt8) : ∀ (l : List (Nat × List UInt8)) (d : List UInt8), (s, x) ∈ l → (∀ y, (s, y) ∈ l → y = x) → lastW s (wIn l) d = x
  | [], _, h, _ => by cases h
  | b :: l, d, h, hu => by
    show lastW s (wIn l) (if b.1 = s then b.2 else d) = x
    by_cases hm : (s, x) ∈ l
    · exact lastW_wIn s x l _ hm fun y hy => hu y (List.mem_cons_of_mem _ hy)
    · have hb : b = (s, x) := by
        rcases List.mem_cons.1 h with e | e
        · exact e.symm
        · exact absurd e hm
      have hsp : spares s (wIn l) := wIn_spares fun c hc e => by
        obtain ⟨c1, c2⟩ := c
        dsimp only at e
        subst e
        have := hu c2 (List.mem_cons_of_mem _ hc)
        subst this
        exact hm hc
      rw [lastW_spares hsp, hb, if_pos rfl]
end Go.Proofs.YtipejjgodnnkaaaGreatDoor

namespace Go.Proofs.YtipejjgodnnkaaaGreatDoor
open Go Go.RowKit Go.Proofs

/-- w' is as w was below B, and in the blocks of X. -/
structure Kp (B : Nat) (X : Nat → Prop) (w w' : World) : Prop where
  os : w'.os = w.os
  tape : w'.tape = w.tape
  output : w'.output = w.output
  size : w.heap.size ≤ w'.heap.size
  block : ∀ k, k < w.heap.size → (k < B ∨ X k) → w'.heap[k]? = w.heap[k]?
section
variable {B : Nat} {X X' : Nat → Prop} {w w' w'' : World}
theorem Kp.refl (B : Nat) (X : Nat → Prop) (w : World) : Kp B X w w := ⟨rfl, rfl, rfl, Nat.le_refl _, fun _ _ _ => rfl⟩
theorem Kp.trans (h : Kp B X w w') (k : Kp B X w' w'') : Kp B X w w'' :=
  ⟨k.os.trans h.os, k.tape.trans h.tape, k.output.trans h.output, Nat.le_trans h.size k.size, fun i hi hx => (k.block i (Nat.lt_of_lt_of_le hi h.size) hx).trans (h.block i hi hx)⟩
theorem Kp.mono (h : Kp B X w w') (hs : ∀ x, x < w.heap.size → X' x → X x) : Kp B X' w w' := ⟨h.os, h.tape, h.output, h.size, fun k hk hx => h.block k hk (hx.imp id (hs k hk))⟩
theorem Kp.below (h : Kp B X w w') (hB : B ≤ w.heap.size) : Below B w w' := ⟨h.os, h.tape, h.output, h.size, fun k hk => h.block k (by omega) (.inl hk)⟩
theorem Kp.sl {A : Option Addr} {n c : Nat} {l : List UInt8} (h : Kp B X w w') (s : Sl w A n c l) (ha : ∀ ad, A = some ad → ad.block < B ∨ X ad.block) : Sl w' A n c l :=
  ⟨s.1, s.2.1, s.2.2.1, fun j u hu => by
    obtain ⟨ad, e, hb, hc⟩ := s.2.2.2 j u hu
    refine ⟨ad, e, by have := h.size; omega, ?_⟩
    exact (World.cell?_of_block (w := w) (w' := w') (a := ad.add j) (by rw [addr_block]; exact h.block _ hb (ha ad e))).trans hc⟩
theorem Kp.cell {p : Addr} (h : Kp B X w w') (hp : p.block < w.heap.size) (hx : p.block < B ∨ X p.block) : w'.cell? p = w.cell? p := World.cell?_of_block (w := w) (h.block p.block hp hx)
end

/-- A slice that is held in X. -/
def Hold (w : World) (X : Nat → Prop) (A : Option Addr) (n : Nat) (l : List UInt8) : Prop := Sl w A n n l ∧ ∀ ad, A = some ad → X ad.block
section
variable {B : Nat} {X X' : Nat → Prop} {w w' : World} {A : Option Addr} {n : Nat} {l : List UInt8}
theorem Hold.below (h : Hold w X A n l) (k : Below w.heap.size w w') : Hold w' X A n l := ⟨h.1.below k, h.2⟩
theorem Hold.more (h : Hold w X A n l) (hx : ∀ k, X k → X' k) : Hold w X' A n l := ⟨h.1, fun ad ha => hx _ (h.2 ad ha)⟩
end

/-- The drive lies from B on, outside of X; X is there. -/
def Run (w : World) (B : Nat) (X : Nat → Prop) (bp : Nat) (D : DM) : Prop := B ≤ w.heap.size ∧ (∀ k, X k → k < w.heap.size) ∧ ∃ S, Drv w bp S D ∧ ∀ k, S k → k < w.heap.size → B ≤ k ∧ ¬ X k
section
variable {B : Nat} {X : Nat → Prop} {w w' : World} {bp : Nat} {D D' : DM}
theorem Drv.keep {S : Nat → Prop} (h : Drv w bp S D) (hk : ∀ k, k < w.heap.size → S k → w'.heap[k]? = w.heap[k]?) : Drv w' bp S D := by
  obtain ⟨bd, bm, l, c, v, L⟩ := h
  exact ⟨bd, bm, l, c, v, L.keep hk⟩
theorem Drv.mono {S S' : Nat → Prop} (h : Drv w bp S D) (hk : ∀ k, k < w.heap.size → S k → S' k) : Drv w bp S' D := by
  obtain ⟨bd, bm, l, c, v, L⟩ := h
  exact ⟨bd, bm, l, c, v, L.mono hk⟩
/-- A call that turned the drive alone. -/
theorem Run.turned {S S' : Nat → Prop} (hB : B ≤ w.heap.size) (hX : ∀ k, X k → k < w.heap.size) (hS : ∀ k, S k → k < w.heap.size → B ≤ k ∧ ¬ X k) (L : Drv w' bp S' D') (T : Turn S w w') (hS' : ∀ k, S' k → S k ∨ w.heap.size ≤ k) : Run w' B X bp D' ∧ Kp B X w w' := by
  have hsz := T.size
  refine ⟨⟨by omega, fun k hk => by have := hX k hk; omega, S', L, fun k hk hlt => ?_⟩, ⟨T.os, T.tape, T.output, hsz, fun k hk hx => T.block k hk fun h => ?_⟩⟩
  · by_cases h1 : k < w.heap.size
    · rcases hS' k hk with h | h
      · exact hS k h h1
      · omega
    · exact ⟨by omega, fun h => by have := hX k h; omega⟩
  · have := hS k h hk
    rcases hx with h1 | h1
    · omega
    · exact this.2 h1
/-- New memory beside it, which X may take. -/
theorem Run.below {X' : Nat → Prop} (h : Run w B X bp D) (hb : Below w.heap.size w w') (hX : ∀ k, X' k → X k ∨ (w.heap.size ≤ k ∧ k < w'.heap.size)) : Run w' B X' bp D := by
  obtain ⟨h1, h2, S, h3, h4⟩ := h
  have hsz := hb.size
  refine ⟨by omega, fun k hk => ?_, fun k => S k ∧ k < w.heap.size, (h3.mono fun k hk h => ⟨h, hk⟩).keep fun k hk _ => hb.block k hk, fun k hk _ => ?_⟩
  · rcases hX k hk with h | h
    · have := h2 k h; omega
    · exact h.2
  · obtain ⟨h5, h6⟩ := h4 k hk.1 hk.2
    refine ⟨h5, fun h => ?_⟩
    rcases hX k h with h | h
    · exact h6 h
    · omega
theorem Run.same (h : Run w B X bp D) (hb : Below w.heap.size w w') : Run w' B X bp D := h.below hb fun _ => .inl
/-- Few steps, few writes. -/
def DM.ok (D : DM) (m : Nat) : Prop := D.steps ≤ m ∧ ∀ k, (D.cac k).length ≤ m
theorem DM.ok.mono {D : DM} {m m' : Nat} (h : D.ok m) (hm : m ≤ m') : D.ok m' := ⟨by have := h.1; omega, fun k => by have := h.2 k; omega⟩
end
end Go.Proofs.YtipejjgodnnkaaaGreatDoor
