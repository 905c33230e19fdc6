/- A pool as plain data: Format and Commit: plain facts. A pool's commit as plain data, and a crash within it. A pool as plain data: behind Format and behind a Commit the disk holds what it should: plain facts. A pool as plain data: blocks laid down: plain facts. -/
import Derived.Test.YtgedmodnkiijkaaGreatDoorFn11
import Derived.Test.YtgedmodnkiijkaaGreatDoorFn13
import Derived.Test.YtgedmodnkiijkaaGreatDoorFn18
import Derived.Test.YtgedmodnkiijkaaGreatDoorFn19
namespace Go.Proofs.YtgedmodnkiijkaaGreatDoor
open Go Go.RowKit Go.Proofs

/-! ### Format -/
def noughtB : List UInt8 := List.replicate 256 0
def fmtA (_n : Nat) : List Stp := [.w 0 noughtB, .w 1 noughtB, .fl]
def fmtB (n : Nat) : List Stp := wAt (areaAt n 1) (areaL (Ct.zero n) 1) ++ [.fl]
def fmtS (n : Nat) : Sp := sp0 1 (n : Int) 0
def fmtC (n : Nat) : List Stp := [.w 1 (swB (fmtS n) 1), .fl]
def fmtL (n : Nat) : List Stp := fmtA n ++ (fmtB n ++ fmtC n)
theorem areaL_len (C : Ct) (g : Int) : (areaL C g).length = areaN C.n := by unfold areaL; simp
theorem areaL_at (C : Ct) (g : Int) {i : Nat} (hi : i < areaN C.n) : (areaL C g).getD i [] = blkL (cntH C.n g i) (C.body (i : Int)) := by
  unfold areaL
  rw [List.getD_eq_getElem?_getD, List.getElem?_map, List.getElem?_range hi]
  rfl
theorem areaL_256 {C : Ct} (_h1 : 32 ≤ C.n) (_h2 : C.n ≤ 2048) {g : Int} (_hg : genOk g) {x : List UInt8} (hx : x ∈ areaL C g) : x.length = 256 := by
  unfold areaL at hx
  rw [List.mem_map] at hx
  obtain ⟨i, hi, rfl⟩ := hx
  exact blkL_len _ _ (by rw [Ct.body_len (List.mem_range.1 hi)]; exact Nat.le_refl _)
theorem fmtS_may {n : Nat} (h1 : 32 ≤ n) (h2 : n ≤ 2048) : (fmtS n).may = true := by
  refine may_yes ?_ fun j hj => ?_
  · unfold Sp.hd fmtS sp0
    exact decide_eq_true ⟨by show (1 : Int) ≤ 1; omega, by show (1 : Int) ≤ 1099511627775; omega, by show (32 : Int) ≤ (n : Int); omega, by show (n : Int) ≤ 2048; omega, by show (0 : Int) ≤ 0; omega, by show (0 : Int) ≤ (n : Int) - 1; omega⟩
  · have e : (fmtS n).at_ j = Vl.zero := by
      unfold Sp.at_ fmtS sp0
      rw [List.getD_eq_getElem?_getD, List.getElem?_replicate]
      split <;> rfl
    have hz : Vl.zero.same Vl.zero = true := by simp [Vl.same]
    unfold Sp.ok1
    rw [e, hz, Bool.true_or]
theorem fmt_ok {n : Nat} (h1 : 32 ≤ n) (h2 : n ≤ 2048) : ∀ a ∈ fmtL n, a.ok n := by
  intro a ha
  have hz : noughtB.length = 256 := by unfold noughtB; rw [List.length_replicate]
  unfold fmtL fmtA fmtB fmtC at ha
  rw [List.mem_append, List.mem_append, List.mem_append] at ha
  rcases ha with ha | (ha | ha) | ha
  · simp at ha
    rcases ha with rfl | rfl | rfl
    · exact ⟨by omega, hz⟩
    · exact ⟨by omega, hz⟩
    · trivial
  · cases a with
    | w s x =>
      obtain ⟨i, hi, e1, e2⟩ := wAt_mem ha
      rw [areaL_len, Ct.zero_n] at hi
      have := areaAt_in h1 h2 1 hi
      refine ⟨by omega, ?_⟩
      rw [e2]
      have hi' : i < (areaL (Ct.zero n) 1).length := by rw [areaL_len, Ct.zero_n]; exact hi
      refine areaL_256 (C := Ct.zero n) (by rw [Ct.zero_n]; exact h1) (by rw [Ct.zero_n]; exact h2) (g := 1) ⟨by omega, by omega⟩ ?_
      rw [List.getD_eq_getElem?_getD, List.getElem?_eq_getElem hi']
      exact List.getElem_mem hi'
    | fl => trivial
  · simp at ha
    subst ha
    trivial
  · simp at ha
    rcases ha with rfl | rfl
    · refine ⟨by omega, ?_⟩
      have hok : swOk (fmtS n) 1 = true := by unfold swOk; rw [fmtS_may h1 h2, Bool.true_and]; decide
      unfold swB
      rw [if_pos hok]
      exact blkL_len _ _ (by rw [bodyB_len (fmtS_may h1 h2)]; omega)
    · trivial
theorem fmt_len {n : Nat} : (fmtL n).length = areaN n + 6 := by
  unfold fmtL fmtA fmtB fmtC
  rw [List.length_append, List.length_append, List.length_append, wAt_len, areaL_len, Ct.zero_n]
  simp
  omega
/-- What a disk that was formatted reads as. -/
theorem fmt_reads {n : Nat} (h1 : 32 ≤ n) (h2 : n ≤ 2048) (d : Nat → List UInt8) : lastW 0 (fmtL n) (d 0) = noughtB ∧ lastW 1 (fmtL n) (d 1) = swB (fmtS n) 1 ∧ ∀ i, i < areaN n → lastW (areaAt n 1 + i) (fmtL n) (d (areaAt n 1 + i)) = blkL (cntH n 1 i) ((Ct.zero n).body (i : Int)) := by
  have hsp : ∀ s, s < 2 → spares s (wAt (areaAt n 1) (areaL (Ct.zero n) 1)) := fun s hs => wAt_spares (.inl (by unfold areaAt; omega))
  unfold fmtL fmtA fmtB fmtC
  refine ⟨?_, ?_, fun i hi => ?_⟩
  · rw [lastW_append, lastW_append, lastW_append, lastW_spares (hsp 0 (by omega))]
    rfl
  · rw [lastW_append, lastW_append]
    rfl
  · have hi' : i < (areaL (Ct.zero n) 1).length := by rw [areaL_len, Ct.zero_n]; exact hi
    have h := areaAt_in h1 h2 1 hi
    rw [lastW_append, lastW_append, lastW_append, lastW_wAt _ _ _ _ hi', areaL_at _ _ (by rw [Ct.zero_n]; exact hi), Ct.zero_n]
    exact lastW_spares (s := areaAt n 1 + i) (l := [Stp.w 1 (swB (fmtS n) 1), .fl]) (fun t x hx => by simp at hx; omega) _
end Go.Proofs.YtgedmodnkiijkaaGreatDoor

namespace Go.Proofs.YtgedmodnkiijkaaGreatDoor
open Go Go.RowKit Go.Proofs

/-- A block that was laid down: a node, or bytes of a kind. -/
inductive Bk where
  | node (N : Nd)
  | bytes (k : Int) (l : List UInt8)
/-- How it is written. -/
def Bk.out (b : Bk) (a : Nat) (g : Int) : List UInt8 := match b with
  | .node N => writeB N (a : Int) g
  | .bytes k l => blkL (datH k a l.length g) l
def Bk.fine (b : Bk) : Prop := ∀ (a : Nat) (g : Int), a ≤ 2047 → genOk g → (b.out a g).length = 256
/-- A pool: the superblock as it will be, the counts, the new blocks. -/
structure Pl where
  S : Sp
  C : Ct
  L : Nat → Option Bk
def Pl.g (P : Pl) : Int := P.S.gen + 1
def Pl.newA (P : Pl) (a : Nat) : Option (Nat × List UInt8) := match P.L a with
  | some b => if P.C.get (a : Int) = 0 then none else some (a, b.out a P.g)
  | none => none
def Pl.new (P : Pl) : List (Nat × List UInt8) := (List.range P.C.n).filterMap P.newA
def Pl.sup (P : Pl) : Sp := ⟨P.g, P.S.sectors, P.S.log, P.S.vols, P.S.len⟩
def Pl.blocks (P : Pl) : List Stp := wIn P.new ++ wAt (areaAt P.C.n P.g) (areaL P.C P.g)
def Pl.steps (P : Pl) : List Stp := cmtL P.blocks (P.g % 2).toNat (swB P.sup (P.g % 2))
def Pl.done (P : Pl) : Pl := ⟨P.sup, P.C.commit, fun _ => none⟩
structure Pl.ok (P : Pl) : Prop where
  c : P.C.ok
  res : P.C.res
  may : P.S.may = true
  sec : P.S.sectors = (P.C.n : Int)
  gen : P.S.gen < 1099511627775
  fine : ∀ a b, P.L a = some b → b.fine
theorem Pl.ok.genOk {P : Pl} (h : P.ok) : Go.Proofs.YtgedmodnkiijkaaGreatDoor.genOk P.g := by
  have := (may_parts h.may).1
  exact ⟨by unfold Pl.g; omega, by have := h.gen; unfold Pl.g; omega⟩
theorem Pl.ok.supMay {P : Pl} (h : P.ok) : P.sup.may = true := by
  obtain ⟨h1, h2⟩ := may_parts h.may
  have hg := h.genOk
  refine may_yes (decide_eq_true ⟨hg.1, hg.2, h1.2.2⟩) fun j hj => ?_
  have h3 : P.S.ok1 j = true := by
    have hm := h.may
    unfold Sp.may at hm
    rw [Bool.and_eq_true, List.all_eq_true] at hm
    exact hm.2 j (List.mem_range.2 hj)
  exact h3
theorem new_mem {P : Pl} {a : Nat} {x : List UInt8} : (a, x) ∈ P.new ↔ a < P.C.n ∧ ∃ b, P.L a = some b ∧ ¬ P.C.get (a : Int) = 0 ∧ x = b.out a P.g := by
  unfold Pl.new
  rw [List.mem_filterMap]
  constructor
  · rintro ⟨c, hc, hn⟩
    unfold Pl.newA at hn
    cases hL : P.L c with
    | none => rw [hL] at hn; cases hn
    | some b =>
      rw [hL] at hn
      dsimp only at hn
      split at hn
      · cases hn
      · rename_i hg
        injection hn with hn
        injection hn with e1 e2
        subst e1
        exact ⟨List.mem_range.1 hc, b, hL, hg, e2.symm⟩
  · rintro ⟨ha, b, hL, hg, rfl⟩
    refine ⟨a, List.mem_range.2 ha, ?_⟩
    unfold Pl.newA
    rw [hL]
    dsimp only
    rw [if_neg hg]
theorem new_first {P : Pl} (h : P.ok) {a : Nat} {x : List UInt8} (hx : (a, x) ∈ P.new) : a < P.C.n ∧ P.C.first ≤ a := by
  obtain ⟨h1, b, _, hg, _⟩ := new_mem.1 hx
  have := (Ct.get_res h.res hg).2.2
  rw [Int.toNat_natCast] at this
  exact ⟨h1, this⟩
theorem slot_in (g : Int) : (g % 2).toNat < 2 ∧ ((g % 2).toNat : Int) = g % 2 := by omega
/-- All its steps are within the disk. -/
theorem Pl.steps_ok {P : Pl} (h : P.ok) : ∀ s ∈ P.steps, s.ok P.C.n := by
  intro s hs
  have hn := h.c.1
  have hg := h.genOk
  have hsl := slot_in P.g
  unfold Pl.steps cmtL Pl.blocks at hs
  rw [List.mem_append, List.mem_append] at hs
  rcases hs with (hs | hs) | hs
  · cases s with
    | fl => trivial
    | w a x =>
      unfold wIn at hs
      rw [List.mem_map] at hs
      obtain ⟨⟨a', x'⟩, hb, e⟩ := hs
      injection e with e1 e2
      dsimp only at e1 e2
      subst e1 e2
      obtain ⟨h1, b, hL, _, rfl⟩ := new_mem.1 hb
      exact ⟨h1, h.fine _ _ hL _ _ (by omega) hg⟩
  · cases s with
    | fl => trivial
    | w a x =>
      obtain ⟨i, hi, e1, e2⟩ := wAt_mem hs
      have hi2 := hi
      rw [areaL_len] at hi2
      have := areaAt_in hn.1 hn.2 P.g hi2
      refine ⟨by omega, ?_⟩
      rw [e2, List.getD_eq_getElem?_getD, List.getElem?_eq_getElem hi]
      exact areaL_256 hn.1 hn.2 hg (List.getElem_mem hi)
  · simp at hs
    rcases hs with rfl | rfl | rfl
    · trivial
    · refine ⟨by omega, ?_⟩
      have hok : swOk P.sup (P.g % 2) = true := by unfold swOk; rw [h.supMay, Bool.true_and]; exact decide_eq_true ⟨by omega, by omega⟩
      unfold swB
      rw [if_pos hok]
      exact blkL_len _ _ (by rw [bodyB_len h.supMay]; omega)
    · trivial
theorem Pl.steps_len (P : Pl) : P.steps.length = P.new.length + areaN P.C.n + 3 := by
  unfold Pl.steps
  rw [cmt_len]
  unfold Pl.blocks wIn
  rw [List.length_append, List.length_map, wAt_len, areaL_len]
/-- Which sectors the blocks spare. -/
theorem Pl.blocks_spare {P : Pl} (_h : P.ok) {s : Nat} (h1 : ∀ x, (s, x) ∉ P.new) (h2 : s < areaAt P.C.n P.g ∨ areaAt P.C.n P.g + areaN P.C.n ≤ s) : spares s P.blocks := by
  have a1 : spares s (wIn P.new) := wIn_spares fun b hb e => h1 b.2 (by rw [← e]; exact hb)
  have a2 : spares s (wAt (areaAt P.C.n P.g) (areaL P.C P.g)) := wAt_spares (by rw [areaL_len]; exact h2)
  intro t x hx
  unfold Pl.blocks at hx
  rcases List.mem_append.1 hx with hx | hx
  · exact a1 t x hx
  · exact a2 t x hx
theorem Pl.slot_spare {P : Pl} (h : P.ok) {s : Nat} (hs : s < 2) : spares s P.blocks := by
  refine Pl.blocks_spare h (fun x hx => ?_) (.inl (by unfold areaAt; omega))
  have := (new_first h hx).2
  unfold Ct.first at this
  omega
theorem Pl.blocks_area {P : Pl} (_h : P.ok) {i : Nat} (hi : i < areaN P.C.n) (d : List UInt8) : lastW (areaAt P.C.n P.g + i) P.blocks d = blkL (cntH P.C.n P.g i) (P.C.body (i : Int)) := by
  unfold Pl.blocks
  rw [lastW_append, lastW_wAt _ _ _ _ (by rw [areaL_len]; exact hi), areaL_at _ _ hi]
theorem Pl.blocks_new {P : Pl} (h : P.ok) {a : Nat} {b : Bk} (ha : a < P.C.n) (hL : P.L a = some b) (hg : ¬ P.C.get (a : Int) = 0) (d : List UInt8) : lastW a P.blocks d = b.out a P.g := by
  have hm : (a, b.out a P.g) ∈ P.new := new_mem.2 ⟨ha, b, hL, hg, rfl⟩
  have hn := h.c.1
  have hf := (new_first h hm).2
  have hsp : spares a (wAt (areaAt P.C.n P.g) (areaL P.C P.g)) := wAt_spares (by
    rw [areaL_len]
    right
    by_cases h0 : 0 < areaN P.C.n
    · have := areaAt_in hn.1 hn.2 P.g (i := areaN P.C.n - 1) (by omega)
      unfold Ct.first at hf
      omega
    · have : areaN P.C.n = 0 := by omega
      exfalso
      unfold areaN at this
      omega)
  unfold Pl.blocks
  rw [lastW_append, lastW_wIn a _ _ _ hm fun y hy => by
    obtain ⟨_, b', hL', _, e⟩ := new_mem.1 hy
    rw [hL] at hL'
    injection hL' with e'
    rw [e, ← e'], lastW_spares hsp]
/-- The disk has what was committed last: the superblock S0 of the pool's generation, the counts C0. -/
structure Holds0 (P : Pl) (S0 : Sp) (C0 : Ct) (f : Nat → List UInt8) : Prop where
  may : S0.may = true
  gen : S0.gen = P.S.gen
  sec : S0.sectors = (P.C.n : Int)
  c : C0.ok
  res : C0.res
  n : C0.n = P.C.n
  slot : f (P.S.gen % 2).toNat = swB S0 (P.S.gen % 2)
  other : (srS (f ((P.S.gen + 1) % 2).toNat) ((P.S.gen + 1) % 2)).gen < P.S.gen
  area : ∀ i, i < areaN P.C.n → f (areaAt P.C.n P.S.gen + i) = blkL (cntH P.C.n P.S.gen i) (C0.body (i : Int))
end Go.Proofs.YtgedmodnkiijkaaGreatDoor

namespace Go.Proofs.YtgedmodnkiijkaaGreatDoor
open Go Go.RowKit Go.Proofs

/-- The power is on, and no fuse is set. -/
structure DM.free (D : DM) : Prop where
  on : D.off = false
  unfused : D.fused = false
theorem free_room {D : DM} (h : D.free) (m : Nat) : D.room m = m := by
  unfold DM.room
  rw [h.on, h.unfused]
  rfl
/-- Steps of a disk with power. -/
theorem free_run {D : DM} (h : D.free) {l : List Stp} (hl : ∀ a ∈ l, a.ok D.n) : D.runE l = 0 ∧ (D.runD l).free ∧ (D.runD l).n = D.n ∧ (D.runD l).steps = D.steps + l.length ∧ (D.runD l).mem = D.mem.gos l := by
  obtain ⟨h1, h2, _, h4, h5, _, h7⟩ := run_says l D hl
  have hr := free_room h l.length
  rw [hr, List.take_length] at h1
  rw [hr] at h5
  rcases h7 with ⟨_, j2, j3⟩ | ⟨j1, _, _⟩
  · exact ⟨j2, ⟨j3.trans h.on, h4.trans h.unfused⟩, h2, h5, h1⟩
  · omega
theorem mem_cac (D : DM) (s : Nat) : D.mem.cac s = D.cac s := rfl
theorem mem_dur (D : DM) (s : Nat) : D.mem.dur s = D.dur s := rfl
theorem mem_newest (D : DM) (s : Nat) : D.mem.newest s = D.newest s := rfl
/-- The pool that Format makes. -/
def Pl.fresh (n : Nat) : Pl := ⟨fmtS n, Ct.zero n, fun _ => none⟩
theorem fresh_ok {n : Nat} (h1 : 32 ≤ n) (h2 : n ≤ 2048) : (Pl.fresh n).ok :=
  ⟨Ct.zero_ok h1 h2, Ct.zero_res n, fmtS_may h1 h2, by show (n : Int) = ((Ct.zero n).n : Int); rw [Ct.zero_n], by show (1 : Int) < 1099511627775; omega, fun a b h => by cases h⟩
/-- Nothing is cached, and the disk holds what was committed. -/
structure Sound (D : DM) (P : Pl) (S0 : Sp) (C0 : Ct) : Prop where
  free : D.free
  n : D.n = P.C.n
  set_ : ∀ s, D.cac s = []
  holds : Holds0 P S0 C0 D.dur
theorem fmt_done {D : DM} {n : Nat} (h1 : 32 ≤ n) (h2 : n ≤ 2048) (hn : D.n = n) (h : D.free) : D.runE (fmtL n) = 0 ∧ Sound (D.runD (fmtL n)) (Pl.fresh n) (fmtS n) (Ct.zero n) ∧ (D.runD (fmtL n)).steps = D.steps + (areaN n + 6) := by
  subst hn
  obtain ⟨e0, e1, e2, e3, e4⟩ := free_run h (fmt_ok h1 h2)
  rw [fmt_len] at e3
  have hc : ∀ s, (D.runD (fmtL D.n)).cac s = [] := fun s => by
    rw [← mem_cac, e4]
    unfold fmtL fmtC
    rw [gos_append, gos_append]
    rfl
  have hd : ∀ s, (D.runD (fmtL D.n)).dur s = lastW s (fmtL D.n) (D.newest s) := fun s => by
    have h3 : (D.runD (fmtL D.n)).newest s = (D.runD (fmtL D.n)).dur s := by unfold DM.newest; rw [hc]; rfl
    rw [← h3, ← mem_newest, e4, newest_gos]
    rfl
  obtain ⟨r0, r1, r2⟩ := fmt_reads h1 h2 D.newest
  refine ⟨e0, ⟨e1, e2.trans (Ct.zero_n _).symm, hc, ?_⟩, e3⟩
  refine ⟨fmtS_may h1 h2, rfl, by show (D.n : Int) = ((Ct.zero D.n).n : Int); rw [Ct.zero_n], Ct.zero_ok h1 h2, Ct.zero_res _, rfl, ?_, ?_, fun i hi => ?_⟩
  · show (D.runD (fmtL D.n)).dur 1 = swB (fmtS D.n) 1
    rw [hd, r1]
  · show (srS ((D.runD (fmtL D.n)).dur 0) 0).gen < 1
    rw [hd, r0]
    unfold noughtB
    rw [(sr_no (nought_sr 0)).1]
    decide
  · have hi' : i < areaN D.n := by
      have : (Pl.fresh D.n).C.n = D.n := Ct.zero_n _
      rwa [this] at hi
    show (D.runD (fmtL D.n)).dur (areaAt (Ct.zero D.n).n 1 + i) = blkL (cntH (Ct.zero D.n).n 1 i) _
    rw [Ct.zero_n, hd, r2 i hi']
/-- A commit with power. -/
theorem cmt_sound {D : DM} {P : Pl} (h : P.ok) {S0 : Sp} {C0 : Ct} (hs : Sound D P S0 C0) :
    D.runE P.steps = 0 ∧ Sound (D.runD P.steps) P.done P.sup P.C ∧ (D.runD P.steps).steps = D.steps + (P.new.length + areaN P.C.n + 3) ∧
      (∀ a b, a < P.C.n → P.L a = some b → ¬ P.C.get (a : Int) = 0 → (D.runD P.steps).dur a = b.out a P.g) ∧ (∀ s, P.C.first ≤ s → (∀ x, (s, x) ∉ P.new) → (D.runD P.steps).dur s = D.dur s) := by
  have hn := h.c.1
  have hsl := slot_in P.g
  have hsl0 := slot_in P.S.gen
  have hgm : (P.S.gen % 2).toNat ≠ (P.g % 2).toNat := by unfold Pl.g; omega
  obtain ⟨e0, e1, e2, e3, e4⟩ := free_run hs.free (l := P.steps) (fun a ha => by rw [hs.n]; exact Pl.steps_ok h a ha)
  rw [Pl.steps_len] at e3
  have hcd := fun s => cmt_done P.blocks (P.g % 2).toNat (swB P.sup (P.g % 2)) D.mem s
  have hc : ∀ s, (D.runD P.steps).cac s = [] := fun s => by rw [← mem_cac, e4]; exact (hcd s).1
  have hd : ∀ s, (D.runD P.steps).dur s = if s = (P.g % 2).toNat then swB P.sup (P.g % 2) else lastW s P.blocks (D.dur s) := fun s => by
    have h3 := (hcd s).2
    rw [settled_newest (hs.set_ s)] at h3
    rw [← mem_dur, e4]
    exact h3
  have H0 := hs.holds
  have hfirst : ∀ {s : Nat}, P.C.first ≤ s → s ≠ (P.g % 2).toNat := fun {s} hf => by unfold Ct.first at hf; omega
  refine ⟨e0, ⟨e1, e2.trans hs.n, hc, ?_⟩, e3, fun a b ha hL hg => ?_, fun s hf hnn => ?_⟩
  · refine ⟨h.supMay, rfl, h.sec, h.c, h.res, rfl, ?_, ?_, fun i hi => ?_⟩
    · show (D.runD P.steps).dur (P.g % 2).toNat = swB P.sup (P.g % 2)
      rw [hd, if_pos rfl]
    · show (srS ((D.runD P.steps).dur ((P.g + 1) % 2).toNat) ((P.g + 1) % 2)).gen < P.g
      have e : (P.g + 1) % 2 = P.S.gen % 2 := by unfold Pl.g; omega
      rw [e, hd, if_neg hgm, lastW_spares (Pl.slot_spare h (by omega)), H0.slot]
      have hok : swOk S0 (P.S.gen % 2) = true := by unfold swOk; rw [H0.may, Bool.true_and]; exact decide_eq_true ⟨by omega, by omega⟩
      rw [(sr_written hok).2, H0.gen]
      unfold Pl.g
      omega
    · have hi' : i < areaN P.C.n := hi
      have := areaAt_in hn.1 hn.2 P.g hi'
      show (D.runD P.steps).dur (areaAt P.C.n P.g + i) = blkL (cntH P.C.n P.g i) (P.C.body (i : Int))
      rw [hd, if_neg (by omega), Pl.blocks_area h hi']
  · have hm : (a, b.out a P.g) ∈ P.new := new_mem.2 ⟨ha, b, hL, hg, rfl⟩
    rw [hd, if_neg (hfirst (new_first h hm).2), Pl.blocks_new h ha hL hg]
  · have hin : s < areaAt P.C.n P.g ∨ areaAt P.C.n P.g + areaN P.C.n ≤ s := by
      right
      unfold Ct.first at hf
      unfold areaAt
      rcases (show (P.g % 2).toNat = 0 ∨ (P.g % 2).toNat = 1 by omega) with e | e <;> rw [e] <;> omega
    rw [hd, if_neg (hfirst hf), lastW_spares (Pl.blocks_spare h hnn hin)]
/-- What is sound is mounted as it was committed. -/
theorem sound_mounts {D : DM} {P : Pl} {S0 : Sp} {C0 : Ct} (hs : Sound D P S0 C0) : mtE D.newest false D.n = 0 ∧ mtS D.newest = S0 ∧ mtC D.newest D.n P.S.gen = C0.commit := by
  have H := hs.holds
  have hnw : ∀ s, D.newest s = D.dur s := fun s => by unfold DM.newest; rw [hs.set_]; rfl
  have h3 := mt_says (S := S0) H.may (C := C0) H.c H.res (by rw [H.n]; exact H.sec) (f := D.newest) (by rw [H.gen, hnw]; exact H.slot) (by rw [H.gen, hnw]; exact H.other)
    (fun i hi => by rw [H.n] at hi ⊢; rw [H.gen, hnw]; exact H.area i hi)
  rw [H.n, H.gen] at h3
  rw [hs.n]
  exact h3
end Go.Proofs.YtgedmodnkiijkaaGreatDoor

namespace Go.Proofs.YtgedmodnkiijkaaGreatDoor
open Go Go.RowKit Go.Proofs

theorem Ct.alloc_may {C : Ct} {k : Nat} (h : C.pick = some k) (j : Nat) (hj : j < C.n) : C.alloc.may j = if j = k then false else C.may j := by
  obtain ⟨h1, h2, h3, h4, _⟩ := Ct.pick_in h
  rw [(Ct.alloc_some h).2.2, Ct.may_eq, Ct.may_eq, Ct.first_of_n (C.put_n k 1), put_now C k 1 j hj]
  have e : nm (C.put k 1).done j = nm C.done j := rfl
  rw [e]
  by_cases hk : j = k
  · rw [if_pos hk, if_pos hk]
    exact decide_eq_false (by rintro ⟨_, hh, _⟩; omega)
  · rw [if_neg hk, if_neg hk]
theorem Ct.alloc_freeTo {C : Ct} {k : Nat} (h : C.pick = some k) : ∀ m, m ≤ C.n → C.alloc.freeTo m + (if k < m then 1 else 0) = C.freeTo m := by
  obtain ⟨h1, h2, h3, h4, _⟩ := Ct.pick_in h
  have hmk : C.may k = true := by rw [Ct.may_eq]; exact decide_eq_true ⟨h2, h3, h4⟩
  intro m
  induction m with
  | zero => intro _; rfl
  | succ m ih =>
    intro hm
    have ih := ih (by omega)
    rw [Ct.freeTo_next, Ct.freeTo_next, Ct.alloc_may h m (by omega)]
    by_cases e : m = k
    · subst e
      rw [if_pos rfl, if_neg (by decide), if_pos (by omega), if_pos hmk]
      rw [if_neg (by omega)] at ih
      omega
    · rw [if_neg e]
      by_cases hk : k < m
      · rw [if_pos hk] at ih
        rw [if_pos (show k < m + 1 by omega)]
        omega
      · rw [if_neg hk] at ih
        rw [if_neg (show ¬ k < m + 1 by omega)]
        omega
theorem Ct.alloc_free {C : Ct} {k : Nat} (h : C.pick = some k) : C.alloc.free + 1 = C.free := by
  have hk := (Ct.pick_in h).1
  have := Ct.alloc_freeTo h C.n (Nat.le_refl _)
  rw [if_pos hk] at this
  unfold Ct.free
  rw [C.alloc_n]
  exact this
/-- As long as one is free, one is taken. -/
theorem Ct.pick_some_free {C : Ct} (h : 0 < C.free) : ∃ k, C.pick = some k := by
  cases hp : C.pick with
  | some k => exact ⟨k, rfl⟩
  | none => have := Ct.pick_none_free hp; omega
theorem Ct.zero_free {n : Nat} : (Ct.zero n).free = n - (2 + 2 * areaN n) := by
  have key : ∀ m, m ≤ n → (Ct.zero n).freeTo m = m - (2 + 2 * areaN n) := by
    intro m
    induction m with
    | zero => intro _; show 0 = _; omega
    | succ m ih =>
      intro hm
      have hi := (Ct.is_zero n).2 m (by omega)
      have ef : (Ct.zero n).first = 2 + 2 * areaN n := by unfold Ct.first; rw [Ct.zero_n]
      rw [Ct.freeTo_next, ih (by omega), Ct.may_eq, ef, hi.1, hi.2]
      by_cases h : 2 + 2 * areaN n ≤ m
      · rw [if_pos (decide_eq_true ⟨h, rfl, rfl⟩)]
        omega
      · rw [if_neg (by rw [decide_eq_true_iff]; exact fun hh => h hh.1)]
        omega
  unfold Ct.free
  rw [Ct.zero_n]
  exact key n (Nat.le_refl _)

/-- A block is laid down. -/
def Pl.lay (P : Pl) (b : Bk) : Pl := match P.C.pick with
  | some a => ⟨P.S, P.C.alloc, upd P.L a (some b)⟩
  | none => P
theorem lay_some {P : Pl} {a : Nat} (h : P.C.pick = some a) (b : Bk) : P.lay b = ⟨P.S, P.C.alloc, upd P.L a (some b)⟩ := by unfold Pl.lay; rw [h]
theorem lay_ok {P : Pl} (h : P.ok) {b : Bk} (hb : b.fine) : (P.lay b).ok := by
  cases hp : P.C.pick with
  | none =>
    have : P.lay b = P := by unfold Pl.lay; rw [hp]
    rw [this]; exact h
  | some a =>
    rw [lay_some hp]
    refine ⟨Ct.alloc_ok h.c, Ct.alloc_res h.res, h.may, by show P.S.sectors = (P.C.alloc.n : Int); rw [Ct.alloc_n]; exact h.sec, h.gen, fun c d hc => ?_⟩
    replace hc : upd P.L a (some b) c = some d := hc
    by_cases e : c = a
    · subst e
      rw [upd_same] at hc
      injection hc with hc
      exact hc ▸ hb
    · rw [upd_other _ _ e] at hc
      exact h.fine c d hc
theorem lay_n {P : Pl} (b : Bk) : (P.lay b).C.n = P.C.n := by
  unfold Pl.lay
  split
  · exact P.C.alloc_n
  · rfl
theorem lay_S {P : Pl} (b : Bk) : (P.lay b).S = P.S := by
  unfold Pl.lay
  split <;> rfl
/-- What the disk holds stays. -/
theorem lay_holds {D : DM} {P : Pl} {S0 : Sp} {C0 : Ct} (h : Sound D P S0 C0) (b : Bk) : Sound D (P.lay b) S0 C0 := by
  have e1 := lay_n (P := P) b
  have e2 := lay_S (P := P) b
  refine ⟨h.free, h.n.trans e1.symm, h.set_, ?_⟩
  have H := h.holds
  exact ⟨H.may, by rw [e2]; exact H.gen, by rw [e1]; exact H.sec, H.c, H.res, by rw [e1]; exact H.n, by rw [e2]; exact H.slot, by rw [e2]; exact H.other, by rw [e1, e2]; exact H.area⟩
/-- The counts behind one more block: its own is 1, all others stay. -/
theorem lay_get {P : Pl} {a : Nat} (h : P.C.pick = some a) (b : Bk) (c : Nat) (hc : c < P.C.n) : (P.lay b).C.get (c : Int) = if c = a then 1 else P.C.get (c : Int) := by
  rw [lay_some h]
  show P.C.alloc.get (c : Int) = _
  rw [(Ct.alloc_some h).2.2]
  unfold Ct.get
  rw [C_put_n_get hc, put_now P.C a 1 c hc]
  by_cases e : c = a
  · rw [if_pos e, if_pos e]
  · rw [if_neg e, if_neg e, if_pos (show 0 ≤ (c : Int) ∧ (c : Int) < (P.C.n : Int) by omega), Int.toNat_natCast]
  where
  C_put_n_get {C : Ct} {k : Nat} {x : Int} {c : Nat} (hc : c < C.n) : (if 0 ≤ (c : Int) ∧ (c : Int) < ((C.put k x).n : Int) then nm (C.put k x).now (c : Int).toNat else 0) = nm (C.put k x).now c := by
    rw [C.put_n, if_pos ⟨by omega, by omega⟩, Int.toNat_natCast]
theorem lay_L {P : Pl} {a : Nat} (h : P.C.pick = some a) (b : Bk) (c : Nat) : (P.lay b).L c = if c = a then some b else P.L c := by
  rw [lay_some h]
  rfl
end Go.Proofs.YtgedmodnkiijkaaGreatDoor
