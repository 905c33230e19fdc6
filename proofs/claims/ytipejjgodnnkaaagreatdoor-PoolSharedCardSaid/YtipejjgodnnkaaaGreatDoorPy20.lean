/- The code's pool, plain facts: new blocks as they are kept (of generation 0), and dated. Mount, plain facts: what is read may be. -/
import Derived.Test.YtipejjgodnnkaaaGreatDoorPy16
import Derived.Test.YtipejjgodnnkaaaGreatDoorNodeY
namespace Go.Proofs.YtipejjgodnnkaaaGreatDoor
open Go Go.RowKit Go.Proofs

def gen0 (g : Int) : Prop := 0 ≤ g ∧ g ≤ 1099511627775
theorem gen0_of {g : Int} (h : genOk g) : gen0 g := ⟨Int.le_trans (by omega) h.1, h.2⟩
theorem gen0_zero : gen0 0 := ⟨by omega, by omega⟩
/-- A block's header, and its body. -/
def Bk.hd (b : Bk) (a : Nat) (g : Int) : Hd := match b with
  | .node N => N.head (a : Int) g
  | .bytes k l => datH k a l.length g
def Bk.body (b : Bk) : List UInt8 := match b with
  | .node N => N.body
  | .bytes _ l => l
/-- A block that may be sealed, at whatever sector. -/
structure Bk.good (b : Bk) : Prop where
  hd : ∀ (a : Nat) (g : Int), a ≤ 2047 → gen0 g → (b.hd a g).ok = true
  body : b.body.length ≤ 236
  out : ∀ (a : Nat) (g : Int), a ≤ 2047 → gen0 g → b.out a g = blkL (b.hd a g) b.body
theorem Bk.good.len {b : Bk} (h : b.good) {a : Nat} {g : Int} (ha : a ≤ 2047) (hg : gen0 g) : (b.out a g).length = 256 := by
  rw [h.out a g ha hg]
  exact blkL_len _ _ h.body
theorem Bk.good.fine {b : Bk} (h : b.good) : b.fine := fun _ _ ha hg => h.len ha (gen0_of hg)
theorem hd_dated (b : Bk) (a : Nat) (g g' : Int) : b.hd a g' = ⟨(b.hd a g).kind, (b.hd a g).addr, (b.hd a g).count, (b.hd a g).level, g'⟩ := by
  cases b <;> rfl
/-- What is opened of a block that was kept, and sealed with another generation. -/
theorem Bk.good.opens {b : Bk} (h : b.good) {a : Nat} {g : Int} (ha : a ≤ 2047) (hg : gen0 g) : opH (b.out a g) = b.hd a g ∧ opB (b.out a g) = b.body ++ List.replicate (236 - b.body.length) 0 ∧ opE (b.out a g) = 0 := by
  rw [h.out a g ha hg]
  exact blk_open _ _ (h.hd a g ha hg) h.body
theorem Bk.good.dates {b : Bk} (h : b.good) {a : Nat} {g : Int} (ha : a ≤ 2047) (hg : gen0 g) : sealE (b.hd a g) (b.body ++ List.replicate (236 - b.body.length) 0) = 0 ∧ sealB (b.hd a g) (b.body ++ List.replicate (236 - b.body.length) 0) = b.out a g := by
  have hl : (b.body ++ List.replicate (236 - b.body.length) (0 : UInt8)).length ≤ 236 := by
    have := h.body
    rw [List.length_append, List.length_replicate]
    omega
  unfold sealE sealB
  rw [if_pos (h.hd a g ha hg), if_pos (h.hd a g ha hg), if_pos hl, if_pos hl, h.out a g ha hg]
  refine ⟨rfl, (blk_pad _ _ _ (allZ_repl _) ?_).symm⟩
  have := h.body
  rw [List.length_replicate]
  omega
/-- How many bytes a block of a kind may have; none: it is of no such kind. -/
def mostK (k : Int) : Option Nat := if k = 5 then some 128 else if k = 6 then some 236 else none
theorem mostK_some {k : Int} {m : Nat} (h : mostK k = some m) : (k = 5 ∨ k = 6) ∧ m ≤ 236 := by
  unfold mostK at h
  split at h
  · cases h; exact ⟨.inl (by assumption), by omega⟩
  · split at h
    · cases h; exact ⟨.inr (by assumption), by omega⟩
    · cases h
theorem datH_ok {k : Int} {a m : Nat} {g : Int} (hk : k = 5 ∨ k = 6) (ha : a ≤ 2047) (hg : gen0 g) (hm : m ≤ 236) : (datH k a m g).ok = true := by
  refine decide_eq_true ⟨⟨?_, ?_⟩, ⟨by show (0 : Int) ≤ 0; omega, by show (0 : Int) ≤ 8; omega⟩, ⟨?_, ?_⟩, ⟨?_, ?_⟩, hg.1, hg.2⟩
  · show 1 ≤ k; omega
  · show k ≤ 6; omega
  · show (0 : Int) ≤ (a : Int); omega
  · show (a : Int) ≤ 2047; omega
  · show (0 : Int) ≤ (m : Int); omega
  · show (m : Int) ≤ 65535; omega
theorem bytes_good {k : Int} {l : List UInt8} (hk : k = 5 ∨ k = 6) (hl : l.length ≤ 236) : (Bk.bytes k l).good :=
  ⟨fun _ _ ha hg => datH_ok hk ha hg hl, hl, fun _ _ _ _ => rfl⟩
/-- What is read of a block of bytes: as dat_back, of whatever generation. -/
theorem dat_back0 (k : Int) (a most : Nat) (g : Int) (l : List UInt8) (hk : k = 5 ∨ k = 6) (ha : a ≤ 2047) (hg : gen0 g) (hl : l.length ≤ most) (hm : most ≤ 236) : datOk (blkL (datH k a l.length g) l) k a most = true ∧ datL (blkL (datH k a l.length g) l) = l := by
  have hok := datH_ok (m := l.length) hk ha hg (by omega)
  have hl2 : l.length ≤ 236 := by omega
  have e1 : (opH (blkL (datH k a l.length g) l)).count.toNat = l.length := by rw [(blk_open _ _ hok hl2).1]; show ((l.length : Int)).toNat = _; exact Int.toNat_natCast _
  refine ⟨?_, ?_⟩
  · unfold datOk
    rw [blk_check _ _ hok hl2, e1, (blk_open _ _ hok hl2).1, blk_body _ _ hl2, List.drop_left, allZ_repl, Bool.and_true, Bool.and_eq_true]
    exact ⟨decide_eq_true ⟨rfl, rfl⟩, decide_eq_true ⟨rfl, by show ((l.length : Nat) : Int) ≤ _; omega⟩⟩
  · unfold datL
    rw [e1, blk_body _ _ hl2, List.take_left]
/-- The new blocks that count. -/
def Pl.live (P : Pl) (a : Nat) : Option Bk := if P.C.get (a : Int) = 0 then none else P.L a
theorem newA_live (P : Pl) (a : Nat) : P.newA a = (P.live a).map fun b => (a, b.out a P.g) := by
  unfold Pl.newA Pl.live
  split
  · rename_i b hb
    rw [hb]
    split <;> rfl
  · rename_i hb
    rw [hb]
    split <;> rfl
/-- How many steps a drive has done, and how long its rows are, at most. -/
structure DM.tame (D : DM) (m : Nat) : Prop where
  steps : D.steps ≤ m
  rows : ∀ s, (D.cac s).length ≤ m
theorem DM.tame.mono {D : DM} {m m' : Nat} (h : D.tame m) (hm : m ≤ m') : D.tame m' := ⟨Nat.le_trans h.steps hm, fun s => Nat.le_trans (h.rows s) hm⟩
theorem tame_mk0 (n : Nat) : (DM.mk0 n).tame 0 := ⟨Nat.le_refl _, fun _ => Nat.le_refl _⟩
theorem tame_stepD {D : DM} {m : Nat} (h : D.tame m) : D.stepD.tame (m + 1) := by
  refine ⟨?_, fun s => Nat.le_trans (h.rows s) (by omega)⟩
  have := h.steps
  show (if D.stop then D.steps else D.steps + 1) ≤ m + 1
  split <;> omega
theorem tame_write {D : DM} {m : Nat} (h : D.tame m) (s : Int) (x : List UInt8) : (D.writeD s x).tame (m + 1) := by
  unfold DM.writeD
  split
  · exact h.mono (by omega)
  · split
    · exact tame_stepD h
    · refine ⟨(tame_stepD h).steps, fun t => ?_⟩
      show (upd D.cac s.toNat (D.cac s.toNat ++ [x]) t).length ≤ m + 1
      unfold upd
      split
      · have := h.rows s.toNat
        rw [List.length_append]
        simp
        omega
      · exact Nat.le_trans (h.rows t) (by omega)
theorem tame_flush {D : DM} {m : Nat} (h : D.tame m) : D.flushD.tame (m + 1) := by
  unfold DM.flushD
  split
  · exact tame_stepD h
  · exact ⟨(tame_stepD h).steps, fun _ => Nat.zero_le _⟩
theorem tame_does {D : DM} {m : Nat} (h : D.tame m) (a : Stp) : (D.does a).tame (m + 1) := by
  cases a with
  | w s x => exact tame_write h s x
  | fl => exact tame_flush h
theorem tame_run : ∀ (l : List Stp) {D : DM} {m : Nat}, D.tame m → (D.runD l).tame (m + l.length)
  | [], _, _, h => h
  | a :: l, D, m, h => by
    show (if D.says a = 0 then (D.does a).runD l else D.does a).tame (m + (l.length + 1))
    split
    · exact (tame_run l (tame_does h a)).mono (by omega)
    · exact (tame_does h a).mono (by omega)
theorem does_n (D : DM) (a : Stp) : (D.does a).n = D.n := by
  cases a with
  | w s x => show (D.writeD s x).n = D.n; unfold DM.writeD; split; rfl; split <;> rfl
  | fl => show D.flushD.n = D.n; unfold DM.flushD; split <;> rfl
theorem run_n : ∀ (l : List Stp) (D : DM), (D.runD l).n = D.n
  | [], _ => rfl
  | a :: l, D => by
    show (if D.says a = 0 then (D.does a).runD l else D.does a).n = D.n
    split
    · rw [run_n l, does_n]
    · exact does_n D a
theorem runE_snoc (l : List Stp) (a : Stp) (D : DM) : D.runE (l ++ [a]) = if D.runE l = 0 then (D.runD l).says a else D.runE l := by
  rw [runE_append]
  split
  · show (if (D.runD l).says a = 0 then (0 : Int) else (D.runD l).says a) = _
    split
    · rename_i h; exact h.symm
    · rfl
  · rfl
theorem runD_snoc (l : List Stp) (a : Stp) (D : DM) : D.runD (l ++ [a]) = if D.runE l = 0 then (D.runD l).does a else D.runD l := by
  rw [runD_append]
  split
  · show (if (D.runD l).says a = 0 then (D.runD l).does a else (D.runD l).does a) = _
    split <;> rfl
  · rfl
theorem run_stopped {l l' : List Stp} {D : DM} (h : D.runE l ≠ 0) : D.runE (l ++ l') = D.runE l ∧ D.runD (l ++ l') = D.runD l := by
  rw [runE_append, runD_append, if_neg h, if_neg h]
  exact ⟨rfl, rfl⟩
end Go.Proofs.YtipejjgodnnkaaaGreatDoor

namespace Go.Proofs.YtipejjgodnnkaaaGreatDoor
open Go Go.RowKit Go.Proofs

theorem sr_may {l : List UInt8} {slot : Int} (h : srOk l slot = true) : (srS l slot).may = true := by
  rw [(sr_yes h).1]
  unfold srOk at h
  rw [Bool.and_eq_true, Bool.and_eq_true] at h
  have := h.2.1
  unfold swOk at this
  rw [Bool.and_eq_true] at this
  exact this.1
theorem sn_may {a b : List UInt8} (h : snE a b = 0) : (snS a b).may = true := by
  by_cases h1 : srOk a 0 = false ∧ srOk b 1 = false
  · rw [(sn_2 h1.1 h1.2).2.2] at h
    cases h
  · by_cases h2 : (srS a 0).gen < (srS b 1).gen
    · rw [(sn_1 h1 h2).1]
      cases hb : srOk b 1
      · cases ha : srOk a 0
        · exact absurd ⟨ha, hb⟩ h1
        · have hg := (may_parts (sr_may ha)).1.1
          rw [(sr_no hb).1] at h2
          have : Sp.zero.gen = 0 := rfl
          omega
      · exact sr_may hb
    · rw [(sn_0 h1 h2).1]
      cases ha : srOk a 0
      · cases hb : srOk b 1
        · exact absurd ⟨ha, hb⟩ h1
        · have hg := (may_parts (sr_may hb)).1.1
          rw [(sr_no ha).1] at h2
          have : Sp.zero.gen = 0 := rfl
          omega
      · exact sr_may ha
theorem may_fine {S : Sp} (h : S.may = true) : S.fine := fun k hk => by
  have := may_names h k hk
  unfold maxLen
  omega
theorem ld_parts {n : Nat} {ls : List (List UInt8)} (h : loadE (n : Int) ls = 0) : (32 ≤ n ∧ n ≤ 2048) ∧ ls.length = areaN n ∧ ∀ i, i < areaN n → rowGood n (2 + 2 * areaN n) i (nth ls i) := by
  unfold loadE at h
  split at h
  · cases h
  · rename_i h1
    have h1 := Decidable.of_not_not h1
    rw [Int.toNat_natCast] at h
    split at h
    · cases h
    · rename_i h2
      refine ⟨by omega, ?_, ?_⟩
      · exact Classical.byContradiction fun h3 => h2 (.inl h3)
      · exact Classical.byContradiction fun h3 => h2 (.inr h3)
theorem loadC_n (n : Nat) (ls : List (List UInt8)) : (loadC n ls).n = n := allTo_n _ _ _
theorem ld_res {n : Nat} {ls : List (List UInt8)} (h : loadE (n : Int) ls = 0) : (loadC n ls).res := by
  obtain ⟨h1, h2, h3⟩ := ld_parts h
  intro a ha hf
  rw [loadC_n] at ha
  have hf2 : a < 2 + 2 * areaN n := by unfold Ct.first at hf; rw [loadC_n] at hf; exact hf
  have e : nm (loadC n ls).now a = nm (allTo n ls (areaN n)).now a := rfl
  rw [e, allTo_now n ls (areaN n) a ha]
  split
  · rename_i h4
    have hi : a / 118 < areaN n := by omega
    have hr := (h3 _ hi).2 (a % 118) (Nat.mod_lt _ (by omega))
    unfold rowBad at hr
    have hr := of_decide_eq_false hr
    exact Classical.byContradiction fun h5 => hr ⟨h5, .inl (by omega)⟩
  · rfl
end Go.Proofs.YtipejjgodnnkaaaGreatDoor
