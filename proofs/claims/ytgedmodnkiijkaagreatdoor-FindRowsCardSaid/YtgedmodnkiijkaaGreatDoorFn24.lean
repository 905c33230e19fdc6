/- The code's pool, plain facts: new blocks as they are kept (of generation 0), and dated. The code's pool as it lies. The code's pool: area, headOfCounts, dated, longest, noughts; a disk's steps; blank. The code's pool: settle. Mount, plain facts: what is read may be. -/
import Derived.Test.YtgedmodnkiijkaaGreatDoorFn12
import Derived.Test.YtgedmodnkiijkaaGreatDoorFn13
import Derived.Test.YtgedmodnkiijkaaGreatDoorFn17
import Derived.Test.YtgedmodnkiijkaaGreatDoorFn18
import Derived.Test.YtgedmodnkiijkaaGreatDoorFn19
import Derived.Test.YtgedmodnkiijkaaGreatDoorFn20
import Derived.Test.YtgedmodnkiijkaaGreatDoorFn23
import Derived.Lib.SliceRun
import Derived.Deep.RegionWith
namespace Go.Proofs.YtgedmodnkiijkaaGreatDoor
open Go Go.RowKit Go.Proofs

def gen0 (g : Int) : Prop := 0 ≤ g ∧ g ≤ 1099511627775
theorem gen0_of {g : Int} (h : genOk g) : gen0 g := ⟨Int.le_trans (by omega) h.1, h.2⟩
theorem gen0_zero : gen0 0 := ⟨by omega, by omega⟩
/-- A block's header, and its body. -/
def Bk.hd (b : Bk) (a : Nat) (g : Int) : Hd := match b with
  | .node N => N.head (a : Int) g
  | .bytes k l => datH k a l.length g
def Bk.body (b : Bk) : List UInt8 := match b with
  | .node N => N.body
  | .bytes _ l => l
/-- A block that may be sealed, at whatever sector. -/
structure Bk.good (b : Bk) : Prop where
  hd : ∀ (a : Nat) (g : Int), a ≤ 2047 → gen0 g → (b.hd a g).ok = true
  body : b.body.length ≤ 236
  out : ∀ (a : Nat) (g : Int), a ≤ 2047 → gen0 g → b.out a g = blkL (b.hd a g) b.body
theorem Bk.good.len {b : Bk} (h : b.good) {a : Nat} {g : Int} (ha : a ≤ 2047) (hg : gen0 g) : (b.out a g).length = 256 := by
  rw [h.out a g ha hg]
  exact blkL_len _ _ h.body
theorem Bk.good.fine {b : Bk} (h : b.good) : b.fine := fun _ _ ha hg => h.len ha (gen0_of hg)
theorem hd_dated (b : Bk) (a : Nat) (g g' : Int) : b.hd a g' = ⟨(b.hd a g).kind, (b.hd a g).addr, (b.hd a g).count, (b.hd a g).level, g'⟩ := by
  cases b <;> rfl
/-- What is opened of a block that was kept, and sealed with another generation. -/
theorem Bk.good.opens {b : Bk} (h : b.good) {a : Nat} {g : Int} (ha : a ≤ 2047) (hg : gen0 g) : opH (b.out a g) = b.hd a g ∧ opB (b.out a g) = b.body ++ List.replicate (236 - b.body.length) 0 ∧ opE (b.out a g) = 0 := by
  rw [h.out a g ha hg]
  exact blk_open _ _ (h.hd a g ha hg) h.body
theorem Bk.good.dates {b : Bk} (h : b.good) {a : Nat} {g : Int} (ha : a ≤ 2047) (hg : gen0 g) : sealE (b.hd a g) (b.body ++ List.replicate (236 - b.body.length) 0) = 0 ∧ sealB (b.hd a g) (b.body ++ List.replicate (236 - b.body.length) 0) = b.out a g := by
  have hl : (b.body ++ List.replicate (236 - b.body.length) (0 : UInt8)).length ≤ 236 := by
    have := h.body
    rw [List.length_append, List.length_replicate]
    omega
  unfold sealE sealB
  rw [if_pos (h.hd a g ha hg), if_pos (h.hd a g ha hg), if_pos hl, if_pos hl, h.out a g ha hg]
  refine ⟨rfl, (blk_pad _ _ _ (allZ_repl _) ?_).symm⟩
  have := h.body
  rw [List.length_replicate]
  omega
/-- How many bytes a block of a kind may have; none: it is of no such kind. -/
def mostK (k : Int) : Option Nat := if k = 5 then some 128 else if k = 6 then some 236 else none
theorem mostK_some {k : Int} {m : Nat} (h : mostK k = some m) : (k = 5 ∨ k = 6) ∧ m ≤ 236 := by
  unfold mostK at h
  split at h
  · cases h; exact ⟨.inl (by assumption), by omega⟩
  · split at h
    · cases h; exact ⟨.inr (by assumption), by omega⟩
    · cases h
/-- The new blocks that count. -/
def Pl.live (P : Pl) (a : Nat) : Option Bk := if P.C.get (a : Int) = 0 then none else P.L a
theorem newA_live (P : Pl) (a : Nat) : P.newA a = (P.live a).map fun b => (a, b.out a P.g) := by
  unfold Pl.newA Pl.live
  split
  · rename_i b hb
    rw [hb]
    split <;> rfl
  · rename_i hb
    rw [hb]
    split <;> rfl
/-- How many steps a drive has done, and how long its rows are, at most. -/
structure DM.tame (D : DM) (m : Nat) : Prop where
  steps : D.steps ≤ m
  rows : ∀ s, (D.cac s).length ≤ m
theorem DM.tame.mono {D : DM} {m m' : Nat} (h : D.tame m) (hm : m ≤ m') : D.tame m' := ⟨Nat.le_trans h.steps hm, fun s => Nat.le_trans (h.rows s) hm⟩
theorem tame_mk0 (n : Nat) : (DM.mk0 n).tame 0 := ⟨Nat.le_refl _, fun _ => Nat.le_refl _⟩
theorem tame_stepD {D : DM} {m : Nat} (h : D.tame m) : D.stepD.tame (m + 1) := by
  refine ⟨?_, fun s => Nat.le_trans (h.rows s) (by omega)⟩
  have := h.steps
  show (if D.stop then D.steps else D.steps + 1) ≤ m + 1
  split <;> omega
theorem tame_write {D : DM} {m : Nat} (h : D.tame m) (s : Int) (x : List UInt8) : (D.writeD s x).tame (m + 1) := by
  unfold DM.writeD
  split
  · exact h.mono (by omega)
  · split
    · exact tame_stepD h
    · refine ⟨(tame_stepD h).steps, fun t => ?_⟩
      show (upd D.cac s.toNat (D.cac s.toNat ++ [x]) t).length ≤ m + 1
      unfold upd
      split
      · have := h.rows s.toNat
        rw [List.length_append]
        simp
        omega
      · exact Nat.le_trans (h.rows t) (by omega)
theorem tame_flush {D : DM} {m : Nat} (h : D.tame m) : D.flushD.tame (m + 1) := by
  unfold DM.flushD
  split
  · exact tame_stepD h
  · exact ⟨(tame_stepD h).steps, fun _ => Nat.zero_le _⟩
theorem tame_does {D : DM} {m : Nat} (h : D.tame m) (a : Stp) : (D.does a).tame (m + 1) := by
  cases a with
  | w s x => exact tame_write h s x
  | fl => exact tame_flush h
theorem tame_run : ∀ (l : List Stp) {D : DM} {m : Nat}, D.tame m → (D.runD l).tame (m + l.length)
  | [], _, _, h => h
  | a :: l, D, m, h => by
    show (if D.says a = 0 then (D.does a).runD l else D.does a).tame (m + (l.length + 1))
    split
    · exact (tame_run l (tame_does h a)).mono (by omega)
    · exact (tame_does h a).mono (by omega)
theorem does_n (D : DM) (a : Stp) : (D.does a).n = D.n := by
  cases a with
  | w s x => show (D.writeD s x).n = D.n; unfold DM.writeD; split; rfl; split <;> rfl
  | fl => show D.flushD.n = D.n; unfold DM.flushD; split <;> rfl
theorem run_n : ∀ (l : List Stp) (D : DM), (D.runD l).n = D.n
  | [], _ => rfl
  | a :: l, D => by
    show (if D.says a = 0 then (D.does a).runD l else D.does a).n = D.n
    split
    · rw [run_n l, does_n]
    · exact does_n D a
theorem runE_snoc (l : List Stp) (a : Stp) (D : DM) : D.runE (l ++ [a]) = if D.runE l = 0 then (D.runD l).says a else D.runE l := by
  rw [runE_append]
  split
  · show (if (D.runD l).says a = 0 then (0 : Int) else (D.runD l).says a) = _
    split
    · rename_i h; exact h.symm
    · rfl
  · rfl
theorem runD_snoc (l : List Stp) (a : Stp) (D : DM) : D.runD (l ++ [a]) = if D.runE l = 0 then (D.runD l).does a else D.runD l := by
  rw [runD_append]
  split
  · show (if (D.runD l).says a = 0 then (D.runD l).does a else (D.runD l).does a) = _
    split <;> rfl
  · rfl
theorem run_stopped {l l' : List Stp} {D : DM} (h : D.runE l ≠ 0) : D.runE (l ++ l') = D.runE l ∧ D.runD (l ++ l') = D.runD l := by
  rw [runE_append, runD_append, if_neg h, if_neg h]
  exact ⟨rfl, rfl⟩
end Go.Proofs.YtgedmodnkiijkaaGreatDoor

namespace Go.Proofs.YtgedmodnkiijkaaGreatDoor
open Go Go.RowKit Go.Proofs
open Go.ChangeMaps (setBlock)

/-- The cells of a pool: its disk, its superblock's, its counts' (CCo says which), its map. -/
structure PH (cur : Array Value) (d m : Nat) (S : Sp) : Prop where
  size : cur.size = 41
  disk : cur[0]? = some (.pointer (some ⟨d, 0, none⟩))
  sup : ∀ (j : Nat) x, S.vs[j]? = some x → cur[1 + j]? = some x
  fresh : cur[40]? = some (.map (some m))
/-- A pool's block and its map's. -/
structure PL (w : World) (p d m : Nat) (cur : Array Value) (l : List MapEntry) (clock : Nat) (v : Nat → Value) (Sc S T : Nat → Prop) (P : Pl) : Prop where
  me : w.heap[p]? = some (.cells cur 92 (0, 0))
  ph : PH cur d m P.S
  ct : CCo w p 36 Sc P.C
  map : w.heap[m]? = some (.map l.toArray clock)
  ents : Ents l clock
  look : ∀ a : Nat, getE a l = (P.live a).map fun _ => v a
  keys : ∀ e ∈ l, ∃ a : Nat, a < P.C.n ∧ kI e = a
  row : ∀ a b, P.live a = some b → ∃ g c, v a = .slice (some ⟨g, 0, none⟩) 256 c ∧ Sl w (some ⟨g, 0, none⟩) 256 c (b.out a 0) ∧ ¬ T g
  good : ∀ a b, P.L a = some b → b.good
  inS : S p ∧ S m ∧ (∀ k, Sc k → S k)
  ne : ∀ k, Sc k → k ≠ p ∧ k ≠ m
  sub : ∀ k, S k → T k
  ok : P.ok
  fineS : P.S.fine
/-- A pool on a drive at d: S may turn; the drive's blocks and others' are in T. -/
def Pool (w : World) (p d : Nat) (S T : Nat → Prop) (P : Pl) : Prop := ∃ m cur l clock v Sc, PL w p d m cur l clock v Sc S T P

section
variable {w w' : World} {p d m clock : Nat} {cur : Array Value} {l : List MapEntry} {v : Nat → Value} {Sc S T : Nat → Prop} {P : Pl}
theorem PL.p_m (L : PL w p d m cur l clock v Sc S T P) : p ≠ m := fun e => by
  have h := L.me
  rw [e, L.map] at h; cases h
theorem PL.plt (L : PL w p d m cur l clock v Sc S T P) : p < w.heap.size := lt_of_heap L.me
theorem PL.mlt (L : PL w p d m cur l clock v Sc S T P) : m < w.heap.size := lt_of_heap L.map
/-- Its blocks are as they were, and what its new blocks hold. -/
theorem PL.keep (L : PL w p d m cur l clock v Sc S T P) (hk : ∀ k, k < w.heap.size → S k ∨ ¬ T k → w'.heap[k]? = w.heap[k]?) (hz : w.heap.size ≤ w'.heap.size) : PL w' p d m cur l clock v Sc S T P := by
  have e1 := hk p L.plt (.inl L.inS.1)
  have e2 := hk m L.mlt (.inl L.inS.2.1)
  refine ⟨e1.trans L.me, L.ph, L.ct.keep e1 fun k hk' hs => hk k hk' (.inl (L.inS.2.2 k hs)), e2.trans L.map, L.ents, L.look, L.keys, fun a b h => ?_, L.good, L.inS, L.ne, L.sub, L.ok, L.fineS⟩
  obtain ⟨g, c, e, hs, hT⟩ := L.row a b h
  refine ⟨g, c, e, ?_, hT⟩
  exact stay_slice hs hz fun hg => hk g hg (.inr hT)
  where
  stay_slice {w w' : World} {g n c : Nat} {x : List UInt8} (h : Sl w (some ⟨g, 0, none⟩) n c x) (hz : w.heap.size ≤ w'.heap.size) (hg : g < w.heap.size → w'.heap[g]? = w.heap[g]?) : Sl w' (some ⟨g, 0, none⟩) n c x :=
    ⟨h.1, h.2.1, h.2.2.1, fun j u hu => by
      obtain ⟨ad, e, hb, hc⟩ := h.2.2.2 j u hu
      injection e with e
      subst e
      exact ⟨_, rfl, Nat.lt_of_lt_of_le hb hz, (World.cell?_of_block (a := (⟨g, 0, none⟩ : Addr).add j) (by rw [addr_block]; exact hg hb)).trans hc⟩⟩
/-- Some blocks of T that aren't its own turn. -/
theorem PL.other (L : PL w p d m cur l clock v Sc S T P) {S' : Nat → Prop} (t : Turn S' w w') (hT : ∀ k, S' k → T k) (hS : ∀ k, S' k → ¬ S k) : PL w' p d m cur l clock v Sc S T P :=
  L.keep (fun k hk h => t.block k hk fun hs => h.elim (hS k hs) fun h2 => h2 (hT k hs)) t.size
theorem PL.below (L : PL w p d m cur l clock v Sc S T P) (hb : Below w.heap.size w w') : PL w' p d m cur l clock v Sc S T P := L.keep (fun k hk _ => hb.block k hk) hb.size
theorem PL.mono {S' T' : Nat → Prop} (L : PL w p d m cur l clock v Sc S T P) (hS : ∀ k, k < w.heap.size → S k → S' k) (hT : ∀ k, k < w.heap.size → T' k → T k) (hST : ∀ k, S' k → T' k) : PL w p d m cur l clock v (fun k => Sc k ∧ k < w.heap.size) S' T' P :=
  ⟨L.me, L.ph, L.ct.shrink, L.map, L.ents, L.look, L.keys, fun a b h => by
    obtain ⟨g, c, e, hs, hg⟩ := L.row a b h
    have hlt : g < w.heap.size := by
      have h1 := hs.len
      obtain ⟨ad, e2, hb, _⟩ := hs.2.2.2 0 (bv ((b.out a 0).getD 0 0)) (by rw [List.getElem?_map, List.getD_eq_getElem?_getD, List.getElem?_eq_getElem (by omega)]; rfl)
      injection e2 with e2
      subst e2
      exact hb
    exact ⟨g, c, e, hs, fun h => hg (hT g hlt h)⟩, L.good, ⟨hS p L.plt L.inS.1, hS m L.mlt L.inS.2.1, fun k hk => hS k hk.2 (L.inS.2.2 k hk.1)⟩, fun k hk => L.ne k hk.1, hST, L.ok, L.fineS⟩
theorem PL.c0 (L : PL w p d m cur l clock v Sc S T P) : w.cell? ⟨p, 0, none⟩ = some (.pointer (some ⟨d, 0, none⟩)) := cell_at L.me L.ph.disk
theorem PL.c40 (L : PL w p d m cur l clock v Sc S T P) : w.cell? ⟨p, 40, none⟩ = some (.map (some m)) := cell_at L.me L.ph.fresh
theorem PL.sup (L : PL w p d m cur l clock v Sc S T P) : w.rangeAt p 1 P.S.vs := fun j x hx => cell_at L.me (L.ph.sup j x hx)
theorem PL.fz (L : PL w p d m cur l clock v Sc S T P) (j : Nat) : w.frozen? ⟨p, j, none⟩ = false := by unfold World.frozen?; rw [L.me]; simp
theorem PL.there (L : PL w p d m cur l clock v Sc S T P) {o n : Nat} (h : o + n ≤ 41) : w.there p o n := fun j hj => by
  refine ⟨?_, L.fz _⟩
  rw [cell_of_row _ _ _ _ _ _ L.me, Array.getElem?_eq_getElem (by rw [L.ph.size]; omega)]
  rfl
/-- The counts turn. -/
theorem PL.setC (L : PL w p d m cur l clock v Sc S T P) {C' : Ct} (t : Turn Sc w w') (H : CCo w' p 36 Sc C') (hn : C'.n = P.C.n) (hlive : ∀ a : Nat, C'.get (a : Int) = 0 ↔ P.C.get (a : Int) = 0) (hok : Pl.ok ⟨P.S, C', P.L⟩) : PL w' p d m cur l clock v Sc S T ⟨P.S, C', P.L⟩ := by
  have hp := t.block p L.plt fun h => (L.ne p h).1 rfl
  have hm := t.block m L.mlt fun h => (L.ne m h).2 rfl
  have hl : ∀ a, Pl.live ⟨P.S, C', P.L⟩ a = P.live a := fun a => by
    unfold Pl.live
    by_cases h : P.C.get (a : Int) = 0
    · rw [if_pos h, if_pos ((hlive a).2 h)]
    · rw [if_neg h, if_neg fun h2 => h ((hlive a).1 h2)]
  refine ⟨hp.trans L.me, L.ph, H, hm.trans L.map, L.ents, fun a => by rw [hl a]; exact L.look a, fun e he => by rw [hn]; exact L.keys e he, fun a b h => ?_, L.good, L.inS, L.ne, L.sub, hok, L.fineS⟩
  rw [hl a] at h
  obtain ⟨g, c, e, hs, hT⟩ := L.row a b h
  exact ⟨g, c, e, PL.keep.stay_slice hs t.size fun hg => t.block g hg fun h => hT (L.sub g (L.inS.2.2 g h)), hT⟩
end
theorem Pool.below {w w' : World} {p d : Nat} {S T : Nat → Prop} {P : Pl} (h : Pool w p d S T P) (hb : Below w.heap.size w w') : Pool w' p d S T P := by
  obtain ⟨m, cur, l, clock, v, Sc, L⟩ := h
  exact ⟨m, cur, l, clock, v, Sc, L.below hb⟩
theorem Pool.other {w w' : World} {p d : Nat} {S T : Nat → Prop} {P : Pl} (h : Pool w p d S T P) {S' : Nat → Prop} (t : Turn S' w w') (hT : ∀ k, S' k → T k) (hS : ∀ k, S' k → ¬ S k) : Pool w' p d S T P := by
  obtain ⟨m, cur, l, clock, v, Sc, L⟩ := h
  exact ⟨m, cur, l, clock, v, Sc, L.other t hT hS⟩
theorem Pool.mono {w : World} {p d : Nat} {S T S' T' : Nat → Prop} {P : Pl} (h : Pool w p d S T P) (hS : ∀ k, k < w.heap.size → S k → S' k) (hT : ∀ k, k < w.heap.size → T' k → T k) (hST : ∀ k, S' k → T' k) : Pool w p d S' T' P := by
  obtain ⟨m, cur, l, clock, v, Sc, L⟩ := h
  exact ⟨m, cur, l, clock, v, _, L.mono hS hT hST⟩
theorem Pool.ok {w : World} {p d : Nat} {S T : Nat → Prop} {P : Pl} (h : Pool w p d S T P) : P.ok := by
  obtain ⟨m, cur, l, clock, v, Sc, L⟩ := h
  exact L.ok
theorem Pool.lt {w : World} {p d : Nat} {S T : Nat → Prop} {P : Pl} (h : Pool w p d S T P) : p < w.heap.size := by
  obtain ⟨m, cur, l, clock, v, Sc, L⟩ := h
  exact L.plt
end Go.Proofs.YtgedmodnkiijkaaGreatDoor

namespace Go.Proofs.YtgedmodnkiijkaaGreatDoor
open Go Go.RowKit Go.Proofs

set_option maxRecDepth 100000 in
set_option maxHeartbeats 2000000 in
theorem parea_any (S : Sp) (n : Nat) (hs : S.sectors = (n : Int)) (hn : n ≤ 2048) (hg : 0 ≤ S.gen ∧ S.gen ≤ 1099511627776) (w : World) :
    Calls Tryz.prog 65 #[.agg S.vs.toArray] w fun e w' => e = .returned (.tuple #[.int .i64 (areaAt n S.gen : Int), .int .i64 (areaN n : Int)]) ∧ Below w.heap.size w w' := by
  have H1 := SB.new w S 87
  have b1 : Below w.heap.size w (w.alloc (.cells S.vs.toArray 87)) := (Below.refl _ _).alloc (Nat.le_refl _) _
  have q1 := H1.c1
  have q0 := H1.c0
  rw [hs] at q1
  obtain ⟨g, hgg⟩ : ∃ g, S.gen = g := ⟨_, rfl⟩
  rw [hgg] at q0 hg ⊢
  obtain ⟨hg1, hg2⟩ := hg
  obtain ⟨ar, hm⟩ : ∃ m, areaN n = m := ⟨_, rfl⟩
  have har : ar ≤ 18 := by unfold areaN at hm; omega
  obtain ⟨t, ht⟩ : ∃ t, (g % 2).toNat = t := ⟨_, rfl⟩
  have ht2 : t < 2 := by omega
  have htm : g.tmod 2 = (t : Int) := by rw [Int.tmod_eq_emod_of_nonneg (by omega)]; omega
  obtain ⟨u, hu⟩ : ∃ u, ar * t = u := ⟨_, rfl⟩
  have hu2 : u ≤ 18 := by rw [← hu]; rcases (show t = 0 ∨ t = 1 by omega) with e | e <;> rw [e] <;> omega
  have hmul : (t : Int) * (ar : Int) = (u : Int) := by rw [← hu, Int.mul_comm]; exact (Int.natCast_mul ar t).symm
  obtain ⟨a, ha⟩ : ∃ a, 2 + u = a := ⟨_, rfl⟩
  have ha2 : (2 : Int) + (u : Int) = (a : Int) := by omega
  have ha3 : a ≤ 20 := by omega
  have Hat := Lib.hid (show areaAt n g = a by unfold areaAt; rw [hm, ht, hu, ha])
  have Hm := Lib.hid hm
  rw [hm]
  clear hm ht hu ha hs hgg H1
  go_enter Tryz.func65, Tryz.ntmps65
  go_wp2_with fail
  generalize w.alloc (.cells S.vs.toArray 87) = w1 at b1 q0 q1 ⊢
  refine (xareas_any (n : Int) n rfl (by omega) ar Hm.out w1).mono ?_
  rintro e w2 ⟨rfl, rfl⟩
  go_wp2
  go_ret2
  rw [Hat.out]
  exact ⟨rfl, b1⟩

theorem wp_store_hB {ops : Array Oper} {rest : List Oper} {o : Oper} {a : Act} {w : World} {Q : Exit → Act → World → Prop} (hg : o.guard = none) (x y : Operand) (hop : o.op = Op.store 133 x y)
    (b : Nat) (hx : a.eval x = .pointer (some ⟨b, 0, none⟩)) (h h0 : Hd) (hy : a.eval y = h.v) (H : HB w b h0) (hb : b < w.heap.size)
    (hK : ∀ w', HB w' b h → (∀ B, B ≤ b → Below B w w') → Turn (fun k => k = b) w w' → wpList Tryz.prog ops Q rest (a.put o.dst undef) w') : wpList Tryz.prog ops Q (o :: rest) a w := by
  refine wpList_store_mid hg _ x y hop b 0 h.vs.toArray hx hy H.there (by kernel_rfl) (by simp [Hd.vs, Value.oneCell']) ?_
  have T := turn_setCells (S := fun k => k = b) rfl h.vs 0 w
  refine hK _ ?_ (fun B hB => T.below (fun x hx => by omega) (by omega)) T
  obtain ⟨t, H⟩ := H
  have e := heap_setCells_row b t h.vs 0 w h0.vs H (by show 0 + 5 ≤ 5; omega)
  rw [splice_over h0.vs h.vs rfl] at e
  exact ⟨t, e⟩

set_option maxRecDepth 100000 in
set_option maxHeartbeats 1000000 in
theorem phead_any (a g : Int) (w : World) : Calls Tryz.prog 67 #[.int .i64 a, .int .i64 g] w fun e w' => e = .returned (.agg #[.int .i64 2, .int .i64 a, .int .i64 0, .int .i64 0, .int .i64 g]) ∧ Below w.heap.size w w' := by
  have HZ := HB.zero w 133
  have b0 : Below w.heap.size w (w.alloc (.cells #[.int .i64 0, .int .i64 0, .int .i64 0, .int .i64 0, .int .i64 0] 133)) := (Below.refl _ _).alloc (Nat.le_refl _) _
  go_enter Tryz.func67, Tryz.ntmps67
  go_wp2_with (first
    | (refine wp_store_hd rfl _ _ rfl w.heap.size rfl ⟨2, a, 0, 0, g⟩ _ rfl HZ (by simp) ?_; intro wz hrz hbz Tz)
    | fail)
  refine bodyPost_ret (results_cell1 Tryz.results67 rfl (load_hd hrz)) rfl ?_
  exact ⟨rfl, b0.trans (hbz _ (Nat.le_refl _))⟩

set_option maxRecDepth 100000 in
set_option maxHeartbeats 2000000 in
theorem pdated_any (b : Bk) (hb : b.good) (a : Nat) (ha : a ≤ 2047) (g : Int) (hg : gen0 g) (A : Option Addr) (n c : Nat) (w : World) (hs : Sl w A n c (b.out a 0)) (ht : Tab w) :
    Calls Tryz.prog 64 #[.slice A n c, .int .i64 g] w fun e w' => ∃ q, e = .returned (.slice (some ⟨q, 0, none⟩) 256 256) ∧ Own w' w.heap.size 5 (some ⟨q, 0, none⟩) 256 256 (b.out a g) ∧ Below w.heap.size w w' := by
  obtain ⟨o1, o2, o3⟩ := hb.opens (a := a) (g := 0) ha gen0_zero
  obtain ⟨s1, s2⟩ := hb.dates (a := a) (g := g) ha hg
  have hO := open_any A n c _ w hs ht
  unfold OpenSays at hO
  rw [o1, o2, o3] at hO
  obtain ⟨H1, hH1⟩ : ∃ H, b.hd a g = H := ⟨_, rfl⟩
  obtain ⟨H0, hH0⟩ : ∃ H, b.hd a 0 = H := ⟨_, rfl⟩
  have h01 : H0.set 4 g = H1 := by rw [← hH0, ← hH1]; exact (hd_dated b a 0 g).symm
  have h0g : H0.gen = 0 := by rw [← hH0, hd_dated b a 1 0]
  rw [hH1] at s1 s2
  rw [hH0] at hO
  obtain ⟨bd, hbd⟩ : ∃ bd, b.body ++ List.replicate (236 - b.body.length) 0 = bd := ⟨_, rfl⟩
  rw [hbd] at s1 s2 hO
  have HS1 := Lib.hid s1
  have HS2 := Lib.hid s2
  clear s1 s2 o1 o2 o3 hbd hH0 hH1
  go_enter Tryz.func64, Tryz.ntmps64
  go_wp2_with fail
  refine hO.mono ?_
  rintro e w3 ⟨A3, n3, c3, rfl, own3, hb3⟩
  have ht3 := ht.below hb3 ht.1
  clear hO
  go_wp2_with (first
    | (refine wp_store_hB rfl (.tmp 5) (.tmp 11) rfl w3.heap.size rfl H0 _ rfl (HB.zero w3 _) (by simp) ?_; intro w6 H6 hb6 T6; have q4 := H6.at_ 4; have f4 := H6.fz 4; have H7 := H6.set_ 4 g; rw [h01] at H7; simp only [foff, Hd.fld] at q4 f4 H7; have b37 : Below w3.heap.size w3 (w6.setCell ⟨w3.heap.size, 4, none⟩ (.int .i64 g)) := (((Below.refl _ _).alloc (Nat.le_refl _) _).trans (hb6 _ (Nat.le_refl _))).trans ((Below.refl _ w6).setCell (p := ⟨w3.heap.size, 4, none⟩) (Nat.le_refl _) _); have own7 := own3.sl.below b37; have ht7 := ht3.below b37 ht3.1)
    | (refine wp_load_hd rfl _ rfl _ rfl _ H7 ?_)
    | (go_at_call 66; refine (seal_any H1 A3 n3 c3 bd _ own7 ht7).mono ?_; rw [HS1.out, HS2.out]; rintro e w8 ⟨A8, n8, c8, rfl, own8, hg8, hb8⟩)
    | fail)
  obtain ⟨q, rfl, rfl, rfl⟩ := hg8 (by first | trivial | rfl)
  have b38 := hb3.trans (b37.mono hb3.size)
  go_ret
  exact ⟨q, rfl, own8.less b38.size, b38.trans (hb8.mono b38.size)⟩

/-! ### A disk's steps -/
theorem Drv.below {w w' : World} {d : Nat} {S : Nat → Prop} {D : DM} (L : Drv w d S D) (hb : Below w.heap.size w w') : Drv w' d S D := L.keep fun k hk _ => hb.block k hk
theorem Drv.sectors {w : World} {d : Nat} {S : Nat → Prop} {D : DM} (L : Drv w d S D) : Go.Proofs.YtgedmodnkiijkaaGreatDoor.sectors D.n := by
  obtain ⟨bd, bm, l, clock, v, L⟩ := L
  exact L.n32
theorem Drv.lt {w : World} {d : Nat} {S : Nat → Prop} {D : DM} (L : Drv w d S D) : d < w.heap.size := by
  obtain ⟨bd, bm, l, clock, v, L⟩ := L
  exact lt_of_heap L.me
theorem Drv.at_ {w : World} {d : Nat} {S : Nat → Prop} {D : DM} (L : Drv w d S D) : S d := by
  obtain ⟨bd, bm, l, clock, v, L⟩ := L
  exact L.inS.1
/-- A drive on which a call has gone on since w0: its own blocks are S's, or new. -/
structure Dsk (w0 w : World) (d : Nat) (S : Nat → Prop) (D : DM) : Prop where
  drv : Drv w d (fun k => S k ∨ w0.heap.size ≤ k) D
  turn : Turn S w0 w
theorem Drv.dsk {w : World} {d : Nat} {S : Nat → Prop} {D : DM} (L : Drv w d S D) : Dsk w w d S D := ⟨L.mono fun _ _ h => .inl h, Turn.refl _ _⟩
theorem Dsk.below {w0 w w' : World} {d : Nat} {S : Nat → Prop} {D : DM} (L : Dsk w0 w d S D) (hb : Below w.heap.size w w') : Dsk w0 w' d S D := ⟨L.drv.below hb, L.turn.trans (turn_below hb) fun _ hk => .inl hk⟩
theorem dwrite_any {w0 w : World} {d : Nat} {S : Nat → Prop} {D : DM} (L : Dsk w0 w d S D) {m : Nat} (ht : D.tame m) (hm : m ≤ 900000) (s : Nat) (z : Int) (hz : z = (s : Int)) (A : Option Addr) (n c : Nat) (x : List UInt8) (h : Sl w A n c x) :
    Calls Tryz.prog 63 #[.pointer (some ⟨d, 0, none⟩), .int .i64 z, .slice A n c] w fun e w' => e = .returned (.int .i64 (D.says (.w s x))) ∧ Dsk w0 w' d S (D.does (.w s x)) := by
  subst hz
  refine (write_any L.drv (s : Int) A n c x h (by have := ht.steps; omega) fun k => by have := ht.rows k; omega).mono ?_
  rintro e w' ⟨rfl, R, T⟩
  have hz := L.turn.size
  exact ⟨rfl, R.mono fun k _ hk => hk.elim id fun h => .inr (by omega), L.turn.trans T fun k hk => hk⟩
theorem dflush_any {w0 w : World} {d : Nat} {S : Nat → Prop} {D : DM} (L : Dsk w0 w d S D) {m : Nat} (ht : D.tame m) (hm : m ≤ 900000) :
    Calls Tryz.prog 69 #[.pointer (some ⟨d, 0, none⟩)] w fun e w' => e = .returned (.int .i64 (D.says .fl)) ∧ Dsk w0 w' d S (D.does .fl) := by
  refine (flush_any L.drv (by have := ht.steps; omega) fun k => by have := ht.rows k; omega).mono ?_
  rintro e w' ⟨rfl, R, T⟩
  exact ⟨rfl, R, L.turn.trans T fun k hk => hk⟩
/-- The answer whether all went well. -/
def DM.runB (D : DM) (l : List Stp) : Bool := decide (D.runE l = 0)
set_option maxRecDepth 100000 in
set_option maxHeartbeats 2000000 in
theorem pblank_any {w : World} {d : Nat} {S : Nat → Prop} {D : DM} (L : Drv w d S D) {m : Nat} (ht : D.tame m) (hm : m ≤ 800000) :
    Calls Tryz.prog 50 #[.pointer (some ⟨d, 0, none⟩)] w fun e w' => e = .returned (.bool (D.runB (fmtA D.n))) ∧ Dsk w w' d S (D.runD (fmtA D.n)) := by
  have L0 := L.dsk
  have hA : fmtA D.n = [.w 0 noughtB, .w 1 noughtB] ++ [.fl] := rfl
  have hw : ∀ j, j < 2 → ([.w 0 noughtB, .w 1 noughtB] : List Stp).take (j + 1) = ([.w 0 noughtB, .w 1 noughtB] : List Stp).take j ++ [.w j noughtB] := fun j hj => by
    rcases (show j = 0 ∨ j = 1 by omega) with e | e <;> subst e <;> rfl
  obtain ⟨W2, hW2⟩ : ∃ W : List Stp, [.w 0 noughtB, .w 1 noughtB] = W := ⟨_, rfl⟩
  rw [hW2] at hA hw
  have hl2 : W2.length = 2 := by rw [← hW2]; rfl
  have HA := Lib.hid hA
  have HW := Lib.hid hw
  have HL := Lib.hid hl2
  clear hA hw hW2 hl2
  go_enter Tryz.func50, Tryz.ntmps50
  go_wp2_with fail
  go_loopw [3, 4] (fun _ i wr => ∃ j : Nat, j ≤ 2 ∧ i = .int .i64 (j : Int) ∧ D.runE (W2.take j) = 0 ∧ Dsk w wr d S (D.runD (W2.take j))) (fun _ i _ => 2 - (intOf i).toNat)
  case atStart => exact ⟨0, by omega, rfl, rfl, L0⟩
  case round =>
    clear L0
    obtain ⟨j, hj, rfl, hE, L1⟩ := hrel
    have htj := tame_run (W2.take j) ht
    have hlen : (W2.take j).length ≤ 2 := by rw [List.length_take]; omega
    obtain ⟨D1, hD1⟩ : ∃ D1, D.runD (W2.take j) = D1 := ⟨_, rfl⟩
    rw [hD1] at L1 htj
    have HD1 := Lib.hid hD1
    have HE := Lib.hid hE
    clear hD1 hE
    by_cases hlt : j < 2
    · have e3 : (j : Int) < 2 := by omega
      have Hnx := Lib.hid (HW.out j hlt)
      have hE1 := Lib.hid (show D.runE (W2.take (j + 1)) = D1.says (.w j noughtB) by rw [Hnx.out, runE_snoc, if_pos HE.out, HD1.out])
      have hD2 := Lib.hid (show D.runD (W2.take (j + 1)) = D1.does (.w j noughtB) by rw [Hnx.out, runD_snoc, if_pos HE.out, HD1.out])
      obtain ⟨E, hEE⟩ : ∃ E, D1.says (.w j noughtB) = E := ⟨_, rfl⟩
      have HEE := Lib.hid hEE
      clear hEE
      by_cases h0 : E = 0
      · have nb : (E != 0) = false := by simpa using h0
        have H0 := Lib.hid h0
        clear h0
        go_wp2_with (first
          | (at_make; refine wp_make_r _ T22 rfl _ _ rfl _ _ 256 rfl rfl (by omega) ?_; intro w3 own3 hb3; have L3 := L1.below hb3)
          | (go_at_call 63; refine (dwrite_any L3 htj (by omega) j _ rfl _ 256 256 noughtB own3.sl).mono ?_; rw [HEE.out]; rintro e w4 ⟨rfl, L4⟩)
          | fail)
        exact ⟨⟨j + 1, by omega, by go_num, hE1.out.trans (HEE.out.trans H0.out), by rw [hD2.out]; exact L4⟩, by simp [intOf]; omega⟩
      · have nb : (E != 0) = true := by simpa using h0
        have hstop : D.runE (W2.take (j + 1)) ≠ 0 := fun h => h0 (HEE.out.symm.trans (hE1.out.symm.trans h))
        have hall : fmtA D.n = W2.take (j + 1) ++ (W2.drop (j + 1) ++ [.fl]) := by rw [HA.out, ← List.append_assoc, List.take_append_drop]
        obtain ⟨r1, r2⟩ := run_stopped (l' := W2.drop (j + 1) ++ [.fl]) hstop
        have R1 := Lib.hid (show D.runB (fmtA D.n) = false by unfold DM.runB; rw [hall, r1]; exact decide_eq_false hstop)
        have R2 := Lib.hid (show D.runD (fmtA D.n) = D1.does (.w j noughtB) by rw [hall, r2, hD2.out])
        clear hall r1 r2 hstop h0
        go_wp2_with (first
          | (at_make; refine wp_make_r _ T22 rfl _ _ rfl _ _ 256 rfl rfl (by omega) ?_; intro w3 own3 hb3; have L3 := L1.below hb3)
          | (go_at_call 63; refine (dwrite_any L3 htj (by omega) j _ rfl _ 256 256 noughtB own3.sl).mono ?_; rw [HEE.out]; rintro e w4 ⟨rfl, L4⟩)
          | fail)
        go_ret
        exact ⟨by rw [R1.out]; rfl, by rw [R2.out]; exact L4⟩
    · have hj2 : j = 2 := by omega
      subst hj2
      have hfull : W2.take 2 = W2 := List.take_of_length_le (by rw [HL.out]; exact Nat.le_refl _)
      have R1 := Lib.hid (show D.runB (fmtA D.n) = decide (D1.says .fl = 0) by unfold DM.runB; rw [HA.out, runE_snoc, ← hfull, if_pos HE.out, HD1.out])
      have R2 := Lib.hid (show D.runD (fmtA D.n) = D1.does .fl by rw [HA.out, runD_snoc, ← hfull, if_pos HE.out, HD1.out])
      clear hfull
      go_wp2_with (first
        | (go_at_call 69; refine (dflush_any L1 htj (by omega)).mono ?_; rintro e w4 ⟨rfl, L4⟩)
        | fail)
      go_ret
      exact ⟨by rw [R1.out]; rfl, by rw [R2.out]; exact L4⟩
end Go.Proofs.YtgedmodnkiijkaaGreatDoor

namespace Go.Proofs.YtgedmodnkiijkaaGreatDoor
open Go Go.RowKit Go.Proofs

theorem Tab.turned {w w' : World} {S : Nat → Prop} (h : Tab w) (T : Turn S w w') (hS : ¬ S 1) : Tab w' :=
  ⟨Nat.lt_of_lt_of_le h.1 T.size, fun k hk => (World.cell?_of_block (a := ⟨1, k, none⟩) (T.block _ h.1 hS)).trans (h.2 k hk)⟩
theorem Drv.tight {w : World} {d : Nat} {S : Nat → Prop} {D : DM} (L : Drv w d S D) : Drv w d (fun k => S k ∧ k < w.heap.size) D := L.mono fun _ h1 h2 => ⟨h2, h1⟩
/-- A drive's turning within a call that began earlier. -/
theorem Dsk.from {w0 w1 w : World} {d : Nat} {S : Nat → Prop} {D : DM} (L : Dsk w1 w d (fun k => S k ∧ k < w0.heap.size) D) (b : Below w0.heap.size w0 w1) : Dsk w0 w d S D :=
  ⟨L.drv.mono fun k _ hk => hk.elim (fun h => .inl h.1) fun h => .inr (by have := b.size; omega), (turn_below b |>.mono (S' := S) fun _ h => h).trans L.turn fun _ hk => .inl hk.1⟩
/-- What settle does. -/
def setL (C : Ct) (S : Sp) : List Stp := cmtL (wAt (areaAt C.n S.gen) (areaL C S.gen)) (S.gen % 2).toNat (swB S (S.gen % 2))
theorem run_cons (D : DM) (a : Stp) (l : List Stp) : D.runE (a :: l) = (if D.says a = 0 then (D.does a).runE l else D.says a) ∧ D.runD (a :: l) = (if D.says a = 0 then (D.does a).runD l else D.does a) := ⟨rfl, rfl⟩
theorem cmt_runs {D : DM} {A : List Stp} (slot : Nat) (sb : List UInt8) (h : D.runE A = 0) : D.runE (cmtL A slot sb) = (D.runD A).runE [.fl, .w slot sb, .fl] ∧ D.runD (cmtL A slot sb) = (D.runD A).runD [.fl, .w slot sb, .fl] := by
  unfold cmtL
  rw [runE_append, runD_append, if_pos h, if_pos h]
  exact ⟨rfl, rfl⟩
theorem one_run (D : DM) (a : Stp) : D.runE [a] = D.says a ∧ D.runD [a] = D.does a := by
  rw [(run_cons D a []).1, (run_cons D a []).2]
  constructor
  · split
    · rename_i h; exact h.symm
    · rfl
  · split <;> rfl

attribute [local go_sem ↓] ldS_shut
set_option maxRecDepth 100000 in
set_option maxHeartbeats 8000000 in
theorem psettle_any {w : World} {d pc o : Nat} {S0 Sc : Nat → Prop} {D : DM} {C : Ct} (L : Drv w d S0 D) (H : CCo w pc o Sc C) (hsep : ∀ k, S0 k → k ≠ pc ∧ ¬ Sc k) (hG : ¬ S0 1) (S : Sp) (hmay : S.may = true) (hfine : S.fine) (hsec : S.sectors = (C.n : Int)) (ht : Tab w) {m : Nat} (htm : D.tame m) (hm : m ≤ 800000) :
    Calls Tryz.prog 36 #[.pointer (some ⟨d, 0, none⟩), .agg S.vs.toArray, .pointer (some ⟨pc, o, none⟩)] w fun e w' => e = .returned (.bool (D.runB (setL C S))) ∧ Dsk w w' d S0 (D.runD (setL C S)) := by
  have hok := H.ok.1
  have hgen := (may_parts hmay).1
  have hg : genOk S.gen := ⟨hgen.1, hgen.2.1⟩
  -- the parts
  obtain ⟨g, hgg⟩ : ∃ g, S.gen = g := ⟨_, rfl⟩
  rw [hgg] at hg
  obtain ⟨ar, har⟩ : ∃ m, areaN C.n = m := ⟨_, rfl⟩
  have har2 : ar ≤ 18 := by unfold areaN at har; omega
  obtain ⟨t, htt⟩ : ∃ t, (g % 2).toNat = t := ⟨_, rfl⟩
  have hgmod : g % 2 = (t : Int) := by have := hg.1; omega
  have ht2 : t < 2 := by omega
  have htm2 : g.tmod 2 = (t : Int) := by rw [Int.tmod_eq_emod_of_nonneg (by have := hg.1; omega)]; exact hgmod
  obtain ⟨a, ha⟩ : ∃ a, areaAt C.n g = a := ⟨_, rfl⟩
  have ha3 : a ≤ 40 := by
    rw [← ha]
    unfold areaAt
    rw [har, htt]
    rcases (show t = 0 ∨ t = 1 by omega) with e | e <;> rw [e] <;> omega
  obtain ⟨sb, hsb⟩ : ∃ x, swB S (t : Int) = x := ⟨_, rfl⟩
  have hswo : swOk S (t : Int) = true := by unfold swOk; rw [hmay, Bool.true_and]; exact decide_eq_true ⟨by omega, by omega⟩
  have hsw1 := (sw_yes hswo).1
  -- the plain steps
  obtain ⟨W, hW⟩ : ∃ W, wAt (areaAt C.n S.gen) (areaL C S.gen) = W := ⟨_, rfl⟩
  have hset : setL C S = cmtL W t sb := by unfold setL; rw [hW, hgg, hgmod, hsb, ← hgmod, htt]
  have hWl : W.length = ar := by rw [← hW, wAt_len, areaL_len, har]
  have hWn : ∀ j, j < ar → W.take (j + 1) = W.take j ++ [.w (a + j) (blkL (cntH C.n g j) (C.body (j : Int)))] := fun j hj => by
    rw [← hW, wAt_take _ _ (by rw [areaL_len, har]; exact hj), areaL_at _ _ (by rw [har]; exact hj), hgg, ha]
  have hseal : ∀ j, j < ar → sealE ⟨2, ((a + j : Nat) : Int), 0, 0, g⟩ (C.body (j : Int)) = 0 ∧ sealB ⟨2, ((a + j : Nat) : Int), 0, 0, g⟩ (C.body (j : Int)) = blkL (cntH C.n g j) (C.body (j : Int)) := fun j hj => by
    have hko := cntH_ok hok.1 hok.2 hg (i := j) (by rw [har]; exact hj)
    have hbl := Ct.body_len (C := C) (i := j) (by rw [har]; exact hj)
    have hcn : cntH C.n g j = ⟨2, ((a + j : Nat) : Int), 0, 0, g⟩ := by unfold cntH; rw [ha]
    rw [← hcn]
    unfold sealE sealB
    rw [if_pos hko, if_pos hko, if_pos (by rw [hbl]; exact Nat.le_refl _), if_pos (by rw [hbl]; exact Nat.le_refl _)]
    exact ⟨rfl, rfl⟩
  have hA := parea_any S C.n hsec hok.2 ⟨by rw [hgg]; have := hg.1; omega, by rw [hgg]; have := hg.2; omega⟩
  rw [hgg, ha, har] at hA
  have HA := Lib.hid hA
  have HS := Lib.hid hset
  have HWl := Lib.hid hWl
  have HWn := Lib.hid hWn
  have Hseal := Lib.hid hseal
  have Hgm := Lib.hid hgmod
  have Hsb := Lib.hid hsb
  have Hsw := Lib.hid hsw1
  have Hswo := Lib.hid hswo
  have Hfine := Lib.hid hfine
  have Hsep := Lib.hid hsep
  have HGn := Lib.hid hG
  -- the box
  have X1 := SB.new w S 87
  have b1 : Below w.heap.size w (w.alloc (.cells S.vs.toArray 87)) := (Below.refl _ _).alloc (Nat.le_refl _) _
  have L1 := L.tight.below b1
  have H1 := H.below b1
  have t1 := ht.below b1 ht.1
  have hpc := H.lt
  have htl := ht.1
  clear hA hset hW hWl hWn hseal hgen hgmod hsb hsw1 hswo hfine ha hsec hsep hG hmay htt hg L ht H
  have hl1 := X1.ld
  go_enter Tryz.func36, Tryz.ntmps36
  go_wp2_with fail
  generalize w.alloc (.cells S.vs.toArray 87) = w1 at b1 L1 H1 t1 X1 hl1 ⊢
  refine (HA.out w1).mono ?_
  rintro e w2 ⟨rfl, b2⟩
  have L2 := L1.below b2
  have H2 := H1.below b2
  have t2 := t1.below b2 t1.1
  have X2 := X1.below b2 X1.lt
  have B2 := b1.trans (b2.mono b1.size)
  have hz2 : w.heap.size < w2.heap.size := X2.lt
  clear hl1 L1 H1 t1 X1 b1 b2
  have L0 := L2.dsk
  -- what stays while the drive turns
  have hstay : ∀ wr, Turn (fun k => S0 k ∧ k < w.heap.size) w2 wr → SB wr w.heap.size S ∧ CCo wr pc o Sc C ∧ Tab wr := fun wr T =>
    ⟨X2.block (T.block _ hz2 (fun h => by have := h.2; omega)), H2.keep (T.block pc (by omega) fun h => (Hsep.out pc h.1).1 rfl) (fun k hk hs => T.block k hk fun h => (Hsep.out k h.1).2 hs), t2.turned T fun h => HGn.out h.1⟩
  have Hst := Lib.hid hstay
  clear hstay X2 H2 t2 L2
  go_wp2_with fail
  go_loopw [9, 10, 11, 21] (fun _ _ _ i wr => ∃ j : Nat, j ≤ ar ∧ i = .int .i64 (j : Int) ∧ D.runE (W.take j) = 0 ∧ Dsk w2 wr d (fun k => S0 k ∧ k < w.heap.size) (D.runD (W.take j))) (fun _ _ _ i _ => ar - (intOf i).toNat)
  case atStart => exact ⟨0, by omega, rfl, rfl, L0⟩
  case round =>
    clear L0
    obtain ⟨j, hj, rfl, hE, L1⟩ := hrel
    have htj := tame_run (W.take j) htm
    have hlen : (W.take j).length ≤ 18 := by rw [List.length_take, HWl.out]; omega
    obtain ⟨D1, hD1⟩ : ∃ D1, D.runD (W.take j) = D1 := ⟨_, rfl⟩
    rw [hD1] at L1 htj
    have HD1 := Lib.hid hD1
    have HE := Lib.hid hE
    obtain ⟨X3, H3, t3⟩ := Hst.out wr L1.turn
    clear hD1 hE
    by_cases hlt : j < ar
    · have e3 : (j : Int) < (ar : Int) := by omega
      have Hnx := Lib.hid (HWn.out j hlt)
      obtain ⟨s1, s2⟩ := Hseal.out j hlt
      obtain ⟨x, hx⟩ : ∃ x, blkL (cntH C.n g j) (C.body (j : Int)) = x := ⟨_, rfl⟩
      rw [hx] at s2
      obtain ⟨s, hs⟩ : ∃ s, a + j = s := ⟨_, rfl⟩
      rw [hs] at s1 s2
      have hs2 : (a : Int) + (j : Int) = (s : Int) := by omega
      have hs3 : s ≤ 100 := by omega
      have hE1 := Lib.hid (show D.runE (W.take (j + 1)) = D1.says (.w s x) by rw [Hnx.out, runE_snoc, if_pos HE.out, HD1.out, hx, hs])
      have hD2 := Lib.hid (show D.runD (W.take (j + 1)) = D1.does (.w s x) by rw [Hnx.out, runD_snoc, if_pos HE.out, HD1.out, hx, hs])
      have S1 := Lib.hid s1
      have S2 := Lib.hid s2
      have q0 := X3.c0
      rw [hgg] at q0
      obtain ⟨E, hEE⟩ : ∃ E, D1.says (.w s x) = E := ⟨_, rfl⟩
      have HEE := Lib.hid hEE
      clear hEE hx hs s1 s2
      by_cases h0 : E = 0
      · have nb : (E != 0) = false := by simpa using h0
        have H0 := Lib.hid h0
        clear h0
        go_wp2_with (first
          | (go_at_call 67; refine (phead_any _ g wr).mono ?_; rintro e w4 ⟨rfl, b4⟩; have H4 := H3.below b4; have t4 := t3.below b4 t3.1)
          | (go_at_call 68; refine (cbody_any H4 (j : Int)).mono ?_; rintro e w5 ⟨V, n5, c5, rfl, s5, b5, _⟩; have t5 := t4.below b5 t4.1)
          | (go_at_call 66; refine (seal_any ⟨2, (s : Int), 0, 0, g⟩ V n5 c5 _ w5 s5 t5).mono ?_; rw [S1.out, S2.out]; rintro e w6 ⟨A6, n6, c6, rfl, own6, hg6, b6⟩; have L6 := L1.below (b4.trans ((b5.mono b4.size).trans (b6.mono (Nat.le_trans b4.size b5.size)))))
          | (go_at_call 63; refine (dwrite_any L6 htj (by omega) s _ rfl A6 n6 c6 x own6.sl).mono ?_; rw [HEE.out]; rintro e w7 ⟨rfl, L7⟩)
          | fail)
        exact ⟨⟨j + 1, by omega, by go_num, hE1.out.trans (HEE.out.trans H0.out), by rw [hD2.out]; exact L7⟩, by simp [intOf]; omega⟩
      · have nb : (E != 0) = true := by simpa using h0
        have hstop : D.runE (W.take (j + 1)) ≠ 0 := fun h => h0 (HEE.out.symm.trans (hE1.out.symm.trans h))
        have hall : setL C S = W.take (j + 1) ++ (W.drop (j + 1) ++ .fl :: [.w t sb, .fl]) := by rw [HS.out]; unfold cmtL; rw [← List.append_assoc, List.take_append_drop]
        obtain ⟨r1, r2⟩ := run_stopped (l' := W.drop (j + 1) ++ .fl :: [.w t sb, .fl]) hstop
        have R1 := Lib.hid (show D.runB (setL C S) = false by unfold DM.runB; rw [hall, r1]; exact decide_eq_false hstop)
        have R2 := Lib.hid (show D.runD (setL C S) = D1.does (.w s x) by rw [hall, r2, hD2.out])
        clear hall r1 r2 hstop h0
        go_wp2_with (first
          | (go_at_call 67; refine (phead_any _ g wr).mono ?_; rintro e w4 ⟨rfl, b4⟩; have H4 := H3.below b4; have t4 := t3.below b4 t3.1)
          | (go_at_call 68; refine (cbody_any H4 (j : Int)).mono ?_; rintro e w5 ⟨V, n5, c5, rfl, s5, b5, _⟩; have t5 := t4.below b5 t4.1)
          | (go_at_call 66; refine (seal_any ⟨2, (s : Int), 0, 0, g⟩ V n5 c5 _ w5 s5 t5).mono ?_; rw [S1.out, S2.out]; rintro e w6 ⟨A6, n6, c6, rfl, own6, hg6, b6⟩; have L6 := L1.below (b4.trans ((b5.mono b4.size).trans (b6.mono (Nat.le_trans b4.size b5.size)))))
          | (go_at_call 63; refine (dwrite_any L6 htj (by omega) s _ rfl A6 n6 c6 x own6.sl).mono ?_; rw [HEE.out]; rintro e w7 ⟨rfl, L7⟩)
          | fail)
        go_ret
        exact ⟨by rw [R1.out]; rfl, by rw [R2.out]; exact L7.from B2⟩
    · have hja : j = ar := by omega
      subst hja
      have hfull : W.take j = W := List.take_of_length_le (by rw [HWl.out]; exact Nat.le_refl _)
      have hE0 := HE.out
      have hD0 := HD1.out
      rw [hfull] at hE0 hD0
      obtain ⟨r1, r2⟩ := cmt_runs (D := D) (A := W) t sb hE0
      rw [hD0, ← HS.out] at r1 r2
      have e3 : ¬ (j : Int) < (j : Int) := by omega
      have hf1 := tame_does htj .fl
      obtain ⟨E1, hE1⟩ : ∃ E, D1.says .fl = E := ⟨_, rfl⟩
      obtain ⟨D2, hD2⟩ : ∃ E, D1.does .fl = E := ⟨_, rfl⟩
      rw [hD2] at hf1
      rw [(run_cons _ _ _).1, hE1, hD2] at r1
      rw [(run_cons _ _ _).2, hE1, hD2] at r2
      have HE1 := Lib.hid hE1
      have HD2 := Lib.hid hD2
      clear hE1 hD2 hE0 hD0 hfull
      by_cases h1 : E1 = 0
      · have nb1 : (E1 != 0) = false := by simpa using h1
        rw [if_pos h1] at r1 r2
        have hf2 := tame_does hf1 (.w t sb)
        obtain ⟨E2, hE2⟩ : ∃ E, D2.says (.w t sb) = E := ⟨_, rfl⟩
        obtain ⟨D3, hD3⟩ : ∃ E, D2.does (.w t sb) = E := ⟨_, rfl⟩
        rw [hD3] at hf2
        rw [(run_cons _ _ _).1, hE2, hD3] at r1
        rw [(run_cons _ _ _).2, hE2, hD3] at r2
        have HE2 := Lib.hid hE2
        have HD3 := Lib.hid hD3
        clear hE2 hD3 h1
        have q0 := X3.c0
        rw [hgg] at q0
        have hcs := Lib.hid (fun (w' : World) (l' : Dsk w2 w' d (fun k => S0 k ∧ k < w.heap.size) D2) => Hst.out w' l'.turn)
        by_cases h2 : E2 = 0
        · rw [if_pos h2, (one_run _ _).1] at r1
          rw [if_pos h2, (one_run _ _).2] at r2
          have nb2 : (E2 == 0) = true := by simpa using h2
          have R1 := Lib.hid (show D.runB (setL C S) = decide (D3.says .fl = 0) by unfold DM.runB; rw [r1])
          have R2 := Lib.hid r2
          clear r1 r2 h2
          go_wp2_with (first
            | (go_at_call 69; refine (dflush_any L1 htj (by omega)).mono ?_; rw [HE1.out, HD2.out]; rintro e w4 ⟨rfl, L4⟩; obtain ⟨X4, H4, t4⟩ := hcs.out w4 L4; have q04 := X4.c0; rw [hgg] at q04; have hl4 := X4.ld)
            | (go_at_call 70; refine (swrite_any S (t : Int) Hfine.out w4 t4).mono ?_; rw [Hsw.out, Hsb.out]; rintro e w5 ⟨A5, n5, c5, rfl, own5, _, b5⟩; have L5 := L4.below b5)
            | (go_at_call 63; refine (dwrite_any L5 hf1 (by omega) t _ rfl A5 n5 c5 sb own5.sl).mono ?_; rw [HE2.out, HD3.out]; rintro e w6 ⟨rfl, L6⟩)
            | (go_at_call 69; have hh := L6; refine (dflush_any L6 hf2 (by omega)).mono ?_; rintro e w7 ⟨rfl, L7⟩)
            | fail)
          go_ret
          exact ⟨by rw [R1.out]; rfl, by rw [R2.out]; exact L7.from B2⟩
        · rw [if_neg h2] at r1 r2
          have nb2 : (E2 == 0) = false := by simpa using h2
          have R1 := Lib.hid (show D.runB (setL C S) = false by unfold DM.runB; rw [r1]; exact decide_eq_false h2)
          have R2 := Lib.hid r2
          clear r1 r2 h2
          go_wp2_with (first
            | (go_at_call 69; refine (dflush_any L1 htj (by omega)).mono ?_; rw [HE1.out, HD2.out]; rintro e w4 ⟨rfl, L4⟩; obtain ⟨X4, H4, t4⟩ := hcs.out w4 L4; have q04 := X4.c0; rw [hgg] at q04; have hl4 := X4.ld)
            | (go_at_call 70; refine (swrite_any S (t : Int) Hfine.out w4 t4).mono ?_; rw [Hsw.out, Hsb.out]; rintro e w5 ⟨A5, n5, c5, rfl, own5, _, b5⟩; have L5 := L4.below b5)
            | (go_at_call 63; refine (dwrite_any L5 hf1 (by omega) t _ rfl A5 n5 c5 sb own5.sl).mono ?_; rw [HE2.out, HD3.out]; rintro e w6 ⟨rfl, L6⟩)
            | fail)
          go_ret
          exact ⟨by rw [R1.out]; rfl, by rw [R2.out]; exact L6.from B2⟩
      · have nb1 : (E1 != 0) = true := by simpa using h1
        rw [if_neg h1] at r1 r2
        have R1 := Lib.hid (show D.runB (setL C S) = false by unfold DM.runB; rw [r1]; exact decide_eq_false h1)
        have R2 := Lib.hid r2
        clear r1 r2 h1
        go_wp2_with (first
          | (go_at_call 69; refine (dflush_any L1 htj (by omega)).mono ?_; rw [HE1.out, HD2.out]; rintro e w4 ⟨rfl, L4⟩)
          | fail)
        go_ret
        exact ⟨by rw [R1.out]; rfl, by rw [R2.out]; exact L4.from B2⟩
end Go.Proofs.YtgedmodnkiijkaaGreatDoor

namespace Go.Proofs.YtgedmodnkiijkaaGreatDoor
open Go Go.RowKit Go.Proofs

theorem sr_may {l : List UInt8} {slot : Int} (h : srOk l slot = true) : (srS l slot).may = true := by
  rw [(sr_yes h).1]
  unfold srOk at h
  rw [Bool.and_eq_true, Bool.and_eq_true] at h
  have := h.2.1
  unfold swOk at this
  rw [Bool.and_eq_true] at this
  exact this.1
theorem sn_may {a b : List UInt8} (h : snE a b = 0) : (snS a b).may = true := by
  by_cases h1 : srOk a 0 = false ∧ srOk b 1 = false
  · rw [(sn_2 h1.1 h1.2).2.2] at h
    cases h
  · by_cases h2 : (srS a 0).gen < (srS b 1).gen
    · rw [(sn_1 h1 h2).1]
      cases hb : srOk b 1
      · cases ha : srOk a 0
        · exact absurd ⟨ha, hb⟩ h1
        · have hg := (may_parts (sr_may ha)).1.1
          rw [(sr_no hb).1] at h2
          have : Sp.zero.gen = 0 := rfl
          omega
      · exact sr_may hb
    · rw [(sn_0 h1 h2).1]
      cases ha : srOk a 0
      · cases hb : srOk b 1
        · exact absurd ⟨ha, hb⟩ h1
        · have hg := (may_parts (sr_may hb)).1.1
          rw [(sr_no ha).1] at h2
          have : Sp.zero.gen = 0 := rfl
          omega
      · exact sr_may ha
theorem may_fine {S : Sp} (h : S.may = true) : S.fine := fun k hk => by
  have := may_names h k hk
  unfold maxLen
  omega
theorem ld_parts {n : Nat} {ls : List (List UInt8)} (h : loadE (n : Int) ls = 0) : (32 ≤ n ∧ n ≤ 2048) ∧ ls.length = areaN n ∧ ∀ i, i < areaN n → rowGood n (2 + 2 * areaN n) i (nth ls i) := by
  unfold loadE at h
  split at h
  · cases h
  · rename_i h1
    have h1 := Decidable.of_not_not h1
    rw [Int.toNat_natCast] at h
    split at h
    · cases h
    · rename_i h2
      refine ⟨by omega, ?_, ?_⟩
      · exact Classical.byContradiction fun h3 => h2 (.inl h3)
      · exact Classical.byContradiction fun h3 => h2 (.inr h3)
theorem loadC_n (n : Nat) (ls : List (List UInt8)) : (loadC n ls).n = n := allTo_n _ _ _
theorem ld_res {n : Nat} {ls : List (List UInt8)} (h : loadE (n : Int) ls = 0) : (loadC n ls).res := by
  obtain ⟨h1, h2, h3⟩ := ld_parts h
  intro a ha hf
  rw [loadC_n] at ha
  have hf2 : a < 2 + 2 * areaN n := by unfold Ct.first at hf; rw [loadC_n] at hf; exact hf
  have e : nm (loadC n ls).now a = nm (allTo n ls (areaN n)).now a := rfl
  rw [e, allTo_now n ls (areaN n) a ha]
  split
  · rename_i h4
    have hi : a / 118 < areaN n := by omega
    have hr := (h3 _ hi).2 (a % 118) (Nat.mod_lt _ (by omega))
    unfold rowBad at hr
    have hr := of_decide_eq_false hr
    exact Classical.byContradiction fun h5 => hr ⟨h5, .inl (by omega)⟩
  · rfl
end Go.Proofs.YtgedmodnkiijkaaGreatDoor
