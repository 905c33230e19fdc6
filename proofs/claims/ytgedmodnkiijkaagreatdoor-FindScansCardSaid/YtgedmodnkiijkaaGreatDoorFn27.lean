/- The code's pool: PutNode. The code's pool: Bytes of anything; Clone. A pool and its drive, for the laws: their blocks are T's, all from b on. Laws of the pool, plain facts: what is read of what was put, and committed. The code's pool: Node. A pool's nodes as a store; nodes that are laid down one behind the other. How a tree is grown in a pool, level by level, as the law's loop does it. The reference's Leaves: a row cut into leaves. The reference's Inner: kids cut into inner nodes. -/
import Derived.Test.YtgedmodnkiijkaaGreatDoorFn9
import Derived.Test.YtgedmodnkiijkaaGreatDoorFn12
import Derived.Test.YtgedmodnkiijkaaGreatDoorFn13
import Derived.Test.YtgedmodnkiijkaaGreatDoorFn17
import Derived.Test.YtgedmodnkiijkaaGreatDoorFn20
import Derived.Test.YtgedmodnkiijkaaGreatDoorFn22
import Derived.Test.YtgedmodnkiijkaaGreatDoorFn23
import Derived.Test.YtgedmodnkiijkaaGreatDoorPoS
import Derived.Test.YtgedmodnkiijkaaGreatDoorFn25
import Derived.Test.YtgedmodnkiijkaaGreatDoorFn26
namespace Go.Proofs.YtgedmodnkiijkaaGreatDoor
open Go Go.RowKit Go.Proofs
open Go.ChangeMaps (setBlock)

theorem node_out {N : Nd} (hm : N.may = true) {a : Nat} {g : Int} (ha : a ≤ 2047) (hg : gen0 g) : writeE N (a : Int) g = 0 ∧ writeB N (a : Int) g = blkL (N.head (a : Int) g) N.body ∧ (N.head (a : Int) g).ok = true := by
  have hE : writeE N (a : Int) g = 0 := Classical.byContradiction fun h => by
    have h2 := (back_err hm h).2
    have h3 := hg.1
    have h4 := hg.2
    omega
  refine ⟨hE, ?_⟩
  unfold writeE at hE
  rw [if_pos hm] at hE
  obtain ⟨hok, _, hB⟩ := run_take_seal _ _ hE
  refine ⟨?_, hok⟩
  unfold writeB
  rw [if_pos hm, hB]
theorem node_good {N : Nd} (hm : N.may = true) : (Bk.node N).good := ⟨fun _ _ ha hg => (node_out hm ha hg).2.2, body_le hm, fun _ _ ha hg => (node_out hm ha hg).2.1⟩
/-- PutNode's answers, and what it leaves. -/
def Pl.putNV (P : Pl) (N : Nd) : Int := if N.may = true then P.C.allocV else 0
def Pl.putNE (P : Pl) (N : Nd) : Int := if N.may = true then P.C.allocE else 1
def Pl.putN (P : Pl) (N : Nd) : Pl := if N.may = true then P.lay (.node N) else P
end Go.Proofs.YtgedmodnkiijkaaGreatDoor

namespace Go.Proofs.YtgedmodnkiijkaaGreatDoor
open Go Go.RowKit Go.Proofs
open Go.ChangeMaps (setBlock)

theorem get_nat {C : Ct} {a : Int} (h : C.get a ≠ 0) : ∃ n : Nat, a = (n : Int) ∧ n < C.n := by
  have hin : 0 ≤ a ∧ a < (C.n : Int) := Classical.byContradiction fun h2 => h (by unfold Ct.get; rw [if_neg h2])
  exact ⟨a.toNat, by omega, by omega⟩
end Go.Proofs.YtgedmodnkiijkaaGreatDoor

namespace Go.Proofs.YtgedmodnkiijkaaGreatDoor
open Go Go.RowKit Go.Proofs

structure SysAt (b : Nat) (w : World) (d p : Nat) (S0 S T : Nat → Prop) (D : DM) (P : Pl) : Prop where
  drv : Drv w d S0 D
  pool : Pool w p d S T P
  sub : ∀ k, S0 k → T k
  apart : ∀ k, S0 k → ¬ S k
  tight : ∀ k, T k → b ≤ k ∧ k < w.heap.size
def Sys (b : Nat) (w : World) (d p : Nat) (T : Nat → Prop) (D : DM) (P : Pl) : Prop := ∃ S0 S, SysAt b w d p S0 S T D P
/-- What is made meanwhile is theirs, too. -/
def grow (T : Nat → Prop) (w w' : World) : Nat → Prop := fun k => (T k ∨ w.heap.size ≤ k) ∧ k < w'.heap.size
/-- A drive alone. -/
def Dr (b : Nat) (w : World) (d : Nat) (T : Nat → Prop) (D : DM) : Prop := ∃ S0, Drv w d S0 D ∧ (∀ k, S0 k → T k) ∧ ∀ k, T k → b ≤ k ∧ k < w.heap.size
section
variable {b : Nat} {w w' : World} {d p : Nat} {T : Nat → Prop} {D : DM} {P : Pl}
theorem SysAt.subS {S0 S : Nat → Prop} (H : SysAt b w d p S0 S T D P) : ∀ k, S k → T k := by
  obtain ⟨m, cur, l, clock, v, Sc, L⟩ := H.pool
  exact L.sub
theorem SysAt.base {S0 S : Nat → Prop} (H : SysAt b w d p S0 S T D P) : b ≤ w.heap.size := by
  obtain ⟨m, cur, l, clock, v, Sc, L⟩ := H.pool
  have := (H.tight _ (L.sub _ L.inS.1)).1
  have := L.plt
  omega
theorem Sys.below (H : Sys b w d p T D P) (hb : Below w.heap.size w w') : Sys b w' d p T D P := by
  obtain ⟨S0, S, H⟩ := H
  exact ⟨S0, S, H.drv.below hb, H.pool.below hb, H.sub, H.apart, fun k hk => ⟨(H.tight k hk).1, by have := (H.tight k hk).2; have := hb.size; omega⟩⟩
theorem Sys.ok (H : Sys b w d p T D P) : P.ok := by
  obtain ⟨S0, S, H⟩ := H
  exact H.pool.ok
theorem Sys.sectors (H : Sys b w d p T D P) : sectors D.n := by
  obtain ⟨S0, S, H⟩ := H
  exact H.drv.sectors
theorem Sys.tight (H : Sys b w d p T D P) : ∀ k, T k → b ≤ k ∧ k < w.heap.size := by
  obtain ⟨S0, S, H⟩ := H
  exact H.tight
theorem Sys.base (H : Sys b w d p T D P) : b ≤ w.heap.size := by
  obtain ⟨S0, S, H⟩ := H
  exact H.base
theorem Dr.below (H : Dr b w d T D) (hb : Below w.heap.size w w') : Dr b w' d T D := by
  obtain ⟨S0, H, h1, h2⟩ := H
  exact ⟨S0, H.below hb, h1, fun k hk => ⟨(h2 k hk).1, by have := (h2 k hk).2; have := hb.size; omega⟩⟩
theorem sys_of {w0 w : World} {d p q : Nat} {S0 : Nat → Prop} {D : DM} {P : Pl} (H : PoolOn w0 w p d q S0 D P) (hS0 : ∀ k, S0 k → b ≤ k) (hb : b ≤ w0.heap.size) : Sys b w d p (fun k => b ≤ k ∧ k < w.heap.size) D P := by
  refine ⟨fun k => (S0 k ∨ w0.heap.size ≤ k) ∧ k < q, fun k => q ≤ k ∧ k < w.heap.size, H.drv, ?_, fun k hk => ?_, fun k hk h => ?_, fun k hk => hk⟩
  · have h := H.pool (fun k => b ≤ k) (fun k hk => by have := H.ge.1; omega)
    exact h.mono (fun k hk h => ⟨h, hk⟩) (fun k hk h => h.1) fun k hk => ⟨by have := H.ge.1; omega, hk.2⟩
  · have := H.ge.2
    exact ⟨hk.1.elim (hS0 k) fun h => by omega, by omega⟩
  · omega

end
end Go.Proofs.YtgedmodnkiijkaaGreatDoor

namespace Go.Proofs.YtgedmodnkiijkaaGreatDoor
open Go Go.RowKit Go.Proofs

theorem live_get {P : Pl} {a : Nat} {b : Bk} (h : P.live a = some b) : P.C.get (a : Int) ≠ 0 ∧ P.L a = some b := by
  unfold Pl.live at h
  split at h
  · cases h
  · rename_i h0; exact ⟨h0, h⟩
theorem new_len (P : Pl) : P.new.length ≤ P.C.n := by
  unfold Pl.new
  have := List.length_filterMap_le P.newA (List.range P.C.n)
  rwa [List.length_range] at this
theorem steps_le {P : Pl} (h : P.ok) : P.steps.length ≤ 2100 := by
  have h1 := Pl.steps_len P
  have h2 := new_len P
  have h3 := h.c.1
  have h4 : areaN P.C.n ≤ 18 := by unfold areaN; omega
  omega
theorem fmt_le {n : Nat} (h : n ≤ 2048) : (fmtL n).length ≤ 30 := by
  rw [fmt_len]
  unfold areaN
  omega
/-- A commit with power, whole; and what is mounted behind it. -/
theorem cmt_sys {D : DM} {P : Pl} (h : P.ok) {S0 : Sp} {C0 : Ct} (hs : Sound D P S0 C0) : D.cmtE P = 0 ∧ D.cmtP P = P.done ∧ Sound (D.runD P.steps) P.done P.sup P.C ∧
    mtE (D.runD P.steps).newest (D.runD P.steps).off (D.runD P.steps).n = 0 ∧ Pl.mounted (D.runD P.steps).newest (D.runD P.steps).n = P.done ∧ mtS (D.runD P.steps).newest = P.sup := by
  obtain ⟨e0, e1, _⟩ := cmt_sound h hs
  have hb : D.runB P.steps = true := decide_eq_true e0
  obtain ⟨m1, m2, m3⟩ := sound_mounts e1
  refine ⟨(cmt_yes hb).1, (cmt_yes hb).2, e1, by rw [e1.free.on]; exact m1, ?_, m2⟩
  unfold Pl.mounted
  rw [m2]
  have : mtC (D.runD P.steps).newest (D.runD P.steps).n P.sup.gen = P.C.commit := m3
  rw [this]
  rfl
/-! ### The document's example -/
def shB : List UInt8 := [97, 98]
theorem sh_pick : (Pl.fresh 32).C.pick = some 4 := by decide
end Go.Proofs.YtgedmodnkiijkaaGreatDoor

namespace Go.Proofs.YtgedmodnkiijkaaGreatDoor
open Go Go.RowKit Go.Proofs

/-- .. whose rows are new. -/
def NodeOwn (M : Nd) (E : Int) (w : World) (e : Ending) (w' : World) : Prop :=
  ∃ A1 n1 c1 B1 m1 d1, e = .returned (.tuple #[.agg #[.int .i64 M.lvl, .slice A1 n1 c1, .slice B1 m1 d1], .int .i64 E]) ∧ n1 ≤ 20 ∧ m1 ≤ 20 ∧ IRow w' w.heap.size A1 n1 c1 M.items ∧ OwnS w' w.heap.size 62 4 B1 m1 d1 (M.kids.map Kidd.vs) ∧ Below w.heap.size w w'
def nodeZ : Nd := ⟨0, [], []⟩
def nodeRE (x : List UInt8) (a o : Int) : Int := if (creadN x a).isSome = true then 0 else o
def nodeRN (x : List UInt8) (a : Int) : Nd := (creadN x a).getD nodeZ
theorem cell_in_row {w : World} {ad : Addr} {cs : Array Value} {t : TypeId} {v : Value} (h : w.heap[ad.block]? = some (.cells cs t (0, 0))) (hc : w.cell? ad = some v) : cs[ad.off]? = some v := by
  unfold World.cell? at hc
  rw [h] at hc
  dsimp only at hc
  split at hc
  · cases hc
  · exact hc
/-! What comes in stays where a node's own block turns: its cells are neither an item's nor bytes. -/
section
variable {w w' : World} {b n c m d : Nat} {l : Int} {A B : Option Addr}
end
set_option maxRecDepth 100000 in
set_option maxHeartbeats 4000000 in
theorem pnode_err {w : World} {p : Nat} {a E o : Int} (hE : E ≠ 0) (hblk : ∀ u, Below w.heap.size w u → Calls Tryz.prog 46 #[.pointer (some ⟨p, 0, none⟩), .int .i64 a] u fun e w' => ∃ A n c, e = .returned (.tuple #[.slice A n c, .int .i64 o, .int .i64 E]) ∧ Below u.heap.size u w') :
    Calls Tryz.prog 21 #[.pointer (some ⟨p, 0, none⟩), .int .i64 a] w fun e w' => NodeOwn nodeZ E w e w' := by
  have nb : (E == 0) = false := by simpa using hE
  have R1 : NB (w.alloc (.cells #[.int .i64 0, .slice none 0 0, .slice none 0 0] 56)) w.heap.size 0 none 0 0 none 0 0 := NB.new w _ _ _ _ _ _ _ _
  have b1 : Below w.heap.size w (w.alloc (.cells #[.int .i64 0, .slice none 0 0, .slice none 0 0] 56)) := (Below.refl _ _).alloc (Nat.le_refl _) _
  have z1 : (w.alloc (.cells #[.int .i64 0, .slice none 0 0, .slice none 0 0] 56)).heap.size = w.heap.size + 1 := by simp
  have Hblk := Lib.hid hblk
  clear hblk
  go_enter Tryz.func21, Tryz.ntmps21
  go_wp2_with fail
  generalize w.alloc (.cells #[.int .i64 0, .slice none 0 0, .slice none 0 0] 56) = w1 at b1 R1 z1 ⊢
  refine (Hblk.out w1 b1).mono ?_
  rintro e w2 ⟨A, n, c, rfl, b2⟩
  have R2 := R1.below b2 (by omega)
  go_wp2_with (first
    | (refine wp_store_nd rfl _ _ rfl w.heap.size rfl 0 none 0 0 none 0 0 rfl R2 ?_; intro w3 R3 T3)
    | fail)
  refine bodyPost_ret (res_c2 Tryz.results21 rfl (load_nd R3)) rfl ?_
  have z2 := b2.size
  exact ⟨none, 0, 0, none, 0, 0, rfl, by omega, by omega, irow_nil _ _, owns_none _ _ _ _, (b1.trans (b2.mono (by omega))).trans (T3.below (fun k hk => by omega) (by omega))⟩
set_option maxRecDepth 100000 in
set_option maxHeartbeats 4000000 in
theorem pnode_read {w : World} {p : Nat} {a o : Int} {x : List UInt8} (ht : Tab w) (hblk : ∀ u, Below w.heap.size w u → Calls Tryz.prog 46 #[.pointer (some ⟨p, 0, none⟩), .int .i64 a] u fun e w' => ∃ A n c, e = .returned (.tuple #[.slice A n c, .int .i64 o, .int .i64 0]) ∧ Sl w' A n c x ∧ Below u.heap.size u w') :
    Calls Tryz.prog 21 #[.pointer (some ⟨p, 0, none⟩), .int .i64 a] w fun e w' => NodeOwn (nodeRN x a) (nodeRE x a o) w e w' := by
  have R1 : NB (w.alloc (.cells #[.int .i64 0, .slice none 0 0, .slice none 0 0] 56)) w.heap.size 0 none 0 0 none 0 0 := NB.new w _ _ _ _ _ _ _ _
  have b1 : Below w.heap.size w (w.alloc (.cells #[.int .i64 0, .slice none 0 0, .slice none 0 0] 56)) := (Below.refl _ _).alloc (Nat.le_refl _) _
  have z1 : (w.alloc (.cells #[.int .i64 0, .slice none 0 0, .slice none 0 0] 56)).heap.size = w.heap.size + 1 := by simp
  have t1 := ht.below b1 ht.1
  have Hblk := Lib.hid hblk
  clear hblk
  cases hr : creadN x a with
  | none =>
    have e1 : nodeRN x a = nodeZ := by unfold nodeRN; rw [hr]; rfl
    have e2 : nodeRE x a o = o := by unfold nodeRE; rw [hr]; rfl
    rw [e1, e2]
    have hrd := fun (A : Option Addr) (n c : Nat) (w2 : World) (s2 : Sl w2 A n c x) (t2 : Tab w2) => cread_own A n c x a w2 s2 t2
    unfold CReadOwn at hrd
    rw [hr] at hrd
    have Hrd := Lib.hid hrd
    clear hrd hr e1 e2
    go_enter Tryz.func21, Tryz.ntmps21
    go_wp2_with fail
    generalize w.alloc (.cells #[.int .i64 0, .slice none 0 0, .slice none 0 0] 56) = w1 at b1 R1 z1 t1 ⊢
    refine (Hblk.out w1 b1).mono ?_
    rintro e w2 ⟨A, n, c, rfl, s2, b2⟩
    have R2 := R1.below b2 (by omega)
    have t2 := t1.below b2 t1.1
    have z2 := b2.size
    go_wp2_with fail
    refine (Hrd.out A n c w2 s2 t2).mono ?_
    rintro e w3 ⟨A1, n1, c1, B1, m1, d1, rfl, hn1, hm1, hI, hK, b3⟩
    have z3 := b3.size
    have R3 := R2.below b3 (by omega)
    have BB := b1.trans ((b2.trans (b3.mono z2)).mono (by omega))
    go_wp2_with (first
      | (refine wp_store_nd rfl (.tmp 4) (.tmp 29) rfl w.heap.size rfl 0 none 0 0 none 0 0 rfl (R3.below (E := w3.heap.size) ((Below.refl _ _).alloc (Nat.le_refl _) _) (by omega)) ?_; intro w5 R5 T5)
      | fail)
    refine bodyPost_ret (res_c2 Tryz.results21 rfl (load_nd R5)) rfl ?_
    have b4 : Below w3.heap.size w3 (w3.alloc (.cells #[.int .i64 0, .slice A1 n1 c1, .slice B1 m1 d1] 56)) := (Below.refl _ _).alloc (Nat.le_refl _) _
    exact ⟨none, 0, 0, none, 0, 0, rfl, by omega, by omega, irow_nil _ _, owns_none _ _ _ _, (BB.trans (b4.mono BB.size)).trans (T5.below (fun k hk => by omega) (by have := BB.size; have := b4.size; omega))⟩
  | some N =>
    have e1 : nodeRN x a = N := by unfold nodeRN; rw [hr]; rfl
    have e2 : nodeRE x a o = 0 := by unfold nodeRE; rw [hr]; rfl
    rw [e1, e2]
    have hrd := fun (A : Option Addr) (n c : Nat) (w2 : World) (s2 : Sl w2 A n c x) (t2 : Tab w2) => cread_own A n c x a w2 s2 t2
    unfold CReadOwn at hrd
    rw [hr] at hrd
    have Hrd := Lib.hid hrd
    clear hrd hr e1 e2
    go_enter Tryz.func21, Tryz.ntmps21
    go_wp2_with fail
    generalize w.alloc (.cells #[.int .i64 0, .slice none 0 0, .slice none 0 0] 56) = w1 at b1 R1 z1 t1 ⊢
    refine (Hblk.out w1 b1).mono ?_
    rintro e w2 ⟨A, n, c, rfl, s2, b2⟩
    have R2 := R1.below b2 (by omega)
    have t2 := t1.below b2 t1.1
    have z2 := b2.size
    go_wp2_with fail
    refine (Hrd.out A n c w2 s2 t2).mono ?_
    rintro e w3 ⟨A1, n1, c1, B1, m1, d1, rfl, hn1, hm1, hI, hK, b3⟩
    have hI : IRow w3 w2.heap.size A1 n1 c1 N.items := hI
    have hK : OwnS w3 w2.heap.size 62 4 B1 m1 d1 (N.kids.map Kidd.vs) := hK
    have hl : ((some N : Option Nd).getD ⟨0, [], []⟩).lvl = N.lvl := rfl
    simp only [hl]
    have z3 := b3.size
    have R3 := R2.below b3 (by omega)
    have BB := b1.trans ((b2.trans (b3.mono z2)).mono (by omega))
    have b4 : Below w3.heap.size w3 (w3.alloc (.cells #[.int .i64 N.lvl, .slice A1 n1 c1, .slice B1 m1 d1] 56)) := (Below.refl _ _).alloc (Nat.le_refl _) _
    go_wp2_with (first
      | (refine wp_store_nd rfl (.tmp 4) (.tmp 31) rfl w.heap.size rfl N.lvl A1 n1 c1 B1 m1 d1 rfl (R3.below b4 (by omega)) ?_; intro w5 R5 T5)
      | fail)
    refine bodyPost_ret (res_c2 Tryz.results21 rfl (load_nd R5)) rfl ?_
    exact ⟨A1, n1, c1, B1, m1, d1, rfl, hn1, hm1, ((hI.below b4).low T5 (fun k hk => by have h1 : k = w.heap.size := hk; omega)).less (by omega), ((hK.below b4).turned T5 (fun k hk e => by have h1 := ((hK.below b4).blockLt k hk).1; have h2 : k = w.heap.size := e; omega)).less (by omega), (BB.trans (b4.mono BB.size)).trans (T5.below (fun k hk => by omega) (by have := BB.size; have := b4.size; omega))⟩
/-- What Node answers. -/
def Pl.nodeE (P : Pl) (D : DM) (a : Int) : Int := if P.C.get a = 0 then 1 else match P.live a.toNat with
  | some (.node _) => 0
  | some (.bytes _ _) => 1
  | none => if D.readE a = 0 then nodeRE (D.readL a) a 5 else D.readE a
def Pl.nodeN (P : Pl) (D : DM) (a : Int) : Nd := if P.C.get a = 0 then nodeZ else match P.live a.toNat with
  | some (.node N) => N
  | some (.bytes _ _) => nodeZ
  | none => if D.readE a = 0 then nodeRN (D.readL a) a else nodeZ
theorem may_of_good {N : Nd} (h : (Bk.node N).good) : N.may = true := by
  cases hm : N.may with
  | true => rfl
  | false =>
    have h1 := h.len (a := 0) (g := 0) (by omega) gen0_zero
    have h2 : (Bk.node N).out 0 0 = [] := by show writeB N _ _ = []; unfold writeB; rw [if_neg (by rw [hm]; decide)]
    rw [h2] at h1
    cases h1
theorem new_node {N : Nd} (h : (Bk.node N).good) {a : Nat} (ha : a ≤ 2047) (o : Int) : nodeRN ((Bk.node N).out a 0) (a : Int) = N ∧ nodeRE ((Bk.node N).out a 0) (a : Int) o = 0 := by
  have hm := may_of_good h
  have e : creadN ((Bk.node N).out a 0) (a : Int) = some N := by
    show creadN (writeB N (a : Int) 0) (a : Int) = some N
    rw [cread_back hm (node_out hm ha gen0_zero).1, if_pos rfl]
  unfold nodeRN nodeRE
  rw [e]
  exact ⟨rfl, rfl⟩
theorem new_bytes {k : Int} {l : List UInt8} (h : (Bk.bytes k l).good) (hk : k = 5 ∨ k = 6) {a : Nat} (ha : a ≤ 2047) (o : Int) : nodeRN ((Bk.bytes k l).out a 0) (a : Int) = nodeZ ∧ nodeRE ((Bk.bytes k l).out a 0) (a : Int) o = o := by
  obtain ⟨h1, h2, h3⟩ := h.opens ha gen0_zero
  have e : creadN ((Bk.bytes k l).out a 0) (a : Int) = none := by
    unfold creadN
    rw [if_pos h3, h1]
    unfold cfin
    split
    · rw [if_neg]
      rintro ⟨e, _⟩
      have e : k = if ((Bk.bytes k l).hd a 0).level = 0 then (3 : Int) else 4 := e
      split at e <;> omega
    · rfl
  unfold nodeRN nodeRE
  rw [e]
  exact ⟨rfl, rfl⟩
/-- A block of bytes is of a kind that bytes have. -/
def Bk.kindOk (b : Bk) : Prop := match b with
  | .node _ => True
  | .bytes k l => ∃ m, mostK k = some m ∧ l.length ≤ m
theorem good_kind {k : Int} {l : List UInt8} (P : Pl) (hP : ∀ a b, P.L a = some b → b.kindOk) {a : Nat} (h : P.live a = some (.bytes k l)) : k = 5 ∨ k = 6 := by
  obtain ⟨m, hm, _⟩ := hP a _ (live_get h).2
  exact (mostK_some hm).1
theorem pnode_own {w : World} {p d : Nat} {S0 S T : Nat → Prop} {D : DM} {P : Pl} (L0 : Drv w d S0 D) (H : Pool w p d S T P) (hP : ∀ a b, P.L a = some b → b.kindOk) (ht : Tab w) (a : Int) :
    Calls Tryz.prog 21 #[.pointer (some ⟨p, 0, none⟩), .int .i64 a] w fun e w' => NodeOwn (P.nodeN D a) (P.nodeE D a) w e w' := by
  by_cases h0 : P.C.get a = 0
  · have e1 : P.nodeE D a = 1 := if_pos h0
    have e2 : P.nodeN D a = nodeZ := if_pos h0
    rw [e1, e2]
    exact pnode_err (o := 0) (by omega) fun u hu => (pblock_0 (H.below hu) a h0).mono fun e w' h => ⟨_, _, _, h.1, by rw [← h.2]; exact Below.refl _ _⟩
  · obtain ⟨n, rfl, hn⟩ := get_nat h0
    have hnn : n ≤ 2047 := by have := H.ok.c.1; omega
    have eE : P.nodeE D (n : Int) = match P.live n with
        | some (.node _) => 0
        | some (.bytes _ _) => 1
        | none => if D.readE (n : Int) = 0 then nodeRE (D.readL (n : Int)) (n : Int) 5 else D.readE (n : Int) := by unfold Pl.nodeE; rw [if_neg h0, Int.toNat_natCast]
    have eN : P.nodeN D (n : Int) = match P.live n with
        | some (.node N) => N
        | some (.bytes _ _) => nodeZ
        | none => if D.readE (n : Int) = 0 then nodeRN (D.readL (n : Int)) (n : Int) else nodeZ := by unfold Pl.nodeN; rw [if_neg h0, Int.toNat_natCast]
    rw [eE, eN]
    cases hv : P.live n with
    | some b =>
      have hg : b.good := by
        obtain ⟨m, cur, l, clock, v, Sc, L⟩ := H
        exact L.good n b (live_get hv).2
      have hr := pnode_read (w := w) (p := p) (a := (n : Int)) (o := 1) (x := b.out n 0) ht fun u hu => pblock_new (H.below hu) n b hv
      cases b with
      | node N =>
        obtain ⟨e1, e2⟩ := new_node hg hnn 1
        rw [e1, e2] at hr
        exact hr
      | bytes k l =>
        obtain ⟨e1, e2⟩ := new_bytes hg (good_kind P hP hv) hnn 1
        rw [e1, e2] at hr
        exact hr
    | none =>
      by_cases hr : D.readE (n : Int) = 0
      · have hq := pnode_read (w := w) (p := p) (a := (n : Int)) (o := 5) (x := D.readL (n : Int)) ht fun u hu => by
          have hb := pblock_disk (L0.below hu) (H.below hu) n h0 hv
          rw [hr] at hb
          exact hb
        simp only [if_pos hr]
        exact hq
      · simp only [if_neg hr]
        exact pnode_err (o := 5) hr fun u hu => (pblock_disk (L0.below hu) (H.below hu) n h0 hv).mono fun e w' h => by
          obtain ⟨A, m, c, he, _, hb⟩ := h
          exact ⟨A, m, c, he, hb⟩
end Go.Proofs.YtgedmodnkiijkaaGreatDoor

namespace Go.Proofs.YtgedmodnkiijkaaGreatDoor
open Go Go.RowKit Go.Proofs

def Pl.store (P : Pl) (D : DM) : Int → Nd × Int := fun a => (P.nodeN D a, P.nodeE D a)
theorem put_node {P : Pl} {c : Nat} (h : P.C.pick = some c) {N : Nd} (hN : N.may = true) : P.putNV N = (c : Int) ∧ P.putNE N = 0 ∧ P.putN N = P.lay (.node N) := by
  obtain ⟨a1, a2, _⟩ := Ct.alloc_some h
  unfold Pl.putNV Pl.putNE Pl.putN
  rw [if_pos hN, if_pos hN, if_pos hN]
  exact ⟨a2, a1, rfl⟩
theorem store_get {P : Pl} {D : DM} {a : Int} (h : (P.store D a).2 = 0) : ∃ n : Nat, a = (n : Int) ∧ n < P.C.n ∧ P.C.get (n : Int) ≠ 0 := by
  have h0 : P.C.get a ≠ 0 := fun e => by
    have h : P.nodeE D a = 0 := h
    unfold Pl.nodeE at h
    rw [if_pos e] at h
    cases h
  obtain ⟨n, rfl, hn⟩ := get_nat h0
  exact ⟨n, rfl, hn, h0⟩
theorem store_old {P : Pl} {D : DM} {c : Nat} (h : P.C.pick = some c) {N : Nd} (hN : N.may = true) (a : Int) (ha : (P.store D a).2 = 0) : (P.putN N).store D a = P.store D a := by
  obtain ⟨n, rfl, hn, h0⟩ := store_get ha
  obtain ⟨p1, _, p3, _, _⟩ := Ct.pick_in h
  have hne : n ≠ c := fun e => h0 (by
    subst e
    unfold Ct.get
    rw [if_pos (by omega), Int.toNat_natCast]
    exact p3)
  have hg := lay_get h (.node N) n hn
  have hL := lay_L h (.node N) n
  rw [if_neg hne] at hg hL
  rw [(put_node h hN).2.2]
  unfold Pl.store Pl.nodeN Pl.nodeE Pl.live
  rw [Int.toNat_natCast, hg, hL]
theorem store_new {P : Pl} (D : DM) {c : Nat} (h : P.C.pick = some c) {N : Nd} (hN : N.may = true) : (P.putN N).store D (c : Int) = (N, 0) := by
  obtain ⟨p1, _⟩ := Ct.pick_in h
  have hg := lay_get h (.node N) c p1
  have hL := lay_L h (.node N) c
  rw [if_pos rfl] at hg hL
  rw [(put_node h hN).2.2]
  unfold Pl.store Pl.nodeN Pl.nodeE Pl.live
  rw [Int.toNat_natCast, hg, hL]
  rfl
def Pl.putAll (P : Pl) : List Nd → Pl
  | [] => P
  | N :: r => (P.putN N).putAll r
def Pl.addrs (P : Pl) : List Nd → List Int
  | [] => []
  | N :: r => P.putNV N :: (P.putN N).addrs r
theorem addrs_len : ∀ (Ns : List Nd) (P : Pl), (P.addrs Ns).length = Ns.length
  | [], _ => rfl
  | N :: r, P => by
    show (_ :: _).length = _
    rw [List.length_cons, addrs_len r, List.length_cons]
theorem node_fine {N : Nd} (hN : N.may = true) : (Bk.node N).fine := (node_good hN).fine
/-- Where nodes that may be are laid down one behind the other, all of them are there, and what was there still is. -/
theorem puts_all (D : DM) : ∀ (Ns : List Nd) (P : Pl), P.ok → (∀ N ∈ Ns, N.may = true) → Ns.length ≤ P.C.free →
    (∀ j, j < Ns.length → ∃ N c, Ns[j]? = some N ∧ (P.addrs Ns)[j]? = some ((c : Nat) : Int) ∧ (P.putAll Ns).store D (c : Int) = (N, 0) ∧ P.C.first ≤ c ∧ c < P.C.n) ∧
    (∀ a, (P.store D a).2 = 0 → (P.putAll Ns).store D a = P.store D a) ∧ (P.putAll Ns).C.free + Ns.length = P.C.free ∧ (P.putAll Ns).ok ∧ (P.putAll Ns).C.n = P.C.n ∧ (P.putAll Ns).S = P.S
  | [], P, hok, _, _ => ⟨fun j hj => absurd hj (Nat.not_lt_zero _), fun _ _ => rfl, rfl, hok, rfl, rfl⟩
  | N :: r, P, hok, hm, hf => by
    have hN := hm N (List.mem_cons_self ..)
    rw [List.length_cons] at hf
    obtain ⟨c, hc⟩ := Ct.pick_some_free (C := P.C) (by omega)
    obtain ⟨v1, v2, v3⟩ := put_node hc hN
    obtain ⟨q1, q2, _⟩ := Ct.pick_in hc
    have hfr := Ct.alloc_free hc
    have hC : (P.putN N).C = P.C.alloc := by rw [v3, lay_some hc]
    have hok1 : (P.putN N).ok := by rw [v3]; exact lay_ok hok (node_fine hN)
    have hn1 : (P.putN N).C.n = P.C.n := by rw [v3]; exact lay_n _
    have hS1 : (P.putN N).S = P.S := by rw [v3]; exact lay_S _
    have hfi : (P.putN N).C.first = P.C.first := by unfold Ct.first; rw [hn1]
    obtain ⟨h1, h2, h3, h4, h5, h6⟩ := puts_all D r (P.putN N) hok1 (fun M hM => hm M (List.mem_cons_of_mem _ hM)) (by rw [hC]; omega)
    refine ⟨fun j hj => ?_, fun a ha => ?_, ?_, h4, h5.trans hn1, h6.trans hS1⟩
    · match j with
      | 0 =>
        refine ⟨N, c, rfl, ?_, ?_, q2, q1⟩
        · show some (P.putNV N) = _
          rw [v1]
        · show ((P.putN N).putAll r).store D (c : Int) = (N, 0)
          rw [h2 _ (by rw [store_new D hc hN])]
          exact store_new D hc hN
      | j + 1 =>
        obtain ⟨M, e, k1, k2, k3, k4, k5⟩ := h1 j (by simpa using hj)
        exact ⟨M, e, by rw [List.getElem?_cons_succ]; exact k1, by show ((P.putNV N) :: (P.putN N).addrs r)[j + 1]? = _; rw [List.getElem?_cons_succ]; exact k2, k3, by rw [← hfi]; exact k4, by rw [← hn1]; exact k5⟩
    · have h7 := store_old hc hN a ha
      show ((P.putN N).putAll r).store D a = _
      rw [h2 a (by rw [h7]; exact ha), h7]
    · show ((P.putN N).putAll r).C.free + (r.length + 1) = _
      rw [hC] at h3
      omega
end Go.Proofs.YtgedmodnkiijkaaGreatDoor

namespace Go.Proofs.YtgedmodnkiijkaaGreatDoor
open Go Go.RowKit Go.Proofs

/-- The kids of nodes that are laid down one behind the other. -/
def kidsN : Pl → List Nd → List Kidd
  | _, [] => []
  | P, N :: r => ⟨N.least, P.putNV N⟩ :: kidsN (P.putN N) r
theorem kidsN_len : ∀ (Ns : List Nd) (P : Pl), (kidsN P Ns).length = Ns.length
  | [], _ => rfl
  | N :: r, P => by show (_ :: _).length = _; rw [List.length_cons, kidsN_len r, List.length_cons]
theorem kidsN_get : ∀ (Ns : List Nd) (P : Pl) (j : Nat) (N : Nd) (a : Int), Ns[j]? = some N → (P.addrs Ns)[j]? = some a → (kidsN P Ns)[j]? = some ⟨N.least, a⟩
  | [], _, j, N, a, h, _ => by cases h
  | M :: r, P, 0, N, a, h, k => by
    have e1 : M = N := Option.some.inj h
    have e2 : P.putNV M = a := Option.some.inj k
    show some _ = _
    rw [e1] at e2 ⊢
    rw [e2]
  | M :: r, P, j + 1, N, a, h, k => kidsN_get r (P.putN M) j N a (by simpa using h) (by have k : (P.putNV M :: (P.putN M).addrs r)[j + 1]? = some a := k; simpa using k)
theorem least_items {p : List Itm} (h : p ≠ []) : (⟨0, p, []⟩ : Nd).least = (itAt p 0).k := by
  have hl : 0 < p.length := List.length_pos_iff.2 h
  unfold Nd.least
  rw [keys_items, List.length_map, if_neg (by omega), keyAt_items p hl]
theorem least_kids (l : Int) {q : List Kidd} (h : q ≠ []) : (⟨l, [], q⟩ : Nd).least = (kidAt q 0).k := by
  have hl : 0 < q.length := List.length_pos_iff.2 h
  unfold Nd.least
  rw [keys_kids, List.length_map, if_neg (by omega), keyAt_map q hl]
theorem zip_at {α β : Type} {l : List α} {r : List β} {j : Nat} {a : α} {b : β} (h1 : l[j]? = some a) (h2 : r[j]? = some b) : (l.zip r)[j]? = some (a, b) := List.getElem?_zip_eq_some.2 ⟨h1, h2⟩
theorem first_pos (C : Ct) : 2 ≤ C.first := by unfold Ct.first; omega
/-- Nodes of a level that are laid down, and the row below each of them. -/
structure Beds (l : Nat) (R : Int → Nd × Int) (Ns : List Nd) (rows : List (List Itm)) : Prop where
  len : rows.length = Ns.length
  may : ∀ N ∈ Ns, N.may = true
  holds : ∀ (j : Nat) (N : Nd) (p : List Itm), Ns[j]? = some N → rows[j]? = some p → N.least = (itAt p 0).k ∧ ∀ (R' : Int → Nd × Int) (a : Int), (∀ b, (R b).2 = 0 → R' b = R b) → R' a = (N, 0) → HoldsT R' l a p
/-- Laid down they are trees. -/
theorem beds_twigs {D : DM} {P : Pl} {l : Nat} {Ns : List Nd} {rows : List (List Itm)} (H : Beds l (P.store D) Ns rows) (hok : P.ok) (hf : Ns.length ≤ P.C.free) :
    ∃ G : List Twig, kidsN P Ns = G.map kidOf ∧ G.map (·.2) = rows ∧ ∀ x ∈ G, HoldsT ((P.putAll Ns).store D) l x.1 x.2 ∧ 1 ≤ x.1 ∧ x.1 < 2048 := by
  obtain ⟨h1, h2, _⟩ := puts_all D Ns P hok H.may hf
  have hl := H.len
  have ha := addrs_len Ns P
  have hn := hok.c.1.2
  have hfi := first_pos P.C
  refine ⟨(P.addrs Ns).zip rows, ?_, ?_, ?_⟩
  · apply List.ext_getElem?
    intro j
    by_cases hj : j < Ns.length
    · obtain ⟨N, c, e1, e2, e3, e4, e5⟩ := h1 j hj
      have e6 : rows[j]? = some rows[j] := List.getElem?_eq_getElem (by omega)
      rw [kidsN_get Ns P j N _ e1 e2, List.getElem?_map, zip_at e2 e6, (H.holds j N _ e1 e6).1]
      rfl
    · rw [List.getElem?_eq_none (by rw [kidsN_len]; omega), List.getElem?_eq_none (by rw [List.length_map, List.length_zip]; omega)]
  · exact List.map_snd_zip (by omega)
  · intro x hx
    obtain ⟨j, hj, e⟩ := List.getElem_of_mem hx
    rw [List.length_zip] at hj
    have hjN : j < Ns.length := by omega
    obtain ⟨N, c, e1, e2, e3, e4, e5⟩ := h1 j hjN
    have e6 : rows[j]? = some rows[j] := List.getElem?_eq_getElem (by omega)
    have e7 := zip_at e2 e6
    rw [List.getElem?_eq_getElem (by rw [List.length_zip]; exact hj), e] at e7
    obtain rfl := Option.some.inj e7
    exact ⟨(H.holds j N _ e1 e6).2 _ _ h2 e3, by show (1 : Int) ≤ (c : Int); omega, by show (c : Int) < 2048; omega⟩
def leavesN (cuts : List Int) (l : List Itm) : List Nd := if l.length = 0 then [] else (cutsL 3 6 cuts l.length 0 l).map fun p => ⟨0, p, []⟩
def innerN (cuts : List Int) (lv : Nat) (ks : List Kidd) : List Nd := (cutsL 6 12 cuts ks.length 0 ks).map fun p => ⟨(lv : Int), [], p⟩
theorem beds_leaves (cuts : List Int) {R : Int → Nd × Int} {l : List Itm} (h0 : l ≠ []) (hr : risen l) (hk : ∀ x ∈ l, x.k.may = true ∧ x.v.length ≤ 28) :
    Beds 0 R (leavesN cuts l) (cutsL 3 6 cuts l.length 0 l) ∧ (leavesN cuts l).length * 3 ≤ l.length + 3 ∧ 1 ≤ (leavesN cuts l).length := by
  have hlp : 0 < l.length := List.length_pos_iff.2 h0
  have hN : leavesN cuts l = (cutsL 3 6 cuts l.length 0 l).map fun p => ⟨0, p, []⟩ := if_neg (by omega)
  obtain ⟨n1, n2, _⟩ := cutsL_len (lo := 3) (hi := 6) cuts (by omega) (by omega) l.length 0 l
  have hfl := cutsL_flatten 3 6 cuts l.length 0 l
  have hp := cutsL_parts (lo := 3) (hi := 6) cuts (by omega) (by omega) (by omega) l.length 0 l (by omega)
  have hne := cutsL_ne (lo := 3) (hi := 6) cuts (by omega) (by omega) (by omega) l.length 0 l (by omega) h0
  rw [hN, List.length_map]
  refine ⟨⟨by rw [List.length_map], fun N hN => ?_, fun j N p e1 e2 => ?_⟩, n1, n2⟩
  · obtain ⟨p, hp', rfl⟩ := List.mem_map.1 hN
    obtain ⟨j, hj, e⟩ := List.getElem_of_mem hp'
    have hrp := risen_part (parts := cutsL 3 6 cuts l.length 0 l) (by rw [hfl]; exact hr) j
    rw [List.getD_eq_getElem?_getD, List.getElem?_eq_getElem hj, e] at hrp
    refine leaf_may (by have := List.length_pos_iff.2 (hne p hp'); omega) (hp p hp').1 hrp fun x hx => hk x ?_
    rw [← hfl, List.mem_flatten]
    exact ⟨p, hp', hx⟩
  · rw [List.getElem?_map, e2] at e1
    obtain rfl := Option.some.inj e1
    have hpe : p ≠ [] := hne p (List.mem_of_getElem? e2)
    exact ⟨least_items hpe, fun R' a _ h => ⟨h, hpe⟩⟩
theorem row_of_parts {Gs : List (List Twig)} {j : Nat} {q : List Twig} (h : Gs[j]? = some q) (hr : risen (rowOf Gs.flatten)) : risen (rowOf q) := by
  rw [rowOf_flatten] at hr
  have hrp := risen_part hr j
  rw [List.getD_eq_getElem?_getD, List.getElem?_map, h] at hrp
  exact hrp
theorem mem_rowOf {G : List Twig} {x : Itm} : x ∈ rowOf G ↔ ∃ t ∈ G, x ∈ t.2 := by
  unfold rowOf
  rw [List.mem_flatten]
  constructor
  · rintro ⟨r, hr, hx⟩
    obtain ⟨t, ht, rfl⟩ := List.mem_map.1 hr
    exact ⟨t, ht, hx⟩
  · rintro ⟨t, ht, hx⟩
    exact ⟨_, List.mem_map_of_mem ht, hx⟩
/-- The next level: the kids are cut into nodes. -/
theorem beds_inner (cuts : List Int) {R : Int → Nd × Int} {l : Nat} (hl : l < 7) {G : List Twig} (hG : ∀ x ∈ G, HoldsT R l x.1 x.2 ∧ 1 ≤ x.1 ∧ x.1 < 2048) (h2 : 2 ≤ G.length) (hr : risen (rowOf G)) (hk : ∀ x ∈ rowOf G, x.k.may = true) :
    Beds (l + 1) R (innerN cuts (l + 1) (G.map kidOf)) ((cutsL 6 12 cuts G.length 0 G).map rowOf) ∧ (innerN cuts (l + 1) (G.map kidOf)).length * 6 ≤ G.length + 6 ∧ 1 ≤ (innerN cuts (l + 1) (G.map kidOf)).length ∧ (1 < (innerN cuts (l + 1) (G.map kidOf)).length → 12 < G.length) ∧ ((cutsL 6 12 cuts G.length 0 G).map rowOf).flatten = rowOf G := by
  have hN : innerN cuts (l + 1) (G.map kidOf) = (cutsL 6 12 cuts G.length 0 G).map fun q => ⟨((l + 1 : Nat) : Int), [], q.map kidOf⟩ := by
    unfold innerN
    rw [cutsL_map, List.length_map, List.map_map]
    rfl
  obtain ⟨n1, n2, n3⟩ := cutsL_len (lo := 6) (hi := 12) cuts (by omega) (by omega) G.length 0 G
  have hfl := cutsL_flatten 6 12 cuts G.length 0 G
  have hp := cutsL_parts (lo := 6) (hi := 12) cuts (by omega) (by omega) (by omega) G.length 0 G (by omega)
  have hsub : ∀ q ∈ cutsL 6 12 cuts G.length 0 G, ∀ x ∈ q, x ∈ G := fun q hq x hx => by
    rw [← hfl, List.mem_flatten]
    exact ⟨q, hq, hx⟩
  have hq2 : ∀ q ∈ cutsL 6 12 cuts G.length 0 G, 2 ≤ q.length := fun q hq => by
    rcases (hp q hq).2 with h | h
    · omega
    · rw [h]; exact h2
  have hne : ∀ x ∈ G, x.2 ≠ [] := fun x hx e => by
    obtain ⟨y, r, e2⟩ := holds_ne (hG x hx).1
    rw [e] at e2
    cases e2
  rw [hN, List.length_map]
  refine ⟨⟨by rw [List.length_map, List.length_map], fun N hN => ?_, fun j N p e1 e2 => ?_⟩, n1, n2, n3, by rw [← rowOf_flatten, hfl]⟩
  · obtain ⟨q, hq, rfl⟩ := List.mem_map.1 hN
    obtain ⟨j, hj, e⟩ := List.getElem_of_mem hq
    have hrq : risen (rowOf q) := row_of_parts (Gs := cutsL 6 12 cuts G.length 0 G) (j := j) (by rw [List.getElem?_eq_getElem hj, e]) (by rw [hfl]; exact hr)
    refine inner_may hl (hq2 q hq) (hp q hq).1 hrq (fun x hx => hk x ?_) (fun x hx => (hG x (hsub q hq x hx)).2) fun x hx => hne x (hsub q hq x hx)
    obtain ⟨t, ht, hxt⟩ := mem_rowOf.1 hx
    exact mem_rowOf.2 ⟨t, hsub q hq t ht, hxt⟩
  · rw [List.getElem?_map] at e1 e2
    obtain ⟨q, hq, rfl⟩ := Option.map_eq_some_iff.1 e2
    rw [hq] at e1
    obtain rfl := Option.some.inj e1
    have hqm := List.mem_of_getElem? hq
    have hqn : 2 ≤ q.length := hq2 q hqm
    match q, hqn, hqm with
    | t :: r, _, hqm =>
      have ht := hsub _ hqm t (List.mem_cons_self ..)
      refine ⟨?_, fun R' a hR h => ?_⟩
      · rw [least_kids _ (by simp)]
        match e : t.2, hne t ht with
        | y :: s, _ =>
          have e3 : rowOf (t :: r) = y :: (s ++ rowOf r) := by
            unfold rowOf
            rw [List.map_cons, List.flatten_cons, e, List.cons_append]
          rw [e3]
          show (itAt t.2 0).k = y.k
          rw [e]
          rfl
      · exact holds_group (fun x hx => holds_mono hR (hG x (hsub _ hqm x hx)).1) (by simp) h
/-- A tree that was grown. -/
structure Grew (P P' : Pl) (D : DM) (root : Int) (its : List Itm) : Prop where
  tree : ∃ l, l ≤ 6 ∧ HoldsT (P'.store D) l root its
  ok : P'.ok
  n : P'.C.n = P.C.n
  S : P'.S = P.S
  free : 10 ≤ P'.C.free
  old : ∀ a, (P.store D a).2 = 0 → P'.store D a = P.store D a
  lo : 1 ≤ root ∧ root < 2048
end Go.Proofs.YtgedmodnkiijkaaGreatDoor

namespace Go.Proofs.YtgedmodnkiijkaaGreatDoor
open Go Go.RowKit Go.Proofs

def leafN (p : List Itm) : Nd := ⟨0, p, []⟩
/-- What is still to be cut. -/
def leavesT (cuts : List Int) (f q : Nat) (r : List Itm) : List Nd := if r.length = 0 then [] else (cutsL 3 6 cuts f q r).map leafN
theorem leavesT_all (cuts : List Int) (l : List Itm) : leavesT cuts l.length 0 l = leavesN cuts l := rfl
theorem leavesT_step (cuts : List Int) (f q : Nat) (r : List Itm) (h : 6 < r.length) : leavesT cuts (f + 1) q r = leafN (r.take (nextOf 3 6 cuts q r.length)) :: leavesT cuts f (q + 1) (r.drop (nextOf 3 6 cuts q r.length)) := by
  obtain ⟨_, _, h3⟩ := nextOf_in (lo := 3) (hi := 6) cuts q r.length (by omega) h (by omega)
  unfold leavesT
  rw [if_neg (by omega), if_neg (by rw [List.length_drop]; omega), cutsL, if_pos h, List.map_cons]
theorem leavesT_end (cuts : List Int) (f q : Nat) (r : List Itm) (h : r.length ≤ 6) : leavesT cuts f q r = if r.length = 0 then [] else [leafN r] := by
  unfold leavesT
  split
  · rfl
  · match f with
    | 0 => rfl
    | f + 1 => rw [cutsL, if_neg (by omega)]; rfl

set_option maxRecDepth 100000 in
set_option maxHeartbeats 16000000 in
theorem rleaves_any (A : Option Addr) (n c : Nat) (l : List Itm) (A2 : Option Addr) (n2 c2 : Nat) (cuts : List Int) (Q : World → Prop) (w : World) (hI : Itms w A n c l) (hQ : ∀ w', Q w' → Itms w' A n c l) (hC : Intl w A2 n2 c2 cuts) (hb : ∀ z ∈ cuts, -9223372036854775808 ≤ z ∧ z ≤ 9223372036854775807) (hn : n ≤ 400) :
    Calls Tryz.prog 31 #[.slice A n c, .slice A2 n2 c2] w fun e w' => ∃ A' n' c', e = .returned (.slice A' n' c') ∧ NdRow Q w' w.heap.size A' n' c' (leavesN cuts l) ∧ Below w.heap.size w w' := by
  have hl := Lib.hid hI.len
  have hcap := hI.bounds.1
  have hcmx := hI.bounds.2
  unfold maxLen at hcmx
  obtain ⟨R, hRe⟩ : ∃ R, leavesN cuts l = R := ⟨_, rfl⟩
  have hR : ([] : List Nd) ++ leavesT cuts n 0 (l.drop 0) = R := by rw [← hRe, ← leavesT_all, hl.out]; rfl
  rw [hRe]
  clear hRe
  go_enter Tryz.func31, Tryz.ntmps31
  go_wp2_with fail
  have B1 : Below w.heap.size w (w.alloc (.cells #[] 56)) := (Below.refl _ _).alloc (Nat.le_refl _) _
  have N0 := ndrow_lit0 Q w
  generalize w.alloc (.cells #[] 56) = w1 at B1 N0 ⊢
  go_loopw [5, 6, 7] (fun lv a _ wr => ∃ (p q f : Nat) (A' : Option Addr) (c' : Nat) (Ns : List Nd), p ≤ n ∧ (0 < n → p < n) ∧ n ≤ p + f + 6 ∧ q ≤ p ∧ a = .int .i64 (p : Int) ∧ lv = .slice A' q c' ∧ NdRow Q wr w.heap.size A' q c' Ns ∧ Ns ++ leavesT cuts f q (l.drop p) = R ∧ Below w.heap.size w wr) (fun _ a _ _ => n - (intOf a).toNat)
  case atStart => exact ⟨0, 0, n, _, _, [], Nat.zero_le _, id, by omega, Nat.le_refl _, rfl, rfl, N0, hR, B1⟩
  case round =>
    clear N0 B1 hR
    obtain ⟨p, q, f, A', c', Ns, hpn, hpl, hf, hqp, rfl, rfl, N, hR, B⟩ := hrel
    have zB := B.size
    by_cases hbig : 6 < n - p
    · obtain ⟨f, rfl⟩ : ∃ f', f = f' + 1 := ⟨f - 1, by omega⟩
      have hlen : (l.drop p).length = n - p := by rw [List.length_drop, hl.out]
      have hstep := leavesT_step cuts f q (l.drop p) (by omega)
      obtain ⟨x, hx⟩ : ∃ x, cutOf cuts q = x := ⟨_, rfl⟩
      have hnx : nextOf 3 6 cuts q (l.drop p).length = if n - p < 3 + x % 4 + 3 then 3 else 3 + x % 4 := by unfold nextOf; rw [hlen, hx]
      rw [hnx, List.drop_drop] at hstep
      rw [hstep] at hR
      have hct := fun w' (b : Below w.heap.size w w') => rcut_any A2 n2 c2 cuts q w' (Sls.below hC b) hb (by omega)
      rw [hx] at hct
      obtain ⟨y, hy⟩ : ∃ y, x % 4 = y := ⟨_, rfl⟩
      have hy4 : y < 4 := by rw [← hy]; exact Nat.mod_lt _ (by omega)
      have hm4 : (x : Int).tmod 4 = (y : Int) := by rw [← hy]; exact (Int.ofNat_tmod x 4).symm
      rw [hy] at hR
      have Hct := Lib.hid hct
      have g1 : (6 : Int) < (n : Int) - (p : Int) := by omega
      clear hstep hnx hct hx hy
      go_wp2_with fail
      refine (Hct.out wr B).mono ?_
      rintro e w2 ⟨rfl, rfl⟩
      by_cases hsm : n - p < 3 + y + 3
      · rw [if_pos hsm] at hR
        have g2 : (n : Int) - (p : Int) - (3 + (y : Int)) < 3 := by omega
        obtain ⟨A3, hA3⟩ : ∃ A3, (if c = p then A else Option.map (fun x => x.add (p * 4)) A) = A3 := ⟨_, rfl⟩
        have hsub := fun w' (q : Q w') => (hQ w' q).sub (i := p) (j := p + 3) (by omega) (by omega)
        simp only [hA3, (show p + 3 - p = 3 by omega)] at hsub
        have hNd : NdOk Q (ndvs 0 A3 3 (c - p) none 0 0) (leafN ((l.drop p).take 3)) := ⟨A3, 3, c - p, none, 0, 0, rfl, by omega, by omega, fun w' q => ⟨hsub w' q, kidl_nil w'⟩⟩
        have b2 : Below wr.heap.size wr (wr.alloc (.cells #[.int .i64 0, .slice A3 3 (c - p), .slice none 0 0] 56)) := (Below.refl _ _).alloc (Nat.le_refl _) _
        have z2 := b2.size
        clear hsub
        go_wp2_with (first
          | (at_builtin; refine wp_append_node rfl _ _ rfl w.heap.size A' q c' Ns rfl (N.below b2) (some ⟨wr.heap.size, 0, none⟩) 1 _ _ rfl (lit1_node wr 0 A3 3 (c - p) none 0 0) hNd (by omega) (by omega) ?_)
          | fail)
        intro A5 c5 w5 N5 b5
        have B5 := B.trans ((b2.mono zB).trans b5)
        go_wp2
        exact ⟨⟨p + 3, q + 1, f, _, _, _, by omega, by omega, by omega, by omega, by go_num, rfl, N5, by rw [List.append_assoc]; exact hR, B5⟩, by simp [intOf]; omega⟩
      · rw [if_neg hsm] at hR
        have g2 : ¬ (n : Int) - (p : Int) - (3 + (y : Int)) < 3 := by omega
        obtain ⟨A3, hA3⟩ : ∃ A3, (if c = p then A else Option.map (fun x => x.add (p * 4)) A) = A3 := ⟨_, rfl⟩
        have hsub := fun w' (q : Q w') => (hQ w' q).sub (i := p) (j := p + (3 + y)) (by omega) (by omega)
        simp only [hA3, (show p + (3 + y) - p = 3 + y by omega)] at hsub
        have hNd : NdOk Q (ndvs 0 A3 (3 + y) (c - p) none 0 0) (leafN ((l.drop p).take (3 + y))) := ⟨A3, 3 + y, c - p, none, 0, 0, rfl, by omega, by omega, fun w' q => ⟨hsub w' q, kidl_nil w'⟩⟩
        have b2 : Below wr.heap.size wr (wr.alloc (.cells #[.int .i64 0, .slice A3 (3 + y) (c - p), .slice none 0 0] 56)) := (Below.refl _ _).alloc (Nat.le_refl _) _
        have z2 := b2.size
        clear hsub
        go_wp2_with (first
          | (at_builtin; refine wp_append_node rfl _ _ rfl w.heap.size A' q c' Ns rfl (N.below b2) (some ⟨wr.heap.size, 0, none⟩) 1 _ _ rfl (lit1_node wr 0 A3 (3 + y) (c - p) none 0 0) hNd (by omega) (by omega) ?_)
          | fail)
        intro A5 c5 w5 N5 b5
        have B5 := B.trans ((b2.mono zB).trans b5)
        go_wp2
        exact ⟨⟨p + (3 + y), q + 1, f, _, _, _, by omega, by omega, by omega, by omega, by go_num, rfl, N5, by rw [List.append_assoc]; exact hR, B5⟩, by simp [intOf]; omega⟩
    · have g1 : ¬ (6 : Int) < (n : Int) - (p : Int) := by omega
      rw [leavesT_end cuts f q _ (by rw [List.length_drop, hl.out]; omega), List.length_drop, hl.out] at hR
      by_cases h0 : n = 0
      · rw [if_pos (by omega), List.append_nil] at hR
        subst hR
        have g2 : ¬ (p : Int) < (n : Int) := by omega
        go_wp2
        go_ret
        exact ⟨_, _, _, rfl, N, B⟩
      · have hp := hpl (by omega)
        rw [if_neg (by omega)] at hR
        have g2 : (p : Int) < (n : Int) := by omega
        obtain ⟨A3, hA3⟩ : ∃ A3, Option.map (fun x => x.add (p * 4)) A = A3 := ⟨_, rfl⟩
        have hsub := fun w' (q : Q w') => (hQ w' q).drop (k := p) (by omega)
        simp only [if_neg (show ¬ c = p by omega), hA3] at hsub
        have hNd : NdOk Q (ndvs 0 A3 (n - p) (c - p) none 0 0) (leafN (l.drop p)) := ⟨A3, n - p, c - p, none, 0, 0, rfl, by omega, by omega, fun w' q => ⟨hsub w' q, kidl_nil w'⟩⟩
        have b2 : Below wr.heap.size wr (wr.alloc (.cells #[.int .i64 0, .slice A3 (n - p) (c - p), .slice none 0 0] 56)) := (Below.refl _ _).alloc (Nat.le_refl _) _
        have z2 := b2.size
        clear hsub
        go_wp2_with (first
          | (at_builtin; refine wp_append_node rfl _ _ rfl w.heap.size A' q c' Ns rfl (N.below b2) (some ⟨wr.heap.size, 0, none⟩) 1 _ _ rfl (lit1_node wr 0 A3 (n - p) (c - p) none 0 0) hNd (by omega) (by omega) ?_)
          | fail)
        intro A5 c5 w5 N5 b5
        have B5 := B.trans ((b2.mono zB).trans b5)
        try rw [hR] at N5
        go_wp2
        go_ret
        exact ⟨_, _, _, rfl, N5, B5⟩
end Go.Proofs.YtgedmodnkiijkaaGreatDoor

namespace Go.Proofs.YtgedmodnkiijkaaGreatDoor
open Go Go.RowKit Go.Proofs

def innN (lv : Nat) (p : List Kidd) : Nd := ⟨(lv : Int), [], p⟩
def innT (cuts : List Int) (lv f q : Nat) (r : List Kidd) : List Nd := (cutsL 6 12 cuts f q r).map (innN lv)
theorem innT_all (cuts : List Int) (lv : Nat) (l : List Kidd) : innT cuts lv l.length 0 l = innerN cuts lv l := rfl
theorem innT_step (cuts : List Int) (lv f q : Nat) (r : List Kidd) (h : 12 < r.length) : innT cuts lv (f + 1) q r = innN lv (r.take (nextOf 6 12 cuts q r.length)) :: innT cuts lv f (q + 1) (r.drop (nextOf 6 12 cuts q r.length)) := by
  unfold innT
  rw [cutsL, if_pos h, List.map_cons]
theorem innT_end (cuts : List Int) (lv f q : Nat) (r : List Kidd) (h : r.length ≤ 12) : innT cuts lv f q r = [innN lv r] := by
  unfold innT
  match f with
  | 0 => rfl
  | f + 1 => rw [cutsL, if_neg (by omega)]; rfl

set_option maxRecDepth 100000 in
set_option maxHeartbeats 16000000 in
theorem rinner_any (A : Option Addr) (n c : Nat) (l : List Kidd) (lv : Nat) (A2 : Option Addr) (n2 c2 : Nat) (cuts : List Int) (Q : World → Prop) (w : World) (hI : Kidl w A n c l) (hQ : ∀ w', Q w' → Kidl w' A n c l) (hC : Intl w A2 n2 c2 cuts) (hb : ∀ z ∈ cuts, -9223372036854775808 ≤ z ∧ z ≤ 9223372036854775807) (hn : n ≤ 400) :
    Calls Tryz.prog 33 #[.slice A n c, .int .i64 (lv : Int), .slice A2 n2 c2] w fun e w' => ∃ A' n' c', e = .returned (.slice A' n' c') ∧ NdRow Q w' w.heap.size A' n' c' (innerN cuts lv l) ∧ Below w.heap.size w w' := by
  have hl := Lib.hid hI.len
  have hcap := hI.bounds.1
  have hcmx := hI.bounds.2
  unfold maxLen at hcmx
  obtain ⟨R, hRe⟩ : ∃ R, innerN cuts lv l = R := ⟨_, rfl⟩
  have hR : ([] : List Nd) ++ innT cuts lv n 0 (l.drop 0) = R := by rw [← hRe, ← innT_all, hl.out]; rfl
  rw [hRe]
  clear hRe
  go_enter Tryz.func33, Tryz.ntmps33
  go_wp2_with fail
  have B1 : Below w.heap.size w (w.alloc (.cells #[] 56)) := (Below.refl _ _).alloc (Nat.le_refl _) _
  have N0 := ndrow_lit0 Q w
  generalize w.alloc (.cells #[] 56) = w1 at B1 N0 ⊢
  go_loopw [7, 8, 9] (fun ov a _ wr => ∃ (p q f : Nat) (A' : Option Addr) (c' : Nat) (Ns : List Nd), p ≤ n ∧ n ≤ p + f + 12 ∧ q ≤ p ∧ a = .int .i64 (p : Int) ∧ ov = .slice A' q c' ∧ NdRow Q wr w.heap.size A' q c' Ns ∧ Ns ++ innT cuts lv f q (l.drop p) = R ∧ Below w.heap.size w wr) (fun _ a _ _ => n - (intOf a).toNat)
  case atStart => exact ⟨0, 0, n, _, _, [], Nat.zero_le _, by omega, Nat.le_refl _, rfl, rfl, N0, hR, B1⟩
  case round =>
    clear N0 B1 hR
    obtain ⟨p, q, f, A', c', Ns, hpn, hf, hqp, rfl, rfl, N, hR, B⟩ := hrel
    have zB := B.size
    by_cases hbig : 12 < n - p
    · obtain ⟨f, rfl⟩ : ∃ f', f = f' + 1 := ⟨f - 1, by omega⟩
      have hlen : (l.drop p).length = n - p := by rw [List.length_drop, hl.out]
      have hstep := innT_step cuts lv f q (l.drop p) (by omega)
      obtain ⟨x, hx⟩ : ∃ x, cutOf cuts q = x := ⟨_, rfl⟩
      have hnx : nextOf 6 12 cuts q (l.drop p).length = if n - p < 6 + x % 7 + 6 then 6 else 6 + x % 7 := by unfold nextOf; rw [hlen, hx]
      rw [hnx, List.drop_drop] at hstep
      rw [hstep] at hR
      have hct := fun w' (b : Below w.heap.size w w') => rcut_any A2 n2 c2 cuts q w' (Sls.below hC b) hb (by omega)
      rw [hx] at hct
      obtain ⟨y, hy⟩ : ∃ y, x % 7 = y := ⟨_, rfl⟩
      have hy4 : y < 7 := by rw [← hy]; exact Nat.mod_lt _ (by omega)
      have hm4 : (x : Int).tmod 7 = (y : Int) := by rw [← hy]; exact (Int.ofNat_tmod x 7).symm
      rw [hy] at hR
      have Hct := Lib.hid hct
      have g1 : (12 : Int) < (n : Int) - (p : Int) := by omega
      clear hstep hnx hct hx hy
      go_wp2_with fail
      refine (Hct.out wr B).mono ?_
      rintro e w2 ⟨rfl, rfl⟩
      by_cases hsm : n - p < 6 + y + 6
      · rw [if_pos hsm] at hR
        have g2 : (n : Int) - (p : Int) - (6 + (y : Int)) < 6 := by omega
        obtain ⟨A3, hA3⟩ : ∃ A3, (if c = p then A else Option.map (fun x => x.add (p * 4)) A) = A3 := ⟨_, rfl⟩
        have hsub := fun w' (q : Q w') => (hQ w' q).sub (i := p) (j := p + 6) (by omega) (by omega)
        simp only [hA3, (show p + 6 - p = 6 by omega)] at hsub
        have hNd : NdOk Q (ndvs (lv : Int) none 0 0 A3 6 (c - p)) (innN lv ((l.drop p).take 6)) := ⟨none, 0, 0, A3, 6, c - p, rfl, by omega, by omega, fun w' q => ⟨itms_nil w', hsub w' q⟩⟩
        have b2 : Below wr.heap.size wr (wr.alloc (.cells #[.int .i64 (lv : Int), .slice none 0 0, .slice A3 6 (c - p)] 56)) := (Below.refl _ _).alloc (Nat.le_refl _) _
        have z2 := b2.size
        clear hsub
        go_wp2_with (first
          | (at_builtin; refine wp_append_node rfl _ _ rfl w.heap.size A' q c' Ns rfl (N.below b2) (some ⟨wr.heap.size, 0, none⟩) 1 _ _ rfl (lit1_node wr (lv : Int) none 0 0 A3 6 (c - p)) hNd (by omega) (by omega) ?_)
          | fail)
        intro A5 c5 w5 N5 b5
        have B5 := B.trans ((b2.mono zB).trans b5)
        go_wp2
        exact ⟨⟨p + 6, q + 1, f, _, _, _, by omega, by omega, by omega, by go_num, rfl, N5, by rw [List.append_assoc]; exact hR, B5⟩, by simp [intOf]; omega⟩
      · rw [if_neg hsm] at hR
        have g2 : ¬ (n : Int) - (p : Int) - (6 + (y : Int)) < 6 := by omega
        obtain ⟨A3, hA3⟩ : ∃ A3, (if c = p then A else Option.map (fun x => x.add (p * 4)) A) = A3 := ⟨_, rfl⟩
        have hsub := fun w' (q : Q w') => (hQ w' q).sub (i := p) (j := p + (6 + y)) (by omega) (by omega)
        simp only [hA3, (show p + (6 + y) - p = 6 + y by omega)] at hsub
        have hNd : NdOk Q (ndvs (lv : Int) none 0 0 A3 (6 + y) (c - p)) (innN lv ((l.drop p).take (6 + y))) := ⟨none, 0, 0, A3, 6 + y, c - p, rfl, by omega, by omega, fun w' q => ⟨itms_nil w', hsub w' q⟩⟩
        have b2 : Below wr.heap.size wr (wr.alloc (.cells #[.int .i64 (lv : Int), .slice none 0 0, .slice A3 (6 + y) (c - p)] 56)) := (Below.refl _ _).alloc (Nat.le_refl _) _
        have z2 := b2.size
        clear hsub
        go_wp2_with (first
          | (at_builtin; refine wp_append_node rfl _ _ rfl w.heap.size A' q c' Ns rfl (N.below b2) (some ⟨wr.heap.size, 0, none⟩) 1 _ _ rfl (lit1_node wr (lv : Int) none 0 0 A3 (6 + y) (c - p)) hNd (by omega) (by omega) ?_)
          | fail)
        intro A5 c5 w5 N5 b5
        have B5 := B.trans ((b2.mono zB).trans b5)
        go_wp2
        exact ⟨⟨p + (6 + y), q + 1, f, _, _, _, by omega, by omega, by omega, by go_num, rfl, N5, by rw [List.append_assoc]; exact hR, B5⟩, by simp [intOf]; omega⟩
    · have g1 : ¬ (12 : Int) < (n : Int) - (p : Int) := by omega
      rw [innT_end cuts lv f q _ (by rw [List.length_drop, hl.out]; omega)] at hR
      obtain ⟨A3, hA3⟩ : ∃ A3, (if c = p then A else Option.map (fun x => x.add (p * 4)) A) = A3 := ⟨_, rfl⟩
      have hsub := fun w' (q : Q w') => (hQ w' q).drop (k := p) (by omega)
      simp only [hA3] at hsub
      have hNd : NdOk Q (ndvs (lv : Int) none 0 0 A3 (n - p) (c - p)) (innN lv (l.drop p)) := ⟨none, 0, 0, A3, n - p, c - p, rfl, by omega, by omega, fun w' q => ⟨itms_nil w', hsub w' q⟩⟩
      have b2 : Below wr.heap.size wr (wr.alloc (.cells #[.int .i64 (lv : Int), .slice none 0 0, .slice A3 (n - p) (c - p)] 56)) := (Below.refl _ _).alloc (Nat.le_refl _) _
      have z2 := b2.size
      clear hsub
      go_wp2_with (first
        | (at_builtin; refine wp_append_node rfl _ _ rfl w.heap.size A' q c' Ns rfl (N.below b2) (some ⟨wr.heap.size, 0, none⟩) 1 _ _ rfl (lit1_node wr (lv : Int) none 0 0 A3 (n - p) (c - p)) hNd (by omega) (by omega) ?_)
        | fail)
      intro A5 c5 w5 N5 b5
      have B5 := B.trans ((b2.mono zB).trans b5)
      try rw [hR] at N5
      go_wp2
      go_ret
      exact ⟨_, _, _, rfl, N5, B5⟩
end Go.Proofs.YtgedmodnkiijkaaGreatDoor
