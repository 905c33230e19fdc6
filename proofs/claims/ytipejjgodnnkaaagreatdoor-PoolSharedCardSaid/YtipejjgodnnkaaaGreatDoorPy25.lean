/- The code's pool: Bytes of anything; Clone. A pool and its drive, for the laws: their blocks are T's, all from b on. Laws of the pool: a pool, its drive, and blocks of the law's own; rows of numbers. Laws of the pool, plain facts: what is read of what was put, and committed. Laws of the pool, plain facts: blocks laid down one behind the other. Laws of the pool: the document's example. The code's pool: Clone. Laws of the pool: an array of two rows of addresses, of the law's own, beside a pool. -/
import Derived.Test.YtipejjgodnnkaaaGreatDoorMore
import Derived.Test.YtipejjgodnnkaaaGreatDoorPy11
import Derived.Test.YtipejjgodnnkaaaGreatDoorPy12
import Derived.Test.YtipejjgodnnkaaaGreatDoorPy16
import Derived.Test.YtipejjgodnnkaaaGreatDoorRowG
import Derived.Test.YtipejjgodnnkaaaGreatDoorPy19
import Derived.Test.YtipejjgodnnkaaaGreatDoorPy22
import Derived.Test.YtipejjgodnnkaaaGreatDoorPy23
import Derived.Test.YtipejjgodnnkaaaGreatDoorPoS
import Derived.Test.YtipejjgodnnkaaaGreatDoorPy24
import Derived.Lib.SlBytesConst
namespace Go.Proofs.YtipejjgodnnkaaaGreatDoor
open Go Go.RowKit Go.Proofs
open Go.ChangeMaps (setBlock)

def Pl.bytesE (P : Pl) (D : DM) (a k : Int) : Int := match mostK k with
  | none => 1
  | some most => if P.C.get a = 0 then 1 else match P.live a.toNat with
    | some b => datE (b.out a.toNat 0) k a.toNat most 1
    | none => if D.readE a = 0 then datE (D.readL a) k a.toNat most 5 else D.readE a
def Pl.bytesL (P : Pl) (D : DM) (a k : Int) : List UInt8 := match mostK k with
  | none => []
  | some most => if P.C.get a = 0 then [] else match P.live a.toNat with
    | some b => datB (b.out a.toNat 0) k a.toNat most
    | none => if D.readE a = 0 then datB (D.readL a) k a.toNat most else []
def BytesSays (P : Pl) (D : DM) (p : Nat) (a k : Int) (w : World) : Prop :=
  Calls Tryz.prog 20 #[.pointer (some ⟨p, 0, none⟩), .int .i64 a, .int .i64 k] w fun e w' => ∃ A n c, e = .returned (.tuple #[.slice A n c, .int .i64 (P.bytesE D a k)]) ∧ Sl w' A n c (P.bytesL D a k) ∧ Below w.heap.size w w' ∧ ∀ ad, A = some ad → w.heap.size ≤ ad.block
theorem get_nat {C : Ct} {a : Int} (h : C.get a ≠ 0) : ∃ n : Nat, a = (n : Int) ∧ n < C.n := by
  have hin : 0 ≤ a ∧ a < (C.n : Int) := Classical.byContradiction fun h2 => h (by unfold Ct.get; rw [if_neg h2])
  exact ⟨a.toNat, by omega, by omega⟩
set_option maxRecDepth 100000 in
set_option maxHeartbeats 4000000 in
theorem pbytes_any {w : World} {p d : Nat} {S0 S T : Nat → Prop} {D : DM} {P : Pl} (L0 : Drv w d S0 D) (H : Pool w p d S T P) (ht : Tab w) (a k : Int) : BytesSays P D p a k w := by
  unfold BytesSays
  cases hk : mostK k with
  | none =>
    have hE : P.bytesE D a k = 1 := by unfold Pl.bytesE; rw [hk]
    have hL : P.bytesL D a k = [] := by unfold Pl.bytesL; rw [hk]
    rw [hE, hL]
    have hlo := plongest_any k
    unfold mostV at hlo
    rw [hk] at hlo
    clear hE hL hk
    go_enter Tryz.func20, Tryz.ntmps20
    go_wp2_with (first
      | (go_at_call 77; refine (hlo w).mono ?_; rintro e w1 ⟨rfl, rfl⟩)
      | fail)
    go_ret2
    exact ⟨_, _, _, rfl, sl_nil _, Below.refl _ _, fun ad h => (by cases h)⟩
  | some most =>
    have hlo := plongest_any k
    unfold mostV at hlo
    rw [hk] at hlo
    replace hlo : ∀ w : World, Calls Tryz.prog 77 #[.int .i64 k] w fun e w' => e = .returned (.tuple #[.int .i64 (most : Int), .bool true]) ∧ w = w' := hlo
    by_cases h0 : P.C.get a = 0
    · have hE : P.bytesE D a k = 1 := by unfold Pl.bytesE; rw [hk]; exact if_pos h0
      have hL : P.bytesL D a k = [] := by unfold Pl.bytesL; rw [hk]; exact if_pos h0
      rw [hE, hL]
      have hb := pblock_0 H a h0
      clear hE hL hk h0
      go_enter Tryz.func20, Tryz.ntmps20
      go_wp2_with (first
        | (go_at_call 77; refine (hlo w).mono ?_; rintro e w1 ⟨rfl, rfl⟩)
        | (go_at_call 78; refine hb.mono ?_; rintro e w2 ⟨rfl, rfl⟩)
        | fail)
      go_ret2
      exact ⟨_, _, _, rfl, sl_nil _, Below.refl _ _, fun ad h => (by cases h)⟩
    · obtain ⟨n, rfl, hn⟩ := get_nat h0
      cases hv : P.live n with
      | some b =>
        have hE : P.bytesE D (n : Int) k = datE (b.out n 0) k n most 1 := by unfold Pl.bytesE; rw [hk]; show (if _ then _ else _) = _; rw [if_neg h0, Int.toNat_natCast, hv]
        have hL : P.bytesL D (n : Int) k = datB (b.out n 0) k n most := by unfold Pl.bytesL; rw [hk]; show (if _ then _ else _) = _; rw [if_neg h0, Int.toNat_natCast, hv]
        rw [hE, hL]
        exact pbytes_at k most hk n _ 1 (pblock_new H n b hv) ht
      | none =>
        have hb := pblock_disk L0 H n h0 hv
        by_cases hr : D.readE (n : Int) = 0
        · have hE : P.bytesE D (n : Int) k = datE (D.readL (n : Int)) k n most 5 := by unfold Pl.bytesE; rw [hk]; show (if _ then _ else _) = _; rw [if_neg h0, Int.toNat_natCast, hv]; exact if_pos hr
          have hL : P.bytesL D (n : Int) k = datB (D.readL (n : Int)) k n most := by unfold Pl.bytesL; rw [hk]; show (if _ then _ else _) = _; rw [if_neg h0, Int.toNat_natCast, hv]; exact if_pos hr
          rw [hE, hL]
          rw [hr] at hb
          exact pbytes_at k most hk n _ 5 hb ht
        · have hE : P.bytesE D (n : Int) k = D.readE (n : Int) := by unfold Pl.bytesE; rw [hk]; show (if _ then _ else _) = _; rw [if_neg h0, Int.toNat_natCast, hv]; exact if_neg hr
          have hL : P.bytesL D (n : Int) k = [] := by unfold Pl.bytesL; rw [hk]; show (if _ then _ else _) = _; rw [if_neg h0, Int.toNat_natCast, hv]; exact if_neg hr
          rw [hE, hL]
          obtain ⟨E, hEE⟩ : ∃ E, D.readE (n : Int) = E := ⟨_, rfl⟩
          rw [hEE] at hb hr ⊢
          have nb : (E != 0) = true := by simpa using hr
          clear hE hL hk h0 hv hr hEE
          go_enter Tryz.func20, Tryz.ntmps20
          go_wp2_with (first
            | (go_at_call 77; refine (hlo w).mono ?_; rintro e w1 ⟨rfl, rfl⟩)
            | (go_at_call 78; refine hb.mono ?_; rintro e w2 ⟨A2, n2, c2, rfl, s2, b2⟩)
            | fail)
          go_ret2
          exact ⟨_, _, _, rfl, sl_nil _, b2, fun ad h => (by cases h)⟩
end Go.Proofs.YtipejjgodnnkaaaGreatDoor

namespace Go.Proofs.YtipejjgodnnkaaaGreatDoor
open Go Go.RowKit Go.Proofs

structure SysAt (b : Nat) (w : World) (d p : Nat) (S0 S T : Nat → Prop) (D : DM) (P : Pl) : Prop where
  drv : Drv w d S0 D
  pool : Pool w p d S T P
  sub : ∀ k, S0 k → T k
  apart : ∀ k, S0 k → ¬ S k
  tight : ∀ k, T k → b ≤ k ∧ k < w.heap.size
def Sys (b : Nat) (w : World) (d p : Nat) (T : Nat → Prop) (D : DM) (P : Pl) : Prop := ∃ S0 S, SysAt b w d p S0 S T D P
/-- What is made meanwhile is theirs, too. -/
def grow (T : Nat → Prop) (w w' : World) : Nat → Prop := fun k => (T k ∨ w.heap.size ≤ k) ∧ k < w'.heap.size
/-- A drive alone. -/
def Dr (b : Nat) (w : World) (d : Nat) (T : Nat → Prop) (D : DM) : Prop := ∃ S0, Drv w d S0 D ∧ (∀ k, S0 k → T k) ∧ ∀ k, T k → b ≤ k ∧ k < w.heap.size
section
variable {b : Nat} {w w' : World} {d p : Nat} {T : Nat → Prop} {D : DM} {P : Pl}
theorem SysAt.subS {S0 S : Nat → Prop} (H : SysAt b w d p S0 S T D P) : ∀ k, S k → T k := by
  obtain ⟨m, cur, l, clock, v, Sc, L⟩ := H.pool
  exact L.sub
theorem SysAt.base {S0 S : Nat → Prop} (H : SysAt b w d p S0 S T D P) : b ≤ w.heap.size := by
  obtain ⟨m, cur, l, clock, v, Sc, L⟩ := H.pool
  have := (H.tight _ (L.sub _ L.inS.1)).1
  have := L.plt
  omega
theorem Sys.below (H : Sys b w d p T D P) (hb : Below w.heap.size w w') : Sys b w' d p T D P := by
  obtain ⟨S0, S, H⟩ := H
  exact ⟨S0, S, H.drv.below hb, H.pool.below hb, H.sub, H.apart, fun k hk => ⟨(H.tight k hk).1, by have := (H.tight k hk).2; have := hb.size; omega⟩⟩
theorem Sys.ok (H : Sys b w d p T D P) : P.ok := by
  obtain ⟨S0, S, H⟩ := H
  exact H.pool.ok
theorem Sys.sectors (H : Sys b w d p T D P) : sectors D.n := by
  obtain ⟨S0, S, H⟩ := H
  exact H.drv.sectors
theorem Sys.tight (H : Sys b w d p T D P) : ∀ k, T k → b ≤ k ∧ k < w.heap.size := by
  obtain ⟨S0, S, H⟩ := H
  exact H.tight
theorem Sys.base (H : Sys b w d p T D P) : b ≤ w.heap.size := by
  obtain ⟨S0, S, H⟩ := H
  exact H.base
theorem Sys.dr (H : Sys b w d p T D P) : Dr b w d T D := by
  obtain ⟨S0, S, H⟩ := H
  exact ⟨S0, H.drv, H.sub, H.tight⟩
theorem Dr.below (H : Dr b w d T D) (hb : Below w.heap.size w w') : Dr b w' d T D := by
  obtain ⟨S0, H, h1, h2⟩ := H
  exact ⟨S0, H.below hb, h1, fun k hk => ⟨(h2 k hk).1, by have := (h2 k hk).2; have := hb.size; omega⟩⟩
theorem sys_of {w0 w : World} {d p q : Nat} {S0 : Nat → Prop} {D : DM} {P : Pl} (H : PoolOn w0 w p d q S0 D P) (hS0 : ∀ k, S0 k → b ≤ k) (hb : b ≤ w0.heap.size) : Sys b w d p (fun k => b ≤ k ∧ k < w.heap.size) D P := by
  refine ⟨fun k => (S0 k ∨ w0.heap.size ≤ k) ∧ k < q, fun k => q ≤ k ∧ k < w.heap.size, H.drv, ?_, fun k hk => ?_, fun k hk h => ?_, fun k hk => hk⟩
  · have h := H.pool (fun k => b ≤ k) (fun k hk => by have := H.ge.1; omega)
    exact h.mono (fun k hk h => ⟨h, hk⟩) (fun k hk h => h.1) fun k hk => ⟨by have := H.ge.1; omega, hk.2⟩
  · have := H.ge.2
    exact ⟨hk.1.elim (hS0 k) fun h => by omega, by omega⟩
  · omega

theorem sys_put (H : Sys b w d p T D P) (hb : 1 < b) (k : Int) (A : Option Addr) (n c : Nat) (x : List UInt8) (hs : Sl w A n c x) (hA : 0 < n → ∀ ad, A = some ad → ¬ T ad.block) (ht : Tab w) :
    Calls Tryz.prog 27 #[.pointer (some ⟨p, 0, none⟩), .int .i64 k, .slice A n c] w fun e w' => e = .returned (.tuple #[.int .i64 (P.putV k x.length), .int .i64 (P.putE k x.length)]) ∧ Sys b w' d p T D (P.put k x) ∧ Turn T w w' ∧ Tab w' := by
  obtain ⟨S0, S, H⟩ := H
  have hST := H.subS
  refine (pputbytes_any H.pool (fun k hk => (H.tight k hk).2) (fun h => by have := (H.tight _ h).1; omega) k A n c x hs (fun hn ad e h => hA hn ad e (hST _ h)) ht).mono ?_
  rintro e w' ⟨rfl, R, X⟩
  have hz := X.size
  exact ⟨rfl, ⟨S0, S, H.drv.keep fun k hk hs => X.block k hk (H.apart k hs), R, H.sub, H.apart, fun k hk => ⟨(H.tight k hk).1, by have := (H.tight k hk).2; omega⟩⟩, X.mono hST, ht.turned X fun h => by have := (H.tight _ (hST _ h)).1; omega⟩
theorem sys_bytes (H : Sys b w d p T D P) (ht : Tab w) (a k : Int) : BytesSays P D p a k w := by
  obtain ⟨S0, S, H⟩ := H
  exact pbytes_any H.drv H.pool ht a k
theorem sys_free (H : Sys b w d p T D P) (n : Nat) (hn : P.C.free = n) : Calls Tryz.prog 35 #[.pointer (some ⟨p, 0, none⟩)] w fun e w' => e = .returned (.int .i64 (n : Int)) ∧ w = w' := by
  obtain ⟨S0, S, H⟩ := H
  exact pfree_any H.pool n hn
theorem sys_super (H : Sys b w d p T D P) : Calls Tryz.prog 31 #[.pointer (some ⟨p, 0, none⟩)] w fun e w' => e = .returned (.agg P.S.vs.toArray) ∧ Below w.heap.size w w' := by
  obtain ⟨S0, S, H⟩ := H
  exact psuper_any H.pool
theorem sys_unref (H : Sys b w d p T D P) (hb : 1 < b) (ht : Tab w) (a : Int) :
    Calls Tryz.prog 39 #[.pointer (some ⟨p, 0, none⟩), .int .i64 a] w fun e w' => e = .returned (.tuple #[.int .i64 (P.C.unrefV a), .int .i64 (P.C.unrefE a)]) ∧ Sys b w' d p T D ⟨P.S, P.C.unref a, P.L⟩ ∧ Turn T w w' ∧ Tab w' := by
  obtain ⟨S0, S, H⟩ := H
  have hST := H.subS
  refine (punref_any H.pool a).mono ?_
  rintro e w' ⟨rfl, R, X⟩
  have hz := X.size
  exact ⟨rfl, ⟨S0, S, H.drv.keep fun k hk hs => X.block k hk (H.apart k hs), R, H.sub, H.apart, fun k hk => ⟨(H.tight k hk).1, by have := (H.tight k hk).2; omega⟩⟩, X.mono hST, ht.turned X fun h => by have := (H.tight _ (hST _ h)).1; omega⟩
theorem sys_commit (H : Sys b w d p T D P) (hb : 1 < b) (ht : Tab w) {m0 : Nat} (htm : D.tame m0) (hm0 : m0 ≤ 500000) (hgen : P.g < 1099511627775) :
    Calls Tryz.prog 15 #[.pointer (some ⟨p, 0, none⟩)] w fun e w' => e = .returned (.int .i64 (D.cmtE P)) ∧ Sys b w' d p (grow T w w') (D.runD P.steps) (D.cmtP P) ∧ Turn T w w' ∧ Tab w' := by
  obtain ⟨S0, S, H⟩ := H
  have hST := H.subS
  have hbb := H.base
  refine (pcommit_any H.drv H.pool H.sub H.apart (fun k hk => (H.tight k hk).2) (fun h => by have := (H.tight _ h).1; omega) ht htm hm0 hgen).mono ?_
  rintro e w' ⟨rfl, R, Q, X⟩
  have hz := X.size
  have hX : ∀ k, S0 k ∨ S k → T k := fun k hk => hk.elim (H.sub k) (hST k)
  refine ⟨rfl, ⟨fun k => (S0 k ∨ w.heap.size ≤ k) ∧ k < w'.heap.size, S, R.tight, ?_, fun k hk => ⟨hk.1.imp (H.sub k) id, hk.2⟩, fun k hk h => ?_, fun k hk => ⟨hk.1.elim (fun h => (H.tight k h).1) fun h => by omega, hk.2⟩⟩, X.mono hX, ht.turned X fun h => by have := (H.tight _ (hX _ h)).1; omega⟩
  · exact Q.mono (fun k _ h => h) (fun k hk h => h.1) fun k hk => ⟨.inl (hST k hk), by have := (H.tight k (hST k hk)).2; omega⟩
  · exact hk.1.elim (fun h2 => H.apart k h2 h) fun h2 => by have := (H.tight k (hST k h)).2; omega
theorem dr_mount (H : Dr b w d T D) (hb : b ≤ w.heap.size) (ht : Tab w) (hgn : (mtS D.newest).gen < 1099511627775) :
    Calls Tryz.prog 30 #[.pointer (some ⟨d, 0, none⟩)] w fun e w' =>
      ((mtE D.newest D.off D.n = 0 ∧ ∃ p, e = .returned (.tuple #[.pointer (some ⟨p, 0, none⟩), .int .i64 0]) ∧ Sys b w' d p (grow T w w') D (Pl.mounted D.newest D.n)) ∨
        (mtE D.newest D.off D.n ≠ 0 ∧ e = .returned (.tuple #[.pointer none, .int .i64 (mtE D.newest D.off D.n)]))) ∧ Below w.heap.size w w' := by
  obtain ⟨S0, L, h1, h2⟩ := H
  refine (pmount_any L ht hgn).mono ?_
  rintro e w' ⟨⟨h0, p, rfl, hp, hpn⟩ | ⟨h0, rfl⟩, B⟩
  · have hz := B.size
    refine ⟨.inl ⟨h0, p, rfl, S0, fun k => w.heap.size ≤ k ∧ k < w'.heap.size, L.below B, ?_, fun k hk => ⟨.inl (h1 k hk), by have := (h2 k (h1 k hk)).2; omega⟩, fun k hk h => by have := (h2 k (h1 k hk)).2; omega, fun k hk => ⟨hk.1.elim (fun h => (h2 k h).1) fun h => by omega, hk.2⟩⟩, B⟩
    exact (hp (fun k => T k ∨ w.heap.size ≤ k) fun k hk => .inr hk).mono (fun k hk h => ⟨h, hk⟩) (fun k hk h => h.1) fun k hk => ⟨.inr hk.1, hk.2⟩
  · exact ⟨.inr ⟨h0, rfl⟩, B⟩
end
end Go.Proofs.YtipejjgodnnkaaaGreatDoor

namespace Go.Proofs.YtipejjgodnnkaaaGreatDoor
open Go Go.RowKit Go.Proofs

section
variable {b : Nat} {w w' : World} {d p : Nat} {S0 S T S' : Nat → Prop} {D : DM} {P : Pl}
theorem SysAt.below (H : SysAt b w d p S0 S T D P) (hb : Below w.heap.size w w') : SysAt b w' d p S0 S T D P :=
  ⟨H.drv.below hb, H.pool.below hb, H.sub, H.apart, fun k hk => ⟨(H.tight k hk).1, by have := (H.tight k hk).2; have := hb.size; omega⟩⟩
/-- What is made meanwhile is kept apart from what the pool holds. -/
theorem SysAt.more (H : SysAt b w d p S0 S T D P) (hb : Below w.heap.size w w') : SysAt b w' d p S0 S (grow T w w') D P := by
  have hbb := H.base
  have hST := H.subS
  have hz := hb.size
  refine ⟨H.drv.below hb, (H.pool.mono (S' := S) (T' := grow T w w') (fun k _ h => h) (fun k hk h => ?_) (fun k h => ⟨.inl (hST k h), by have := (H.tight k (hST k h)).2; omega⟩)).below hb, fun k hk => ⟨.inl (H.sub k hk), by have := (H.tight k (H.sub k hk)).2; omega⟩, H.apart, fun k hk => ⟨hk.1.elim (fun h => (H.tight k h).1) fun h => by omega, hk.2⟩⟩
  exact h.1.elim id fun h => by omega
/-- Blocks of the law's own turn. -/
theorem SysAt.own (H : SysAt b w d p S0 S T D P) (t : Turn S' w w') (hT : ∀ k, S' k → T k) (h0 : ∀ k, S' k → ¬ S0 k) (h1 : ∀ k, S' k → ¬ S k) : SysAt b w' d p S0 S T D P :=
  ⟨H.drv.keep fun k hk hs => t.block k hk fun h => h0 k h hs, H.pool.other t hT h1, H.sub, H.apart, fun k hk => ⟨(H.tight k hk).1, by have := (H.tight k hk).2; have := t.size; omega⟩⟩
theorem grow_old0 {T : Nat → Prop} {w w' : World} {k : Nat} (h : T k) (hlt : k < w'.heap.size) : grow T w w' k := ⟨.inl h, hlt⟩
theorem SysAt.sys (H : SysAt b w d p S0 S T D P) : Sys b w d p T D P := ⟨S0, S, H⟩
theorem at_put (H : SysAt b w d p S0 S T D P) (hb : 1 < b) (k : Int) (A : Option Addr) (n c : Nat) (x : List UInt8) (hs : Sl w A n c x) (hA : 0 < n → ∀ ad, A = some ad → ¬ T ad.block) (ht : Tab w) :
    Calls Tryz.prog 27 #[.pointer (some ⟨p, 0, none⟩), .int .i64 k, .slice A n c] w fun e w' => e = .returned (.tuple #[.int .i64 (P.putV k x.length), .int .i64 (P.putE k x.length)]) ∧ SysAt b w' d p S0 S T D (P.put k x) ∧ Turn S w w' ∧ Tab w' := by
  have hST := H.subS
  refine (pputbytes_any H.pool (fun k hk => (H.tight k hk).2) (fun h => by have := (H.tight _ h).1; omega) k A n c x hs (fun hn ad e h => hA hn ad e (hST _ h)) ht).mono ?_
  rintro e w' ⟨rfl, R, X⟩
  have hz := X.size
  exact ⟨rfl, ⟨H.drv.keep fun k hk hs => X.block k hk (H.apart k hs), R, H.sub, H.apart, fun k hk => ⟨(H.tight k hk).1, by have := (H.tight k hk).2; omega⟩⟩, X, ht.turned X fun h => by have := (H.tight _ (hST _ h)).1; omega⟩
end

/-- A row of the law's own that holds addresses. -/
def ARow (w : World) (base : Nat) (A : Option Addr) (n c : Nat) (an : List Nat) : Prop := OwnS w base 3 1 A n c (an.map fun (a : Nat) => [.int .i64 (a : Int)])
section
variable {w w' : World} {base : Nat} {A : Option Addr} {n c : Nat} {an : List Nat}
theorem ARow.len (h : ARow w base A n c an) : an.length = n := by
  have := OwnS.len h (by omega)
  rw [List.length_map] at this
  omega
theorem ARow.turned (h : ARow w base A n c an) {S : Nat → Prop} (T : Turn S w w') (hA : ∀ k, blockOf A = some k → ¬ S k) : ARow w' base A n c an := OwnS.turned h T hA
theorem ARow.below (h : ARow w base A n c an) (hb : Below w.heap.size w w') : ARow w' base A n c an := OwnS.below h hb
theorem ARow.lt (h : ARow w base A n c an) : ∀ k, blockOf A = some k → base ≤ k ∧ k < w.heap.size := OwnS.blockLt h
theorem ARow.cell (h : ARow w base A n c an) {i : Nat} (hi : i < n) : ∃ ad a, A = some ad ∧ an[i]? = some a ∧ w.cell? (ad.add i) = some (.int .i64 (a : Int)) ∧ ad.block < w.heap.size := by
  have hl := h.len
  have hs := OwnS.sls h (by omega)
  obtain ⟨g, o, hA, hg, _, hr⟩ := hs.2.2.2 i _ (List.getElem?_eq_getElem (by rw [List.length_map]; omega))
  have h0 := hr 0 (.int .i64 ((an[i]'(by omega) : Nat) : Int)) (by rw [List.getElem_map]; rfl)
  rw [Nat.mul_one, Nat.add_zero] at h0
  exact ⟨⟨g, o, none⟩, _, hA, List.getElem?_eq_getElem (by omega), by rw [Addr.add_mid]; exact h0, hg⟩
theorem ARow.cap (h : ARow w base A n c an) : n ≤ c ∧ c ≤ maxLen := by
  have hs := OwnS.sls h (by omega)
  exact ⟨hs.cap, hs.max⟩
end
/-- append of one address. -/
theorem wp_append_int {w : World} {ops : Array Oper} {rest : List Oper} {o : Oper} {a : Act} {Q : Exit → Act → World → Prop} (hgd : o.guard = none) (so x : Operand)
    (ho : o.op = .call { callee := .builtin .append, args := #[so, x], argTypes := #[33, 33] })
    (base : Nat) (A : Option Addr) (n c : Nat) (an : List Nat) (hs : a.eval so = .slice A n c) (hown : ARow w base A n c an)
    (B : Option Addr) (d : Nat) (v : Nat) (hx : a.eval x = .slice B 1 d) (hr : Sls w 1 B 1 d [[.int .i64 (v : Int)]]) (hn : n ≤ 1000) (hbase : base ≤ w.heap.size)
    (h : ∀ A' c' w', ARow w' base A' (n + 1) c' (an ++ [v]) → Turn (fun k => blockOf A = some k) w w' → (blockOf A' = blockOf A ∨ blockOf A' = some w.heap.size) → wpList Tryz.prog ops Q rest (a.put o.dst (.slice A' (n + 1) c')) w') : wpList Tryz.prog ops Q (o :: rest) a w := by
  refine wp_append_g _ TInt hgd so x ho base A n c _ hs hown B 1 d _ hx hr (by omega) (by
    intro y hy u hu
    obtain rfl : y = [.int .i64 (v : Int)] := by simpa using hy
    obtain rfl : u = .int .i64 (v : Int) := by simpa using hu
    rfl) (by omega) (by omega) hbase ?_
  intro A' c' w' g1 T g2 _
  refine h A' c' w' ?_ T g2
  unfold ARow
  rw [List.map_append]
  exact g1
end Go.Proofs.YtipejjgodnnkaaaGreatDoor

namespace Go.Proofs.YtipejjgodnnkaaaGreatDoor
open Go Go.RowKit Go.Proofs

theorem live_get {P : Pl} {a : Nat} {b : Bk} (h : P.live a = some b) : P.C.get (a : Int) ≠ 0 ∧ P.L a = some b := by
  unfold Pl.live at h
  split at h
  · cases h
  · rename_i h0; exact ⟨h0, h⟩
theorem bytes_new {P : Pl} (D : DM) {a : Nat} {k : Int} {x : List UInt8} {most : Nat} (h : P.live a = some (.bytes k x)) (hk : mostK k = some most) (hx : x.length ≤ most) (ha : a ≤ 2047) : P.bytesE D (a : Int) k = 0 ∧ P.bytesL D (a : Int) k = x := by
  obtain ⟨h0, _⟩ := live_get h
  obtain ⟨hk56, hm⟩ := mostK_some hk
  obtain ⟨d1, d2⟩ := dat_back0 k a most 0 x hk56 ha gen0_zero hx hm
  have e : (Bk.bytes k x).out a 0 = blkL (datH k a x.length 0) x := rfl
  unfold Pl.bytesE Pl.bytesL
  rw [hk]
  show (if _ then _ else _) = (0 : Int) ∧ (if _ then _ else _) = x
  rw [if_neg h0, if_neg h0, Int.toNat_natCast, h]
  show datE ((Bk.bytes k x).out a 0) k a most 1 = 0 ∧ datB ((Bk.bytes k x).out a 0) k a most = x
  rw [e, (dat_yes 1 d1).1, (dat_yes 1 d1).2, d2]
  exact ⟨rfl, rfl⟩
theorem bytes_disk {P : Pl} {D : DM} {a : Nat} {k g : Int} {x : List UInt8} {most : Nat} (h0 : P.C.get (a : Int) ≠ 0) (hl : P.live a = none) (hoff : D.off = false) (ha : a < D.n) (ha2 : a ≤ 2047) (hg : gen0 g) (hr : D.newest a = (Bk.bytes k x).out a g) (hk : mostK k = some most) (hx : x.length ≤ most) :
    P.bytesE D (a : Int) k = 0 ∧ P.bytesL D (a : Int) k = x := by
  obtain ⟨hk56, hm⟩ := mostK_some hk
  obtain ⟨d1, d2⟩ := dat_back0 k a most g x hk56 ha2 hg hx hm
  have e : (Bk.bytes k x).out a g = blkL (datH k a x.length g) x := rfl
  obtain ⟨r1, r2⟩ := readL_in hoff ha
  unfold Pl.bytesE Pl.bytesL
  rw [hk]
  show (if _ then _ else _) = (0 : Int) ∧ (if _ then _ else _) = x
  rw [if_neg h0, if_neg h0, Int.toNat_natCast, hl]
  show (if D.readE (a : Int) = 0 then datE (D.readL (a : Int)) k a most 5 else D.readE (a : Int)) = 0 ∧ (if D.readE (a : Int) = 0 then datB (D.readL (a : Int)) k a most else []) = x
  rw [if_pos r2, if_pos r2, r1, hr, e, (dat_yes 5 d1).1, (dat_yes 5 d1).2, d2]
  exact ⟨rfl, rfl⟩
theorem bytes_gone {P : Pl} {D : DM} {a k : Int} (h0 : P.C.get a = 0) : P.bytesE D a k = 1 ∧ P.bytesL D a k = [] := by
  unfold Pl.bytesE Pl.bytesL
  cases mostK k with
  | none => exact ⟨rfl, rfl⟩
  | some m => exact ⟨if_pos h0, if_pos h0⟩
/-- Data of a block's size is put as long as there is room. -/
theorem put_data {P : Pl} {a : Nat} (h : P.C.pick = some a) {x : List UInt8} (hx : x.length ≤ 128) : P.putV 5 x.length = (a : Int) ∧ P.putE 5 x.length = 0 ∧ P.put 5 x = P.lay (.bytes 5 x) := by
  have h5 : Pl.may5 5 x.length = true := decide_eq_true (show x.length ≤ 128 from hx)
  obtain ⟨a1, a2, _⟩ := Ct.alloc_some h
  unfold Pl.putV Pl.putE Pl.put
  rw [h5]
  exact ⟨a2, a1, rfl⟩
theorem fmt_le {n : Nat} (h : n ≤ 2048) : (fmtL n).length ≤ 30 := by
  rw [fmt_len]
  unfold areaN
  omega
/-- A commit with power, whole; and what is mounted behind it. -/
theorem cmt_sys {D : DM} {P : Pl} (h : P.ok) {S0 : Sp} {C0 : Ct} (hs : Sound D P S0 C0) : D.cmtE P = 0 ∧ D.cmtP P = P.done ∧ Sound (D.runD P.steps) P.done P.sup P.C ∧
    mtE (D.runD P.steps).newest (D.runD P.steps).off (D.runD P.steps).n = 0 ∧ Pl.mounted (D.runD P.steps).newest (D.runD P.steps).n = P.done ∧ mtS (D.runD P.steps).newest = P.sup := by
  obtain ⟨e0, e1, _⟩ := cmt_sound h hs
  have hb : D.runB P.steps = true := decide_eq_true e0
  obtain ⟨m1, m2, m3⟩ := sound_mounts e1
  refine ⟨(cmt_yes hb).1, (cmt_yes hb).2, e1, by rw [e1.free.on]; exact m1, ?_, m2⟩
  unfold Pl.mounted
  rw [m2]
  have : mtC (D.runD P.steps).newest (D.runD P.steps).n P.sup.gen = P.C.commit := m3
  rw [this]
  rfl
theorem sound_newest {D : DM} {P : Pl} {S0 : Sp} {C0 : Ct} (hs : Sound D P S0 C0) (s : Nat) : D.newest s = D.dur s := by unfold DM.newest; rw [hs.set_]; rfl

/-! ### The document's example -/
def shB : List UInt8 := [97, 98]
def shP : Pl := (Pl.fresh 32).lay (.bytes 5 shB)
theorem sh_pick : (Pl.fresh 32).C.pick = some 4 := by decide
theorem sh_free : shP.C.free = 27 := by decide
theorem sh_done_free : (Pl.mk shP.done.S (shP.done.C.unref 4) shP.done.L).C.free = 27 := by decide
theorem sh_unref : shP.done.C.unrefV 4 = 0 ∧ shP.done.C.unrefE 4 = 0 := by decide
theorem sh_gone : (shP.done.C.unref 4).get 4 = 0 := by decide
theorem sh_ok : shP.ok := lay_ok (fresh_ok (by omega) (by omega)) (bytes_good (.inl rfl) (by decide)).fine
theorem sh_g : shP.g = 2 := by decide
end Go.Proofs.YtipejjgodnnkaaaGreatDoor

namespace Go.Proofs.YtipejjgodnnkaaaGreatDoor
open Go Go.RowKit Go.Proofs

/-- A pool on which so many blocks were laid down since Format; its drive. -/
structure Lays (kn : Nat) (D : DM) (P : Pl) (S0 : Sp) (C0 : Ct) (j many : Nat) : Prop where
  ok : P.ok
  n : P.C.n = kn
  sound : Sound D P S0 C0
  new : P.new.length = many
  free : P.C.free + j = kn - (2 + 2 * areaN kn)
/-- An argument's bytes, at most 128 of them. -/
def cut128 (l : List UInt8) : List UInt8 := l.take 128
theorem cut_len (l : List UInt8) : (cut128 l).length ≤ 128 := by unfold cut128; rw [List.length_take]; omega
end Go.Proofs.YtipejjgodnnkaaaGreatDoor

namespace Go.Proofs.YtipejjgodnnkaaaGreatDoor
open Go Go.RowKit Go.Proofs

theorem fld_gen (S : Sp) (w : World) : (Instr.field 56 (.agg S.vs.toArray) 0).run Tryz.prog w = .ok (.int .i64 S.gen) w := by
  unfold Sp.vs
  obtain ⟨a, b, c, d, e, f, g, h, hl⟩ := eight_of S.len
  rw [hl]
  kernel_rfl
def fldS (v : Value) : Sem Value := Instr.field 56 v 0
theorem fldS_shut (v : Value) : Instr.field 56 v 0 = fldS v := rfl
theorem sl_past {w w' : World} {T : Nat → Prop} {A : Option Addr} {n c : Nat} {l : List UInt8} (h : Sl w A n c l) (X : Turn T w w') (hA : ∀ ad, A = some ad → ¬ T ad.block) : Sl w' A n c l := ct_turned h X hA
attribute [local go_sem ↓] fldS_shut
set_option maxRecDepth 100000 in
set_option maxHeartbeats 8000000 in
theorem pshown_any (w : World) (ht : Tab w) : Calls Tryz.prog 9 #[] w fun e w' => e = .returned (.bool true) ∧ Below w.heap.size w w' := by
  have hG := ht.1
  have hn32 : sectors 32 := ⟨by omega, by omega⟩
  go_enter Tryz.func9, Tryz.ntmps9
  go_wp2_with fail
  refine (new_yes 32 hn32 w).mono ?_
  rintro e w1 ⟨d, rfl, L1, B1⟩
  have t1 := ht.below B1 hG
  go_wp2_with fail
  refine (pformat_any L1 ⟨rfl, rfl⟩ (by omega) t1 (tame_mk0 32) (by omega)).mono ?_
  rintro e w2 ⟨p, q, rfl, X2⟩
  have hfd := fmt_done (D := DM.mk0 32) (n := 32) (by omega) (by omega) rfl ⟨rfl, rfl⟩
  have hn : (DM.mk0 32).n = 32 := rfl
  rw [hn] at X2
  have S2 := hfd.2.1
  have tm2 := tame_run (fmtL 32) (tame_mk0 32)
  have fl := fmt_le (n := 32) (by omega)
  obtain ⟨D1, hD1⟩ : ∃ D, (DM.mk0 32).runD (fmtL 32) = D := ⟨_, rfl⟩
  rw [hD1] at X2 S2 tm2
  have H2 := sys_of (b := w.heap.size) X2 (fun k hk => hk) B1.size
  have t2 := t1.turned X2.turn (by omega)
  have z1 := B1.size
  have z2 := X2.turn.size
  have BB2 : Below w.heap.size w w2 := B1.trans (X2.turn.below (fun k hk => hk) z1)
  clear hfd hD1 X2 L1 hn
  obtain ⟨T2, hT2⟩ : ∃ T : Nat → Prop, (fun k => w.heap.size ≤ k ∧ k < w2.heap.size) = T := ⟨_, rfl⟩
  rw [hT2] at H2
  have tg2 := H2.tight
  clear hT2
  have kc := fun (w : World) (C : Array Value) (n c : Nat) => Lib.run_convert_bytes_const (P := Tryz.prog) w 30 5 C n c Tryz.underlying30 Tryz.underlying5
  have sa : Sl (w2.alloc (.cells #[.int .u8 97, .int .u8 98] 5 (2, 3))) (some ⟨w2.heap.size, 0, none⟩) 2 2 shB := sl_mark w2 5 (2, 3) [97, 98] #[.int .u8 97, .int .u8 98] rfl (by simp)
  have Ba : Below w2.heap.size w2 (w2.alloc (.cells #[.int .u8 97, .int .u8 98] 5 (2, 3))) := (Below.refl _ _).alloc (Nat.le_refl _) _
  have Ha := H2.below Ba
  have ta := t2.below Ba t2.1
  obtain ⟨p1, p2, p3⟩ := put_data sh_pick (x := shB) (by decide)
  have hput := sys_put Ha hG 5 _ _ _ _ sa (fun _ ad e h => by injection e with e; subst e; have := (tg2 _ h).2; simp at this) ta
  rw [p1, p2, p3] at hput
  have Hput := Lib.hid hput
  clear sa Ha ta hput p1 p2 p3
  go_wp2_with fail
  refine Hput.out.mono ?_
  rintro e w4 ⟨rfl, H4, X4, t4⟩
  have H4 : Sys w.heap.size w4 d p T2 D1 shP := H4
  have z4 := X4.size
  have za : (w2.alloc (.cells #[.int .u8 97, .int .u8 98] 5 (2, 3))).heap.size = w2.heap.size + 1 := by simp
  have B4 := BB2.trans ((turn_below (S := T2) Ba |>.mono fun _ h => h).trans X4 (fun k hk => .inl hk) |>.below (fun k hk => (tg2 k hk).1) BB2.size)
  have S4 : Sound D1 shP (fmtS 32) (Ct.zero 32) := lay_holds S2 (.bytes 5 shB)
  have hlv : shP.live 4 = some (.bytes 5 shB) := by rw [show shP = (Pl.fresh 32).lay (.bytes 5 shB) from rfl, live_lay sh_pick]; rfl
  have hby := sys_bytes H4 t4 4 5
  unfold BytesSays at hby
  obtain ⟨q1, q2⟩ := bytes_new D1 hlv (most := 128) rfl (by decide) (by omega)
  have q1 : shP.bytesE D1 4 5 = 0 := q1
  have q2 : shP.bytesL D1 4 5 = shB := q2
  rw [q1, q2] at hby
  have Hby := Lib.hid hby
  clear hby q1 q2 hlv Hput Ba
  go_wp2_with fail
  refine Hby.out.mono ?_
  rintro e w5 ⟨A5, n5, c5, rfl, s5, b5, hA5⟩
  have H5 := H4.below b5
  have t5 := t4.below b5 t4.1
  have z5 := b5.size
  have B5 := B4.trans (b5.mono B4.size)
  go_wp2_with fail
  refine (sys_free H5 27 sh_free).mono ?_
  rintro e w6 ⟨rfl, rfl⟩
  go_wp2_with fail
  refine (sys_commit H5 hG t5 tm2 (by omega) (by rw [sh_g]; omega)).mono ?_
  obtain ⟨k1, k2, S7, k4, k5, k6⟩ := cmt_sys sh_ok S4
  obtain ⟨_, _, _, k7, _⟩ := cmt_sound sh_ok S4
  have hd4 : (D1.runD shP.steps).newest 4 = (Bk.bytes 5 shB).out 4 shP.g := by
    rw [sound_newest S7]
    exact k7 4 (.bytes 5 shB) (by decide) rfl (by decide)
  have hon : (D1.runD shP.steps).off = false := S7.free.on
  have hn7 : (D1.runD shP.steps).n = 32 := S7.n.trans (by decide)
  rw [k1, k2]
  obtain ⟨D2, hD2⟩ : ∃ D, D1.runD shP.steps = D := ⟨_, rfl⟩
  rw [hD2] at S7 k4 k5 k6 hd4 hon hn7 ⊢
  have K4 := Lib.hid k4
  have K5 := Lib.hid k5
  have hgn : (mtS D2.newest).gen < 1099511627775 := by rw [k6]; show shP.g < _; rw [sh_g]; omega
  have Hgn := Lib.hid hgn
  clear k1 k2 k4 k5 k6 k7 hD2 hgn
  rintro e w7 ⟨rfl, H7, X7, t7⟩
  have s7 := sl_past s5 X7 fun ad e h => by have := (tg2 _ h).2; have := hA5 ad e; omega
  have z7 := X7.size
  have B7 := B5.trans (X7.below (fun k hk => (tg2 k hk).1) B5.size)
  obtain ⟨T7, hT7⟩ : ∃ T : Nat → Prop, grow T2 w5 w7 = T := ⟨_, rfl⟩
  have h7A : ∀ ad, A5 = some ad → ¬ T7 ad.block := fun ad e h => by
    rw [← hT7] at h
    obtain ⟨h1, h2⟩ := h
    have h3 := hA5 ad e
    have h4 : ad.block < w5.heap.size := by
      obtain ⟨ad', e', hb, _⟩ := s5.cell (k := 0) (by rw [← s5.len]; decide)
      rw [e] at e'
      injection e' with e'
      rw [e']
      exact hb
    exact h1.elim (fun h5 => by have := (tg2 _ h5).2; omega) fun h5 => by omega
  rw [hT7] at H7
  have tg7 := H7.tight
  clear hT7
  -- the other pool
  go_wp2_with fail
  refine (dr_mount H7.dr H7.base t7 Hgn.out).mono ?_
  rw [K4.out, K5.out]
  rintro e w8 ⟨⟨_, p8, rfl, H8⟩ | ⟨h, _⟩, b8⟩
  · have t8 := t7.below b8 t7.1
    have s8 := s7.below b8
    have z8 := b8.size
    have B8 := B7.trans (b8.mono B7.size)
    obtain ⟨T8, hT8⟩ : ∃ T : Nat → Prop, grow T7 w7 w8 = T := ⟨_, rfl⟩
    have h8A : ∀ ad, A5 = some ad → ¬ T8 ad.block := fun ad e h => by
      rw [← hT8] at h
      refine h.1.elim (h7A ad e) fun h5 => ?_
      obtain ⟨ad', e', hb, _⟩ := s7.cell (k := 0) (by rw [← s7.len]; decide)
      rw [e] at e'
      injection e' with e'
      rw [e'] at h5
      omega
    rw [hT8] at H8
    have tg8 := H8.tight
    have hdl := live_done shP 4
    have hg2 : shP.g = 2 := sh_g
    obtain ⟨q1, q2⟩ := bytes_disk (P := shP.done) (D := D2) (a := 4) (k := 5) (g := shP.g) (x := shB) (most := 128) (by decide) hdl hon (by omega) (by omega) ⟨by omega, by omega⟩ hd4 rfl (by decide)
    have hby := sys_bytes H8 t8 4 5
    unfold BytesSays at hby
    have q1 : shP.done.bytesE D2 4 5 = 0 := q1
    have q2 : shP.done.bytesL D2 4 5 = shB := q2
    rw [q1, q2] at hby
    have Hby8 := Lib.hid hby
    clear hby q1 q2 hdl hT8 hd4 K4 K5
    go_wp2_with fail
    refine Hby8.out.mono ?_
    rintro e w9 ⟨A9, n9, c9, rfl, s9, b9, hA9⟩
    have H9 := H8.below b9
    have t9 := t8.below b9 t8.1
    have z9 := b9.size
    have B9 := B8.trans (b9.mono B8.size)
    have s59 := s8.below b9
    have hun := sys_unref H9 hG t9 4
    rw [sh_unref.1, sh_unref.2] at hun
    have Hun := Lib.hid hun
    clear hun
    go_wp2_with fail
    refine Hun.out.mono ?_
    rintro e w10 ⟨rfl, H10, X10, t10⟩
    have s5z := sl_past s59 X10 h8A
    have s9z := sl_past s9 X10 fun ad e h => by have := (tg8 _ h).2; have := hA9 ad e; omega
    have z10 := X10.size
    have B10 := B9.trans (X10.below (fun k hk => (tg8 k hk).1) B9.size)
    have hby := sys_bytes H10 t10 4 5
    unfold BytesSays at hby
    have hgn := bytes_gone (P := ⟨shP.done.S, shP.done.C.unref 4, shP.done.L⟩) (D := D2) (a := 4) (k := 5) sh_gone
    rw [hgn.1, hgn.2] at hby
    have Hby10 := Lib.hid hby
    clear hby hgn
    go_wp2_with fail
    refine Hby10.out.mono ?_
    rintro e w11 ⟨A11, n11, c11, rfl, s11, b11, _⟩
    have H11 := H10.below b11
    have t11 := t10.below b11 t10.1
    have z11 := b11.size
    have B11 := B10.trans (b11.mono B10.size)
    have k5 := str_bs (s5z.below b11)
    have k9 := str_bs (s9z.below b11)
    have hfl := fld_gen shP.done.S
    have hgg : shP.done.S.gen = 2 := sh_g
    rw [hgg] at hfl
    have hfl : ∀ w, (fldS (.agg shP.done.S.vs.toArray)).run Tryz.prog w = .ok (.int .i64 2) w := hfl
    have hfr := sh_done_free
    obtain ⟨Q, hQ⟩ : ∃ Q : Pl, (⟨shP.done.S, shP.done.C.unref 4, shP.done.L⟩ : Pl) = Q := ⟨_, rfl⟩
    have hQS : Q.S = shP.done.S := by rw [← hQ]
    rw [hQ] at H11 hfr
    rw [← hQS] at hfl
    have hsu := sys_super H11
    clear hQ hQS
    go_wp2_with (first
      | (go_at_call 31; refine hsu.mono ?_; rintro e w12 ⟨rfl, b12⟩; have H12 := H11.below b12)
      | (go_at_call 35; refine (sys_free H12 27 hfr).mono ?_; rintro e w13 ⟨rfl, rfl⟩)
      | fail)
    go_ret
    exact ⟨rfl, B11.trans (b12.mono B11.size)⟩
  · exact absurd rfl h
end Go.Proofs.YtipejjgodnnkaaaGreatDoor

namespace Go.Proofs.YtipejjgodnnkaaaGreatDoor
open Go Go.RowKit Go.Proofs

theorem all_one {cur : Array Value} (h : ∀ (i : Nat) (v : Value), cur[i]? = some v → v.oneCell' = true) : cur.all (·.oneCell') = true := by
  rw [Array.all_eq_true]
  intro i hi
  exact h i _ (Array.getElem?_eq_getElem hi)
theorem pool_one {w : World} {p d m clock : Nat} {cur : Array Value} {l : List MapEntry} {v : Nat → Value} {Sc S T : Nat → Prop} {P : Pl} (L : PL w p d m cur l clock v Sc S T P) : cur.all (·.oneCell') = true := by
  refine all_one fun i x hx => ?_
  obtain ⟨a, ca, b, cb, t, cur2, h1, ⟨o0, o1, o2, o3⟩, _⟩ := L.ct
  rw [L.me] at h1
  injection h1 with h1
  injection h1 with h1
  subst h1
  have hi : i < 41 := by have := (Array.getElem?_eq_some_iff.1 hx).1; have := L.ph.size; omega
  by_cases h0 : i = 0
  · subst h0
    rw [L.ph.disk] at hx
    injection hx with hx
    subst hx
    rfl
  · by_cases h36 : i < 36
    · have hs : P.S.vs[i - 1]? = some (P.S.vs[i - 1]'(by rw [P.S.vs_len]; omega)) := List.getElem?_eq_getElem _
      have := L.ph.sup (i - 1) _ hs
      rw [show 1 + (i - 1) = i by omega, hx] at this
      injection this with this
      rw [this]
      exact P.S.one _ (List.getElem_mem _)
    · have : i = 36 ∨ i = 37 ∨ i = 38 ∨ i = 39 ∨ i = 40 := by omega
      rcases this with rfl | rfl | rfl | rfl | rfl
      · rw [o0] at hx; injection hx with hx; subst hx; rfl
      · rw [show 36 + 1 = 37 from rfl] at o1; rw [o1] at hx; injection hx with hx; subst hx; rfl
      · rw [show 36 + 2 = 38 from rfl] at o2; rw [o2] at hx; injection hx with hx; subst hx; rfl
      · rw [show 36 + 3 = 39 from rfl] at o3; rw [o3] at hx; injection hx with hx; subst hx; rfl
      · rw [L.ph.fresh] at hx; injection hx with hx; subst hx; rfl
theorem sz_setCells (b : Nat) : ∀ (vs : List Value) (o : Nat) (w : World), (w.setCells b o vs).heap.size = w.heap.size
  | [], _, _ => rfl
  | v :: r, o, w => (sz_setCells b r (o + 1) (w.setCell ⟨b, o, none⟩ v)).trans (World.size_setCell ..)
theorem splice_lt {α : Type} {L vs : List α} {o i : Nat} (hi : i < o) (ho : o ≤ L.length) : (splice L o vs)[i]? = L[i]? := by
  unfold splice
  rw [List.getElem?_append_left (by simp; omega), List.getElem?_take_of_lt hi]
theorem splice_in {α : Type} {L vs : List α} {o j : Nat} (hj : j < vs.length) (ho : o ≤ L.length) : (splice L o vs)[o + j]? = vs[j]? := by
  unfold splice
  have hl : (L.take o).length = o := by simp; omega
  rw [List.getElem?_append_right (by omega), hl, Nat.add_sub_cancel_left, List.getElem?_append_left hj]
theorem splice_ge {α : Type} {L vs : List α} {o j : Nat} (ho : o ≤ L.length) : (splice L o vs)[o + (vs.length + j)]? = L[o + (vs.length + j)]? := by
  unfold splice
  have hl : (L.take o).length = o := by simp; omega
  rw [List.getElem?_append_right (by omega), hl, Nat.add_sub_cancel_left, List.getElem?_append_right (by omega), Nat.add_sub_cancel_left, List.getElem?_drop, Nat.add_assoc]
def ldP (p : Value) : Sem Value := Instr.loadAt 110 p
theorem ldP_shut (p : Value) : Instr.loadAt 110 p = ldP p := rfl
def alP (h : Bool) (old : Value) : Sem Value := Instr.alloc 110 h old
theorem alP_shut (h : Bool) (old : Value) : Instr.alloc 110 h old = alP h old := rfl
def zeroP : List Value := .pointer none :: (Sp.zero.vs ++ [.slice none 0 0, .slice none 0 0, .int .i64 0, .int .i64 0, .map none])
theorem zeroP_len : zeroP.length = 41 := by decide
set_option maxRecDepth 10000 in
theorem alP_run (h : Bool) (w : World) : (alP h (.tuple #[])).run Tryz.prog w = .ok (.pointer (some ⟨w.heap.size, 0, none⟩)) (w.alloc (.cells zeroP.toArray 110)) := by
  cases h
  · show (Instr.alloc 110 false (.tuple #[])).run Tryz.prog w = _; kernel_rfl
  · show (Instr.alloc 110 true (.tuple #[])).run Tryz.prog w = _; kernel_rfl
theorem PL.ldp {w : World} {p d m clock : Nat} {cur : Array Value} {l : List MapEntry} {v : Nat → Value} {Sc S T : Nat → Prop} {P : Pl} (L : PL w p d m cur l clock v Sc S T P) : (ldP (.pointer (some ⟨p, 0, none⟩))).run Tryz.prog w = .ok (.agg cur) w := by
  have hr : w.rangeAt p 0 cur.toList := fun j x hx => by
    rw [Nat.zero_add]
    exact cell_at L.me (by simpa using hx)
  show (Instr.loadAt 110 (.pointer (some ⟨p, 0, none⟩))).run Tryz.prog w = _
  have := run_loadAt_mid (P := Tryz.prog) w p 0 110 cur.toList _ hr Tryz.underlying110 rfl (by rw [Array.length_toList, L.ph.size]; kernel_rfl)
  simpa using this

attribute [local go_sem ↓] ldP_shut alP_shut ldC_shut
set_option maxRecDepth 100000 in
set_option maxHeartbeats 4000000 in
theorem pclone_any {b : Nat} {w : World} {d p : Nat} {S0 S T : Nat → Prop} {D : DM} {P : Pl} (H : SysAt b w d p S0 S T D P) :
    Calls Tryz.prog 34 #[.pointer (some ⟨p, 0, none⟩)] w fun e w' => ∃ q, e = .returned (.pointer (some ⟨q, 0, none⟩)) ∧ Below w.heap.size w w' ∧ SysAt b w' d p S0 S (grow T w w') D P ∧ SysAt b w' d q S0 (fun k => w.heap.size ≤ k ∧ k < w'.heap.size) (grow T w w') D P := by
  have H0 := H
  obtain ⟨m, cur, l, clock, v, Sc, L⟩ := H.pool
  have hld := L.ldp
  have hone := pool_one L
  have hal := alP_run
  have hpl := L.plt
  have hml := L.mlt
  have c40 := L.c40
  have hsz := L.ph.size
  have bz : Below w.heap.size w (w.alloc (.cells zeroP.toArray 110)) := (Below.refl _ _).alloc (Nat.le_refl _) _
  have hz1 : (w.alloc (.cells zeroP.toArray 110)).heap[w.heap.size]? = some (.cells zeroP.toArray 110 (0, 0)) := heap_alloc_new w _
  have hld1 := (L.below bz).ldp
  go_enter Tryz.func34, Tryz.ntmps34
  have hth : (w.alloc (.cells zeroP.toArray 110)).there w.heap.size 0 cur.size := fun j hj => by
    refine ⟨?_, by unfold World.frozen?; rw [hz1]; simp⟩
    rw [cell_of_row _ _ _ _ _ _ hz1, Array.getElem?_eq_getElem (by rw [List.size_toArray, zeroP_len]; omega)]
    rfl
  have h2 := heap_setCells_row w.heap.size 110 cur.toList 0 _ zeroP hz1 (by rw [Array.length_toList, zeroP_len]; omega)
  rw [splice_over zeroP cur.toList (by rw [zeroP_len, Array.length_toList, hsz])] at h2
  have T2 := turn_setCells (S := fun k => k = w.heap.size) rfl cur.toList 0 (w.alloc (.cells zeroP.toArray 110))
  have b2 : Below w.heap.size w ((w.alloc (.cells zeroP.toArray 110)).setCells w.heap.size 0 cur.toList) := bz.trans (T2.below (fun k hk => by omega) (by simp))
  have zz : ((w.alloc (.cells zeroP.toArray 110)).setCells w.heap.size 0 cur.toList).heap.size = w.heap.size + 1 := by
    rw [sz_setCells]; simp
  go_wp2_with (first
    | (refine wpList_store_mid rfl 110 _ _ rfl w.heap.size 0 cur rfl rfl hth (by rw [hsz]; kernel_rfl) hone ?_)
    | fail)
  generalize (w.alloc (.cells zeroP.toArray 110)).setCells w.heap.size 0 cur.toList = w2 at h2 b2 zz ⊢
  obtain ⟨q, hq⟩ : ∃ k, w.heap.size = k := ⟨_, rfl⟩
  have Hq := Lib.hid hq
  rw [hq] at h2 zz
  simp only [hq]
  have L2 := L.below b2
  have hC2 := L2.ct
  clear hld hld1 hal hth hz1 bz T2
  refine (cclone_any hC2).mono ?_
  rintro e w3 ⟨pc, rfl, C3, hpc, b3⟩
  have L3 := L2.below b3
  have h3 := (b3.block q (by omega)).trans h2
  have c340 := L3.c40
  have hC := C3
  obtain ⟨a0, ca0, a1, ca1, ty, cu, k1, ⟨k2, k3, k4, k5⟩, k6, k7, k8, k9, k10⟩ := C3
  obtain ⟨x0', hx0'⟩ : ∃ x : Value, Value.slice (some ⟨a0, 0, none⟩) P.C.n ca0 = x := ⟨_, rfl⟩
  obtain ⟨x1', hx1'⟩ : ∃ x : Value, Value.slice (some ⟨a1, 0, none⟩) P.C.n ca1 = x := ⟨_, rfl⟩
  obtain ⟨x2', hx2'⟩ : ∃ x : Value, Value.int .i64 (areaN P.C.n : Int) = x := ⟨_, rfl⟩
  obtain ⟨x3', hx3'⟩ : ∃ x : Value, Value.int .i64 (P.C.first : Int) = x := ⟨_, rfl⟩
  have o4 : (#[x0', x1', x2', x3'] : Array Value).all (·.oneCell') = true := by
    refine all_one fun i v hv => ?_
    match i, hv with
    | 0, hv => injection hv with hv; rw [← hv, ← hx0']; rfl
    | 1, hv => injection hv with hv; rw [← hv, ← hx1']; rfl
    | 2, hv => injection hv with hv; rw [← hv, ← hx2']; rfl
    | 3, hv => injection hv with hv; rw [← hv, ← hx3']; rfl
    | i + 4, hv => simp at hv
  have hldc : (ldC (.pointer (some ⟨pc, 0, none⟩))).run Tryz.prog w3 = .ok (.agg #[x0', x1', x2', x3']) w3 := by
    have r : w3.rangeAt pc 0 [x0', x1', x2', x3'] := fun j v hv => by
      rw [Nat.zero_add]
      refine cell_at k1 ?_
      rw [hx0'] at k2
      rw [hx1'] at k3
      rw [hx2'] at k4
      rw [hx3'] at k5
      match j with
      | 0 => rw [k2]; exact hv
      | 1 => exact k3.trans hv
      | 2 => exact k4.trans hv
      | 3 => exact k5.trans hv
      | j + 4 => simp at hv
    exact run_loadAt_mid w3 pc 0 107 _ _ r Tryz.underlying107 rfl (by kernel_rfl)
  have hth4 : w3.there q 36 4 := fun j hj => by
    refine ⟨?_, by unfold World.frozen?; rw [h3]; simp⟩
    rw [cell_of_row _ _ _ _ _ _ h3, Array.getElem?_eq_getElem (by simp; omega)]
    rfl
  have hcl : cur.toList.length = 41 := by rw [Array.length_toList, hsz]
  have h4 := heap_setCells_row q 110 [x0', x1', x2', x3'] 36 w3 cur.toList h3 (by rw [hcl]; show 36 + 4 ≤ 41; omega)
  have T4 := turn_setCells (S := fun k => k = q) rfl [x0', x1', x2', x3'] 36 w3
  have hpq : p ≠ q := by omega
  have hmq : m ≠ q := by omega
  have z3 := b3.size
  have z4 : (w3.setCells q 36 [x0', x1', x2', x3']).heap.size = w3.heap.size := sz_setCells ..
  have c440 : (w3.setCells q 36 [x0', x1', x2', x3']).cell? ⟨p, 40, none⟩ = some (.map (some m)) := by
    rw [World.cell?_of_block (a := ⟨p, 40, none⟩) (T4.block p (by have := L3.plt; omega) (fun h => hpq h))]
    exact c340
  have m4 : (w3.setCells q 36 [x0', x1', x2', x3']).heap[m]? = some (.map l.toArray clock) := (T4.block m L3.mlt (fun h => hmq h)).trans L3.map
  go_wp2_with (first
    | (refine wpList_store_mid rfl 107 _ _ rfl q 36 #[x0', x1', x2', x3'] rfl rfl hth4 (by kernel_rfl) o4 ?_)
    | fail)
  have BD := b3
  generalize w3.setCells q 36 [x0', x1', x2', x3'] = w4 at h4 T4 z4 c440 m4 ⊢
  refine (poclone_any m4).mono ?_
  rintro e w5 ⟨rfl, rfl⟩
  have b5 : Below w4.heap.size w4 (w4.alloc (.map l.toArray clock)) := (Below.refl _ _).alloc (Nat.le_refl _) _
  have m5 : (w4.alloc (.map l.toArray clock)).heap[w4.heap.size]? = some (.map l.toArray clock) := heap_alloc_new w4 _
  have h5 := (b5.block q (by omega)).trans h4
  have z5 : (w4.alloc (.map l.toArray clock)).heap.size = w4.heap.size + 1 := by simp
  have c5 : (splice cur.toList 36 [x0', x1', x2', x3'])[40]? = some (.map (some m)) := by
    have h := splice_ge (L := cur.toList) (vs := [x0', x1', x2', x3']) (o := 36) (j := 0) (by omega)
    have h40 : 36 + ([x0', x1', x2', x3'].length + 0) = 40 := rfl
    rw [h40] at h
    rw [h, Array.getElem?_toList]
    exact L.ph.fresh
  have d5 : (w4.alloc (.map l.toArray clock)).cell? ⟨q, 40, none⟩ = some (.map (some m)) := by
    rw [cell_of_row _ _ _ _ _ _ h5, List.getElem?_toArray]; exact c5
  have f5 : (w4.alloc (.map l.toArray clock)).frozen? ⟨q, 40, none⟩ = false := by unfold World.frozen?; rw [h5]; simp
  generalize w4.alloc (.map l.toArray clock) = w5 at b5 m5 h5 z5 d5 f5 ⊢
  go_wp2_with fail
  have hq := Hq.out
  obtain ⟨m', hm'⟩ : ∃ k, w3.heap.size = k := ⟨_, rfl⟩
  rw [z4, hm'] at m5
  simp only [hm']
  have h6 := heap_setCell_same w5 q 40 _ _ (.map (some m')) h5
  have X6 : Turn (fun k => k = q) w5 (w5.setCell ⟨q, 40, none⟩ (.map (some m'))) := turn_at _ _ _
  have z6 : (w5.setCell ⟨q, 40, none⟩ (.map (some m'))).heap.size = w5.heap.size := World.size_setCell ..
  generalize w5.setCell ⟨q, 40, none⟩ (.map (some m')) = w6 at h6 X6 z6 ⊢
  have B4 : Below w.heap.size w w4 := (b2.trans (b3.mono (by omega))).trans (T4.below (fun k hk => by omega) (by omega))
  have B6 : Below w.heap.size w w6 := (B4.trans (b5.mono (by omega))).trans (X6.below (fun k hk => by omega) (by omega))
  have m6 : w6.heap[m']? = some (.map l.toArray clock) := (X6.block m' (by omega) (by omega)).trans m5
  have hST := H0.subS
  have L7 := (L.mono (S' := S) (T' := grow T w w6) (fun k _ h => h) (fun k hk h => h.1.elim id fun h2 => by omega) (fun k h => ⟨.inl (hST k h), by have := (H0.tight k (hST k h)).2; omega⟩)).below B6
  have hcur : ∀ i, i < 36 → ((splice cur.toList 36 [x0', x1', x2', x3']).toArray.setIfInBounds 40 (.map (some m')))[i]? = cur[i]? := fun i hi => by
    rw [Array.getElem?_setIfInBounds_ne (by omega), List.getElem?_toArray, splice_lt hi (by omega), Array.getElem?_toList]
  have hlen : (splice cur.toList 36 [x0', x1', x2', x3']).length = 41 := by
    unfold splice
    simp only [List.length_append, List.length_take, List.length_drop, List.length_cons, List.length_nil, hcl]
    omega
  have C6 : CCo w6 q 36 (fun k => w2.heap.size ≤ k ∧ k < w3.heap.size) P.C := by
    refine CCo.around (p := pc) (o := 0) hC.shrink k1 h6 (fun j hj => ?_) (fun k hk => by omega) fun k hk hs => ?_
    · rw [Array.getElem?_setIfInBounds_ne (by omega), List.getElem?_toArray, splice_in (by simpa using hj) (by omega)]
      rw [hx0'] at k2
      rw [hx1'] at k3
      rw [hx2'] at k4
      rw [hx3'] at k5
      match j, hj with
      | 0, _ => exact k2.symm
      | 1, _ => exact k3.symm
      | 2, _ => exact k4.symm
      | 3, _ => exact k5.symm
    · have hkq : k ≠ q := by omega
      exact (X6.block k (by omega) hkq).trans ((b5.block k (by omega)).trans (T4.block k hk hkq))
  go_ret
  refine ⟨q, rfl, B6, H0.more B6, H0.drv.below B6, ⟨m', _, l, clock, v, _, ⟨h6, ⟨?_, ?_, fun j x hx => ?_, ?_⟩, C6, m6, L7.ents, L7.look, L7.keys, L7.row, L7.good, ⟨⟨by omega, by omega⟩, ⟨by omega, by omega⟩, fun k hk => ⟨by omega, by omega⟩⟩, fun k hk => ⟨by omega, by omega⟩, fun k hk => ⟨.inr hk.1, hk.2⟩, L7.ok, L7.fineS⟩⟩, fun k hk => ⟨.inl (H0.sub k hk), by have := (H0.tight k (H0.sub k hk)).2; omega⟩, fun k hk h => by have := (H0.tight k (H0.sub k hk)).2; omega, fun k hk => ⟨hk.1.elim (fun h => (H0.tight k h).1) fun h => by have := H0.base; omega, hk.2⟩⟩
  · rw [Array.size_setIfInBounds, List.size_toArray, hlen]
  · rw [hcur 0 (by omega)]; exact L.ph.disk
  · have hj : j < 35 := by have := (List.getElem?_eq_some_iff.1 hx).1; rw [P.S.vs_len] at this; exact this
    rw [hcur (1 + j) (by omega)]
    exact L.ph.sup j x hx
  · rw [Array.getElem?_setIfInBounds_self_of_lt (by rw [List.size_toArray, hlen]; omega)]
end Go.Proofs.YtipejjgodnnkaaaGreatDoor

namespace Go.Proofs.YtipejjgodnnkaaaGreatDoor
open Go Go.RowKit Go.Proofs

structure Rows2 (w : World) (b ab : Nat) (S0 S T : Nat → Prop) (A : Option Addr) (n c : Nat) (an : List Nat) (A2 : Option Addr) (n2 c2 : Nat) (an2 : List Nat) : Prop where
  me : w.heap[ab]? = some (.cells #[.slice A n c, .slice A2 n2 c2] 75)
  r0 : ARow w b A n c an
  r1 : ARow w b A2 n2 c2 an2
  own : ∀ k, k = ab ∨ blockOf A = some k ∨ blockOf A2 = some k → T k ∧ ¬ S0 k ∧ ¬ S k
  no0 : blockOf A ≠ some ab
  no1 : blockOf A2 ≠ some ab
  ne : ∀ k, blockOf A = some k → blockOf A2 ≠ some k
section
variable {w w' w1 : World} {b ab d p : Nat} {S0 S T S' T' : Nat → Prop} {D : DM} {P : Pl} {A A2 A' : Option Addr} {n c n2 c2 c' v : Nat} {an an2 : List Nat}
theorem Rows2.lt (R : Rows2 w b ab S0 S T A n c an A2 n2 c2 an2) : ab < w.heap.size := lt_of_heap R.me
theorem Rows2.c0 (R : Rows2 w b ab S0 S T A n c an A2 n2 c2 an2) : w.cell? ⟨ab, 0, none⟩ = some (.slice A n c) := by rw [cell_of_row _ _ _ _ _ _ R.me]; rfl
theorem Rows2.c1 (R : Rows2 w b ab S0 S T A n c an A2 n2 c2 an2) : w.cell? ⟨ab, 1, none⟩ = some (.slice A2 n2 c2) := by rw [cell_of_row _ _ _ _ _ _ R.me]; rfl
theorem Rows2.fz (R : Rows2 w b ab S0 S T A n c an A2 n2 c2 an2) (j : Nat) : w.frozen? ⟨ab, j, none⟩ = false := by unfold World.frozen?; rw [R.me]; simp
theorem Rows2.turned (R : Rows2 w b ab S0 S T A n c an A2 n2 c2 an2) (X : Turn S' w w') (hS : ∀ k, S' k → S0 k ∨ S k) : Rows2 w' b ab S0 S T A n c an A2 n2 c2 an2 := by
  have hne : ∀ k, k = ab ∨ blockOf A = some k ∨ blockOf A2 = some k → ¬ S' k := fun k hk h => by
    obtain ⟨_, h0, h1⟩ := R.own k hk
    exact (hS k h).elim h0 h1
  exact ⟨(X.block ab R.lt (hne ab (.inl rfl))).trans R.me, R.r0.turned X fun k hk => hne k (.inr (.inl hk)), R.r1.turned X fun k hk => hne k (.inr (.inr hk)), R.own, R.no0, R.no1, R.ne⟩
theorem Rows2.below (R : Rows2 w b ab S0 S T A n c an A2 n2 c2 an2) (hb : Below w.heap.size w w') : Rows2 w' b ab S0 S T A n c an A2 n2 c2 an2 :=
  ⟨(hb.block ab R.lt).trans R.me, R.r0.below hb, R.r1.below hb, R.own, R.no0, R.no1, R.ne⟩
theorem Rows2.mono (R : Rows2 w b ab S0 S T A n c an A2 n2 c2 an2) (hz : ab < w.heap.size) {S0' : Nat → Prop} (h0 : ∀ k, k < w.heap.size → S0' k → S0 k) (hT : ∀ k, k < w.heap.size → T k → T' k) : Rows2 w b ab S0' S T' A n c an A2 n2 c2 an2 := by
  refine ⟨R.me, R.r0, R.r1, fun k hk => ?_, R.no0, R.no1, R.ne⟩
  have hlt : k < w.heap.size := by
    rcases hk with rfl | hk | hk
    · exact hz
    · exact (R.r0.lt k hk).2
    · exact (R.r1.lt k hk).2
  obtain ⟨h1, h2, h3⟩ := R.own k hk
  exact ⟨hT k hlt h1, fun h => h2 (h0 k hlt h), h3⟩
theorem SysAt.belowS (H : SysAt b w d p S0 S T D P) (X : Turn S' w w') (hS : ∀ k, S' k → S0 k ∨ S k) : Below b w w' :=
  X.below (fun k hk => (hS k hk).elim (fun h => (H.tight k (H.sub k h)).1) fun h => (H.tight k (H.subS k h)).1) H.base
end
end Go.Proofs.YtipejjgodnnkaaaGreatDoor
