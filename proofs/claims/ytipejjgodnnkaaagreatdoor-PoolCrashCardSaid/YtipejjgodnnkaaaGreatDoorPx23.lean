/- The code's pool: Bytes of anything; Clone. A pool and its drive, for the laws: their blocks are T's, all from b on. Laws of the pool, plain facts: what is read of what was put, and committed. Laws of the pool, plain facts: blocks laid down one behind the other. Laws of the pool, plain facts: two transactions, and a crash in the second. Laws of the pool: a pool, its drive, and blocks of the law's own; rows of numbers. Laws of the pool: an array of two rows of addresses, of the law's own, beside a pool. Laws of the pool: the document's example. -/
import Derived.Test.YtipejjgodnnkaaaGreatDoorMore
import Derived.Test.YtipejjgodnnkaaaGreatDoorPx11
import Derived.Test.YtipejjgodnnkaaaGreatDoorPx12
import Derived.Test.YtipejjgodnnkaaaGreatDoorPx16
import Derived.Test.YtipejjgodnnkaaaGreatDoorRowG
import Derived.Test.YtipejjgodnnkaaaGreatDoorPoS
import Derived.Test.YtipejjgodnnkaaaGreatDoorPx21
import Derived.Test.YtipejjgodnnkaaaGreatDoorPx22
import Derived.Lib.SlBytesConst
namespace Go.Proofs.YtipejjgodnnkaaaGreatDoor
open Go Go.RowKit Go.Proofs
open Go.ChangeMaps (setBlock)

def Pl.bytesE (P : Pl) (D : DM) (a k : Int) : Int := match mostK k with
  | none => 1
  | some most => if P.C.get a = 0 then 1 else match P.live a.toNat with
    | some b => datE (b.out a.toNat 0) k a.toNat most 1
    | none => if D.readE a = 0 then datE (D.readL a) k a.toNat most 5 else D.readE a
def Pl.bytesL (P : Pl) (D : DM) (a k : Int) : List UInt8 := match mostK k with
  | none => []
  | some most => if P.C.get a = 0 then [] else match P.live a.toNat with
    | some b => datB (b.out a.toNat 0) k a.toNat most
    | none => if D.readE a = 0 then datB (D.readL a) k a.toNat most else []
def BytesSays (P : Pl) (D : DM) (p : Nat) (a k : Int) (w : World) : Prop :=
  Calls Tryz.prog 20 #[.pointer (some ⟨p, 0, none⟩), .int .i64 a, .int .i64 k] w fun e w' => ∃ A n c, e = .returned (.tuple #[.slice A n c, .int .i64 (P.bytesE D a k)]) ∧ Sl w' A n c (P.bytesL D a k) ∧ Below w.heap.size w w' ∧ ∀ ad, A = some ad → w.heap.size ≤ ad.block
theorem get_nat {C : Ct} {a : Int} (h : C.get a ≠ 0) : ∃ n : Nat, a = (n : Int) ∧ n < C.n := by
  have hin : 0 ≤ a ∧ a < (C.n : Int) := Classical.byContradiction fun h2 => h (by unfold Ct.get; rw [if_neg h2])
  exact ⟨a.toNat, by omega, by omega⟩
set_option maxRecDepth 100000 in
set_option maxHeartbeats 4000000 in
theorem pbytes_any {w : World} {p d : Nat} {S0 S T : Nat → Prop} {D : DM} {P : Pl} (L0 : Drv w d S0 D) (H : Pool w p d S T P) (ht : Tab w) (a k : Int) : BytesSays P D p a k w := by
  unfold BytesSays
  cases hk : mostK k with
  | none =>
    have hE : P.bytesE D a k = 1 := by unfold Pl.bytesE; rw [hk]
    have hL : P.bytesL D a k = [] := by unfold Pl.bytesL; rw [hk]
    rw [hE, hL]
    have hlo := plongest_any k
    unfold mostV at hlo
    rw [hk] at hlo
    clear hE hL hk
    go_enter Tryz.func20, Tryz.ntmps20
    go_wp2_with (first
      | (go_at_call 77; refine (hlo w).mono ?_; rintro e w1 ⟨rfl, rfl⟩)
      | fail)
    go_ret2
    exact ⟨_, _, _, rfl, sl_nil _, Below.refl _ _, fun ad h => (by cases h)⟩
  | some most =>
    have hlo := plongest_any k
    unfold mostV at hlo
    rw [hk] at hlo
    replace hlo : ∀ w : World, Calls Tryz.prog 77 #[.int .i64 k] w fun e w' => e = .returned (.tuple #[.int .i64 (most : Int), .bool true]) ∧ w = w' := hlo
    by_cases h0 : P.C.get a = 0
    · have hE : P.bytesE D a k = 1 := by unfold Pl.bytesE; rw [hk]; exact if_pos h0
      have hL : P.bytesL D a k = [] := by unfold Pl.bytesL; rw [hk]; exact if_pos h0
      rw [hE, hL]
      have hb := pblock_0 H a h0
      clear hE hL hk h0
      go_enter Tryz.func20, Tryz.ntmps20
      go_wp2_with (first
        | (go_at_call 77; refine (hlo w).mono ?_; rintro e w1 ⟨rfl, rfl⟩)
        | (go_at_call 78; refine hb.mono ?_; rintro e w2 ⟨rfl, rfl⟩)
        | fail)
      go_ret2
      exact ⟨_, _, _, rfl, sl_nil _, Below.refl _ _, fun ad h => (by cases h)⟩
    · obtain ⟨n, rfl, hn⟩ := get_nat h0
      cases hv : P.live n with
      | some b =>
        have hE : P.bytesE D (n : Int) k = datE (b.out n 0) k n most 1 := by unfold Pl.bytesE; rw [hk]; show (if _ then _ else _) = _; rw [if_neg h0, Int.toNat_natCast, hv]
        have hL : P.bytesL D (n : Int) k = datB (b.out n 0) k n most := by unfold Pl.bytesL; rw [hk]; show (if _ then _ else _) = _; rw [if_neg h0, Int.toNat_natCast, hv]
        rw [hE, hL]
        exact pbytes_at k most hk n _ 1 (pblock_new H n b hv) ht
      | none =>
        have hb := pblock_disk L0 H n h0 hv
        by_cases hr : D.readE (n : Int) = 0
        · have hE : P.bytesE D (n : Int) k = datE (D.readL (n : Int)) k n most 5 := by unfold Pl.bytesE; rw [hk]; show (if _ then _ else _) = _; rw [if_neg h0, Int.toNat_natCast, hv]; exact if_pos hr
          have hL : P.bytesL D (n : Int) k = datB (D.readL (n : Int)) k n most := by unfold Pl.bytesL; rw [hk]; show (if _ then _ else _) = _; rw [if_neg h0, Int.toNat_natCast, hv]; exact if_pos hr
          rw [hE, hL]
          rw [hr] at hb
          exact pbytes_at k most hk n _ 5 hb ht
        · have hE : P.bytesE D (n : Int) k = D.readE (n : Int) := by unfold Pl.bytesE; rw [hk]; show (if _ then _ else _) = _; rw [if_neg h0, Int.toNat_natCast, hv]; exact if_neg hr
          have hL : P.bytesL D (n : Int) k = [] := by unfold Pl.bytesL; rw [hk]; show (if _ then _ else _) = _; rw [if_neg h0, Int.toNat_natCast, hv]; exact if_neg hr
          rw [hE, hL]
          obtain ⟨E, hEE⟩ : ∃ E, D.readE (n : Int) = E := ⟨_, rfl⟩
          rw [hEE] at hb hr ⊢
          have nb : (E != 0) = true := by simpa using hr
          clear hE hL hk h0 hv hr hEE
          go_enter Tryz.func20, Tryz.ntmps20
          go_wp2_with (first
            | (go_at_call 77; refine (hlo w).mono ?_; rintro e w1 ⟨rfl, rfl⟩)
            | (go_at_call 78; refine hb.mono ?_; rintro e w2 ⟨A2, n2, c2, rfl, s2, b2⟩)
            | fail)
          go_ret2
          exact ⟨_, _, _, rfl, sl_nil _, b2, fun ad h => (by cases h)⟩
end Go.Proofs.YtipejjgodnnkaaaGreatDoor

namespace Go.Proofs.YtipejjgodnnkaaaGreatDoor
open Go Go.RowKit Go.Proofs

structure SysAt (b : Nat) (w : World) (d p : Nat) (S0 S T : Nat → Prop) (D : DM) (P : Pl) : Prop where
  drv : Drv w d S0 D
  pool : Pool w p d S T P
  sub : ∀ k, S0 k → T k
  apart : ∀ k, S0 k → ¬ S k
  tight : ∀ k, T k → b ≤ k ∧ k < w.heap.size
def Sys (b : Nat) (w : World) (d p : Nat) (T : Nat → Prop) (D : DM) (P : Pl) : Prop := ∃ S0 S, SysAt b w d p S0 S T D P
/-- What is made meanwhile is theirs, too. -/
def grow (T : Nat → Prop) (w w' : World) : Nat → Prop := fun k => (T k ∨ w.heap.size ≤ k) ∧ k < w'.heap.size
/-- A drive alone. -/
def Dr (b : Nat) (w : World) (d : Nat) (T : Nat → Prop) (D : DM) : Prop := ∃ S0, Drv w d S0 D ∧ (∀ k, S0 k → T k) ∧ ∀ k, T k → b ≤ k ∧ k < w.heap.size
section
variable {b : Nat} {w w' : World} {d p : Nat} {T : Nat → Prop} {D : DM} {P : Pl}
theorem SysAt.subS {S0 S : Nat → Prop} (H : SysAt b w d p S0 S T D P) : ∀ k, S k → T k := by
  obtain ⟨m, cur, l, clock, v, Sc, L⟩ := H.pool
  exact L.sub
theorem SysAt.base {S0 S : Nat → Prop} (H : SysAt b w d p S0 S T D P) : b ≤ w.heap.size := by
  obtain ⟨m, cur, l, clock, v, Sc, L⟩ := H.pool
  have := (H.tight _ (L.sub _ L.inS.1)).1
  have := L.plt
  omega
theorem Sys.below (H : Sys b w d p T D P) (hb : Below w.heap.size w w') : Sys b w' d p T D P := by
  obtain ⟨S0, S, H⟩ := H
  exact ⟨S0, S, H.drv.below hb, H.pool.below hb, H.sub, H.apart, fun k hk => ⟨(H.tight k hk).1, by have := (H.tight k hk).2; have := hb.size; omega⟩⟩
theorem Sys.ok (H : Sys b w d p T D P) : P.ok := by
  obtain ⟨S0, S, H⟩ := H
  exact H.pool.ok
theorem Sys.sectors (H : Sys b w d p T D P) : sectors D.n := by
  obtain ⟨S0, S, H⟩ := H
  exact H.drv.sectors
theorem Sys.tight (H : Sys b w d p T D P) : ∀ k, T k → b ≤ k ∧ k < w.heap.size := by
  obtain ⟨S0, S, H⟩ := H
  exact H.tight
theorem Sys.base (H : Sys b w d p T D P) : b ≤ w.heap.size := by
  obtain ⟨S0, S, H⟩ := H
  exact H.base
theorem Sys.dr (H : Sys b w d p T D P) : Dr b w d T D := by
  obtain ⟨S0, S, H⟩ := H
  exact ⟨S0, H.drv, H.sub, H.tight⟩
theorem Dr.below (H : Dr b w d T D) (hb : Below w.heap.size w w') : Dr b w' d T D := by
  obtain ⟨S0, H, h1, h2⟩ := H
  exact ⟨S0, H.below hb, h1, fun k hk => ⟨(h2 k hk).1, by have := (h2 k hk).2; have := hb.size; omega⟩⟩
theorem sys_of {w0 w : World} {d p q : Nat} {S0 : Nat → Prop} {D : DM} {P : Pl} (H : PoolOn w0 w p d q S0 D P) (hS0 : ∀ k, S0 k → b ≤ k) (hb : b ≤ w0.heap.size) : Sys b w d p (fun k => b ≤ k ∧ k < w.heap.size) D P := by
  refine ⟨fun k => (S0 k ∨ w0.heap.size ≤ k) ∧ k < q, fun k => q ≤ k ∧ k < w.heap.size, H.drv, ?_, fun k hk => ?_, fun k hk h => ?_, fun k hk => hk⟩
  · have h := H.pool (fun k => b ≤ k) (fun k hk => by have := H.ge.1; omega)
    exact h.mono (fun k hk h => ⟨h, hk⟩) (fun k hk h => h.1) fun k hk => ⟨by have := H.ge.1; omega, hk.2⟩
  · have := H.ge.2
    exact ⟨hk.1.elim (hS0 k) fun h => by omega, by omega⟩
  · omega

theorem sys_put (H : Sys b w d p T D P) (hb : 1 < b) (k : Int) (A : Option Addr) (n c : Nat) (x : List UInt8) (hs : Sl w A n c x) (hA : 0 < n → ∀ ad, A = some ad → ¬ T ad.block) (ht : Tab w) :
    Calls Tryz.prog 27 #[.pointer (some ⟨p, 0, none⟩), .int .i64 k, .slice A n c] w fun e w' => e = .returned (.tuple #[.int .i64 (P.putV k x.length), .int .i64 (P.putE k x.length)]) ∧ Sys b w' d p T D (P.put k x) ∧ Turn T w w' ∧ Tab w' := by
  obtain ⟨S0, S, H⟩ := H
  have hST := H.subS
  refine (pputbytes_any H.pool (fun k hk => (H.tight k hk).2) (fun h => by have := (H.tight _ h).1; omega) k A n c x hs (fun hn ad e h => hA hn ad e (hST _ h)) ht).mono ?_
  rintro e w' ⟨rfl, R, X⟩
  have hz := X.size
  exact ⟨rfl, ⟨S0, S, H.drv.keep fun k hk hs => X.block k hk (H.apart k hs), R, H.sub, H.apart, fun k hk => ⟨(H.tight k hk).1, by have := (H.tight k hk).2; omega⟩⟩, X.mono hST, ht.turned X fun h => by have := (H.tight _ (hST _ h)).1; omega⟩
theorem sys_bytes (H : Sys b w d p T D P) (ht : Tab w) (a k : Int) : BytesSays P D p a k w := by
  obtain ⟨S0, S, H⟩ := H
  exact pbytes_any H.drv H.pool ht a k
theorem sys_count (H : Sys b w d p T D P) (a x : Int) (hx : P.C.get a = x) : Calls Tryz.prog 32 #[.pointer (some ⟨p, 0, none⟩), .int .i64 a] w fun e w' => e = .returned (.int .i64 x) ∧ w = w' := by
  obtain ⟨S0, S, H⟩ := H
  exact pcount_any H.pool a x hx
theorem sys_free (H : Sys b w d p T D P) (n : Nat) (hn : P.C.free = n) : Calls Tryz.prog 35 #[.pointer (some ⟨p, 0, none⟩)] w fun e w' => e = .returned (.int .i64 (n : Int)) ∧ w = w' := by
  obtain ⟨S0, S, H⟩ := H
  exact pfree_any H.pool n hn
theorem sys_super (H : Sys b w d p T D P) : Calls Tryz.prog 31 #[.pointer (some ⟨p, 0, none⟩)] w fun e w' => e = .returned (.agg P.S.vs.toArray) ∧ Below w.heap.size w w' := by
  obtain ⟨S0, S, H⟩ := H
  exact psuper_any H.pool
theorem sys_unref (H : Sys b w d p T D P) (hb : 1 < b) (ht : Tab w) (a : Int) :
    Calls Tryz.prog 39 #[.pointer (some ⟨p, 0, none⟩), .int .i64 a] w fun e w' => e = .returned (.tuple #[.int .i64 (P.C.unrefV a), .int .i64 (P.C.unrefE a)]) ∧ Sys b w' d p T D ⟨P.S, P.C.unref a, P.L⟩ ∧ Turn T w w' ∧ Tab w' := by
  obtain ⟨S0, S, H⟩ := H
  have hST := H.subS
  refine (punref_any H.pool a).mono ?_
  rintro e w' ⟨rfl, R, X⟩
  have hz := X.size
  exact ⟨rfl, ⟨S0, S, H.drv.keep fun k hk hs => X.block k hk (H.apart k hs), R, H.sub, H.apart, fun k hk => ⟨(H.tight k hk).1, by have := (H.tight k hk).2; omega⟩⟩, X.mono hST, ht.turned X fun h => by have := (H.tight _ (hST _ h)).1; omega⟩
theorem sys_commit (H : Sys b w d p T D P) (hb : 1 < b) (ht : Tab w) {m0 : Nat} (htm : D.tame m0) (hm0 : m0 ≤ 500000) (hgen : P.g < 1099511627775) :
    Calls Tryz.prog 15 #[.pointer (some ⟨p, 0, none⟩)] w fun e w' => e = .returned (.int .i64 (D.cmtE P)) ∧ Sys b w' d p (grow T w w') (D.runD P.steps) (D.cmtP P) ∧ Turn T w w' ∧ Tab w' := by
  obtain ⟨S0, S, H⟩ := H
  have hST := H.subS
  have hbb := H.base
  refine (pcommit_any H.drv H.pool H.sub H.apart (fun k hk => (H.tight k hk).2) (fun h => by have := (H.tight _ h).1; omega) ht htm hm0 hgen).mono ?_
  rintro e w' ⟨rfl, R, Q, X⟩
  have hz := X.size
  have hX : ∀ k, S0 k ∨ S k → T k := fun k hk => hk.elim (H.sub k) (hST k)
  refine ⟨rfl, ⟨fun k => (S0 k ∨ w.heap.size ≤ k) ∧ k < w'.heap.size, S, R.tight, ?_, fun k hk => ⟨hk.1.imp (H.sub k) id, hk.2⟩, fun k hk h => ?_, fun k hk => ⟨hk.1.elim (fun h => (H.tight k h).1) fun h => by omega, hk.2⟩⟩, X.mono hX, ht.turned X fun h => by have := (H.tight _ (hX _ h)).1; omega⟩
  · exact Q.mono (fun k _ h => h) (fun k hk h => h.1) fun k hk => ⟨.inl (hST k hk), by have := (H.tight k (hST k hk)).2; omega⟩
  · exact hk.1.elim (fun h2 => H.apart k h2 h) fun h2 => by have := (H.tight k (hST k h)).2; omega
theorem dr_mount (H : Dr b w d T D) (hb : b ≤ w.heap.size) (ht : Tab w) (hgn : (mtS D.newest).gen < 1099511627775) :
    Calls Tryz.prog 30 #[.pointer (some ⟨d, 0, none⟩)] w fun e w' =>
      ((mtE D.newest D.off D.n = 0 ∧ ∃ p, e = .returned (.tuple #[.pointer (some ⟨p, 0, none⟩), .int .i64 0]) ∧ Sys b w' d p (grow T w w') D (Pl.mounted D.newest D.n)) ∨
        (mtE D.newest D.off D.n ≠ 0 ∧ e = .returned (.tuple #[.pointer none, .int .i64 (mtE D.newest D.off D.n)]))) ∧ Below w.heap.size w w' := by
  obtain ⟨S0, L, h1, h2⟩ := H
  refine (pmount_any L ht hgn).mono ?_
  rintro e w' ⟨⟨h0, p, rfl, hp, hpn⟩ | ⟨h0, rfl⟩, B⟩
  · have hz := B.size
    refine ⟨.inl ⟨h0, p, rfl, S0, fun k => w.heap.size ≤ k ∧ k < w'.heap.size, L.below B, ?_, fun k hk => ⟨.inl (h1 k hk), by have := (h2 k (h1 k hk)).2; omega⟩, fun k hk h => by have := (h2 k (h1 k hk)).2; omega, fun k hk => ⟨hk.1.elim (fun h => (h2 k h).1) fun h => by omega, hk.2⟩⟩, B⟩
    exact (hp (fun k => T k ∨ w.heap.size ≤ k) fun k hk => .inr hk).mono (fun k hk h => ⟨h, hk⟩) (fun k hk h => h.1) fun k hk => ⟨.inr hk.1, hk.2⟩
  · exact ⟨.inr ⟨h0, rfl⟩, B⟩
end
end Go.Proofs.YtipejjgodnnkaaaGreatDoor

namespace Go.Proofs.YtipejjgodnnkaaaGreatDoor
open Go Go.RowKit Go.Proofs

theorem live_get {P : Pl} {a : Nat} {b : Bk} (h : P.live a = some b) : P.C.get (a : Int) ≠ 0 ∧ P.L a = some b := by
  unfold Pl.live at h
  split at h
  · cases h
  · rename_i h0; exact ⟨h0, h⟩
theorem bytes_new {P : Pl} (D : DM) {a : Nat} {k : Int} {x : List UInt8} {most : Nat} (h : P.live a = some (.bytes k x)) (hk : mostK k = some most) (hx : x.length ≤ most) (ha : a ≤ 2047) : P.bytesE D (a : Int) k = 0 ∧ P.bytesL D (a : Int) k = x := by
  obtain ⟨h0, _⟩ := live_get h
  obtain ⟨hk56, hm⟩ := mostK_some hk
  obtain ⟨d1, d2⟩ := dat_back0 k a most 0 x hk56 ha gen0_zero hx hm
  have e : (Bk.bytes k x).out a 0 = blkL (datH k a x.length 0) x := rfl
  unfold Pl.bytesE Pl.bytesL
  rw [hk]
  show (if _ then _ else _) = (0 : Int) ∧ (if _ then _ else _) = x
  rw [if_neg h0, if_neg h0, Int.toNat_natCast, h]
  show datE ((Bk.bytes k x).out a 0) k a most 1 = 0 ∧ datB ((Bk.bytes k x).out a 0) k a most = x
  rw [e, (dat_yes 1 d1).1, (dat_yes 1 d1).2, d2]
  exact ⟨rfl, rfl⟩
theorem bytes_disk {P : Pl} {D : DM} {a : Nat} {k g : Int} {x : List UInt8} {most : Nat} (h0 : P.C.get (a : Int) ≠ 0) (hl : P.live a = none) (hoff : D.off = false) (ha : a < D.n) (ha2 : a ≤ 2047) (hg : gen0 g) (hr : D.newest a = (Bk.bytes k x).out a g) (hk : mostK k = some most) (hx : x.length ≤ most) :
    P.bytesE D (a : Int) k = 0 ∧ P.bytesL D (a : Int) k = x := by
  obtain ⟨hk56, hm⟩ := mostK_some hk
  obtain ⟨d1, d2⟩ := dat_back0 k a most g x hk56 ha2 hg hx hm
  have e : (Bk.bytes k x).out a g = blkL (datH k a x.length g) x := rfl
  obtain ⟨r1, r2⟩ := readL_in hoff ha
  unfold Pl.bytesE Pl.bytesL
  rw [hk]
  show (if _ then _ else _) = (0 : Int) ∧ (if _ then _ else _) = x
  rw [if_neg h0, if_neg h0, Int.toNat_natCast, hl]
  show (if D.readE (a : Int) = 0 then datE (D.readL (a : Int)) k a most 5 else D.readE (a : Int)) = 0 ∧ (if D.readE (a : Int) = 0 then datB (D.readL (a : Int)) k a most else []) = x
  rw [if_pos r2, if_pos r2, r1, hr, e, (dat_yes 5 d1).1, (dat_yes 5 d1).2, d2]
  exact ⟨rfl, rfl⟩
theorem bytes_gone {P : Pl} {D : DM} {a k : Int} (h0 : P.C.get a = 0) : P.bytesE D a k = 1 ∧ P.bytesL D a k = [] := by
  unfold Pl.bytesE Pl.bytesL
  cases mostK k with
  | none => exact ⟨rfl, rfl⟩
  | some m => exact ⟨if_pos h0, if_pos h0⟩
/-- Data of a block's size is put as long as there is room. -/
theorem put_data {P : Pl} {a : Nat} (h : P.C.pick = some a) {x : List UInt8} (hx : x.length ≤ 128) : P.putV 5 x.length = (a : Int) ∧ P.putE 5 x.length = 0 ∧ P.put 5 x = P.lay (.bytes 5 x) := by
  have h5 : Pl.may5 5 x.length = true := decide_eq_true (show x.length ≤ 128 from hx)
  obtain ⟨a1, a2, _⟩ := Ct.alloc_some h
  unfold Pl.putV Pl.putE Pl.put
  rw [h5]
  exact ⟨a2, a1, rfl⟩
theorem new_len (P : Pl) : P.new.length ≤ P.C.n := by
  unfold Pl.new
  have := List.length_filterMap_le P.newA (List.range P.C.n)
  rwa [List.length_range] at this
theorem steps_le {P : Pl} (h : P.ok) : P.steps.length ≤ 2100 := by
  have h1 := Pl.steps_len P
  have h2 := new_len P
  have h3 := h.c.1
  have h4 : areaN P.C.n ≤ 18 := by unfold areaN; omega
  omega
theorem fmt_le {n : Nat} (h : n ≤ 2048) : (fmtL n).length ≤ 30 := by
  rw [fmt_len]
  unfold areaN
  omega
/-- A commit with power, whole; and what is mounted behind it. -/
theorem cmt_sys {D : DM} {P : Pl} (h : P.ok) {S0 : Sp} {C0 : Ct} (hs : Sound D P S0 C0) : D.cmtE P = 0 ∧ D.cmtP P = P.done ∧ Sound (D.runD P.steps) P.done P.sup P.C ∧
    mtE (D.runD P.steps).newest (D.runD P.steps).off (D.runD P.steps).n = 0 ∧ Pl.mounted (D.runD P.steps).newest (D.runD P.steps).n = P.done ∧ mtS (D.runD P.steps).newest = P.sup := by
  obtain ⟨e0, e1, _⟩ := cmt_sound h hs
  have hb : D.runB P.steps = true := decide_eq_true e0
  obtain ⟨m1, m2, m3⟩ := sound_mounts e1
  refine ⟨(cmt_yes hb).1, (cmt_yes hb).2, e1, by rw [e1.free.on]; exact m1, ?_, m2⟩
  unfold Pl.mounted
  rw [m2]
  have : mtC (D.runD P.steps).newest (D.runD P.steps).n P.sup.gen = P.C.commit := m3
  rw [this]
  rfl
theorem sound_newest {D : DM} {P : Pl} {S0 : Sp} {C0 : Ct} (hs : Sound D P S0 C0) (s : Nat) : D.newest s = D.dur s := by unfold DM.newest; rw [hs.set_]; rfl

/-! ### The document's example -/
def shB : List UInt8 := [97, 98]
def shP : Pl := (Pl.fresh 32).lay (.bytes 5 shB)
theorem sh_pick : (Pl.fresh 32).C.pick = some 4 := by decide
theorem sh_free : shP.C.free = 27 := by decide
theorem sh_done_free : (Pl.mk shP.done.S (shP.done.C.unref 4) shP.done.L).C.free = 27 := by decide
theorem sh_unref : shP.done.C.unrefV 4 = 0 ∧ shP.done.C.unrefE 4 = 0 := by decide
theorem sh_gone : (shP.done.C.unref 4).get 4 = 0 := by decide
theorem sh_ok : shP.ok := lay_ok (fresh_ok (by omega) (by omega)) (bytes_good (.inl rfl) (by decide)).fine
theorem sh_g : shP.g = 2 := by decide
end Go.Proofs.YtipejjgodnnkaaaGreatDoor

namespace Go.Proofs.YtipejjgodnnkaaaGreatDoor
open Go Go.RowKit Go.Proofs

theorem new_count (P : Pl) : P.new.length = (List.range P.C.n).countP fun a => (P.live a).isSome := by
  have h := congrArg List.length (new_keys P)
  unfold wIn Pl.keysN at h
  rw [List.length_map, List.length_map] at h
  rw [h, List.countP_eq_length_filter]
/-- A pool on which so many blocks were laid down since Format; its drive. -/
structure Lays (kn : Nat) (D : DM) (P : Pl) (S0 : Sp) (C0 : Ct) (j many : Nat) : Prop where
  ok : P.ok
  n : P.C.n = kn
  sound : Sound D P S0 C0
  new : P.new.length = many
  free : P.C.free + j = kn - (2 + 2 * areaN kn)
theorem lays_zero {kn : Nat} (h1 : 32 ≤ kn) (h2 : kn ≤ 2048) {D : DM} (hs : Sound D (Pl.fresh kn) (fmtS kn) (Ct.zero kn)) : Lays kn D (Pl.fresh kn) (fmtS kn) (Ct.zero kn) 0 0 := by
  refine ⟨fresh_ok h1 h2, Ct.zero_n _, hs, ?_, Ct.zero_free⟩
  rw [new_count, List.countP_eq_zero.2]
  intro a _
  have : (Pl.fresh kn).live a = none := by unfold Pl.live; split <;> rfl
  rw [this]
  decide
/-- An argument's bytes, at most 128 of them. -/
def cut128 (l : List UInt8) : List UInt8 := l.take 128
theorem cut_len (l : List UInt8) : (cut128 l).length ≤ 128 := by unfold cut128; rw [List.length_take]; omega
end Go.Proofs.YtipejjgodnnkaaaGreatDoor

namespace Go.Proofs.YtipejjgodnnkaaaGreatDoor
open Go Go.RowKit Go.Proofs

/-- Behind a crash within a commit. -/
structure Crashed (D D3 : DM) (P : Pl) (S0 : Sp) (C0 : Ct) (E : Int) : Prop where
  n : D3.n = P.C.n
  off : D3.off = false
  mt : mtE D3.newest D3.off D3.n = 0
  way : (E ≠ 0 ∧ mtS D3.newest = S0 ∧ Pl.mounted D3.newest D3.n = ⟨S0, C0.commit, fun _ => none⟩) ∨
    (mtS D3.newest = P.sup ∧ Pl.mounted D3.newest D3.n = P.done ∧ ∀ a b, a < P.C.n → P.L a = some b → ¬ P.C.get (a : Int) = 0 → D3.newest a = b.out a P.g)
  old : ∀ s, s < P.C.n → P.C.first ≤ s → (∀ x, (s, x) ∉ P.new) → D3.newest s = D.dur s
theorem crash_says {D : DM} {P : Pl} (h : P.ok) {S0 : Sp} {C0 : Ct} (hs : Sound D P S0 C0) (n : Int) (kp : List Int) :
    Crashed D (((D.fuse n).runD P.steps).crash kp) P S0 C0 ((D.fuse n).cmtE P) := by
  have hn := hs.n
  obtain ⟨r1, r2, _, _, _, _, r7⟩ := run_says P.steps (D.fuse n) (fun a ha => by show a.ok D.n; rw [hn]; exact Pl.steps_ok h a ha)
  obtain ⟨k, hk⟩ : ∃ k, (D.fuse n).room P.steps.length = k := ⟨_, rfl⟩
  rw [hk] at r1 r7
  have hm : (D.fuse n).mem = D.mem := rfl
  rw [hm] at r1
  have hrn : ((D.fuse n).runD P.steps).n = P.C.n := r2.trans hn
  obtain ⟨D2, hD2⟩ : ∃ x, (D.fuse n).runD P.steps = x := ⟨_, rfl⟩
  rw [hD2] at r1 r7 hrn ⊢
  obtain ⟨c1, c2⟩ := pl_crash h (M := D.mem) (fun s _ => hs.set_ s) hs.holds k (D2.crash kp).newest fun s hsn => by
    rw [← r1]
    exact may_crash D2 kp s (by rw [hrn]; exact hsn)
  have hn3 : (D2.crash kp).n = P.C.n := (crashTo_n D2 kp D2.n).trans hrn
  have ho3 : (D2.crash kp).off = false := rfl
  refine ⟨hn3, ho3, ?_, ?_, c2⟩
  · rw [ho3, hn3]
    rcases c1 with ⟨c, _⟩ | c
    · exact c.1
    · exact c.1
  · rw [hn3]
    rcases c1 with ⟨⟨_, a2, a3⟩, hk3⟩ | ⟨_, a2, a3, a4⟩
    · left
      refine ⟨?_, a2, ?_⟩
      · have : (D.fuse n).runB P.steps = false := by
          unfold DM.runB
          rcases r7 with ⟨x, _, _⟩ | ⟨_, y, _⟩
          · omega
          · rw [y]; rfl
        rw [(cmt_no this).1]
        omega
      · unfold Pl.mounted
        rw [a2]
        have hg : S0.gen = P.S.gen := hs.holds.gen
        rw [hg, a3]
    · right
      refine ⟨a2, ?_, a4⟩
      unfold Pl.mounted
      rw [a2]
      have : mtC (D2.crash kp).newest P.C.n P.sup.gen = P.C.commit := a3
      rw [this]
      rfl

/-- What was laid down in the transaction before, and in this one. -/
structure Laid (kn : Nat) (D : DM) (P : Pl) (S0 : Sp) (C0 : Ct) (g : Int) (ao : List Nat) (ls0 : List (List UInt8)) (an : List Nat) (ls : List (List UInt8)) : Prop where
  ok : P.ok
  n : P.C.n = kn
  knb : 32 ≤ kn ∧ kn ≤ 63
  gen : P.S.gen = g
  gs : 1 ≤ g ∧ g ≤ 2
  sound : Sound D P S0 C0
  free : 36 ≤ (P.C.free : Int) + (an.length : Int) + 8 * g
  dn : ∀ a : Nat, nm P.C.done a = 0 → C0.get (a : Int) = 0
  old : ∀ (i a : Nat), ao[i]? = some a → a < kn ∧ 4 ≤ a ∧ P.C.get (a : Int) = 1 ∧ P.live a = none ∧ C0.get (a : Int) = 1 ∧ D.dur a = (Bk.bytes 5 (cut128 (nth ls0 i))).out a g
  new : ∀ (i a : Nat), an[i]? = some a → a < kn ∧ 4 ≤ a ∧ P.C.get (a : Int) = 1 ∧ P.live a = some (.bytes 5 (cut128 (nth ls i))) ∧ C0.get (a : Int) = 0
theorem laid_zero {kn : Nat} (h1 : 32 ≤ kn) (h2 : kn ≤ 63) {D : DM} (hs : Sound D (Pl.fresh kn) (fmtS kn) (Ct.zero kn)) (ls0 ls : List (List UInt8)) : Laid kn D (Pl.fresh kn) (fmtS kn) (Ct.zero kn) 1 [] ls0 [] ls := by
  have hz := lays_zero h1 (by omega) hs
  have hf := hz.free
  refine ⟨hz.ok, hz.n, ⟨h1, h2⟩, rfl, ⟨by omega, by omega⟩, hs, ?_, fun a ha => ?_, fun i a h => by simp at h, fun i a h => by simp at h⟩
  · unfold areaN at hf
    simp only [List.length_nil]
    omega
  · unfold Ct.get
    split
    · rw [Int.toNat_natCast]; exact ha
    · rfl
theorem Laid.put {kn : Nat} {D : DM} {P : Pl} {S0 : Sp} {C0 : Ct} {g : Int} {ao : List Nat} {ls0 : List (List UInt8)} {an : List Nat} {ls : List (List UInt8)} (h : Laid kn D P S0 C0 g ao ls0 an ls) (hj : an.length < 8) :
    ∃ a, P.C.pick = some a ∧ a < kn ∧ Laid kn D (P.lay (.bytes 5 (cut128 (nth ls an.length)))) S0 C0 g ao ls0 (an ++ [a]) ls := by
  have hf := h.free
  have hgs := h.gs
  have hx := cut_len (nth ls an.length)
  obtain ⟨a, hp⟩ := Ct.pick_some_free (C := P.C) (by omega)
  obtain ⟨p1, p2, p3, p4, _⟩ := Ct.pick_in hp
  have hn := h.n
  have hkn := h.knb
  obtain ⟨x, hxx⟩ : ∃ x, cut128 (nth ls an.length) = x := ⟨_, rfl⟩
  rw [hxx] at hx ⊢
  have hlv := live_lay hp (.bytes 5 x)
  have hget := fun c hc => lay_get hp (.bytes 5 x) c hc
  have hp2 : 4 ≤ a := by
    unfold Ct.first at p2
    rw [hn] at p2
    unfold areaN at p2
    omega
  have hg0 : P.C.get (a : Int) = 0 := by
    unfold Ct.get
    rw [if_pos (by omega), Int.toNat_natCast]
    exact p3
  have hafree : (P.lay (.bytes 5 x)).C.free + 1 = P.C.free := by rw [lay_some hp]; exact Ct.alloc_free hp
  have hdone : (P.lay (.bytes 5 x)).C.done = P.C.done := by
    rw [lay_some hp]
    show P.C.alloc.done = P.C.done
    unfold Ct.alloc
    rw [hp]
    rfl
  refine ⟨a, hp, by omega, lay_ok h.ok (bytes_good (.inl rfl) (by omega)).fine, (lay_n _).trans hn, hkn, by rw [lay_S]; exact h.gen, h.gs, lay_holds h.sound _, ?_, ?_, ?_, ?_⟩
  · rw [List.length_append, List.length_singleton]; omega
  · rw [hdone]; exact h.dn
  · intro i c hc
    obtain ⟨q1, q2, q3, q4, q5, q6⟩ := h.old i c hc
    have hne : c ≠ a := fun e => by rw [e, hg0] at q3; omega
    exact ⟨q1, q2, by rw [hget c (by omega), if_neg hne]; exact q3, by rw [hlv, if_neg hne]; exact q4, q5, q6⟩
  · intro i c hc
    by_cases hi : i < an.length
    · rw [List.getElem?_append_left hi] at hc
      obtain ⟨q1, q2, q3, q4, q5⟩ := h.new i c hc
      have hne : c ≠ a := fun e => by rw [e, hg0] at q3; omega
      exact ⟨q1, q2, by rw [hget c (by omega), if_neg hne]; exact q3, by rw [hlv, if_neg hne]; exact q4, q5⟩
    · have hil : i = an.length := by
        have := (List.getElem?_eq_some_iff.1 hc).1
        rw [List.length_append, List.length_singleton] at this
        omega
      subst hil
      rw [List.getElem?_append_right (Nat.le_refl _), Nat.sub_self] at hc
      obtain rfl : a = c := by simpa using hc
      exact ⟨by omega, hp2, by rw [hget a p1, if_pos rfl], by rw [hlv, if_pos rfl, hxx], h.dn a p4⟩
theorem Laid.commit {kn : Nat} {D : DM} {P : Pl} {S0 : Sp} {C0 : Ct} {ao : List Nat} {ls0 : List (List UInt8)} {an : List Nat} {ls : List (List UInt8)} (h : Laid kn D P S0 C0 1 ao ls0 an ls) (h8 : an.length ≤ 8) (ls2 : List (List UInt8)) :
    D.cmtE P = 0 ∧ D.cmtP P = P.done ∧ Laid kn (D.runD P.steps) P.done P.sup P.C 2 an ls [] ls2 := by
  obtain ⟨k1, k2, S7, k4, k5, k6⟩ := cmt_sys h.ok h.sound
  obtain ⟨_, _, _, k7, _⟩ := cmt_sound h.ok h.sound
  have hgen := h.gen
  have hg : P.g = 2 := by unfold Pl.g; omega
  have hf := h.free
  have hfc : P.C.free ≤ P.done.C.free := Ct.commit_free_le P.C
  rw [k1, k2]
  refine ⟨rfl, rfl, done_ok h.ok (by omega), h.n, h.knb, hg, ⟨by omega, by omega⟩, S7, ?_, ?_, ?_, fun i a h => by simp at h⟩
  · simp only [List.length_nil]
    omega
  · intro a ha
    have ha : nm P.C.now a = 0 := ha
    unfold Ct.get
    split
    · rw [Int.toNat_natCast]; exact ha
    · rfl
  · intro i a hi
    obtain ⟨q1, q2, q3, q4, q5⟩ := h.new i a hi
    have hl := live_get q4
    have hd := k7 a _ (by rw [h.n]; exact q1) hl.2 hl.1
    rw [hg] at hd
    exact ⟨q1, q2, q3, live_done P a, q3, hd⟩
/-- What a pool answers of some blocks. -/
def Tells (Q : Pl) (D : DM) (an : List Nat) (ls : List (List UInt8)) : Prop := ∀ (i a : Nat), an[i]? = some a → Q.bytesE D (a : Int) 5 = 0 ∧ Q.bytesL D (a : Int) 5 = cut128 (nth ls i) ∧ Q.C.get (a : Int) = 1
structure Ends (D : DM) (Q : Pl) (E : Int) (ao : List Nat) (ls0 : List (List UInt8)) (an : List Nat) (ls : List (List UInt8)) : Prop where
  gen : Q.S.gen = 2 ∨ Q.S.gen = 3
  two : Q.S.gen = 2 → E ≠ 0 ∧ ∀ a ∈ an, Q.C.get (a : Int) = 0
  old : Tells Q D ao ls0
  new : Q.S.gen = 3 → Tells Q D an ls
theorem laid_ends {kn : Nat} {D D3 : DM} {P : Pl} {S0 : Sp} {C0 : Ct} {E : Int} {ao : List Nat} {ls0 : List (List UInt8)} {an : List Nat} {ls : List (List UInt8)} (h : Laid kn D P S0 C0 2 ao ls0 an ls) (K : Crashed D D3 P S0 C0 E) :
    Ends D3 (Pl.mounted D3.newest D3.n) E ao ls0 an ls := by
  have hn := h.n
  have hb := h.knb
  have hgen := h.gen
  have hg : P.g = 3 := by unfold Pl.g; omega
  have hS0 : S0.gen = 2 := h.sound.holds.gen.trans hgen
  have hold : ∀ (i a : Nat), ao[i]? = some a → D3.newest a = (Bk.bytes 5 (cut128 (nth ls0 i))).out a 2 := fun i a hi => by
    obtain ⟨q1, q2, q3, q4, q5, q6⟩ := h.old i a hi
    rw [← q6]
    refine K.old a (by omega) ?_ fun x hx => ?_
    · unfold Ct.first areaN
      rw [hn]
      omega
    · obtain ⟨_, b, hL, hget, _⟩ := new_mem.1 hx
      unfold Pl.live at q4
      rw [if_neg hget, hL] at q4
      cases q4
  have tell : ∀ (Q : Pl) (i a : Nat) (x : List UInt8) (g : Int), Q.L = (fun _ => none) → Q.C.get (a : Int) = 1 → a < kn → gen0 g → D3.newest a = (Bk.bytes 5 (cut128 x)).out a g → Q.bytesE D3 (a : Int) 5 = 0 ∧ Q.bytesL D3 (a : Int) 5 = cut128 x ∧ Q.C.get (a : Int) = 1 := fun Q i a x g hQL hQ ha hg0 hr => by
    have hl : Q.live a = none := by unfold Pl.live; rw [hQL]; split <;> rfl
    obtain ⟨e1, e2⟩ := bytes_disk (P := Q) (D := D3) (a := a) (k := 5) (g := g) (x := cut128 x) (most := 128) (by rw [hQ]; decide) hl K.off (by rw [K.n]; omega) (by omega) hg0 hr rfl (cut_len _)
    exact ⟨e1, e2, hQ⟩
  rcases K.way with ⟨w1, w2, w3⟩ | ⟨w2, w3, w4⟩
  · rw [w3]
    refine ⟨.inl hS0, fun _ => ⟨w1, fun a ha => ?_⟩, fun i a hi => ?_, fun h3 => ?_⟩
    · obtain ⟨i, hi⟩ := List.mem_iff_getElem?.1 ha
      exact (h.new i a hi).2.2.2.2
    · obtain ⟨q1, q2, q3, q4, q5, q6⟩ := h.old i a hi
      exact tell ⟨S0, C0.commit, fun _ => none⟩ i a _ 2 rfl q5 q1 ⟨by omega, by omega⟩ (hold i a hi)
    · have h3 : S0.gen = 3 := h3
      omega
  · rw [w3]
    refine ⟨.inr hg, fun h2 => ?_, fun i a hi => ?_, fun _ i a hi => ?_⟩
    · have h2 : P.g = 2 := h2
      omega
    · obtain ⟨q1, q2, q3, q4, q5, q6⟩ := h.old i a hi
      exact tell P.done i a _ 2 rfl q3 q1 ⟨by omega, by omega⟩ (hold i a hi)
    · obtain ⟨q1, q2, q3, q4, q5⟩ := h.new i a hi
      have hl := live_get q4
      exact tell P.done i a _ P.g rfl q3 q1 ⟨by omega, by omega⟩ (w4 a _ (by omega) hl.2 hl.1)
end Go.Proofs.YtipejjgodnnkaaaGreatDoor

namespace Go.Proofs.YtipejjgodnnkaaaGreatDoor
open Go Go.RowKit Go.Proofs

section
variable {b : Nat} {w w' : World} {d p : Nat} {S0 S T S' : Nat → Prop} {D : DM} {P : Pl}
theorem SysAt.below (H : SysAt b w d p S0 S T D P) (hb : Below w.heap.size w w') : SysAt b w' d p S0 S T D P :=
  ⟨H.drv.below hb, H.pool.below hb, H.sub, H.apart, fun k hk => ⟨(H.tight k hk).1, by have := (H.tight k hk).2; have := hb.size; omega⟩⟩
/-- What is made meanwhile is kept apart from what the pool holds. -/
theorem SysAt.more (H : SysAt b w d p S0 S T D P) (hb : Below w.heap.size w w') : SysAt b w' d p S0 S (grow T w w') D P := by
  have hbb := H.base
  have hST := H.subS
  have hz := hb.size
  refine ⟨H.drv.below hb, (H.pool.mono (S' := S) (T' := grow T w w') (fun k _ h => h) (fun k hk h => ?_) (fun k h => ⟨.inl (hST k h), by have := (H.tight k (hST k h)).2; omega⟩)).below hb, fun k hk => ⟨.inl (H.sub k hk), by have := (H.tight k (H.sub k hk)).2; omega⟩, H.apart, fun k hk => ⟨hk.1.elim (fun h => (H.tight k h).1) fun h => by omega, hk.2⟩⟩
  exact h.1.elim id fun h => by omega
/-- Blocks of the law's own turn. -/
theorem SysAt.own (H : SysAt b w d p S0 S T D P) (t : Turn S' w w') (hT : ∀ k, S' k → T k) (h0 : ∀ k, S' k → ¬ S0 k) (h1 : ∀ k, S' k → ¬ S k) : SysAt b w' d p S0 S T D P :=
  ⟨H.drv.keep fun k hk hs => t.block k hk fun h => h0 k h hs, H.pool.other t hT h1, H.sub, H.apart, fun k hk => ⟨(H.tight k hk).1, by have := (H.tight k hk).2; have := t.size; omega⟩⟩
theorem SysAt.sys (H : SysAt b w d p S0 S T D P) : Sys b w d p T D P := ⟨S0, S, H⟩
theorem at_put (H : SysAt b w d p S0 S T D P) (hb : 1 < b) (k : Int) (A : Option Addr) (n c : Nat) (x : List UInt8) (hs : Sl w A n c x) (hA : 0 < n → ∀ ad, A = some ad → ¬ T ad.block) (ht : Tab w) :
    Calls Tryz.prog 27 #[.pointer (some ⟨p, 0, none⟩), .int .i64 k, .slice A n c] w fun e w' => e = .returned (.tuple #[.int .i64 (P.putV k x.length), .int .i64 (P.putE k x.length)]) ∧ SysAt b w' d p S0 S T D (P.put k x) ∧ Turn S w w' ∧ Tab w' := by
  have hST := H.subS
  refine (pputbytes_any H.pool (fun k hk => (H.tight k hk).2) (fun h => by have := (H.tight _ h).1; omega) k A n c x hs (fun hn ad e h => hA hn ad e (hST _ h)) ht).mono ?_
  rintro e w' ⟨rfl, R, X⟩
  have hz := X.size
  exact ⟨rfl, ⟨H.drv.keep fun k hk hs => X.block k hk (H.apart k hs), R, H.sub, H.apart, fun k hk => ⟨(H.tight k hk).1, by have := (H.tight k hk).2; omega⟩⟩, X, ht.turned X fun h => by have := (H.tight _ (hST _ h)).1; omega⟩
theorem at_commit (H : SysAt b w d p S0 S T D P) (hb : 1 < b) (ht : Tab w) {m0 : Nat} (htm : D.tame m0) (hm0 : m0 ≤ 500000) (hgen : P.g < 1099511627775) :
    Calls Tryz.prog 15 #[.pointer (some ⟨p, 0, none⟩)] w fun e w' => e = .returned (.int .i64 (D.cmtE P)) ∧ SysAt b w' d p (grow S0 w w') S (grow T w w') (D.runD P.steps) (D.cmtP P) ∧ Turn (fun k => S0 k ∨ S k) w w' ∧ Tab w' := by
  have hST := H.subS
  have hbb := H.base
  refine (pcommit_any H.drv H.pool H.sub H.apart (fun k hk => (H.tight k hk).2) (fun h => by have := (H.tight _ h).1; omega) ht htm hm0 hgen).mono ?_
  rintro e w' ⟨rfl, R, Q, X⟩
  have hz := X.size
  have hX : ∀ k, S0 k ∨ S k → T k := fun k hk => hk.elim (H.sub k) (hST k)
  refine ⟨rfl, ⟨R.tight, ?_, fun k hk => ⟨hk.1.imp (H.sub k) id, hk.2⟩, fun k hk h => ?_, fun k hk => ⟨hk.1.elim (fun h => (H.tight k h).1) fun h => by omega, hk.2⟩⟩, X, ht.turned X fun h => by have := (H.tight _ (hX _ h)).1; omega⟩
  · exact Q.mono (fun k _ h => h) (fun k hk h => h.1) fun k hk => ⟨.inl (hST k hk), by have := (H.tight k (hST k hk)).2; omega⟩
  · exact hk.1.elim (fun h2 => H.apart k h2 h) fun h2 => by have := (H.tight k (hST k h)).2; omega
theorem at_fuse (H : SysAt b w d p S0 S T D P) (n : Int) (hn : n ≤ 9223372036854775807) :
    Calls Tryz.prog 28 #[.pointer (some ⟨d, 0, none⟩), .int .i64 n] w fun e w' => e = .returned (.tuple #[]) ∧ SysAt b w' d p S0 S T (D.fuse n) P ∧ Turn S0 w w' := by
  obtain ⟨bd, bm, l, clock, v, L⟩ := H.drv
  have hd : S0 d := L.inS.1
  refine (fuse_any L n hn).mono ?_
  rintro e w' ⟨rfl, L2, X⟩
  have hz := X.size
  have X : Turn S0 w w' := X.mono fun k hk => by rw [hk]; exact hd
  exact ⟨rfl, ⟨⟨bd, bm, l, clock, v, L2⟩, H.pool.other X H.sub H.apart, H.sub, H.apart, fun k hk => ⟨(H.tight k hk).1, by have := (H.tight k hk).2; omega⟩⟩, X⟩
theorem at_crash (H : SysAt b w d p S0 S T D P) (A : Option Addr) (n c : Nat) (kp : List Int) (hk : Ints w A n c kp) (hout : 0 < n → ∀ ad, A = some ad → ¬ S0 ad.block) {m : Nat} (htm : D.tame m) (hm : m ≤ 999999) :
    Calls Tryz.prog 29 #[.pointer (some ⟨d, 0, none⟩), .slice A n c] w fun e w' => e = .returned (.tuple #[]) ∧ SysAt b w' d p S0 S T (D.crash kp) P ∧ Turn S0 w w' := by
  have hc : Calls Tryz.prog 29 #[.pointer (some ⟨d, 0, none⟩), .slice A n c] w fun e w' => e = .returned (.tuple #[]) ∧ Drv w' d S0 (D.crash kp) ∧ Turn S0 w w' := by
    have hcl : ∀ k, (D.cac k).length ≤ 999999 := fun k => Nat.le_trans (htm.rows k) hm
    by_cases h0 : n = 0
    · subst h0
      have hl := hk.len
      obtain rfl : kp = [] := List.length_eq_zero_iff.1 hl
      exact crash_none H.drv A c hcl
    · exact crash_any H.drv A n c kp hk (hout (by omega)) hcl
  refine hc.mono ?_
  rintro e w' ⟨rfl, L2, X⟩
  have hz := X.size
  exact ⟨rfl, ⟨L2, H.pool.other X H.sub H.apart, H.sub, H.apart, fun k hk => ⟨(H.tight k hk).1, by have := (H.tight k hk).2; omega⟩⟩, X⟩
end

/-- A row of the law's own that holds addresses. -/
def ARow (w : World) (base : Nat) (A : Option Addr) (n c : Nat) (an : List Nat) : Prop := OwnS w base 3 1 A n c (an.map fun (a : Nat) => [.int .i64 (a : Int)])
section
variable {w w' : World} {base : Nat} {A : Option Addr} {n c : Nat} {an : List Nat}
theorem arow_none (w : World) (base : Nat) : ARow w base none 0 0 [] := owns_none w base _ _
theorem ARow.len (h : ARow w base A n c an) : an.length = n := by
  have := OwnS.len h (by omega)
  rw [List.length_map] at this
  omega
theorem ARow.turned (h : ARow w base A n c an) {S : Nat → Prop} (T : Turn S w w') (hA : ∀ k, blockOf A = some k → ¬ S k) : ARow w' base A n c an := OwnS.turned h T hA
theorem ARow.below (h : ARow w base A n c an) (hb : Below w.heap.size w w') : ARow w' base A n c an := OwnS.below h hb
theorem ARow.lt (h : ARow w base A n c an) : ∀ k, blockOf A = some k → base ≤ k ∧ k < w.heap.size := OwnS.blockLt h
theorem ARow.cell (h : ARow w base A n c an) {i : Nat} (hi : i < n) : ∃ ad a, A = some ad ∧ an[i]? = some a ∧ w.cell? (ad.add i) = some (.int .i64 (a : Int)) ∧ ad.block < w.heap.size := by
  have hl := h.len
  have hs := OwnS.sls h (by omega)
  obtain ⟨g, o, hA, hg, _, hr⟩ := hs.2.2.2 i _ (List.getElem?_eq_getElem (by rw [List.length_map]; omega))
  have h0 := hr 0 (.int .i64 ((an[i]'(by omega) : Nat) : Int)) (by rw [List.getElem_map]; rfl)
  rw [Nat.mul_one, Nat.add_zero] at h0
  exact ⟨⟨g, o, none⟩, _, hA, List.getElem?_eq_getElem (by omega), by rw [Addr.add_mid]; exact h0, hg⟩
theorem ARow.cap (h : ARow w base A n c an) : n ≤ c ∧ c ≤ maxLen := by
  have hs := OwnS.sls h (by omega)
  exact ⟨hs.cap, hs.max⟩
end
/-- append of one address. -/
theorem wp_append_int {w : World} {ops : Array Oper} {rest : List Oper} {o : Oper} {a : Act} {Q : Exit → Act → World → Prop} (hgd : o.guard = none) (so x : Operand)
    (ho : o.op = .call { callee := .builtin .append, args := #[so, x], argTypes := #[33, 33] })
    (base : Nat) (A : Option Addr) (n c : Nat) (an : List Nat) (hs : a.eval so = .slice A n c) (hown : ARow w base A n c an)
    (B : Option Addr) (d : Nat) (v : Nat) (hx : a.eval x = .slice B 1 d) (hr : Sls w 1 B 1 d [[.int .i64 (v : Int)]]) (hn : n ≤ 1000) (hbase : base ≤ w.heap.size)
    (h : ∀ A' c' w', ARow w' base A' (n + 1) c' (an ++ [v]) → Turn (fun k => blockOf A = some k) w w' → (blockOf A' = blockOf A ∨ blockOf A' = some w.heap.size) → wpList Tryz.prog ops Q rest (a.put o.dst (.slice A' (n + 1) c')) w') : wpList Tryz.prog ops Q (o :: rest) a w := by
  refine wp_append_g _ TInt hgd so x ho base A n c _ hs hown B 1 d _ hx hr (by omega) (by
    intro y hy u hu
    obtain rfl : y = [.int .i64 (v : Int)] := by simpa using hy
    obtain rfl : u = .int .i64 (v : Int) := by simpa using hu
    rfl) (by omega) (by omega) hbase ?_
  intro A' c' w' g1 T g2 _
  refine h A' c' w' ?_ T g2
  unfold ARow
  rw [List.map_append]
  exact g1
end Go.Proofs.YtipejjgodnnkaaaGreatDoor

namespace Go.Proofs.YtipejjgodnnkaaaGreatDoor
open Go Go.RowKit Go.Proofs

structure Rows2 (w : World) (b ab : Nat) (S0 S T : Nat → Prop) (A : Option Addr) (n c : Nat) (an : List Nat) (A2 : Option Addr) (n2 c2 : Nat) (an2 : List Nat) : Prop where
  me : w.heap[ab]? = some (.cells #[.slice A n c, .slice A2 n2 c2] 75)
  r0 : ARow w b A n c an
  r1 : ARow w b A2 n2 c2 an2
  own : ∀ k, k = ab ∨ blockOf A = some k ∨ blockOf A2 = some k → T k ∧ ¬ S0 k ∧ ¬ S k
  no0 : blockOf A ≠ some ab
  no1 : blockOf A2 ≠ some ab
  ne : ∀ k, blockOf A = some k → blockOf A2 ≠ some k
section
variable {w w' w1 : World} {b ab d p : Nat} {S0 S T S' T' : Nat → Prop} {D : DM} {P : Pl} {A A2 A' : Option Addr} {n c n2 c2 c' v : Nat} {an an2 : List Nat}
theorem Rows2.lt (R : Rows2 w b ab S0 S T A n c an A2 n2 c2 an2) : ab < w.heap.size := lt_of_heap R.me
theorem Rows2.c0 (R : Rows2 w b ab S0 S T A n c an A2 n2 c2 an2) : w.cell? ⟨ab, 0, none⟩ = some (.slice A n c) := by rw [cell_of_row _ _ _ _ _ _ R.me]; rfl
theorem Rows2.c1 (R : Rows2 w b ab S0 S T A n c an A2 n2 c2 an2) : w.cell? ⟨ab, 1, none⟩ = some (.slice A2 n2 c2) := by rw [cell_of_row _ _ _ _ _ _ R.me]; rfl
theorem Rows2.fz (R : Rows2 w b ab S0 S T A n c an A2 n2 c2 an2) (j : Nat) : w.frozen? ⟨ab, j, none⟩ = false := by unfold World.frozen?; rw [R.me]; simp
theorem Rows2.turned (R : Rows2 w b ab S0 S T A n c an A2 n2 c2 an2) (X : Turn S' w w') (hS : ∀ k, S' k → S0 k ∨ S k) : Rows2 w' b ab S0 S T A n c an A2 n2 c2 an2 := by
  have hne : ∀ k, k = ab ∨ blockOf A = some k ∨ blockOf A2 = some k → ¬ S' k := fun k hk h => by
    obtain ⟨_, h0, h1⟩ := R.own k hk
    exact (hS k h).elim h0 h1
  exact ⟨(X.block ab R.lt (hne ab (.inl rfl))).trans R.me, R.r0.turned X fun k hk => hne k (.inr (.inl hk)), R.r1.turned X fun k hk => hne k (.inr (.inr hk)), R.own, R.no0, R.no1, R.ne⟩
theorem Rows2.below (R : Rows2 w b ab S0 S T A n c an A2 n2 c2 an2) (hb : Below w.heap.size w w') : Rows2 w' b ab S0 S T A n c an A2 n2 c2 an2 :=
  ⟨(hb.block ab R.lt).trans R.me, R.r0.below hb, R.r1.below hb, R.own, R.no0, R.no1, R.ne⟩
theorem Rows2.mono (R : Rows2 w b ab S0 S T A n c an A2 n2 c2 an2) (hz : ab < w.heap.size) {S0' : Nat → Prop} (h0 : ∀ k, k < w.heap.size → S0' k → S0 k) (hT : ∀ k, k < w.heap.size → T k → T' k) : Rows2 w b ab S0' S T' A n c an A2 n2 c2 an2 := by
  refine ⟨R.me, R.r0, R.r1, fun k hk => ?_, R.no0, R.no1, R.ne⟩
  have hlt : k < w.heap.size := by
    rcases hk with rfl | hk | hk
    · exact hz
    · exact (R.r0.lt k hk).2
    · exact (R.r1.lt k hk).2
  obtain ⟨h1, h2, h3⟩ := R.own k hk
  exact ⟨hT k hlt h1, fun h => h2 (h0 k hlt h), h3⟩
theorem grow_old {k : Nat} (h : T k) (hlt : k < w'.heap.size) : grow T w w' k := ⟨.inl h, hlt⟩
/-- Behind an append to one row, and its store. -/
theorem rows_push0 (H : SysAt b w d p S0 S T D P) (hb : 1 < b) (t : Tab w) (R : Rows2 w b ab S0 S T A n c an A2 n2 c2 an2) (hr : ARow w1 b A' (n + 1) c' (an ++ [v])) (X : Turn (fun k => blockOf A = some k) w w1) (hA : blockOf A' = blockOf A ∨ blockOf A' = some w.heap.size) :
    SysAt b (w1.setCell ⟨ab, 0, none⟩ (.slice A' (n + 1) c')) d p S0 S (grow T w w1) D P ∧ Rows2 (w1.setCell ⟨ab, 0, none⟩ (.slice A' (n + 1) c')) b ab S0 S (grow T w w1) A' (n + 1) c' (an ++ [v]) A2 n2 c2 an2 ∧ Turn (fun k => k = ab ∨ blockOf A = some k) w (w1.setCell ⟨ab, 0, none⟩ (.slice A' (n + 1) c')) ∧ Tab (w1.setCell ⟨ab, 0, none⟩ (.slice A' (n + 1) c')) := by
  have hz := X.size
  have hST := H.subS
  have hlt := R.lt
  have hxo : ∀ k, blockOf A = some k → T k ∧ ¬ S0 k ∧ ¬ S k := fun k hk => R.own k (.inr (.inl hk))
  have m1 : w1.heap[ab]? = some (.cells #[.slice A n c, .slice A2 n2 c2] 75) := (X.block ab hlt R.no0).trans R.me
  have hA' : blockOf A' ≠ some ab := fun e => by
    rcases hA with h | h
    · exact R.no0 (h ▸ e)
    · rw [h] at e; injection e with e; omega
  have X2 : Turn (fun k => k = ab) w1 (w1.setCell ⟨ab, 0, none⟩ (.slice A' (n + 1) c')) := turn_at _ _ _
  have ho := R.own ab (.inl rfl)
  have XX : Turn (fun k => k = ab ∨ blockOf A = some k) w (w1.setCell ⟨ab, 0, none⟩ (.slice A' (n + 1) c')) := (X.mono fun k hk => .inr hk).then (X2.mono fun k hk => .inl hk)
  have hsz : (w1.setCell ⟨ab, 0, none⟩ (.slice A' (n + 1) c')).heap.size = w1.heap.size := World.size_setCell ..
  have hown : ∀ k, k = ab ∨ blockOf A = some k → T k ∧ ¬ S0 k ∧ ¬ S k := fun k hk => hk.elim (fun e => by rw [e]; exact ho) (hxo k)
  have hlt2 : ∀ k, k = ab ∨ blockOf A = some k → k < w.heap.size := fun k hk => hk.elim (fun e => by omega) fun e => (R.r0.lt k e).2
  have Q := (H.pool.mono (S' := S) (T' := grow T w w1) (fun k _ h => h) (fun k hk h => h.1.elim id fun h2 => by omega) (fun k h => ⟨.inl (hST k h), by have := (H.tight k (hST k h)).2; omega⟩)).other XX (fun k hk => ⟨.inl (hown k hk).1, by have := hlt2 k hk; omega⟩) fun k hk => (hown k hk).2.2
  have hnew : ∀ k, blockOf A' = some k → grow T w w1 k ∧ ¬ S0 k ∧ ¬ S k := fun k hk => by
    have h1 := (hr.lt k hk).2
    rcases hA with h | h
    · obtain ⟨q1, q2, q3⟩ := hxo k (h ▸ hk)
      exact ⟨⟨.inl q1, h1⟩, q2, q3⟩
    · rw [h] at hk
      injection hk with hk
      subst hk
      refine ⟨⟨.inr (Nat.le_refl _), h1⟩, fun h => ?_, fun h => ?_⟩
      · have := (H.tight _ (H.sub _ h)).2; omega
      · have := (H.tight _ (hST _ h)).2; omega
  refine ⟨⟨H.drv.keep fun k hk hs => XX.block k hk fun h => (hown k h).2.1 hs, Q, fun k hk => ⟨.inl (H.sub k hk), by have := (H.tight k (H.sub k hk)).2; omega⟩, H.apart, fun k hk => ⟨hk.1.elim (fun h => (H.tight k h).1) fun h => by have := H.base; omega, by rw [hsz]; exact hk.2⟩⟩, ⟨heap_setCell_same w1 ab 0 _ _ _ m1, ?_, ?_, ?_, hA', R.no1, ?_⟩, XX, t.turned XX fun h => ?_⟩
  · exact hr.turned X2 fun k hk e => hA' (e ▸ hk)
  · exact (R.r1.turned X fun k hk h => R.ne k h hk).turned X2 fun k hk e => R.no1 (e ▸ hk)
  · intro k hk
    rcases hk with rfl | hk | hk
    · exact ⟨⟨.inl ho.1, by omega⟩, ho.2⟩
    · exact hnew k hk
    · obtain ⟨q1, q2, q3⟩ := R.own k (.inr (.inr hk))
      exact ⟨⟨.inl q1, by have := (R.r1.lt k hk).2; omega⟩, q2, q3⟩
  · intro k hk hk2
    rcases hA with h | h
    · exact R.ne k (h ▸ hk) hk2
    · rw [h] at hk
      injection hk with hk
      have := (R.r1.lt k hk2).2
      omega
  · have := (H.tight _ (hown _ h).1).1
    omega
theorem rows_push1 (H : SysAt b w d p S0 S T D P) (hb : 1 < b) (t : Tab w) (R : Rows2 w b ab S0 S T A2 n2 c2 an2 A n c an) (hr : ARow w1 b A' (n + 1) c' (an ++ [v])) (X : Turn (fun k => blockOf A = some k) w w1) (hA : blockOf A' = blockOf A ∨ blockOf A' = some w.heap.size) :
    SysAt b (w1.setCell ⟨ab, 1, none⟩ (.slice A' (n + 1) c')) d p S0 S (grow T w w1) D P ∧ Rows2 (w1.setCell ⟨ab, 1, none⟩ (.slice A' (n + 1) c')) b ab S0 S (grow T w w1) A2 n2 c2 an2 A' (n + 1) c' (an ++ [v]) ∧ Turn (fun k => k = ab ∨ blockOf A = some k) w (w1.setCell ⟨ab, 1, none⟩ (.slice A' (n + 1) c')) ∧ Tab (w1.setCell ⟨ab, 1, none⟩ (.slice A' (n + 1) c')) := by
  have hz := X.size
  have hST := H.subS
  have hlt := R.lt
  have hxo : ∀ k, blockOf A = some k → T k ∧ ¬ S0 k ∧ ¬ S k := fun k hk => R.own k (.inr (.inr hk))
  have m1 : w1.heap[ab]? = some (.cells #[.slice A2 n2 c2, .slice A n c] 75) := (X.block ab hlt R.no1).trans R.me
  have hA' : blockOf A' ≠ some ab := fun e => by
    rcases hA with h | h
    · exact R.no1 (h ▸ e)
    · rw [h] at e; injection e with e; omega
  have X2 : Turn (fun k => k = ab) w1 (w1.setCell ⟨ab, 1, none⟩ (.slice A' (n + 1) c')) := turn_at _ _ _
  have ho := R.own ab (.inl rfl)
  have XX : Turn (fun k => k = ab ∨ blockOf A = some k) w (w1.setCell ⟨ab, 1, none⟩ (.slice A' (n + 1) c')) := (X.mono fun k hk => .inr hk).then (X2.mono fun k hk => .inl hk)
  have hsz : (w1.setCell ⟨ab, 1, none⟩ (.slice A' (n + 1) c')).heap.size = w1.heap.size := World.size_setCell ..
  have hown : ∀ k, k = ab ∨ blockOf A = some k → T k ∧ ¬ S0 k ∧ ¬ S k := fun k hk => hk.elim (fun e => by rw [e]; exact ho) (hxo k)
  have hlt2 : ∀ k, k = ab ∨ blockOf A = some k → k < w.heap.size := fun k hk => hk.elim (fun e => by omega) fun e => (R.r1.lt k e).2
  have Q := (H.pool.mono (S' := S) (T' := grow T w w1) (fun k _ h => h) (fun k hk h => h.1.elim id fun h2 => by omega) (fun k h => ⟨.inl (hST k h), by have := (H.tight k (hST k h)).2; omega⟩)).other XX (fun k hk => ⟨.inl (hown k hk).1, by have := hlt2 k hk; omega⟩) fun k hk => (hown k hk).2.2
  have hnew : ∀ k, blockOf A' = some k → grow T w w1 k ∧ ¬ S0 k ∧ ¬ S k := fun k hk => by
    have h1 := (hr.lt k hk).2
    rcases hA with h | h
    · obtain ⟨q1, q2, q3⟩ := hxo k (h ▸ hk)
      exact ⟨⟨.inl q1, h1⟩, q2, q3⟩
    · rw [h] at hk
      injection hk with hk
      subst hk
      refine ⟨⟨.inr (Nat.le_refl _), h1⟩, fun h => ?_, fun h => ?_⟩
      · have := (H.tight _ (H.sub _ h)).2; omega
      · have := (H.tight _ (hST _ h)).2; omega
  refine ⟨⟨H.drv.keep fun k hk hs => XX.block k hk fun h => (hown k h).2.1 hs, Q, fun k hk => ⟨.inl (H.sub k hk), by have := (H.tight k (H.sub k hk)).2; omega⟩, H.apart, fun k hk => ⟨hk.1.elim (fun h => (H.tight k h).1) fun h => by have := H.base; omega, by rw [hsz]; exact hk.2⟩⟩, ⟨heap_setCell_same w1 ab 1 _ _ _ m1, ?_, ?_, ?_, R.no0, hA', ?_⟩, XX, t.turned XX fun h => ?_⟩
  · exact (R.r0.turned X fun k hk h => R.ne k hk h).turned X2 fun k hk e => R.no0 (e ▸ hk)
  · exact hr.turned X2 fun k hk e => hA' (e ▸ hk)
  · intro k hk
    rcases hk with rfl | hk | hk
    · exact ⟨⟨.inl ho.1, by omega⟩, ho.2⟩
    · obtain ⟨q1, q2, q3⟩ := R.own k (.inr (.inl hk))
      exact ⟨⟨.inl q1, by have := (R.r0.lt k hk).2; omega⟩, q2, q3⟩
    · exact hnew k hk
  · intro k hk hk2
    rcases hA with h | h
    · exact R.ne k hk (h ▸ hk2)
    · rw [h] at hk2
      injection hk2 with hk2
      have := (R.r0.lt k hk).2
      omega
  · have := (H.tight _ (hown _ h).1).1
    omega
theorem R8_0 (R : Rows2 w b ab S0 S T A n c an A2 n2 c2 an2) (X : Turn (fun k => blockOf A = some k) w w') : w'.cell? ⟨ab, 0, none⟩ = some (.slice A n c) ∧ w'.frozen? ⟨ab, 0, none⟩ = false := by
  have m1 : w'.heap[ab]? = some (.cells #[.slice A n c, .slice A2 n2 c2] 75) := (X.block ab R.lt R.no0).trans R.me
  exact ⟨by rw [cell_of_row _ _ _ _ _ _ m1]; rfl, by unfold World.frozen?; rw [m1]; simp⟩
theorem R8_1 (R : Rows2 w b ab S0 S T A2 n2 c2 an2 A n c an) (X : Turn (fun k => blockOf A = some k) w w') : w'.cell? ⟨ab, 1, none⟩ = some (.slice A n c) ∧ w'.frozen? ⟨ab, 1, none⟩ = false := by
  have m1 : w'.heap[ab]? = some (.cells #[.slice A2 n2 c2, .slice A n c] 75) := (X.block ab R.lt R.no1).trans R.me
  exact ⟨by rw [cell_of_row _ _ _ _ _ _ m1]; rfl, by unfold World.frozen?; rw [m1]; simp⟩
theorem rows_below (H : SysAt b w d p S0 S T D P) (R : Rows2 w b ab S0 S T A n c an A2 n2 c2 an2) (X : Turn S' w w') (hS : ∀ k, S' k → k = ab ∨ blockOf A = some k ∨ blockOf A2 = some k) : Below b w w' :=
  X.below (fun k hk => (H.tight k (R.own k (hS k hk)).1).1) H.base
theorem SysAt.belowS (H : SysAt b w d p S0 S T D P) (X : Turn S' w w') (hS : ∀ k, S' k → S0 k ∨ S k) : Below b w w' :=
  X.below (fun k hk => (hS k hk).elim (fun h => (H.tight k (H.sub k h)).1) fun h => (H.tight k (H.subS k h)).1) H.base
end
end Go.Proofs.YtipejjgodnnkaaaGreatDoor

namespace Go.Proofs.YtipejjgodnnkaaaGreatDoor
open Go Go.RowKit Go.Proofs

theorem fld_gen (S : Sp) (w : World) : (Instr.field 56 (.agg S.vs.toArray) 0).run Tryz.prog w = .ok (.int .i64 S.gen) w := by
  unfold Sp.vs
  obtain ⟨a, b, c, d, e, f, g, h, hl⟩ := eight_of S.len
  rw [hl]
  kernel_rfl
def fldS (v : Value) : Sem Value := Instr.field 56 v 0
theorem fldS_shut (v : Value) : Instr.field 56 v 0 = fldS v := rfl
theorem sl_past {w w' : World} {T : Nat → Prop} {A : Option Addr} {n c : Nat} {l : List UInt8} (h : Sl w A n c l) (X : Turn T w w') (hA : ∀ ad, A = some ad → ¬ T ad.block) : Sl w' A n c l := ct_turned h X hA
attribute [local go_sem ↓] fldS_shut
set_option maxRecDepth 100000 in
set_option maxHeartbeats 8000000 in
theorem pshown_any (w : World) (ht : Tab w) : Calls Tryz.prog 9 #[] w fun e w' => e = .returned (.bool true) ∧ Below w.heap.size w w' := by
  have hG := ht.1
  have hn32 : sectors 32 := ⟨by omega, by omega⟩
  go_enter Tryz.func9, Tryz.ntmps9
  go_wp2_with fail
  refine (new_yes 32 hn32 w).mono ?_
  rintro e w1 ⟨d, rfl, L1, B1⟩
  have t1 := ht.below B1 hG
  go_wp2_with fail
  refine (pformat_any L1 ⟨rfl, rfl⟩ (by omega) t1 (tame_mk0 32) (by omega)).mono ?_
  rintro e w2 ⟨p, q, rfl, X2⟩
  have hfd := fmt_done (D := DM.mk0 32) (n := 32) (by omega) (by omega) rfl ⟨rfl, rfl⟩
  have hn : (DM.mk0 32).n = 32 := rfl
  rw [hn] at X2
  have S2 := hfd.2.1
  have tm2 := tame_run (fmtL 32) (tame_mk0 32)
  have fl := fmt_le (n := 32) (by omega)
  obtain ⟨D1, hD1⟩ : ∃ D, (DM.mk0 32).runD (fmtL 32) = D := ⟨_, rfl⟩
  rw [hD1] at X2 S2 tm2
  have H2 := sys_of (b := w.heap.size) X2 (fun k hk => hk) B1.size
  have t2 := t1.turned X2.turn (by omega)
  have z1 := B1.size
  have z2 := X2.turn.size
  have BB2 : Below w.heap.size w w2 := B1.trans (X2.turn.below (fun k hk => hk) z1)
  clear hfd hD1 X2 L1 hn
  obtain ⟨T2, hT2⟩ : ∃ T : Nat → Prop, (fun k => w.heap.size ≤ k ∧ k < w2.heap.size) = T := ⟨_, rfl⟩
  rw [hT2] at H2
  have tg2 := H2.tight
  clear hT2
  have kc := fun (w : World) (C : Array Value) (n c : Nat) => Lib.run_convert_bytes_const (P := Tryz.prog) w 30 5 C n c Tryz.underlying30 Tryz.underlying5
  have sa : Sl (w2.alloc (.cells #[.int .u8 97, .int .u8 98] 5 (2, 3))) (some ⟨w2.heap.size, 0, none⟩) 2 2 shB := sl_mark w2 5 (2, 3) [97, 98] #[.int .u8 97, .int .u8 98] rfl (by simp)
  have Ba : Below w2.heap.size w2 (w2.alloc (.cells #[.int .u8 97, .int .u8 98] 5 (2, 3))) := (Below.refl _ _).alloc (Nat.le_refl _) _
  have Ha := H2.below Ba
  have ta := t2.below Ba t2.1
  obtain ⟨p1, p2, p3⟩ := put_data sh_pick (x := shB) (by decide)
  have hput := sys_put Ha hG 5 _ _ _ _ sa (fun _ ad e h => by injection e with e; subst e; have := (tg2 _ h).2; simp at this) ta
  rw [p1, p2, p3] at hput
  have Hput := Lib.hid hput
  clear sa Ha ta hput p1 p2 p3
  go_wp2_with fail
  refine Hput.out.mono ?_
  rintro e w4 ⟨rfl, H4, X4, t4⟩
  have H4 : Sys w.heap.size w4 d p T2 D1 shP := H4
  have z4 := X4.size
  have za : (w2.alloc (.cells #[.int .u8 97, .int .u8 98] 5 (2, 3))).heap.size = w2.heap.size + 1 := by simp
  have B4 := BB2.trans ((turn_below (S := T2) Ba |>.mono fun _ h => h).trans X4 (fun k hk => .inl hk) |>.below (fun k hk => (tg2 k hk).1) BB2.size)
  have S4 : Sound D1 shP (fmtS 32) (Ct.zero 32) := lay_holds S2 (.bytes 5 shB)
  have hlv : shP.live 4 = some (.bytes 5 shB) := by rw [show shP = (Pl.fresh 32).lay (.bytes 5 shB) from rfl, live_lay sh_pick]; rfl
  have hby := sys_bytes H4 t4 4 5
  unfold BytesSays at hby
  obtain ⟨q1, q2⟩ := bytes_new D1 hlv (most := 128) rfl (by decide) (by omega)
  have q1 : shP.bytesE D1 4 5 = 0 := q1
  have q2 : shP.bytesL D1 4 5 = shB := q2
  rw [q1, q2] at hby
  have Hby := Lib.hid hby
  clear hby q1 q2 hlv Hput Ba
  go_wp2_with fail
  refine Hby.out.mono ?_
  rintro e w5 ⟨A5, n5, c5, rfl, s5, b5, hA5⟩
  have H5 := H4.below b5
  have t5 := t4.below b5 t4.1
  have z5 := b5.size
  have B5 := B4.trans (b5.mono B4.size)
  go_wp2_with fail
  refine (sys_free H5 27 sh_free).mono ?_
  rintro e w6 ⟨rfl, rfl⟩
  go_wp2_with fail
  refine (sys_commit H5 hG t5 tm2 (by omega) (by rw [sh_g]; omega)).mono ?_
  obtain ⟨k1, k2, S7, k4, k5, k6⟩ := cmt_sys sh_ok S4
  obtain ⟨_, _, _, k7, _⟩ := cmt_sound sh_ok S4
  have hd4 : (D1.runD shP.steps).newest 4 = (Bk.bytes 5 shB).out 4 shP.g := by
    rw [sound_newest S7]
    exact k7 4 (.bytes 5 shB) (by decide) rfl (by decide)
  have hon : (D1.runD shP.steps).off = false := S7.free.on
  have hn7 : (D1.runD shP.steps).n = 32 := S7.n.trans (by decide)
  rw [k1, k2]
  obtain ⟨D2, hD2⟩ : ∃ D, D1.runD shP.steps = D := ⟨_, rfl⟩
  rw [hD2] at S7 k4 k5 k6 hd4 hon hn7 ⊢
  have K4 := Lib.hid k4
  have K5 := Lib.hid k5
  have hgn : (mtS D2.newest).gen < 1099511627775 := by rw [k6]; show shP.g < _; rw [sh_g]; omega
  have Hgn := Lib.hid hgn
  clear k1 k2 k4 k5 k6 k7 hD2 hgn
  rintro e w7 ⟨rfl, H7, X7, t7⟩
  have s7 := sl_past s5 X7 fun ad e h => by have := (tg2 _ h).2; have := hA5 ad e; omega
  have z7 := X7.size
  have B7 := B5.trans (X7.below (fun k hk => (tg2 k hk).1) B5.size)
  obtain ⟨T7, hT7⟩ : ∃ T : Nat → Prop, grow T2 w5 w7 = T := ⟨_, rfl⟩
  have h7A : ∀ ad, A5 = some ad → ¬ T7 ad.block := fun ad e h => by
    rw [← hT7] at h
    obtain ⟨h1, h2⟩ := h
    have h3 := hA5 ad e
    have h4 : ad.block < w5.heap.size := by
      obtain ⟨ad', e', hb, _⟩ := s5.cell (k := 0) (by rw [← s5.len]; decide)
      rw [e] at e'
      injection e' with e'
      rw [e']
      exact hb
    exact h1.elim (fun h5 => by have := (tg2 _ h5).2; omega) fun h5 => by omega
  rw [hT7] at H7
  have tg7 := H7.tight
  clear hT7
  -- the other pool
  go_wp2_with fail
  refine (dr_mount H7.dr H7.base t7 Hgn.out).mono ?_
  rw [K4.out, K5.out]
  rintro e w8 ⟨⟨_, p8, rfl, H8⟩ | ⟨h, _⟩, b8⟩
  · have t8 := t7.below b8 t7.1
    have s8 := s7.below b8
    have z8 := b8.size
    have B8 := B7.trans (b8.mono B7.size)
    obtain ⟨T8, hT8⟩ : ∃ T : Nat → Prop, grow T7 w7 w8 = T := ⟨_, rfl⟩
    have h8A : ∀ ad, A5 = some ad → ¬ T8 ad.block := fun ad e h => by
      rw [← hT8] at h
      refine h.1.elim (h7A ad e) fun h5 => ?_
      obtain ⟨ad', e', hb, _⟩ := s7.cell (k := 0) (by rw [← s7.len]; decide)
      rw [e] at e'
      injection e' with e'
      rw [e'] at h5
      omega
    rw [hT8] at H8
    have tg8 := H8.tight
    have hdl := live_done shP 4
    have hg2 : shP.g = 2 := sh_g
    obtain ⟨q1, q2⟩ := bytes_disk (P := shP.done) (D := D2) (a := 4) (k := 5) (g := shP.g) (x := shB) (most := 128) (by decide) hdl hon (by omega) (by omega) ⟨by omega, by omega⟩ hd4 rfl (by decide)
    have hby := sys_bytes H8 t8 4 5
    unfold BytesSays at hby
    have q1 : shP.done.bytesE D2 4 5 = 0 := q1
    have q2 : shP.done.bytesL D2 4 5 = shB := q2
    rw [q1, q2] at hby
    have Hby8 := Lib.hid hby
    clear hby q1 q2 hdl hT8 hd4 K4 K5
    go_wp2_with fail
    refine Hby8.out.mono ?_
    rintro e w9 ⟨A9, n9, c9, rfl, s9, b9, hA9⟩
    have H9 := H8.below b9
    have t9 := t8.below b9 t8.1
    have z9 := b9.size
    have B9 := B8.trans (b9.mono B8.size)
    have s59 := s8.below b9
    have hun := sys_unref H9 hG t9 4
    rw [sh_unref.1, sh_unref.2] at hun
    have Hun := Lib.hid hun
    clear hun
    go_wp2_with fail
    refine Hun.out.mono ?_
    rintro e w10 ⟨rfl, H10, X10, t10⟩
    have s5z := sl_past s59 X10 h8A
    have s9z := sl_past s9 X10 fun ad e h => by have := (tg8 _ h).2; have := hA9 ad e; omega
    have z10 := X10.size
    have B10 := B9.trans (X10.below (fun k hk => (tg8 k hk).1) B9.size)
    have hby := sys_bytes H10 t10 4 5
    unfold BytesSays at hby
    have hgn := bytes_gone (P := ⟨shP.done.S, shP.done.C.unref 4, shP.done.L⟩) (D := D2) (a := 4) (k := 5) sh_gone
    rw [hgn.1, hgn.2] at hby
    have Hby10 := Lib.hid hby
    clear hby hgn
    go_wp2_with fail
    refine Hby10.out.mono ?_
    rintro e w11 ⟨A11, n11, c11, rfl, s11, b11, _⟩
    have H11 := H10.below b11
    have t11 := t10.below b11 t10.1
    have z11 := b11.size
    have B11 := B10.trans (b11.mono B10.size)
    have k5 := str_bs (s5z.below b11)
    have k9 := str_bs (s9z.below b11)
    have hfl := fld_gen shP.done.S
    have hgg : shP.done.S.gen = 2 := sh_g
    rw [hgg] at hfl
    have hfl : ∀ w, (fldS (.agg shP.done.S.vs.toArray)).run Tryz.prog w = .ok (.int .i64 2) w := hfl
    have hfr := sh_done_free
    obtain ⟨Q, hQ⟩ : ∃ Q : Pl, (⟨shP.done.S, shP.done.C.unref 4, shP.done.L⟩ : Pl) = Q := ⟨_, rfl⟩
    have hQS : Q.S = shP.done.S := by rw [← hQ]
    rw [hQ] at H11 hfr
    rw [← hQS] at hfl
    have hsu := sys_super H11
    clear hQ hQS
    go_wp2_with (first
      | (go_at_call 31; refine hsu.mono ?_; rintro e w12 ⟨rfl, b12⟩; have H12 := H11.below b12)
      | (go_at_call 35; refine (sys_free H12 27 hfr).mono ?_; rintro e w13 ⟨rfl, rfl⟩)
      | fail)
    go_ret
    exact ⟨rfl, B11.trans (b12.mono B11.size)⟩
  · exact absurd rfl h
end Go.Proofs.YtipejjgodnnkaaaGreatDoor
