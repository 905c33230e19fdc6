/- Seal's fields, valid, packed, unpacked: the header's five numbers as a block holds them. Seal's valid, packed, unpacked: loops over the header's five fields. -/
import Derived.Test.YtipejjgodnnkaaaGreatDoorSumA
import Derived.Test.YtipejjgodnnkaaaGreatDoorTurn
import Derived.Test.YtipejjgodnnkaaaGreatDoorPy3
import Derived.Deep.MidRow
import Derived.BigRegion
import Derived.StillTailTactics
import Derived.BigQuiet
namespace Go.Proofs.YtipejjgodnnkaaaGreatDoor
open Go Go.RowKit Go.Proofs

/-- A header as plain data. -/
structure Hd where
  kind : Int
  addr : Int
  count : Int
  level : Int
  gen : Int
def Hd.v (h : Hd) : Value := .agg #[.int .i64 h.kind, .int .i64 h.addr, .int .i64 h.count, .int .i64 h.level, .int .i64 h.gen]
def Hd.zero : Hd := ⟨0, 0, 0, 0, 0⟩
/-- The five fields in a block's order: the place in the struct, the width, the least and the most. -/
def foff : Nat → Nat | 0 => 0 | 1 => 3 | 2 => 1 | 3 => 2 | _ => 4
def fwid : Nat → Int | 0 => 1 | 1 => 1 | 2 => 2 | 3 => 2 | _ => 5
def flea : Nat → Int | 0 => 1 | _ => 0
def fmos : Nat → Int | 0 => 6 | 1 => 8 | 2 => 2047 | 3 => 65535 | _ => 1099511627775
def Hd.fld (h : Hd) : Nat → Int | 0 => h.kind | 1 => h.level | 2 => h.addr | 3 => h.count | _ => h.gen
def Hd.set (h : Hd) (k : Nat) (x : Int) : Hd := match k with
  | 0 => { h with kind := x }
  | 1 => { h with level := x }
  | 2 => { h with addr := x }
  | 3 => { h with count := x }
  | _ => { h with gen := x }
def fv (bp k : Nat) : Value := .agg #[.pointer (some ⟨bp, foff k, none⟩), .int .i64 (fwid k), .int .i64 (flea k), .int .i64 (fmos k)]
def fvsL (bp : Nat) : List Value := [.pointer (some ⟨bp, 0, none⟩), .int .i64 1, .int .i64 1, .int .i64 6, .pointer (some ⟨bp, 3, none⟩), .int .i64 1, .int .i64 0, .int .i64 8,
  .pointer (some ⟨bp, 1, none⟩), .int .i64 2, .int .i64 0, .int .i64 2047, .pointer (some ⟨bp, 2, none⟩), .int .i64 2, .int .i64 0, .int .i64 65535, .pointer (some ⟨bp, 4, none⟩), .int .i64 5, .int .i64 0, .int .i64 1099511627775]
def fvs (bp : Nat) : Value := .agg (fvsL bp).toArray

/-- The block that holds a header. -/
def HB (w : World) (bp : Nat) (h : Hd) : Prop := ∃ t, w.heap[bp]? = some (.cells #[.int .i64 h.kind, .int .i64 h.addr, .int .i64 h.count, .int .i64 h.level, .int .i64 h.gen] t (0, 0))

theorem there_new (w : World) (cs : Array Value) (t : TypeId) : (w.alloc (.cells cs t)).there w.heap.size 0 cs.size := fun j hj => by
  have hb : (w.alloc (.cells cs t)).heap[w.heap.size]? = some (.cells cs t (0, 0)) := heap_alloc_new w _
  refine ⟨?_, by unfold World.frozen?; rw [hb]; simp⟩
  rw [cell_of_row _ _ _ _ _ _ hb, Nat.zero_add, Array.getElem?_eq_getElem hj]; rfl
theorem results_cell1 {fn : Func} {p : Tmp} {ty : TypeId} {ad : Addr} {v : Value} {P : Program} {w : World} {tmps : Array Value} (h : fn.results = #[.cell p ty]) (hp : tmps.getD p undef = .pointer (some ad)) (hl : (loadVar ty ad).run P w = .ok v w) :
    (results fn tmps).run P w = .ok v w := by
  have e : (results fn tmps).run P w = ((asAddr (tmps.getD p undef)).run P w).andThen fun a w₁ => (loadVar ty a).run P w₁ := by
    simp only [results, h]
    simp [Sem.run_bind, Result.andThen]
    try rfl
  rw [e, hp]
  simp [asAddr, hl]
theorem idx (bp k : Nat) (hk : k < 5) (w : World) : (Instr.index 231 (fvs bp) (.int .i64 (k : Int))).run Tryz.prog w = .ok (fv bp k) w := by
  match k, hk with
  | 0, _ => show (Instr.index 231 (fvs bp) (.int .i64 0)).run Tryz.prog w = _; kernel_rfl
  | 1, _ => show (Instr.index 231 (fvs bp) (.int .i64 1)).run Tryz.prog w = _; kernel_rfl
  | 2, _ => show (Instr.index 231 (fvs bp) (.int .i64 2)).run Tryz.prog w = _; kernel_rfl
  | 3, _ => show (Instr.index 231 (fvs bp) (.int .i64 3)).run Tryz.prog w = _; kernel_rfl
  | 4, _ => show (Instr.index 231 (fvs bp) (.int .i64 4)).run Tryz.prog w = _; kernel_rfl

set_option maxRecDepth 10000 in
set_option maxHeartbeats 2000000 in
theorem fields_any (bp : Nat) (w : World) :
    Calls Tryz.prog 189 #[.pointer (some ⟨bp, 0, none⟩)] w fun e w' => e = .returned (fvs bp) ∧ Below w.heap.size w w' := by
  go_enter Tryz.func189, Tryz.ntmps189
  go_wp2
  generalize hw1 : w.alloc _ = w1
  go_still_tail 21, (by kernel_rfl)
  change wpList _ _ _ _ _ w1.drew
  have hb1 : Below w.heap.size w w1 := by rw [← hw1]; exact (Below.refl _ _).alloc (Nat.le_refl _) _
  have ht : w1.drew.there w.heap.size 0 20 := by
    show w1.there w.heap.size 0 20
    rw [← hw1]
    exact there_new w _ _
  clear hw1
  refine wpList_store_mid rfl _ _ _ rfl w.heap.size 0 (fvsL bp).toArray rfl rfl ht (by kernel_rfl) (by simp [fvsL, Value.oneCell']) ?_
  have hr : (w1.drew.setCells w.heap.size 0 (fvsL bp)).rangeAt w.heap.size 0 (fvsL bp) := World.rangeAt_setCells_same _ _ _ _ ht
  have hb2 : Below w.heap.size w (w1.drew.setCells w.heap.size 0 (fvsL bp)) := hb1.drew.trans ((turn_setCells (S := fun k => k = w.heap.size) rfl (fvsL bp) 0 w1.drew).below (fun x hx => by omega) (hb1.size))
  change wpList _ _ _ _ _ (w1.drew.setCells w.heap.size 0 (fvsL bp))
  generalize w1.drew.setCells w.heap.size 0 (fvsL bp) = w2 at hr hb2 ⊢
  go_wp2
  refine bodyPost_ret (v := fvs bp) ?_ rfl ⟨rfl, hb2⟩
  exact results_cell1 Tryz.results189 rfl (run_loadVar_mid w2 w.heap.size 0 231 (fvsL bp) _ hr Tryz.underlying231 rfl (by kernel_rfl))
end Go.Proofs.YtipejjgodnnkaaaGreatDoor

namespace Go.Proofs.YtipejjgodnnkaaaGreatDoor
open Go Go.RowKit Go.Proofs

theorem HB.at_ {w : World} {bp : Nat} {h : Hd} (H : HB w bp h) (k : Nat) : w.cell? ⟨bp, foff k, none⟩ = some (.int .i64 (h.fld k)) := by
  obtain ⟨t, H⟩ := H
  rw [cell_of_row _ _ _ _ _ _ H]
  match k with
  | 0 => rfl
  | 1 => rfl
  | 2 => rfl
  | 3 => rfl
  | _ + 4 => rfl
theorem HB.below {w w' : World} {bp : Nat} {h : Hd} (H : HB w bp h) {B : Nat} (hb : Below B w w') (hB : bp < B) : HB w' bp h := by
  obtain ⟨t, H⟩ := H
  exact ⟨t, (hb.block bp hB).trans H⟩
theorem idx4 (bp k : Nat) (hk : k < 5) (w : World) : (Instr.index 231 (fvs bp) (.int .i64 (k : Int))).run Tryz.prog w = .ok (.agg #[.pointer (some ⟨bp, foff k, none⟩), .int .i64 (fwid k), .int .i64 (flea k), .int .i64 (fmos k)]) w := idx bp k hk w

/-- The k-th number is within its bounds. -/
def Hd.in_ (h : Hd) (k : Nat) : Prop := flea k ≤ h.fld k ∧ h.fld k ≤ fmos k
/-- P4's valid header. -/
def Hd.ok (h : Hd) : Bool := decide ((1 ≤ h.kind ∧ h.kind ≤ 6) ∧ (0 ≤ h.level ∧ h.level ≤ 8) ∧ (0 ≤ h.addr ∧ h.addr ≤ 2047) ∧ (0 ≤ h.count ∧ h.count ≤ 65535) ∧ 0 ≤ h.gen ∧ h.gen ≤ 1099511627775)
theorem Hd.ok_of (h : Hd) (H : ∀ j < 5, h.in_ j) : h.ok = true := by
  have h0 := H 0 (by omega)
  have h1 := H 1 (by omega)
  have h2 := H 2 (by omega)
  have h3 := H 3 (by omega)
  have h4 := H 4 (by omega)
  exact decide_eq_true ⟨h0, h1, h2, h3, h4⟩
theorem Hd.in_of (h : Hd) (H : h.ok = true) (j : Nat) (hj : j < 5) : h.in_ j := by
  obtain ⟨h0, h1, h2, h3, h4⟩ := of_decide_eq_true H
  match j, hj with
  | 0, _ => exact h0
  | 1, _ => exact h1
  | 2, _ => exact h2
  | 3, _ => exact h3
  | 4, _ => exact h4

set_option maxRecDepth 10000 in
set_option maxHeartbeats 2000000 in
theorem valid_any (h : Hd) (w : World) :
    Calls Tryz.prog 147 #[.agg #[.int .i64 h.kind, .int .i64 h.addr, .int .i64 h.count, .int .i64 h.level, .int .i64 h.gen]] w fun e w' => e = .returned (.bool h.ok) ∧ Below w.heap.size w w' := by
  go_enter Tryz.func147, Tryz.ntmps147
  go_wp2_with (go_at_call 189; refine (fields_any w.heap.size _).mono ?_; rintro e w2 ⟨rfl, hb2⟩)
  have H2 : HB w2 w.heap.size h := HB.below ⟨_, heap_alloc_new w _⟩ hb2 (by simp)
  have hB2 : Below w.heap.size w w2 := ((Below.refl _ _).alloc (Nat.le_refl _) _).trans (hb2.mono (by simp))
  have hs2 := hb2.size
  rw [World.size_alloc] at hs2
  go_loopw [6] (fun i wr => ∃ k : Nat, k ≤ 5 ∧ i = .int .i64 (k : Int) ∧ (∀ j < k, h.in_ j) ∧ HB wr w.heap.size h ∧ Below w.heap.size w wr ∧ w.heap.size < wr.heap.size) (fun i _ => 5 - (intOf i).toNat)
  case atStart => exact ⟨0, by omega, rfl, fun j hj => by omega, H2, hB2, by omega⟩
  case round =>
    obtain ⟨k, hk, rfl, hin, H, hB, hlt⟩ := hrel
    by_cases h5 : k < 5
    · have hix := idx4 w.heap.size k h5
      have hc := H.at_ k
      have hk0 : (0 : Int) ≤ (k : Int) := by omega
      have hc2 : ∀ o : Obj, (wr.alloc o).cell? ⟨w.heap.size, foff k, none⟩ = some (.int .i64 (h.fld k)) := fun o => ((Below.refl _ _).alloc (Nat.le_refl _) o).cell hlt |>.trans hc
      go_wp2
      generalize hw1 : wr.alloc _ = w1
      have hB1 : Below wr.heap.size wr w1 := by rw [← hw1]; exact (Below.refl _ _).alloc (Nat.le_refl _) _
      have hn : w1.heap[wr.heap.size]? = some (.cells #[.pointer (some ⟨w.heap.size, foff k, none⟩), .int .i64 (fwid k), .int .i64 (flea k), .int .i64 (fmos k)] 230 (0, 0)) := by rw [← hw1]; exact heap_alloc_new wr _
      have hs1 : w1.heap.size = wr.heap.size + 1 := by rw [← hw1]; simp
      clear hw1 hix
      have q0 : w1.cell? ⟨wr.heap.size, 0, none⟩ = some (.pointer (some ⟨w.heap.size, foff k, none⟩)) := by rw [cell_of_row _ _ _ _ _ _ hn]; rfl
      have q2 : w1.cell? ⟨wr.heap.size, 2, none⟩ = some (.int .i64 (flea k)) := by rw [cell_of_row _ _ _ _ _ _ hn]; rfl
      have q3 : w1.cell? ⟨wr.heap.size, 3, none⟩ = some (.int .i64 (fmos k)) := by rw [cell_of_row _ _ _ _ _ _ hn]; rfl
      have qc : w1.cell? ⟨w.heap.size, foff k, none⟩ = some (.int .i64 (h.fld k)) := (hB1.cell hlt).trans hc
      have H1 := H.below hB1 hlt
      have hBw := hB.trans (hB1.mono hB.size)
      clear hB H hc hc2 hn hB1
      generalize hx : h.fld k = x at *
      generalize hl : flea k = lo at *
      generalize hm : fmos k = hi at *
      by_cases h1 : x < lo
      · have hno : h.ok = false := by
          cases ho : h.ok
          · rfl
          · have := (h.in_of ho k h5).1; omega
        go_quiet (fail)
        go_wp2
        go_ret
        exact ⟨by first | rfl | (rw [hno]; rfl), below_drewN hBw _⟩
      · have g1 : decide (x < lo) = false := decide_eq_false h1
        by_cases h2 : hi < x
        · have hno : h.ok = false := by
            cases ho : h.ok
            · rfl
            · have := (h.in_of ho k h5).2; omega
          go_quiet (fail)
          go_wp2
          go_ret
          exact ⟨by first | rfl | (rw [hno]; rfl), below_drewN hBw _⟩
        · have g2 : decide (hi < x) = false := decide_eq_false h2
          go_quiet (fail)
          go_wp2
          refine ⟨⟨k + 1, by omega, rfl, fun j hj => ?_, H1.below (below_drewN (Below.refl w1.heap.size w1) _) (by omega), below_drewN hBw _, by show w.heap.size < w1.heap.size; omega⟩, by simp [intOf]; omega⟩
          by_cases hjk : j = k
          · rw [hjk]; unfold Hd.in_; rw [hx, hl, hm]; omega
          · exact hin j (by omega)
    · have hk5 : k = 5 := by omega
      go_wp2
      go_ret
      exact ⟨by rw [h.ok_of (by rw [← hk5]; exact hin)]; rfl, hB⟩

/-- A header's eleven bytes. -/
def hdB (h : Hd) : List UInt8 := dig h.kind 1 ++ (dig h.level 1 ++ (dig h.addr 2 ++ (dig h.count 2 ++ dig h.gen 5)))
def hdTo (h : Hd) : Nat → List UInt8
  | 0 => []
  | k + 1 => hdTo h k ++ dig (h.fld k) (fwid k).toNat
theorem hdTo_len (h : Hd) (k : Nat) (hk : k ≤ 5) : (hdTo h k).length ≤ 11 := by
  match k, hk with
  | 0, _ => simp [hdTo]
  | 1, _ => simp [hdTo, dig_len, fwid]
  | 2, _ => simp [hdTo, dig_len, fwid]
  | 3, _ => simp [hdTo, dig_len, fwid]
  | 4, _ => simp [hdTo, dig_len, fwid]
  | 5, _ => simp [hdTo, dig_len, fwid]
theorem hdTo_all (h : Hd) : hdTo h 5 = hdB h := by simp [hdTo, hdB, Hd.fld, fwid]
theorem fwid_in (k : Nat) : 1 ≤ fwid k ∧ fwid k ≤ 5 := by
  match k with
  | 0 => decide
  | 1 => decide
  | 2 => decide
  | 3 => decide
  | _ + 4 => exact ⟨by show (1 : Int) ≤ 5; omega, by show (5 : Int) ≤ 5; omega⟩

set_option maxRecDepth 10000 in
set_option maxHeartbeats 2000000 in
theorem packed_any (h : Hd) (w : World) :
    Calls Tryz.prog 148 #[.agg #[.int .i64 h.kind, .int .i64 h.addr, .int .i64 h.count, .int .i64 h.level, .int .i64 h.gen]] w fun e w' => ∃ A n c, e = .returned (.slice A n c) ∧ Sl w' A n c (hdB h) ∧ Below w.heap.size w w' := by
  go_enter Tryz.func148, Tryz.ntmps148
  go_wp2_with (go_at_call 189; refine (fields_any w.heap.size _).mono ?_; rintro e w2 ⟨rfl, hb2⟩)
  have H2 : HB w2 w.heap.size h := HB.below ⟨_, heap_alloc_new w _⟩ hb2 (by simp)
  have hB2 : Below w.heap.size w w2 := ((Below.refl _ _).alloc (Nat.le_refl _) _).trans (hb2.mono (by simp))
  have hs2 := hb2.size
  rw [World.size_alloc] at hs2
  go_loopw [3, 7] (fun s i wr => ∃ (k : Nat) (A : Option Addr) (n c : Nat), k ≤ 5 ∧ s = .slice A n c ∧ i = .int .i64 (k : Int) ∧ Sl wr A n c (hdTo h k) ∧ HB wr w.heap.size h ∧ Below w.heap.size w wr ∧ w.heap.size < wr.heap.size) (fun _ i _ => 5 - (intOf i).toNat)
  case atStart => exact ⟨0, none, 0, 0, by omega, rfl, rfl, sl_nil _, H2, hB2, by omega⟩
  case round =>
    obtain ⟨k, A, n, c, hk, rfl, rfl, hs, H, hB, hlt⟩ := hrel
    by_cases h5 : k < 5
    · have hix := idx4 w.heap.size k h5
      have hc := H.at_ k
      have hk0 : (0 : Int) ≤ (k : Int) := by omega
      go_wp2
      generalize hw1 : wr.alloc _ = w1
      have hB1 : Below wr.heap.size wr w1 := by rw [← hw1]; exact (Below.refl _ _).alloc (Nat.le_refl _) _
      have hn : w1.heap[wr.heap.size]? = some (.cells #[.pointer (some ⟨w.heap.size, foff k, none⟩), .int .i64 (fwid k), .int .i64 (flea k), .int .i64 (fmos k)] 230 (0, 0)) := by rw [← hw1]; exact heap_alloc_new wr _
      have hs1 : w1.heap.size = wr.heap.size + 1 := by rw [← hw1]; simp
      clear hw1 hix
      have q0 : w1.cell? ⟨wr.heap.size, 0, none⟩ = some (.pointer (some ⟨w.heap.size, foff k, none⟩)) := by rw [cell_of_row _ _ _ _ _ _ hn]; rfl
      have q1 : w1.cell? ⟨wr.heap.size, 1, none⟩ = some (.int .i64 (fwid k)) := by rw [cell_of_row _ _ _ _ _ _ hn]; rfl
      have qc : w1.cell? ⟨w.heap.size, foff k, none⟩ = some (.int .i64 (h.fld k)) := (hB1.cell hlt).trans hc
      have H1 := H.below hB1 hlt
      have hs' := hs.below hB1
      have hBw := hB.trans (hB1.mono hB.size)
      have hlen := hs.len
      have hll := hdTo_len h k hk
      have hfw := fwid_in k
      have hnx : putS (hdTo h k) (h.fld k) (fwid k) = hdTo h (k + 1) := by unfold putS; rw [if_pos (by omega)]; rfl
      clear hB H hc hn hB1 hs
      go_still_tail 7, (by kernel_rfl)
      change wpList _ _ _ _ _ w1.drew
      go_wp2_with (go_at_call 174; refine (put_any A n c (hdTo h k) (h.fld k) (fwid k) _ hs'.drew (by omega)).mono ?_; rintro e w3 ⟨A3, n3, c3, rfl, hown3, hb3⟩)
      rw [hnx] at hown3
      have hb3' : Below w1.heap.size w1 w3 := (Below.refl _ _).drew.trans hb3
      exact ⟨⟨k + 1, A3, n3, c3, by omega, rfl, rfl, hown3.sl, H1.below hb3' (by omega), hBw.trans (hb3'.mono hBw.size), by have := hb3'.size; omega⟩, by simp [intOf]; omega⟩
    · have hk5 : k = 5 := by omega
      go_wp2
      go_ret
      rw [hk5, hdTo_all] at hs
      exact ⟨A, n, c, rfl, hs, hB⟩
end Go.Proofs.YtipejjgodnnkaaaGreatDoor
