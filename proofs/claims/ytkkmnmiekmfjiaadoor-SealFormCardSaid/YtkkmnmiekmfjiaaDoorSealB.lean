/- Seal's valid, packed, unpacked: loops over the header's five fields. -/
import Derived.Test.YtkkmnmiekmfjiaaDoorSealA
import Derived.BigQuiet
namespace Go.Proofs.YtkkmnmiekmfjiaaDoor
open Go Go.RowKit Go.Proofs

theorem HB.at_ {w : World} {bp : Nat} {h : Hd} (H : HB w bp h) (k : Nat) : w.cell? ⟨bp, foff k, none⟩ = some (.int .i64 (h.fld k)) := by
  obtain ⟨t, H⟩ := H
  rw [cell_of_row _ _ _ _ _ _ H]
  match k with
  | 0 => rfl
  | 1 => rfl
  | 2 => rfl
  | 3 => rfl
  | _ + 4 => rfl
theorem HB.below {w w' : World} {bp : Nat} {h : Hd} (H : HB w bp h) {B : Nat} (hb : Below B w w') (hB : bp < B) : HB w' bp h := by
  obtain ⟨t, H⟩ := H
  exact ⟨t, (hb.block bp hB).trans H⟩
theorem idx4 (bp k : Nat) (hk : k < 5) (w : World) : (Instr.index 49 (fvs bp) (.int .i64 (k : Int))).run Tryd.prog w = .ok (.agg #[.pointer (some ⟨bp, foff k, none⟩), .int .i64 (fwid k), .int .i64 (flea k), .int .i64 (fmos k)]) w := idx bp k hk w

/-- The k-th number is within its bounds. -/
def Hd.in_ (h : Hd) (k : Nat) : Prop := flea k ≤ h.fld k ∧ h.fld k ≤ fmos k
/-- P4's valid header. -/
def Hd.ok (h : Hd) : Bool := decide ((1 ≤ h.kind ∧ h.kind ≤ 6) ∧ (0 ≤ h.level ∧ h.level ≤ 8) ∧ (0 ≤ h.addr ∧ h.addr ≤ 2047) ∧ (0 ≤ h.count ∧ h.count ≤ 65535) ∧ 0 ≤ h.gen ∧ h.gen ≤ 1099511627775)
theorem Hd.ok_of (h : Hd) (H : ∀ j < 5, h.in_ j) : h.ok = true := by
  have h0 := H 0 (by omega)
  have h1 := H 1 (by omega)
  have h2 := H 2 (by omega)
  have h3 := H 3 (by omega)
  have h4 := H 4 (by omega)
  exact decide_eq_true ⟨h0, h1, h2, h3, h4⟩
theorem Hd.in_of (h : Hd) (H : h.ok = true) (j : Nat) (hj : j < 5) : h.in_ j := by
  obtain ⟨h0, h1, h2, h3, h4⟩ := of_decide_eq_true H
  match j, hj with
  | 0, _ => exact h0
  | 1, _ => exact h1
  | 2, _ => exact h2
  | 3, _ => exact h3
  | 4, _ => exact h4

set_option maxHeartbeats 2000000 in
theorem valid_any (h : Hd) (w : World) :
    Calls Tryd.prog 15 #[.agg #[.int .i64 h.kind, .int .i64 h.addr, .int .i64 h.count, .int .i64 h.level, .int .i64 h.gen]] w fun e w' => e = .returned (.bool h.ok) ∧ Below w.heap.size w w' := by
  go_enter Tryd.func15, Tryd.ntmps15
  go_wp2_with (go_at_call 24; refine (fields_any w.heap.size _).mono ?_; rintro e w2 ⟨rfl, hb2⟩)
  have H2 : HB w2 w.heap.size h := HB.below ⟨_, heap_alloc_new w _⟩ hb2 (by simp)
  have hB2 : Below w.heap.size w w2 := ((Below.refl _ _).alloc (Nat.le_refl _) _).trans (hb2.mono (by simp))
  have hs2 := hb2.size
  rw [World.size_alloc] at hs2
  go_loopw [6] (fun i wr => ∃ k : Nat, k ≤ 5 ∧ i = .int .i64 (k : Int) ∧ (∀ j < k, h.in_ j) ∧ HB wr w.heap.size h ∧ Below w.heap.size w wr ∧ w.heap.size < wr.heap.size) (fun i _ => 5 - (intOf i).toNat)
  case atStart => exact ⟨0, by omega, rfl, fun j hj => by omega, H2, hB2, by omega⟩
  case round =>
    obtain ⟨k, hk, rfl, hin, H, hB, hlt⟩ := hrel
    by_cases h5 : k < 5
    · have hix := idx4 w.heap.size k h5
      have hc := H.at_ k
      have hk0 : (0 : Int) ≤ (k : Int) := by omega
      have hc2 : ∀ o : Obj, (wr.alloc o).cell? ⟨w.heap.size, foff k, none⟩ = some (.int .i64 (h.fld k)) := fun o => ((Below.refl _ _).alloc (Nat.le_refl _) o).cell hlt |>.trans hc
      go_wp2
      generalize hw1 : wr.alloc _ = w1
      have hB1 : Below wr.heap.size wr w1 := by rw [← hw1]; exact (Below.refl _ _).alloc (Nat.le_refl _) _
      have hn : w1.heap[wr.heap.size]? = some (.cells #[.pointer (some ⟨w.heap.size, foff k, none⟩), .int .i64 (fwid k), .int .i64 (flea k), .int .i64 (fmos k)] 48 (0, 0)) := by rw [← hw1]; exact heap_alloc_new wr _
      have hs1 : w1.heap.size = wr.heap.size + 1 := by rw [← hw1]; simp
      clear hw1 hix
      have q0 : w1.cell? ⟨wr.heap.size, 0, none⟩ = some (.pointer (some ⟨w.heap.size, foff k, none⟩)) := by rw [cell_of_row _ _ _ _ _ _ hn]; rfl
      have q2 : w1.cell? ⟨wr.heap.size, 2, none⟩ = some (.int .i64 (flea k)) := by rw [cell_of_row _ _ _ _ _ _ hn]; rfl
      have q3 : w1.cell? ⟨wr.heap.size, 3, none⟩ = some (.int .i64 (fmos k)) := by rw [cell_of_row _ _ _ _ _ _ hn]; rfl
      have qc : w1.cell? ⟨w.heap.size, foff k, none⟩ = some (.int .i64 (h.fld k)) := (hB1.cell hlt).trans hc
      have H1 := H.below hB1 hlt
      have hBw := hB.trans (hB1.mono hB.size)
      clear hB H hc hc2 hn hB1
      generalize hx : h.fld k = x at *
      generalize hl : flea k = lo at *
      generalize hm : fmos k = hi at *
      by_cases h1 : x < lo
      · have hno : h.ok = false := by
          cases ho : h.ok
          · rfl
          · have := (h.in_of ho k h5).1; omega
        go_quiet (fail)
        go_wp2
        go_ret
        exact ⟨by first | rfl | (rw [hno]; rfl), below_drewN hBw _⟩
      · have g1 : decide (x < lo) = false := decide_eq_false h1
        by_cases h2 : hi < x
        · have hno : h.ok = false := by
            cases ho : h.ok
            · rfl
            · have := (h.in_of ho k h5).2; omega
          go_quiet (fail)
          go_wp2
          go_ret
          exact ⟨by first | rfl | (rw [hno]; rfl), below_drewN hBw _⟩
        · have g2 : decide (hi < x) = false := decide_eq_false h2
          go_quiet (fail)
          go_wp2
          refine ⟨⟨k + 1, by omega, rfl, fun j hj => ?_, H1.below (below_drewN (Below.refl w1.heap.size w1) _) (by omega), below_drewN hBw _, by show w.heap.size < w1.heap.size; omega⟩, by simp [intOf]; omega⟩
          by_cases hjk : j = k
          · rw [hjk]; unfold Hd.in_; rw [hx, hl, hm]; omega
          · exact hin j (by omega)
    · have hk5 : k = 5 := by omega
      go_wp2
      go_ret
      exact ⟨by rw [h.ok_of (by rw [← hk5]; exact hin)]; rfl, hB⟩

/-- A header's eleven bytes. -/
def hdB (h : Hd) : List UInt8 := dig h.kind 1 ++ (dig h.level 1 ++ (dig h.addr 2 ++ (dig h.count 2 ++ dig h.gen 5)))
def hdTo (h : Hd) : Nat → List UInt8
  | 0 => []
  | k + 1 => hdTo h k ++ dig (h.fld k) (fwid k).toNat
theorem hdTo_len (h : Hd) (k : Nat) (hk : k ≤ 5) : (hdTo h k).length ≤ 11 := by
  match k, hk with
  | 0, _ => simp [hdTo]
  | 1, _ => simp [hdTo, dig_len, fwid]
  | 2, _ => simp [hdTo, dig_len, fwid]
  | 3, _ => simp [hdTo, dig_len, fwid]
  | 4, _ => simp [hdTo, dig_len, fwid]
  | 5, _ => simp [hdTo, dig_len, fwid]
theorem hdTo_all (h : Hd) : hdTo h 5 = hdB h := by simp [hdTo, hdB, Hd.fld, fwid]
theorem fwid_in (k : Nat) : 1 ≤ fwid k ∧ fwid k ≤ 5 := by
  match k with
  | 0 => decide
  | 1 => decide
  | 2 => decide
  | 3 => decide
  | _ + 4 => exact ⟨by show (1 : Int) ≤ 5; omega, by show (5 : Int) ≤ 5; omega⟩

set_option maxHeartbeats 2000000 in
theorem packed_any (h : Hd) (w : World) :
    Calls Tryd.prog 16 #[.agg #[.int .i64 h.kind, .int .i64 h.addr, .int .i64 h.count, .int .i64 h.level, .int .i64 h.gen]] w fun e w' => ∃ A n c, e = .returned (.slice A n c) ∧ Sl w' A n c (hdB h) ∧ Below w.heap.size w w' := by
  go_enter Tryd.func16, Tryd.ntmps16
  go_wp2_with (go_at_call 24; refine (fields_any w.heap.size _).mono ?_; rintro e w2 ⟨rfl, hb2⟩)
  have H2 : HB w2 w.heap.size h := HB.below ⟨_, heap_alloc_new w _⟩ hb2 (by simp)
  have hB2 : Below w.heap.size w w2 := ((Below.refl _ _).alloc (Nat.le_refl _) _).trans (hb2.mono (by simp))
  have hs2 := hb2.size
  rw [World.size_alloc] at hs2
  go_loopw [3, 7] (fun s i wr => ∃ (k : Nat) (A : Option Addr) (n c : Nat), k ≤ 5 ∧ s = .slice A n c ∧ i = .int .i64 (k : Int) ∧ Sl wr A n c (hdTo h k) ∧ HB wr w.heap.size h ∧ Below w.heap.size w wr ∧ w.heap.size < wr.heap.size) (fun _ i _ => 5 - (intOf i).toNat)
  case atStart => exact ⟨0, none, 0, 0, by omega, rfl, rfl, sl_nil _, H2, hB2, by omega⟩
  case round =>
    obtain ⟨k, A, n, c, hk, rfl, rfl, hs, H, hB, hlt⟩ := hrel
    by_cases h5 : k < 5
    · have hix := idx4 w.heap.size k h5
      have hc := H.at_ k
      have hk0 : (0 : Int) ≤ (k : Int) := by omega
      go_wp2
      generalize hw1 : wr.alloc _ = w1
      have hB1 : Below wr.heap.size wr w1 := by rw [← hw1]; exact (Below.refl _ _).alloc (Nat.le_refl _) _
      have hn : w1.heap[wr.heap.size]? = some (.cells #[.pointer (some ⟨w.heap.size, foff k, none⟩), .int .i64 (fwid k), .int .i64 (flea k), .int .i64 (fmos k)] 48 (0, 0)) := by rw [← hw1]; exact heap_alloc_new wr _
      have hs1 : w1.heap.size = wr.heap.size + 1 := by rw [← hw1]; simp
      clear hw1 hix
      have q0 : w1.cell? ⟨wr.heap.size, 0, none⟩ = some (.pointer (some ⟨w.heap.size, foff k, none⟩)) := by rw [cell_of_row _ _ _ _ _ _ hn]; rfl
      have q1 : w1.cell? ⟨wr.heap.size, 1, none⟩ = some (.int .i64 (fwid k)) := by rw [cell_of_row _ _ _ _ _ _ hn]; rfl
      have qc : w1.cell? ⟨w.heap.size, foff k, none⟩ = some (.int .i64 (h.fld k)) := (hB1.cell hlt).trans hc
      have H1 := H.below hB1 hlt
      have hs' := hs.below hB1
      have hBw := hB.trans (hB1.mono hB.size)
      have hlen := hs.len
      have hll := hdTo_len h k hk
      have hfw := fwid_in k
      have hnx : putS (hdTo h k) (h.fld k) (fwid k) = hdTo h (k + 1) := by unfold putS; rw [if_pos (by omega)]; rfl
      clear hB H hc hn hB1 hs
      go_still_tail 7, (by kernel_rfl)
      change wpList _ _ _ _ _ w1.drew
      go_wp2_with (go_at_call 25; refine (put_any A n c (hdTo h k) (h.fld k) (fwid k) _ hs'.drew (by omega)).mono ?_; rintro e w3 ⟨A3, n3, c3, rfl, hown3, hb3⟩)
      rw [hnx] at hown3
      have hb3' : Below w1.heap.size w1 w3 := (Below.refl _ _).drew.trans hb3
      exact ⟨⟨k + 1, A3, n3, c3, by omega, rfl, rfl, hown3.sl, H1.below hb3' (by omega), hBw.trans (hb3'.mono hBw.size), by have := hb3'.size; omega⟩, by simp [intOf]; omega⟩
    · have hk5 : k = 5 := by omega
      go_wp2
      go_ret
      rw [hk5, hdTo_all] at hs
      exact ⟨A, n, c, rfl, hs, hB⟩
end Go.Proofs.YtkkmnmiekmfjiaaDoor
