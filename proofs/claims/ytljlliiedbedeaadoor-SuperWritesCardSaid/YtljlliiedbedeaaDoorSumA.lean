/- The program's four steps by a look-up: what it answers for any register, where the table reads as the text lays it. -/
import Derived.Test.YtljlliiedbedeaaDoorRows
import Derived.Test.YtljlliiedbedeaaDoorBase
import Derived.Test.YtljlliiedbedeaaDoorCrc
import Derived.Laws.BitsAll
namespace Go.Proofs.YtljlliiedbedeaaDoor
open Go Go.RowKit Go.Proofs

theorem T22 : ByteT Tryd.prog 28 5 := ⟨Tryd.underlying28, by kernel_rfl⟩

/-- The table as the text lays it. -/
def Tab (w : World) : Prop := 0 < w.heap.size ∧ ∀ k : Nat, k < 16 → w.cell? ⟨0, k, none⟩ = some (.int .u32 (st4 k : Nat))
theorem Tab.below {w w' : World} {B : Nat} (h : Tab w) (hb : Below B w w') (hB : 0 < B) : Tab w' :=
  ⟨by have := hb.size; have := h.1; omega, fun k hk => (hb.cell (p := ⟨0, k, none⟩) hB).trans (h.2 k hk)⟩

set_option maxHeartbeats 400000 in
theorem shift4_any (r : Nat) (hr : r < 4294967296) (w : World) (h : Tab w) :
    Calls Tryd.prog 53 #[.int .u32 (r : Nat)] w fun e w' => e = .returned (.int .u32 (st4 r : Nat)) ∧ w = w' := by
  obtain ⟨m, hm⟩ : ∃ m, m = r % 16 := ⟨_, rfl⟩
  have hm16 : m < 16 := by omega
  have hcell := h.2 m hm16
  have hand : bits .and .u32 (r : Int) 15 = (m : Int) := by
    rw [show (15 : Int) = ((15 : Nat) : Int) from rfl, u32_and_nat r 15 hr (by omega), nat_mask4, hm]
  have Hm := Lib.hid hm
  clear hm
  go_enter Tryd.func53, Tryd.ntmps53
  go_wp2
  go_ret
  have hx : bits .xor .u32 ((r : Int) / 16) (st4 m : Nat) = (st4 r : Nat) := by
    rw [show (r : Int) / 16 = ((r / 16 : Nat) : Int) by omega, u32_xor_nat _ _ (by omega) (st4_lt (by omega)), Hm.out, ← st4_look r]
  exact ⟨ret_int hx, rfl⟩

/-- The register behind one more byte. -/
theorem run_next (r : Nat) (l : List UInt8) (k : Nat) (h : k < l.length) : crcRun r (l.take (k + 1)) = st4 (st4 (crcRun r (l.take k) ^^^ byt l k)) := by
  rw [take_next l k h, crcRun_snoc]
  have := byt_le l k
  unfold by8 st8
  rw [show (UInt8.ofNat (byt l k)).toNat = byt l k by simp; omega]

set_option maxHeartbeats 400000 in
theorem more_any (s : Nat) (hs : s < 4294967296) (A : Option Addr) (n c : Nat) (l : List UInt8) (w : World) (hsl : Sl w A n c l) (ht : Tab w) :
    Calls Tryd.prog 52 #[.int .u32 (s : Nat), .slice A n c] w fun e w' => e = .returned (.int .u32 (more s l : Nat)) ∧ w = w' := by
  have hm := hsl.max
  have hc := hsl.cap
  unfold maxLen at hm
  have Hl := Lib.hid hsl.len
  obtain ⟨q, hq⟩ : ∃ q, q = 4294967295 - s := ⟨_, rfl⟩
  have hnot : bits .xor .u32 IntKind.u32.max (s : Int) = (q : Int) := by
    rw [show IntKind.u32.max = ((4294967295 : Nat) : Int) from rfl, u32_xor_nat _ s (by omega) hs, Nat.xor_comm, xor_ones hs, hq]
  have hq32 : q < 4294967296 := by omega
  have Hq := Lib.hid hq
  clear hq
  go_enter Tryd.func52, Tryd.ntmps52
  go_wp2
  go_loop [5, 12] (fun r i => ∃ k : Nat, k ≤ n ∧ i = .int .i64 k ∧ r = .int .u32 (crcRun q (l.take k) : Nat)) (fun _ i => n - (intOf i).toNat)
  case atStart => exact ⟨0, Nat.zero_le _, rfl, rfl⟩
  case round =>
    obtain ⟨k, hk, rfl, rfl⟩ := hrel
    have hx := crcRun_lt (l.take k) hq32
    by_cases hlt : k < n
    · obtain ⟨ad, rfl, hb, hcell⟩ := hsl.cell hlt
      have hb1 := byt_le l k
      have Hn := Lib.hid (run_next q l k (by rw [Hl.out]; exact hlt))
      generalize crcRun q (l.take k) = x at hx Hn
      have hxor : bits .xor .u32 (x : Int) (byt l k : Int) = ((x ^^^ byt l k : Nat) : Int) := u32_xor_nat _ _ hx (by omega)
      have hy : x ^^^ byt l k < 4294967296 := xor_lt hx (by omega)
      generalize x ^^^ byt l k = y at hxor hy Hn
      have hy4 := st4_lt hy
      go_wp2_with fail
      refine (shift4_any y hy w ht).mono ?_
      rintro e w' ⟨rfl, rfl⟩
      obtain ⟨y4, hy4e⟩ : ∃ y4, y4 = st4 y := ⟨_, rfl⟩
      rw [← hy4e] at hy4 Hn ⊢
      have Hy4 := Lib.hid hy4e
      clear hy4e
      go_wp2_with fail
      refine (shift4_any y4 hy4 w ht).mono ?_
      rintro e w' ⟨rfl, rfl⟩
      go_wp2
      exact ⟨⟨k + 1, by omega, by go_num, by rw [Hn.out]⟩, by simp [intOf]; omega⟩
    · obtain rfl : k = n := by omega
      have Ht := Lib.hid (show l.take k = l from List.take_of_length_le (by rw [Hl.out]; omega))
      have hnot2 : bits .xor .u32 IntKind.u32.max (crcRun q (l.take k) : Int) = ((4294967295 - crcRun q (l.take k) : Nat) : Int) := by
        rw [show IntKind.u32.max = ((4294967295 : Nat) : Int) from rfl, u32_xor_nat _ _ (by omega) hx, Nat.xor_comm, xor_ones hx]
      have Hnot2 := Lib.hid hnot2
      clear hnot2
      go_wp2
      go_ret
      exact ⟨ret_int (by rw [Hnot2.out, Ht.out, Hq.out]; rfl), rfl⟩

/-- So many steps. -/
def stN : Nat → Nat → Nat
  | 0, r => r
  | n + 1, r => st (stN n r)
theorem stN_lt (n : Nat) {r : Nat} (h : r < 4294967296) : stN n r < 4294967296 := by
  induction n with
  | zero => exact h
  | succ n ih => exact st_lt ih

set_option maxHeartbeats 800000 in
theorem refmore_any (s : Nat) (hs : s < 4294967296) (A : Option Addr) (n c : Nat) (l : List UInt8) (w : World) (h : Sl w A n c l) :
    Calls Tryd.prog 50 #[.int .u32 (s : Nat), .slice A n c] w fun e w' => e = .returned (.int .u32 (more s l : Nat)) ∧ w = w' := by
  have hm := h.max
  have hc := h.cap
  unfold maxLen at hm
  have Hl := Lib.hid h.len
  obtain ⟨q, hq⟩ : ∃ q, q = 4294967295 - s := ⟨_, rfl⟩
  have hnot : bits .xor .u32 (s : Int) 4294967295 = (q : Int) := by
    rw [show (4294967295 : Int) = ((4294967295 : Nat) : Int) from rfl, u32_xor_nat s _ hs (by omega), xor_ones hs, hq]
  have hq32 : q < 4294967296 := by omega
  have Hq := Lib.hid hq
  clear hq
  go_enter Tryd.func50, Tryd.ntmps50
  go_wp2
  go_loop [5, 6] (fun r i => ∃ k : Nat, k ≤ n ∧ i = .int .i64 k ∧ r = .int .u32 (crcRun q (l.take k) : Nat)) (fun _ i => n - (intOf i).toNat)
  case atStart => exact ⟨0, Nat.zero_le _, rfl, rfl⟩
  case round =>
    obtain ⟨k, hk, rfl, rfl⟩ := hrel
    have hx := crcRun_lt (l.take k) hq32
    by_cases hlt : k < n
    · obtain ⟨ad, rfl, hb, hcell⟩ := h.cell hlt
      have hb1 := byt_le l k
      have Hn := Lib.hid (run_next q l k (by rw [Hl.out]; exact hlt))
      generalize crcRun q (l.take k) = x at hx Hn
      have hxor : bits .xor .u32 (x : Int) (byt l k : Int) = ((x ^^^ byt l k : Nat) : Int) := u32_xor_nat _ _ hx (by omega)
      have hy : x ^^^ byt l k < 4294967296 := xor_lt hx (by omega)
      generalize x ^^^ byt l k = y at hxor hy Hn
      go_wp2
      go_loop [5, 7] (fun r i => ∃ j : Nat, j ≤ 8 ∧ i = .int .i64 j ∧ r = .int .u32 (stN j y : Nat)) (fun _ i => 8 - (intOf i).toNat)
      case atStart => exact ⟨0, by omega, rfl, rfl⟩
      case round =>
        obtain ⟨j, hj, rfl, rfl⟩ := hrel
        have hz := stN_lt j hy
        by_cases hlt2 : j < 8
        · have Hs := Lib.hid (show stN (j + 1) y = st (stN j y) from rfl)
          generalize stN j y = z at hz Hs
          by_cases hodd : z % 2 = 1
          · have hxor2 : bits .xor .u32 ((z : Int) / 2) 2197175160 = ((z / 2 ^^^ 2197175160 : Nat) : Int) := by
              rw [show (2197175160 : Int) = ((2197175160 : Nat) : Int) from rfl, show (z : Int) / 2 = ((z / 2 : Nat) : Int) by omega, u32_xor_nat _ _ (by omega) (by omega)]
            have Hst := Lib.hid (show st z = z / 2 ^^^ 2197175160 from if_pos hodd)
            have hodd' : (z : Int) % 2 = 1 := by omega
            clear hodd
            go_wp2
            exact ⟨⟨j + 1, by omega, by go_num, by rw [Hs.out, Hst.out]⟩, by simp [intOf]; omega⟩
          · have Hst := Lib.hid (show st z = z / 2 from if_neg hodd)
            have hodd' : (z : Int) % 2 = 0 := by omega
            clear hodd
            go_wp2
            exact ⟨⟨j + 1, by omega, by go_num, by rw [Hs.out, Hst.out]; go_num⟩, by simp [intOf]; omega⟩
        · obtain rfl : j = 8 := by omega
          go_wp2
          exact ⟨⟨k + 1, by omega, by go_num, by rw [Hn.out]; rfl⟩, by simp [intOf]; omega⟩
    · obtain rfl : k = n := by omega
      have Ht := Lib.hid (show l.take k = l from List.take_of_length_le (by rw [Hl.out]; omega))
      have hnot2 : bits .xor .u32 (crcRun q (l.take k) : Int) 4294967295 = ((4294967295 - crcRun q (l.take k) : Nat) : Int) := by
        rw [show (4294967295 : Int) = ((4294967295 : Nat) : Int) from rfl, u32_xor_nat _ _ hx (by omega), xor_ones hx]
      have Hnot2 := Lib.hid hnot2
      clear hnot2
      go_wp2
      go_ret
      exact ⟨ret_int (by rw [Hnot2.out, Ht.out, Hq.out]; rfl), rfl⟩

theorem sum_any (A : Option Addr) (n c : Nat) (l : List UInt8) (w : World) (h : Sl w A n c l) (ht : Tab w) :
    Calls Tryd.prog 46 #[.slice A n c] w fun e w' => e = .returned (.int .u32 (more 0 l : Nat)) ∧ w = w' := by
  go_enter Tryd.func46, Tryd.ntmps46
  go_wp2_with (go_at_call 52; refine (more_any 0 (by omega) A n c l w h ht).mono ?_; rintro e w' ⟨rfl, rfl⟩)
  go_ret
  exact ⟨rfl, rfl⟩
theorem refsum_any (A : Option Addr) (n c : Nat) (l : List UInt8) (w : World) (h : Sl w A n c l) :
    Calls Tryd.prog 40 #[.slice A n c] w fun e w' => e = .returned (.int .u32 (more 0 l : Nat)) ∧ w = w' := by
  go_enter Tryd.func40, Tryd.ntmps40
  go_wp2_with (go_at_call 50; refine (refmore_any 0 (by omega) A n c l w h).mono ?_; rintro e w' ⟨rfl, rfl⟩)
  go_ret
  exact ⟨rfl, rfl⟩
end Go.Proofs.YtljlliiedbedeaaDoor
