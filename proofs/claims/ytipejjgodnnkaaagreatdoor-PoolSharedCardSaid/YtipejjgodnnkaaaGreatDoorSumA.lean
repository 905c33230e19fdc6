/- The program's four steps by a look-up: what it answers for any register, where the table reads as the text lays it. -/
import Derived.Test.YtipejjgodnnkaaaGreatDoorPy1
import Derived.Test.YtipejjgodnnkaaaGreatDoorCrc
import Derived.Test.YtipejjgodnnkaaaGreatDoorRows
import Derived.Laws.BitsAll
namespace Go.Proofs.YtipejjgodnnkaaaGreatDoor
open Go Go.RowKit Go.Proofs

theorem T22 : ByteT Tryz.prog 30 5 := ⟨Tryz.underlying30, by kernel_rfl⟩

/-- The table as the text lays it. -/
def Tab (w : World) : Prop := 1 < w.heap.size ∧ ∀ k : Nat, k < 16 → w.cell? ⟨1, k, none⟩ = some (.int .u32 (st4 k : Nat))
theorem Tab.below {w w' : World} {B : Nat} (h : Tab w) (hb : Below B w w') (hB : 1 < B) : Tab w' :=
  ⟨by have := hb.size; have := h.1; omega, fun k hk => (hb.cell (p := ⟨1, k, none⟩) hB).trans (h.2 k hk)⟩

set_option maxHeartbeats 400000 in
theorem shift4_any (r : Nat) (hr : r < 4294967296) (w : World) (h : Tab w) :
    Calls Tryz.prog 229 #[.int .u32 (r : Nat)] w fun e w' => e = .returned (.int .u32 (st4 r : Nat)) ∧ w = w' := by
  obtain ⟨m, hm⟩ : ∃ m, m = r % 16 := ⟨_, rfl⟩
  have hm16 : m < 16 := by omega
  have hcell := h.2 m hm16
  have hand : bits .and .u32 (r : Int) 15 = (m : Int) := by
    rw [show (15 : Int) = ((15 : Nat) : Int) from rfl, u32_and_nat r 15 hr (by omega), nat_mask4, hm]
  have Hm := Lib.hid hm
  clear hm
  go_enter Tryz.func229, Tryz.ntmps229
  go_wp2
  go_ret
  have hx : bits .xor .u32 ((r : Int) / 16) (st4 m : Nat) = (st4 r : Nat) := by
    rw [show (r : Int) / 16 = ((r / 16 : Nat) : Int) by omega, u32_xor_nat _ _ (by omega) (st4_lt (by omega)), Hm.out, ← st4_look r]
  exact ⟨ret_int hx, rfl⟩

/-- The register behind one more byte. -/
theorem run_next (r : Nat) (l : List UInt8) (k : Nat) (h : k < l.length) : crcRun r (l.take (k + 1)) = st4 (st4 (crcRun r (l.take k) ^^^ byt l k)) := by
  rw [take_next l k h, crcRun_snoc]
  have := byt_le l k
  unfold by8 st8
  rw [show (UInt8.ofNat (byt l k)).toNat = byt l k by simp; omega]

set_option maxHeartbeats 400000 in
theorem more_any (s : Nat) (hs : s < 4294967296) (A : Option Addr) (n c : Nat) (l : List UInt8) (w : World) (hsl : Sl w A n c l) (ht : Tab w) :
    Calls Tryz.prog 212 #[.int .u32 (s : Nat), .slice A n c] w fun e w' => e = .returned (.int .u32 (more s l : Nat)) ∧ w = w' := by
  have hm := hsl.max
  have hc := hsl.cap
  unfold maxLen at hm
  have Hl := Lib.hid hsl.len
  obtain ⟨q, hq⟩ : ∃ q, q = 4294967295 - s := ⟨_, rfl⟩
  have hnot : bits .xor .u32 IntKind.u32.max (s : Int) = (q : Int) := by
    rw [show IntKind.u32.max = ((4294967295 : Nat) : Int) from rfl, u32_xor_nat _ s (by omega) hs, Nat.xor_comm, xor_ones hs, hq]
  have hq32 : q < 4294967296 := by omega
  have Hq := Lib.hid hq
  clear hq
  go_enter Tryz.func212, Tryz.ntmps212
  go_wp2
  go_loop [5, 12] (fun r i => ∃ k : Nat, k ≤ n ∧ i = .int .i64 k ∧ r = .int .u32 (crcRun q (l.take k) : Nat)) (fun _ i => n - (intOf i).toNat)
  case atStart => exact ⟨0, Nat.zero_le _, rfl, rfl⟩
  case round =>
    obtain ⟨k, hk, rfl, rfl⟩ := hrel
    have hx := crcRun_lt (l.take k) hq32
    by_cases hlt : k < n
    · obtain ⟨ad, rfl, hb, hcell⟩ := hsl.cell hlt
      have hb1 := byt_le l k
      have Hn := Lib.hid (run_next q l k (by rw [Hl.out]; exact hlt))
      generalize crcRun q (l.take k) = x at hx Hn
      have hxor : bits .xor .u32 (x : Int) (byt l k : Int) = ((x ^^^ byt l k : Nat) : Int) := u32_xor_nat _ _ hx (by omega)
      have hy : x ^^^ byt l k < 4294967296 := xor_lt hx (by omega)
      generalize x ^^^ byt l k = y at hxor hy Hn
      have hy4 := st4_lt hy
      go_wp2_with fail
      refine (shift4_any y hy w ht).mono ?_
      rintro e w' ⟨rfl, rfl⟩
      obtain ⟨y4, hy4e⟩ : ∃ y4, y4 = st4 y := ⟨_, rfl⟩
      rw [← hy4e] at hy4 Hn ⊢
      have Hy4 := Lib.hid hy4e
      clear hy4e
      go_wp2_with fail
      refine (shift4_any y4 hy4 w ht).mono ?_
      rintro e w' ⟨rfl, rfl⟩
      go_wp2
      exact ⟨⟨k + 1, by omega, by go_num, by rw [Hn.out]⟩, by simp [intOf]; omega⟩
    · obtain rfl : k = n := by omega
      have Ht := Lib.hid (show l.take k = l from List.take_of_length_le (by rw [Hl.out]; omega))
      have hnot2 : bits .xor .u32 IntKind.u32.max (crcRun q (l.take k) : Int) = ((4294967295 - crcRun q (l.take k) : Nat) : Int) := by
        rw [show IntKind.u32.max = ((4294967295 : Nat) : Int) from rfl, u32_xor_nat _ _ (by omega) hx, Nat.xor_comm, xor_ones hx]
      have Hnot2 := Lib.hid hnot2
      clear hnot2
      go_wp2
      go_ret
      exact ⟨ret_int (by rw [Hnot2.out, Ht.out, Hq.out]; rfl), rfl⟩

theorem sum_any (A : Option Addr) (n c : Nat) (l : List UInt8) (w : World) (h : Sl w A n c l) (ht : Tab w) :
    Calls Tryz.prog 190 #[.slice A n c] w fun e w' => e = .returned (.int .u32 (more 0 l : Nat)) ∧ w = w' := by
  go_enter Tryz.func190, Tryz.ntmps190
  go_wp2_with (go_at_call 212; refine (more_any 0 (by omega) A n c l w h ht).mono ?_; rintro e w' ⟨rfl, rfl⟩)
  go_ret
  exact ⟨rfl, rfl⟩
end Go.Proofs.YtipejjgodnnkaaaGreatDoor
