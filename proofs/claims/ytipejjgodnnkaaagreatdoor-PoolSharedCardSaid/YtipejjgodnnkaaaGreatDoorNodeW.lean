/- The code's node: whether all are noughts, by the library's Count. -/
import Derived.Test.YtipejjgodnnkaaaGreatDoorPy5
import Derived.Shelf.Bytes.SlCountOne
import Derived.Laws.Externs
namespace Go.Proofs.YtipejjgodnnkaaaGreatDoor
open Go Go.RowKit Go.Proofs

def ints (l : List UInt8) : List Int := l.map fun x => (x.toNat : Int)
theorem ints_bytes (l : List UInt8) : Lib.bytesOf (ints l) = l := by
  unfold Lib.bytesOf ints
  rw [List.map_map]
  conv => rhs; rw [← List.map_id l]
  refine List.map_congr_left fun x _ => ?_
  simp
theorem sl_ints {w : World} {a : Addr} {n c : Nat} {l : List UInt8} (h : Sl w (some a) n c l) : ∀ i, i < n → w.cell? (a.add i) = some (.int .u8 ((ints l).getD i 0)) := by
  intro i hi
  obtain ⟨ad, e, _, hc⟩ := h.cell hi
  injection e with e
  subst e
  rw [hc]
  have hl : i < l.length := by have := h.len; omega
  simp [ints, byt, List.getD_eq_getElem?_getD, List.getElem?_map, List.getElem?_eq_getElem hl]
theorem run_count_any {P : Program} {w : World} {A : Option Addr} {n c : Nat} {l : List UInt8} (h : Sl w A n c l) (cv : Int) :
    (Extern.BytealgCount.count #[.slice A n c, .int .u8 cv]).run P w = .ok (.int .i64 (Lib.countByte l cv.toNat.toUInt8)) w := by
  cases A with
  | some a =>
    have := Lib.run_countAt (P := P) w a n c (ints l) (by unfold ints; rw [List.length_map]; exact h.len) (sl_ints h) cv
    rwa [ints_bytes] at this
  | none =>
    have hn : n = 0 := by
      rcases Nat.eq_zero_or_pos n with h0 | h0
      · exact h0
      · obtain ⟨ad, e, _⟩ := h.cell h0
        cases e
    have hl : l = [] := List.eq_nil_of_length_eq_zero (by rw [h.len]; exact hn)
    rw [Lib.run_countNil, hl]
    rfl
theorem count_all (l : List UInt8) : (Lib.countByte l 0 = l.length) ↔ allZ l = true := by
  unfold Lib.countByte allZ
  rw [List.count_eq_length, List.all_eq_true]
  constructor
  · intro h x hx
    rw [← h x hx]; rfl
  · intro h x hx
    have := h x hx
    exact (by simpa using this : x = 0).symm
set_option maxRecDepth 100000 in
set_option maxHeartbeats 4000000 in
theorem ccount_any (A : Option Addr) (n c : Nat) (l : List UInt8) (g d : Nat) (w : World) (h : Sl w A n c l) (hc : w.cell? ⟨g, 0, none⟩ = some (.int .u8 0)) :
    Calls Tryz.prog 133 #[.slice A n c, .slice (some ⟨g, 0, none⟩) 1 d] w fun e w' => e = .returned (.int .i64 (Lib.countByte l 0 : Nat)) ∧ w = w' := by
  go_enter Tryz.func133, Tryz.ntmps133
  go_wp2
  rw [run_callFunc_extern Tryz.func181 (by kernel_rfl) (by kernel_rfl) (by kernel_rfl) (e := Extern.BytealgCount.count) (by kernel_rfl), run_count_any h 0]
  simp only [Result.andThen]
  rw [Oper.upon_value]
  go_wp2
  go_ret
  exact ⟨rfl, rfl⟩
end Go.Proofs.YtipejjgodnnkaaaGreatDoor
