/- The program's PutText and PutBytes lay down texts and bytes, or refuse, as P1.2 and P1.3 say. -/
import Derived.Test.YtnobhmfoblnpbaaE9
namespace Go.Proofs.Ytnobhmfoblnpbaa
open Go Go.RowKit Go.Proofs

theorem conv_bs {w : World} {A : Option Addr} {n c : Nat} {l : List UInt8} (h : Sl w A n c l) : (convert 22 9 (.slice A n c)).run Try.prog w = .ok (.string ⟨l.toArray⟩) w :=
  run_conv_bs 22 9 5 T22 Try.underlying5 Try.underlying9 h
theorem conv_sb (s : ByteArray) (w : World) : (convert 9 22 (.string s)).run Try.prog w = .ok (.slice (some ⟨w.heap.size, 0, none⟩) s.size (grownCap w s.size 0 5)) (Lib.bytesWorld w 5 s) :=
  Lib.run_convert_string_bytes w 9 22 5 s Try.underlying9 Try.underlying22 Try.underlying5

set_option maxHeartbeats 400000 in
theorem puttext_no (A : Option Addr) (k c : Nat) (s : ByteArray) (w : World) (hs : 255 < s.size) :
    Calls Try.prog 15 #[.slice A k c, .string s] w fun e w' => e = .returned (.tuple #[.slice none 0 0, .int .i64 7]) ∧ w = w' := by
  go_enter Try.func15, Try.ntmps15
  go_wp2
  go_ret2
  exact ⟨rfl, rfl⟩

set_option maxHeartbeats 400000 in
theorem puttext_yes (A : Option Addr) (k c : Nat) (l : List UInt8) (s : ByteArray) (w : World) (h : Sl w A k c l) (hk : k ≤ 17592186044416) (hs : s.size ≤ 255) :
    Calls Try.prog 15 #[.slice A k c, .string s] w fun e w' => ∃ A' n' c', e = .returned (.tuple #[.slice A' n' c', .int .i64 0]) ∧ Own w' w.heap.size 5 A' n' c' (l ++ (dig s.size 1 ++ s.data.toList)) ∧ Below w.heap.size w w' := by
  have Hl := Lib.hid h.len
  have hconv := conv_sb s
  go_enter Try.func15, Try.ntmps15
  go_wp2_with (go_at_call 24; refine (digits_any s.size 1 _ (by omega) (by omega)).mono ?_; rintro e w1 ⟨A1, c1, rfl, hown1, hb1⟩)
  have hd := below_conv_sb w1 5 s
  have hx := sl_conv_sb w1 5 s (by unfold maxLen; omega)
  have hz := hb1.size
  have hz2 := hd.size
  have hsl := hown1.sl
  rw [show Int.toNat 1 = 1 from rfl] at hsl
  refine (join_any _ _ _ [l, dig s.size 1, s.data.toList] _ (parts3 22 ((h.below hb1).below hd) (hsl.below hd) hx) (by rw [tot3, dig_len, Hl.out]; simp; omega)).mono ?_
  rintro e w2 ⟨A2, n2, c2, rfl, hown2, hb2⟩
  go_wp2
  go_ret2
  rw [cat3] at hown2
  exact ⟨_, _, _, rfl, hown2.less (by simp; omega), hb1.trans ((hd.mono hz).trans (((Below.refl _ _).alloc (by omega) _).trans (hb2.mono (by simp; omega))))⟩

set_option maxHeartbeats 400000 in
theorem putbytes_no (A B : Option Addr) (k c n d : Nat) (w : World) (hs : 65535 < n) :
    Calls Try.prog 17 #[.slice A k c, .slice B n d] w fun e w' => e = .returned (.tuple #[.slice none 0 0, .int .i64 7]) ∧ w = w' := by
  go_enter Try.func17, Try.ntmps17
  go_wp2
  go_ret2
  exact ⟨rfl, rfl⟩

set_option maxHeartbeats 400000 in
theorem putbytes_yes (A B : Option Addr) (k c n d : Nat) (l x : List UInt8) (w : World) (h : Sl w A k c l) (h' : Sl w B n d x) (hk : k ≤ 17592186044416) (hs : n ≤ 65535) :
    Calls Try.prog 17 #[.slice A k c, .slice B n d] w fun e w' => ∃ A' n' c', e = .returned (.tuple #[.slice A' n' c', .int .i64 0]) ∧ Own w' w.heap.size 5 A' n' c' (l ++ (dig n 2 ++ x)) ∧ Below w.heap.size w w' := by
  have Hl := Lib.hid h.len
  have Hx := Lib.hid h'.len
  go_enter Try.func17, Try.ntmps17
  go_wp2_with (go_at_call 24; refine (digits_any n 2 _ (by omega) (by omega)).mono ?_; rintro e w1 ⟨A1, c1, rfl, hown1, hb1⟩)
  have hz := hb1.size
  have hsl := hown1.sl
  rw [show Int.toNat 2 = 2 from rfl] at hsl
  refine (join_any _ _ _ [l, dig n 2, x] _ (parts3 22 (h.below hb1) hsl (h'.below hb1)) (by rw [tot3, dig_len, Hl.out, Hx.out]; omega)).mono ?_
  rintro e w2 ⟨A2, n2, c2, rfl, hown2, hb2⟩
  go_wp2
  go_ret2
  rw [cat3] at hown2
  exact ⟨_, _, _, rfl, hown2.less (by simp; omega), hb1.trans (((Below.refl _ _).alloc (by omega) _).trans (hb2.mono (by simp; omega)))⟩
end Go.Proofs.Ytnobhmfoblnpbaa
