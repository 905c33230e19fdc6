/- The reference's PutText, PutBytes, TakeText and TakeBytes answer as P1.2 and P1.3 say. -/
import Derived.Test.YtnobhmfoblnpbaaE15
namespace Go.Proofs.Ytnobhmfoblnpbaa
open Go Go.RowKit Go.Proofs

set_option maxHeartbeats 400000 in
theorem refpt_no (A B : Option Addr) (k c n d : Nat) (m x : Int) (w : World) (hs : x < (n : Int)) :
    Calls Try.prog 26 #[.slice A k c, .slice B n d, .int .i64 m, .int .i64 x] w fun e w' => e = .returned (.tuple #[.slice none 0 0, .int .i64 7]) ∧ w = w' := by
  go_enter Try.func26, Try.ntmps26
  go_wp2
  go_ret2
  exact ⟨rfl, rfl⟩

set_option maxHeartbeats 400000 in
theorem refpt_yes (A B : Option Addr) (k c n d : Nat) (l y : List UInt8) (m x : Int) (w : World) (h : Sl w A k c l) (h' : Sl w B n d y) (hk : k ≤ 17592186044416) (hn : n ≤ 17592186044416) (hs : (n : Int) ≤ x) (h1 : 1 ≤ m) (h8 : m ≤ 8) :
    Calls Try.prog 26 #[.slice A k c, .slice B n d, .int .i64 m, .int .i64 x] w fun e w' => ∃ A' n' c', e = .returned (.tuple #[.slice A' n' c', .int .i64 0]) ∧ Own w' w.heap.size 5 A' n' c' (l ++ (dig n m.toNat ++ y)) ∧ Below w.heap.size w w' := by
  have Hl := Lib.hid h.len
  go_enter Try.func26, Try.ntmps26
  go_wp2_with fail
  refine (refput_any A k c l n m w h hk).mono ?_
  rintro e w1 ⟨A1, n1, c1, rfl, hown1, hb1⟩
  rw [show putS l n m = l ++ dig n m.toNat from if_pos ⟨h1, h8⟩] at hown1
  have hn1 : n1 ≤ 17592186044424 := by have h2 := hown1.len; rw [List.length_append, dig_len, Hl.out] at h2; omega
  have hy := h'.below hb1
  go_wp2_with (at_builtin; refine wp_append_b _ T22 rfl _ _ rfl w.heap.size A1 n1 c1 _ rfl hown1 B n d y rfl hy (by omega) hb1.size ?_)
  intro A2 c2 w2 hown2 hb2
  go_wp2
  go_ret2
  exact ⟨_, _, _, rfl, hown2, hb1.trans hb2⟩

set_option maxHeartbeats 400000 in
theorem refputbytes_no (A B : Option Addr) (k c n d : Nat) (w : World) (hs : 65535 < n) :
    Calls Try.prog 18 #[.slice A k c, .slice B n d] w fun e w' => e = .returned (.tuple #[.slice none 0 0, .int .i64 7]) ∧ w = w' := by
  go_enter Try.func18, Try.ntmps18
  go_wp2_with (go_at_call 26; refine (refpt_no A B k c n d 2 65535 w (by omega)).mono ?_; rintro e w1 ⟨rfl, rfl⟩)
  go_ret2
  exact ⟨rfl, rfl⟩
set_option maxHeartbeats 400000 in
theorem refputbytes_yes (A B : Option Addr) (k c n d : Nat) (l x : List UInt8) (w : World) (h : Sl w A k c l) (h' : Sl w B n d x) (hk : k ≤ 17592186044416) (hs : n ≤ 65535) :
    Calls Try.prog 18 #[.slice A k c, .slice B n d] w fun e w' => ∃ A' n' c', e = .returned (.tuple #[.slice A' n' c', .int .i64 0]) ∧ Own w' w.heap.size 5 A' n' c' (l ++ (dig n 2 ++ x)) ∧ Below w.heap.size w w' := by
  go_enter Try.func18, Try.ntmps18
  go_wp2_with (go_at_call 26; refine (refpt_yes A B k c n d l x 2 65535 w h h' hk (by omega) (by omega) (by omega) (by omega)).mono ?_; rintro e w1 ⟨A1, n1, c1, rfl, hown1, hb1⟩)
  go_ret2
  exact ⟨_, _, _, rfl, hown1, hb1⟩

set_option maxHeartbeats 400000 in
theorem refputtext_no (A : Option Addr) (k c : Nat) (s : ByteArray) (w : World) (hs : 255 < s.size) :
    Calls Try.prog 16 #[.slice A k c, .string s] w fun e w' => e = .returned (.tuple #[.slice none 0 0, .int .i64 7]) ∧ Below w.heap.size w w' := by
  have hconv := conv_sb s
  go_enter Try.func16, Try.ntmps16
  go_wp2_with (go_at_call 26; refine (refpt_no A _ k c _ _ 1 255 _ (by omega)).mono ?_; rintro e w1 ⟨rfl, rfl⟩)
  go_ret2
  exact ⟨rfl, below_conv_sb _ _ _⟩
set_option maxHeartbeats 400000 in
theorem refputtext_yes (A : Option Addr) (k c : Nat) (l : List UInt8) (s : ByteArray) (w : World) (h : Sl w A k c l) (hk : k ≤ 17592186044416) (hs : s.size ≤ 255) :
    Calls Try.prog 16 #[.slice A k c, .string s] w fun e w' => ∃ A' n' c', e = .returned (.tuple #[.slice A' n' c', .int .i64 0]) ∧ Own w' w.heap.size 5 A' n' c' (l ++ (dig s.size 1 ++ s.data.toList)) ∧ Below w.heap.size w w' := by
  have hconv := conv_sb s
  have hd := below_conv_sb w 5 s
  have hx := sl_conv_sb w 5 s (by unfold maxLen; omega)
  go_enter Try.func16, Try.ntmps16
  go_wp2_with (go_at_call 26; refine (refpt_yes A _ k c _ _ l s.data.toList 1 255 _ (h.below hd) hx hk (by omega) (by omega) (by omega) (by omega)).mono ?_; rintro e w1 ⟨A1, n1, c1, rfl, hown1, hb1⟩)
  go_ret2
  exact ⟨_, _, _, rfl, hown1.less hd.size, hd.trans (hb1.mono hd.size)⟩

set_option maxHeartbeats 400000 in
theorem reftakebytes_no (A : Option Addr) (k c : Nat) (l : List UInt8) (w : World) (h : Sl w A k c l) (hk : k ≤ 17592186044416) (hw : ¬ Whole l 2) :
    Calls Try.prog 22 #[.slice A k c] w fun e w' => e = .returned (.tuple #[.slice none 0 0, .slice none 0 0, .int .i64 2]) ∧ Below w.heap.size w w' := by
  have Hw := Lib.hid hw
  clear hw
  go_enter Try.func22, Try.ntmps22
  go_wp2_with (go_at_call 28; refine (reftk_no A k c l 2 w h hk (by omega) (by omega) Hw.out).mono ?_; rintro e w1 ⟨rfl, hb⟩)
  go_ret3
  exact ⟨rfl, hb⟩
set_option maxHeartbeats 400000 in
theorem reftakebytes_yes (A : Option Addr) (k c : Nat) (l : List UInt8) (w : World) (h : Sl w A k c l) (hk : k ≤ 17592186044416) (hw : Whole l 2) :
    Calls Try.prog 22 #[.slice A k c] w fun e w' => ∃ A1 n1 c1 A2 n2 c2, e = .returned (.tuple #[.slice A1 n1 c1, .slice A2 n2 c2, .int .i64 0]) ∧
      Sl w' A1 n1 c1 (bodyS l 2) ∧ Sl w' A2 n2 c2 (restS l 2) ∧ Below w.heap.size w w' := by
  have Hw := Lib.hid hw
  clear hw
  go_enter Try.func22, Try.ntmps22
  go_wp2_with (go_at_call 28; refine (reftk_yes A k c l 2 w h hk (by omega) (by omega) Hw.out).mono ?_; rintro e w1 ⟨A1, n1, c1, A2, n2, c2, rfl, h1, h2, hb⟩)
  go_ret3
  exact ⟨_, _, _, _, _, _, rfl, h1, h2, hb⟩
set_option maxHeartbeats 400000 in
theorem reftaketext_no (A : Option Addr) (k c : Nat) (l : List UInt8) (w : World) (h : Sl w A k c l) (hk : k ≤ 17592186044416) (hw : ¬ Whole l 1) :
    Calls Try.prog 20 #[.slice A k c] w fun e w' => e = .returned (.tuple #[.string ⟨#[]⟩, .slice none 0 0, .int .i64 2]) ∧ Below w.heap.size w w' := by
  have Hw := Lib.hid hw
  clear hw
  have hc : ∀ W : World, (convert 22 9 (.slice none 0 0)).run Try.prog W = .ok (.string ⟨#[]⟩) W := fun W => conv_bs (sl_nil W)
  go_enter Try.func20, Try.ntmps20
  go_wp2_with (go_at_call 28; refine (reftk_no A k c l 1 w h hk (by omega) (by omega) Hw.out).mono ?_; rintro e w1 ⟨rfl, hb⟩)
  go_ret3
  exact ⟨rfl, hb⟩
set_option maxHeartbeats 400000 in
theorem reftaketext_yes (A : Option Addr) (k c : Nat) (l : List UInt8) (w : World) (h : Sl w A k c l) (hk : k ≤ 17592186044416) (hw : Whole l 1) :
    Calls Try.prog 20 #[.slice A k c] w fun e w' => ∃ A2 n2 c2, e = .returned (.tuple #[.string ⟨(bodyS l 1).toArray⟩, .slice A2 n2 c2, .int .i64 0]) ∧
      Sl w' A2 n2 c2 (restS l 1) ∧ Below w.heap.size w w' := by
  have Hw := Lib.hid hw
  clear hw
  go_enter Try.func20, Try.ntmps20
  go_wp2_with (go_at_call 28; refine (reftk_yes A k c l 1 w h hk (by omega) (by omega) Hw.out).mono ?_; rintro e w1 ⟨A1, n1, c1, A2, n2, c2, rfl, h1, h2, hb⟩; have hc := conv_bs h1)
  go_ret3
  exact ⟨_, _, _, rfl, h2, hb⟩
end Go.Proofs.Ytnobhmfoblnpbaa
