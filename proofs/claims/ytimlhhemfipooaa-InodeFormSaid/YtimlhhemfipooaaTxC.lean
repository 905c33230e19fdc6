/- The program's PutText and TakeText alone (as E10 to E12 have them, under names of their own). -/
import Derived.Test.YtimlhhemfipooaaE9
import Derived.Test.YtimlhhemfipooaaTx
namespace Go.Proofs.Ytimlhhemfipooaa
open Go Go.RowKit Go.Proofs

theorem tconv_sb (s : ByteArray) (w : World) : (convert 9 26 (.string s)).run Try.prog w = .ok (.slice (some ⟨w.heap.size, 0, none⟩) s.size (grownCap w s.size 0 5)) (Lib.bytesWorld w 5 s) :=
  Lib.run_convert_string_bytes w 9 26 5 s Try.underlying9 Try.underlying26 Try.underlying5

set_option maxHeartbeats 400000 in
theorem tputtext_no (A : Option Addr) (k c : Nat) (s : ByteArray) (w : World) (hs : 255 < s.size) :
    Calls Try.prog 30 #[.slice A k c, .string s] w fun e w' => e = .returned (.tuple #[.slice none 0 0, .int .i64 7]) ∧ w = w' := by
  go_enter Try.func30, Try.ntmps30
  go_wp2
  go_ret2
  exact ⟨rfl, rfl⟩

set_option maxHeartbeats 400000 in
theorem tputtext_yes (A : Option Addr) (k c : Nat) (l : List UInt8) (s : ByteArray) (w : World) (h : Sl w A k c l) (hk : k ≤ 17592186044416) (hs : s.size ≤ 255) :
    Calls Try.prog 30 #[.slice A k c, .string s] w fun e w' => ∃ A' n' c', e = .returned (.tuple #[.slice A' n' c', .int .i64 0]) ∧ Own w' w.heap.size 5 A' n' c' (l ++ (dig s.size 1 ++ s.data.toList)) ∧ Below w.heap.size w w' := by
  have Hl := Lib.hid h.len
  have hconv := tconv_sb s
  go_enter Try.func30, Try.ntmps30
  go_wp2_with (go_at_call 45; refine (digits_any s.size 1 _ (by omega) (by omega)).mono ?_; rintro e w1 ⟨A1, c1, rfl, hown1, hb1⟩)
  have hd := below_conv_sb w1 5 s
  have hx := sl_conv_sb w1 5 s (by unfold maxLen; omega)
  have hz := hb1.size
  have hz2 := hd.size
  have hsl := hown1.sl
  rw [show Int.toNat 1 = 1 from rfl] at hsl
  refine (join_any _ _ _ [l, dig s.size 1, s.data.toList] _ (parts3 26 ((h.below hb1).below hd) (hsl.below hd) hx) (by rw [tot3, dig_len, Hl.out]; simp; omega)).mono ?_
  rintro e w2 ⟨A2, n2, c2, rfl, hown2, hb2⟩
  go_wp2
  go_ret2
  rw [cat3] at hown2
  exact ⟨_, _, _, rfl, hown2.less (by simp; omega), hb1.trans ((hd.mono hz).trans (((Below.refl _ _).alloc (by omega) _).trans (hb2.mono (by simp; omega))))⟩

theorem tsplit_no (A : Option Addr) (k c : Nat) (l : List UInt8) (n : Int) (w : World) (h : Sl w A k c l) (h1 : 1 ≤ n) (h7 : n ≤ 6) (hw : ¬ WholeT l n.toNat) :
    Calls Try.prog 47 #[.slice A k c, .int .i64 n] w fun e w' => e = .returned (.tuple #[.slice none 0 0, .slice none 0 0, .bool false]) ∧ w = w' := by
  have hl := h.len
  rcases (by omega : (k : Int) < n ∨ n ≤ (k : Int)) with hk | hk
  · exact split_short A k c n w hk
  · refine split_cut A k c l n w h h1 h7 hk ?_
    unfold WholeT at hw
    rcases Nat.lt_or_ge k (n.toNat + numL (l.take n.toNat)) with h2 | h2
    · exact h2
    · exact absurd ⟨by omega, by omega⟩ hw

set_option maxHeartbeats 400000 in
theorem ttaketext_no (A : Option Addr) (k c : Nat) (l : List UInt8) (w : World) (h : Sl w A k c l) (hw : ¬ WholeT l 1) :
    Calls Try.prog 37 #[.slice A k c] w fun e w' => e = .returned (.tuple #[.string ⟨#[]⟩, .slice none 0 0, .int .i64 2]) ∧ w = w' := by
  have Hw := Lib.hid hw
  clear hw
  go_enter Try.func37, Try.ntmps37
  go_wp2_with (go_at_call 47; refine (tsplit_no _ _ _ l 1 _ h (by omega) (by omega) Hw.out).mono ?_; rintro e w1 ⟨rfl, rfl⟩)
  go_ret3
  exact ⟨rfl, rfl⟩
theorem tsplit_ok (A : Option Addr) (k c : Nat) (l : List UInt8) (n : Int) (w : World) (h : Sl w A k c l) (h1 : 1 ≤ n) (h7 : n ≤ 6) (hw : WholeT l n.toNat) :
    Calls Try.prog 47 #[.slice A k c, .int .i64 n] w fun e w' => ∃ A1 n1 c1 A2 n2 c2, e = .returned (.tuple #[.slice A1 n1 c1, .slice A2 n2 c2, .bool true]) ∧
      Sl w' A1 n1 c1 (bodyT l n.toNat) ∧ Sl w' A2 n2 c2 (restT l n.toNat) ∧ Below w.heap.size w w' := by
  have hl := h.len
  obtain ⟨ha, hb⟩ := hw
  exact split_yes A k c l n w h h1 h7 (by omega) (by omega)

set_option maxHeartbeats 1000000 in
theorem ttaketext_yes (A : Option Addr) (k c : Nat) (l : List UInt8) (w : World) (h : Sl w A k c l) (hk : k ≤ 17592186044416) (hw : WholeT l 1) :
    Calls Try.prog 37 #[.slice A k c] w fun e w' => ∃ A2 n2 c2, e = .returned (.tuple #[.string ⟨(bodyT l 1).toArray⟩, .slice A2 n2 c2, .int .i64 0]) ∧
      Own w' w.heap.size 5 A2 n2 c2 (restT l 1) ∧ Below w.heap.size w w' := by
  have Hl := Lib.hid h.len
  have Hw := Lib.hid hw
  clear hw
  have hle1 := bodyT_le l 1
  have hle2 := restT_le l 1
  go_enter Try.func37, Try.ntmps37
  go_wp2_with (go_at_call 47; refine (tsplit_ok _ _ _ l 1 _ h (by omega) (by omega) Hw.out).mono ?_; rintro e w1 ⟨A1, n1, c1, A2, n2, c2, rfl, h1, h2, hb1⟩)
  rw [show Int.toNat 1 = 1 from rfl] at h1 h2
  have hz := hb1.size
  have hc1 := convT (w := w1.drew) h1
  have hc2 : ∀ o, (convert 26 9 (.slice A1 n1 c1)).run Try.prog (w1.alloc o).drew = .ok (.string ⟨(bodyT l 1).toArray⟩) (w1.alloc o).drew := fun o => convT (w := (w1.alloc o).drew) (h1.alloc o)
  have hlen : (restT l 1).length ≤ 17592186044416 := by have := Hl.out; omega
  go_region_with (go_at_call 44; refine (join_any _ _ _ [restT l 1] _ (by first | exact parts1 (w := w1) 26 h2 | exact parts1 (w := w1.drew) 26 h2) (by rw [tot1]; omega)).mono ?_; rintro e w3 ⟨A3, n3, c3, rfl, hown3, hb3⟩; have hb3' : Below w1.heap.size w1 w3 := (by first | exact ((Below.refl _ w1).alloc (Nat.le_refl _) _).drew.trans (hb3.mono (by simp)) | exact ((Below.refl _ w1).drew.alloc (Nat.le_refl _) _).trans (hb3.mono (by simp))); have hc3 := convT (h1.below hb3'))
  all_goals
    go_wp2
    go_ret3
    rw [cat1] at hown3
    exact ⟨_, _, _, rfl, hown3.less (by simp; omega), hb1.trans (hb3'.mono hz)⟩
end Go.Proofs.Ytimlhhemfipooaa
