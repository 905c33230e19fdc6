/- The program's Take takes a number off any bytes, or refuses, as P1.1 says, for at most 2 to the 44 bytes. The code's and the reference's Areas alone (as SupO has them, under names of their own). The reference's take and TakeText alone (as E15 and E16 have them, under names of their own). The program's split cuts bytes behind those whose length stands ahead of them, or tells that they are not whole. The program's PutText and TakeText alone (as E10 to E12 have them, under names of their own). -/
import Derived.Test.YtgedmodnkiijkaaGreatDoorFn2
import Derived.Deep.RegionWith
import Derived.BigQuiet
import Derived.Deep.QuietTactic
import Derived.Deep.RegionLaw
namespace Go.Proofs.YtgedmodnkiijkaaGreatDoor
open Go Go.RowKit Go.Proofs

set_option maxHeartbeats 1000000 in
theorem take_yes (A : Option Addr) (k c : Nat) (l : List UInt8) (n : Int) (w : World) (h : Sl w A k c l) (hk : k ≤ 17592186044416) (h1 : 1 ≤ n) (h7 : n ≤ 7) (hn : n ≤ (k : Int)) :
    Calls Tryz.prog 119 #[.slice A k c, .int .i64 n] w fun e w' => ∃ A' n' c', e = .returned (.tuple #[.int .i64 (numL (l.take n.toNat)), .slice A' n' c', .int .i64 0]) ∧ Own w' w.heap.size 5 A' n' c' (l.drop n.toNat) ∧ Below w.heap.size w w' := by
  obtain ⟨m, rfl⟩ := Int.eq_ofNat_of_zero_le (show 0 ≤ n by omega)
  rw [Int.toNat_natCast]
  have hc := h.cap
  have hm := h.max
  unfold maxLen at hm
  have hi1 : (0 : Int) ≤ (m : Int) := by omega
  have hi2 : (m : Int) ≤ (c : Int) := by omega
  have hi3 : m ≤ c := by omega
  have hi4 : m ≤ k := by omega
  have h9 : decide ((k : Int) < (m : Int)) = false := by simp; omega
  go_enter Tryz.func119, Tryz.ntmps119
  go_wp2_with fail
  have h2 := h.take (k := m) (by omega)
  obtain ⟨A2, hA2, h3⟩ : ∃ A2, (if c = m then A else Option.map (fun x => x.add m) A) = A2 ∧ Sl w A2 (k - m) (c - m) (l.drop m) := ⟨_, rfl, h.drop (by omega)⟩
  have hlen := Lib.hid h3.len
  go_region_with (first
    | (go_at_call 136; go_loud (refine (number_any _ _ _ (l.take m) _ (by first | exact h2 | exact h2.alloc _) (by omega)).mono ?_; rintro e w1 ⟨rfl, rfl⟩))
    | (go_at_call 132; refine (join_any _ _ _ [l.drop m] _ (by exact parts1 (w := w.drew) 35 h3) (by rw [tot1, hlen.out]; omega)).mono ?_; rintro e w1 ⟨A1, n1, c1, rfl, hown1, hb1⟩))
  all_goals
    go_wp2
    go_ret3
    rw [cat1] at hown1
    refine ⟨_, _, _, rfl, hown1.less (by simp), ?_⟩
    exact ((Below.refl w.heap.size w).drew.alloc (Nat.le_refl _) _).trans (hb1.mono (by simp))

set_option maxHeartbeats 400000 in
theorem take_short (A : Option Addr) (k c : Nat) (n : Int) (w : World) (h1 : 1 ≤ n) (h7 : n ≤ 7) (hn : (k : Int) < n) :
    Calls Tryz.prog 119 #[.slice A k c, .int .i64 n] w fun e w' => e = .returned (.tuple #[.int .i64 0, .slice none 0 0, .int .i64 2]) ∧ w = w' := by
  go_enter Tryz.func119, Tryz.ntmps119
  go_wp2
  go_ret3
  exact ⟨rfl, rfl⟩
end Go.Proofs.YtgedmodnkiijkaaGreatDoor

namespace Go.Proofs.YtgedmodnkiijkaaGreatDoor
open Go Go.RowKit Go.Proofs

/-- How many sectors an area has. -/
def areaN (n : Nat) : Nat := (n + 117) / 118
set_option maxHeartbeats 1000000 in
theorem xareas_any (x : Int) (n : Nat) (hx : x = (n : Int)) (hn : n ≤ 100000) (k : Nat) (hk : areaN n = k) (w : World) :
    Calls Tryz.prog 88 #[.int .i64 x] w fun e w' => e = .returned (.tuple #[.int .i64 (k : Int), .int .i64 (2 + 2 * (k : Int))]) ∧ w = w' := by
  subst hx
  unfold areaN at hk
  have h1 : ((n : Int) + 118 - 1).tdiv 118 = (k : Int) := by
    rw [Int.tdiv_eq_ediv_of_nonneg (by omega)]
    omega
  have h2 : (k : Int) ≤ 1000 := by omega
  clear hk
  go_enter Tryz.func88, Tryz.ntmps88
  go_wp2
  go_ret2
  exact ⟨rfl, rfl⟩
end Go.Proofs.YtgedmodnkiijkaaGreatDoor

namespace Go.Proofs.YtgedmodnkiijkaaGreatDoor
open Go Go.RowKit Go.Proofs

theorem convT {w : World} {A : Option Addr} {n c : Nat} {l : List UInt8} (h : Sl w A n c l) : (convert 35 9 (.slice A n c)).run Tryz.prog w = .ok (.string ⟨l.toArray⟩) w :=
  run_conv_bs 35 9 5 T22 Tryz.underlying5 Tryz.underlying9 h
def WholeT (l : List UInt8) (m : Nat) : Prop := m ≤ l.length ∧ m + numL (l.take m) ≤ l.length
def bodyT (l : List UInt8) (m : Nat) : List UInt8 := (l.drop m).take (numL (l.take m))
def restT (l : List UInt8) (m : Nat) : List UInt8 := l.drop (m + numL (l.take m))
theorem bodyT_le (l : List UInt8) (m : Nat) : (bodyT l m).length ≤ l.length := by unfold bodyT; simp; omega
theorem restT_le (l : List UInt8) (m : Nat) : (restT l m).length ≤ l.length := by unfold restT; simp
end Go.Proofs.YtgedmodnkiijkaaGreatDoor

namespace Go.Proofs.YtgedmodnkiijkaaGreatDoor
open Go Go.RowKit Go.Proofs

set_option maxHeartbeats 400000 in
theorem split_short (A : Option Addr) (k c : Nat) (n : Int) (w : World) (hn : (k : Int) < n) :
    Calls Tryz.prog 135 #[.slice A k c, .int .i64 n] w fun e w' => e = .returned (.tuple #[.slice none 0 0, .slice none 0 0, .bool false]) ∧ w = w' := by
  go_enter Tryz.func135, Tryz.ntmps135
  go_wp2
  go_ret3
  exact ⟨rfl, rfl⟩

set_option maxHeartbeats 400000 in
theorem split_cut (A : Option Addr) (k c : Nat) (l : List UInt8) (n : Int) (w : World) (h : Sl w A k c l) (h1 : 1 ≤ n) (h7 : n ≤ 6) (hn : n ≤ (k : Int)) (hs : k < n.toNat + numL (l.take n.toNat)) :
    Calls Tryz.prog 135 #[.slice A k c, .int .i64 n] w fun e w' => e = .returned (.tuple #[.slice none 0 0, .slice none 0 0, .bool false]) ∧ w = w' := by
  obtain ⟨m, rfl⟩ := Int.eq_ofNat_of_zero_le (show 0 ≤ n by omega)
  rw [Int.toNat_natCast] at hs
  have hc := h.cap
  have hm := h.max
  unfold maxLen at hm
  have hi1 : m ≤ c := by omega
  have h2 := h.take (k := m) (by omega)
  have hv : numL (l.take m) < 281474976710656 := by
    have h1 := numL_lt (l.take m)
    have h2 : (256 : Nat) ^ (l.take m).length ≤ 256 ^ 6 := Nat.pow_le_pow_right (by omega) (by rw [List.length_take]; omega)
    omega
  go_enter Tryz.func135, Tryz.ntmps135
  go_wp2_with (go_at_call 136; refine (number_any _ _ _ (l.take m) _ h2 (by omega)).mono ?_; rintro e w1 ⟨rfl, rfl⟩)
  go_ret3
  exact ⟨rfl, rfl⟩

set_option maxHeartbeats 400000 in
theorem split_yes (A : Option Addr) (k c : Nat) (l : List UInt8) (n : Int) (w : World) (h : Sl w A k c l) (h1 : 1 ≤ n) (h7 : n ≤ 6) (hn : n ≤ (k : Int)) (hs : n.toNat + numL (l.take n.toNat) ≤ k) :
    Calls Tryz.prog 135 #[.slice A k c, .int .i64 n] w fun e w' => ∃ A1 n1 c1 A2 n2 c2, e = .returned (.tuple #[.slice A1 n1 c1, .slice A2 n2 c2, .bool true]) ∧
      Sl w' A1 n1 c1 ((l.drop n.toNat).take (numL (l.take n.toNat))) ∧ Sl w' A2 n2 c2 (l.drop (n.toNat + numL (l.take n.toNat))) ∧ Below w.heap.size w w' := by
  obtain ⟨m, rfl⟩ := Int.eq_ofNat_of_zero_le (show 0 ≤ n by omega)
  rw [Int.toNat_natCast] at hs ⊢
  have hc := h.cap
  have hm := h.max
  unfold maxLen at hm
  have hi1 : m ≤ c := by omega
  have h2 := h.take (k := m) (by omega)
  generalize hv : numL (l.take m) = v at hs ⊢
  have Hv := Lib.hid hv
  clear hv
  have hi2 : m + v ≤ c := by omega
  obtain ⟨A1, hA1, h3⟩ : ∃ A1, (if c = m then A else Option.map (fun x => x.add m) A) = A1 ∧ Sl w A1 (k - m) (c - m) (l.drop m) := ⟨_, rfl, h.drop (by omega)⟩
  obtain ⟨A2, hA2, h4⟩ : ∃ A2, (if c = m + v then A else Option.map (fun x => x.add (m + v)) A) = A2 ∧ Sl w A2 (k - (m + v)) (c - (m + v)) (l.drop (m + v)) := ⟨_, rfl, h.drop (by omega)⟩
  have h5 := h3.take (k := v) (by omega)
  go_enter Tryz.func135, Tryz.ntmps135
  go_wp2_with (go_at_call 136; refine (number_any _ _ _ (l.take m) _ h2 (by omega)).mono ?_; rw [Hv.out]; rintro e w1 ⟨rfl, rfl⟩)
  go_quiet (fail)
  go_wp2
  · have hcm : c = m + v := by assumption
    subst hcm
    go_ret3
    rw [if_pos rfl] at hA2
    subst hA2
    rw [show m + v - m = v by omega] at h5
    rw [Nat.sub_self] at h4
    exact ⟨_, _, _, _, _, _, rfl, h5, h4, below_drewN (Below.refl _ _) _⟩
  · have hcm : ¬ c = m + v := by assumption
    go_ret3
    rw [if_neg hcm] at hA2
    subst hA2
    exact ⟨_, _, _, _, _, _, rfl, h5, h4, below_drewN (Below.refl _ _) _⟩
end Go.Proofs.YtgedmodnkiijkaaGreatDoor

namespace Go.Proofs.YtgedmodnkiijkaaGreatDoor
open Go Go.RowKit Go.Proofs

theorem tconv_sb (s : ByteArray) (w : World) : (convert 9 35 (.string s)).run Tryz.prog w = .ok (.slice (some ⟨w.heap.size, 0, none⟩) s.size (grownCap w s.size 0 5)) (Lib.bytesWorld w 5 s) :=
  Lib.run_convert_string_bytes w 9 35 5 s Tryz.underlying9 Tryz.underlying35 Tryz.underlying5

set_option maxHeartbeats 400000 in
theorem tputtext_yes (A : Option Addr) (k c : Nat) (l : List UInt8) (s : ByteArray) (w : World) (h : Sl w A k c l) (hk : k ≤ 17592186044416) (hs : s.size ≤ 255) :
    Calls Tryz.prog 125 #[.slice A k c, .string s] w fun e w' => ∃ A' n' c', e = .returned (.tuple #[.slice A' n' c', .int .i64 0]) ∧ Own w' w.heap.size 5 A' n' c' (l ++ (dig s.size 1 ++ s.data.toList)) ∧ Below w.heap.size w w' := by
  have Hl := Lib.hid h.len
  have hconv := tconv_sb s
  go_enter Tryz.func125, Tryz.ntmps125
  go_wp2_with (go_at_call 133; refine (digits_any s.size 1 _ (by omega) (by omega)).mono ?_; rintro e w1 ⟨A1, c1, rfl, hown1, hb1⟩)
  have hd := below_conv_sb w1 5 s
  have hx := sl_conv_sb w1 5 s (by unfold maxLen; omega)
  have hz := hb1.size
  have hz2 := hd.size
  have hsl := hown1.sl
  rw [show Int.toNat 1 = 1 from rfl] at hsl
  refine (join_any _ _ _ [l, dig s.size 1, s.data.toList] _ (parts3 35 ((h.below hb1).below hd) (hsl.below hd) hx) (by rw [tot3, dig_len, Hl.out]; simp; omega)).mono ?_
  rintro e w2 ⟨A2, n2, c2, rfl, hown2, hb2⟩
  go_wp2
  go_ret2
  rw [cat3] at hown2
  exact ⟨_, _, _, rfl, hown2.less (by simp; omega), hb1.trans ((hd.mono hz).trans (((Below.refl _ _).alloc (by omega) _).trans (hb2.mono (by simp; omega))))⟩

theorem tsplit_no (A : Option Addr) (k c : Nat) (l : List UInt8) (n : Int) (w : World) (h : Sl w A k c l) (h1 : 1 ≤ n) (h7 : n ≤ 6) (hw : ¬ WholeT l n.toNat) :
    Calls Tryz.prog 135 #[.slice A k c, .int .i64 n] w fun e w' => e = .returned (.tuple #[.slice none 0 0, .slice none 0 0, .bool false]) ∧ w = w' := by
  have hl := h.len
  rcases (by omega : (k : Int) < n ∨ n ≤ (k : Int)) with hk | hk
  · exact split_short A k c n w hk
  · refine split_cut A k c l n w h h1 h7 hk ?_
    unfold WholeT at hw
    rcases Nat.lt_or_ge k (n.toNat + numL (l.take n.toNat)) with h2 | h2
    · exact h2
    · exact absurd ⟨by omega, by omega⟩ hw

set_option maxHeartbeats 400000 in
theorem ttaketext_no (A : Option Addr) (k c : Nat) (l : List UInt8) (w : World) (h : Sl w A k c l) (hw : ¬ WholeT l 1) :
    Calls Tryz.prog 118 #[.slice A k c] w fun e w' => e = .returned (.tuple #[.string ⟨#[]⟩, .slice none 0 0, .int .i64 2]) ∧ w = w' := by
  have Hw := Lib.hid hw
  clear hw
  go_enter Tryz.func118, Tryz.ntmps118
  go_wp2_with (go_at_call 135; refine (tsplit_no _ _ _ l 1 _ h (by omega) (by omega) Hw.out).mono ?_; rintro e w1 ⟨rfl, rfl⟩)
  go_ret3
  exact ⟨rfl, rfl⟩
theorem tsplit_ok (A : Option Addr) (k c : Nat) (l : List UInt8) (n : Int) (w : World) (h : Sl w A k c l) (h1 : 1 ≤ n) (h7 : n ≤ 6) (hw : WholeT l n.toNat) :
    Calls Tryz.prog 135 #[.slice A k c, .int .i64 n] w fun e w' => ∃ A1 n1 c1 A2 n2 c2, e = .returned (.tuple #[.slice A1 n1 c1, .slice A2 n2 c2, .bool true]) ∧
      Sl w' A1 n1 c1 (bodyT l n.toNat) ∧ Sl w' A2 n2 c2 (restT l n.toNat) ∧ Below w.heap.size w w' := by
  have hl := h.len
  obtain ⟨ha, hb⟩ := hw
  exact split_yes A k c l n w h h1 h7 (by omega) (by omega)

set_option maxHeartbeats 1000000 in
theorem ttaketext_yes (A : Option Addr) (k c : Nat) (l : List UInt8) (w : World) (h : Sl w A k c l) (hk : k ≤ 17592186044416) (hw : WholeT l 1) :
    Calls Tryz.prog 118 #[.slice A k c] w fun e w' => ∃ A2 n2 c2, e = .returned (.tuple #[.string ⟨(bodyT l 1).toArray⟩, .slice A2 n2 c2, .int .i64 0]) ∧
      Own w' w.heap.size 5 A2 n2 c2 (restT l 1) ∧ Below w.heap.size w w' := by
  have Hl := Lib.hid h.len
  have Hw := Lib.hid hw
  clear hw
  have hle1 := bodyT_le l 1
  have hle2 := restT_le l 1
  go_enter Tryz.func118, Tryz.ntmps118
  go_wp2_with (go_at_call 135; refine (tsplit_ok _ _ _ l 1 _ h (by omega) (by omega) Hw.out).mono ?_; rintro e w1 ⟨A1, n1, c1, A2, n2, c2, rfl, h1, h2, hb1⟩)
  rw [show Int.toNat 1 = 1 from rfl] at h1 h2
  have hz := hb1.size
  have hc1 := convT (w := w1.drew) h1
  have hc2 : ∀ o, (convert 35 9 (.slice A1 n1 c1)).run Tryz.prog (w1.alloc o).drew = .ok (.string ⟨(bodyT l 1).toArray⟩) (w1.alloc o).drew := fun o => convT (w := (w1.alloc o).drew) (h1.alloc o)
  have hlen : (restT l 1).length ≤ 17592186044416 := by have := Hl.out; omega
  go_region_with (go_at_call 132; refine (join_any _ _ _ [restT l 1] _ (by first | exact parts1 (w := w1) 35 h2 | exact parts1 (w := w1.drew) 35 h2) (by rw [tot1]; omega)).mono ?_; rintro e w3 ⟨A3, n3, c3, rfl, hown3, hb3⟩; have hb3' : Below w1.heap.size w1 w3 := (by first | exact ((Below.refl _ w1).alloc (Nat.le_refl _) _).drew.trans (hb3.mono (by simp)) | exact ((Below.refl _ w1).drew.alloc (Nat.le_refl _) _).trans (hb3.mono (by simp))); have hc3 := convT (h1.below hb3'))
  all_goals
    go_wp2
    go_ret3
    rw [cat1] at hown3
    exact ⟨_, _, _, rfl, hown3.less (by simp; omega), hb1.trans (hb3'.mono hz)⟩
end Go.Proofs.YtgedmodnkiijkaaGreatDoor
