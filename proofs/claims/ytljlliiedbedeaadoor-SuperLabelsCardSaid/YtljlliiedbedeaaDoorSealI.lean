/- The reference's May and Seal. -/
import Derived.Test.YtljlliiedbedeaaDoorPkS
import Derived.Test.YtljlliiedbedeaaDoorPkE
namespace Go.Proofs.YtljlliiedbedeaaDoor
open Go Go.RowKit Go.Proofs

set_option maxRecDepth 10000 in
set_option maxHeartbeats 4000000 in
theorem refmay_any (h : Hd) (w : World) :
    Calls Tryd.prog 39 #[.agg #[.int .i64 h.kind, .int .i64 h.addr, .int .i64 h.count, .int .i64 h.level, .int .i64 h.gen]] w fun e w' => e = .returned (.bool h.ok) ∧ Below w.heap.size w w' := by
  obtain ⟨b, hb⟩ : ∃ b, h.ok = b := ⟨_, rfl⟩
  rw [hb]
  unfold Hd.ok at hb
  go_enter Tryd.func39, Tryd.ntmps39
  go_wp2
  all_goals
    go_ret
    refine ⟨?_, (Below.refl _ _).alloc (Nat.le_refl _) _⟩
    rw [← hb]
    first
      | exact congrArg (fun x => Ending.returned (Value.bool x)) (decide_eq_false (by omega)).symm
      | exact congrArg (fun x => Ending.returned (Value.bool x)) (show decide (h.gen ≤ 1099511627775) = _ from decide_eq_decide.2 (by omega))

/-- A row and k noughts behind it. Kept shut. -/
def filR (X : List UInt8) (k : Nat) : List UInt8 := X ++ List.replicate k 0
theorem filR_next (l : List UInt8) (k : Nat) : filR l k ++ [0] = filR l (k + 1) := by
  unfold filR
  rw [List.replicate_succ', List.append_assoc]
theorem filR_zero (l : List UInt8) : filR l 0 = l := by simp [filR]
/-- A slice's length. -/
def lenV : Value → Nat
  | .slice _ n _ => n
  | _ => 0
theorem put_in (l : List UInt8) (x n : Int) (h1 : 1 ≤ n) (h2 : n ≤ 8) : putS l x n = l ++ dig x n.toNat := if_pos ⟨h1, h2⟩
set_option maxRecDepth 10000 in
set_option maxHeartbeats 4000000 in
theorem refseal_any (h : Hd) (A : Option Addr) (n c : Nat) (l : List UInt8) (w : World) (hs : Sl w A n c l) :
    Calls Tryd.prog 27 #[.agg #[.int .i64 h.kind, .int .i64 h.addr, .int .i64 h.count, .int .i64 h.level, .int .i64 h.gen], .slice A n c] w fun e w' =>
      ∃ A' n' c', e = .returned (.tuple #[.slice A' n' c', .int .i64 (sealE h l)]) ∧ Sl w' A' n' c' (sealB h l) ∧ Below w.heap.size w w' := by
  have hlen := hs.len
  have hcap := hs.cap
  have hm := hs.max
  unfold maxLen at hm
  by_cases hok : h.ok = true
  · by_cases hl : l.length ≤ 236
    · have hE : sealE h l = 0 := by unfold sealE; rw [if_pos hok, if_pos hl]
      have hB : sealB h l = blkL h l := by unfold sealB; rw [if_pos hok, if_pos hl]
      rw [hE, hB]
      have hn : ¬ (236 : Int) < (n : Int) := by omega
      go_enter Tryd.func27, Tryd.ntmps27
      go_wp2_with fail
      refine (refmay_any h _).mono ?_
      rw [hok]
      rintro e w2 ⟨rfl, hb2⟩
      have H2 : HB w2 w.heap.size h := HB.below ⟨_, heap_alloc_new w _⟩ hb2 (by simp)
      have hB2 : Below w.heap.size w w2 := ((Below.refl _ _).alloc (Nat.le_refl _) _).trans (hb2.mono (by simp))
      have hz2 := hb2.size
      rw [World.size_alloc] at hz2
      clear hb2
      have q2 : w2.cell? ⟨w.heap.size, 0, none⟩ = some (.int .i64 h.kind) := H2.at_ 0
      go_wp2_with fail
      refine (refput_any none 0 0 _ h.kind 1 w2 (sl_nil _) (by omega)).mono ?_
      rw [put_in _ _ 1 (by omega) (by omega)]
      rintro e w3 ⟨A3, n3, c3, rfl, own3, hb⟩
      have H3 := H2.below hb (by omega)
      have hB3 := hB2.trans (hb.mono hB2.size)
      have hz3 := hb.size
      have hn3 : n3 ≤ 1 := by have := own3.len; simp [dig_len] at this; omega
      clear hb H2
      have q3 : w3.cell? ⟨w.heap.size, 3, none⟩ = some (.int .i64 h.level) := H3.at_ 1
      go_wp2_with fail
      refine (refput_any A3 n3 c3 _ h.level 1 w3 own3.sl (by omega)).mono ?_
      rw [put_in _ _ 1 (by omega) (by omega)]
      rintro e w4 ⟨A4, n4, c4, rfl, own4, hb⟩
      have H4 := H3.below hb (by omega)
      have hB4 := hB3.trans (hb.mono hB3.size)
      have hz4 := hb.size
      have hn4 : n4 ≤ 2 := by have := own4.len; simp [dig_len] at this; omega
      clear hb H3
      have q4 : w4.cell? ⟨w.heap.size, 1, none⟩ = some (.int .i64 h.addr) := H4.at_ 2
      go_wp2_with fail
      refine (refput_any A4 n4 c4 _ h.addr 2 w4 own4.sl (by omega)).mono ?_
      rw [put_in _ _ 2 (by omega) (by omega)]
      rintro e w5 ⟨A5, n5, c5, rfl, own5, hb⟩
      have H5 := H4.below hb (by omega)
      have hB5 := hB4.trans (hb.mono hB4.size)
      have hz5 := hb.size
      have hn5 : n5 ≤ 4 := by have := own5.len; simp [dig_len] at this; omega
      clear hb H4
      have q5 : w5.cell? ⟨w.heap.size, 2, none⟩ = some (.int .i64 h.count) := H5.at_ 3
      go_wp2_with fail
      refine (refput_any A5 n5 c5 _ h.count 2 w5 own5.sl (by omega)).mono ?_
      rw [put_in _ _ 2 (by omega) (by omega)]
      rintro e w6 ⟨A6, n6, c6, rfl, own6, hb⟩
      have H6 := H5.below hb (by omega)
      have hB6 := hB5.trans (hb.mono hB5.size)
      have hz6 := hb.size
      have hn6 : n6 ≤ 6 := by have := own6.len; simp [dig_len] at this; omega
      clear hb H5
      have q6 : w6.cell? ⟨w.heap.size, 4, none⟩ = some (.int .i64 h.gen) := H6.at_ 4
      go_wp2_with fail
      refine (refput_any A6 n6 c6 _ h.gen 5 w6 own6.sl (by omega)).mono ?_
      rw [put_in _ _ 5 (by omega) (by omega)]
      rintro e w7 ⟨A7, n7, c7, rfl, own7, hb⟩
      have H7 := H6.below hb (by omega)
      have hB7 := hB6.trans (hb.mono hB6.size)
      have hz7 := hb.size
      have hn7 : n7 ≤ 11 := by have := own7.len; simp [dig_len] at this; omega
      clear hb H6
      go_wp2_with fail
      refine (refput_any A7 n7 c7 _ 0 5 w7 own7.sl (by omega)).mono ?_
      rw [put_in _ _ 5 (by omega) (by omega)]
      rintro e w8 ⟨A8, n8, c8, rfl, own8, hb⟩
      have hB8 := hB7.trans (hb.mono hB7.size)
      have own8 := own8.less hB7.size
      have hs8 := hs.below hB8
      have e8 : ([] ++ dig h.kind (1 : Int).toNat ++ dig h.level (1 : Int).toNat ++ dig h.addr (2 : Int).toNat ++ dig h.count (2 : Int).toNat ++ dig h.gen (5 : Int).toNat ++ dig 0 (5 : Int).toNat) = hdB h ++ List.replicate 5 0 := by
        rw [show dig 0 (5 : Int).toNat = List.replicate 5 0 by rfl]
        simp [hdB]
      rw [e8] at own8
      have hn8 : n8 = 16 := by have := own8.len; simp [hdB_len] at this; omega
      subst hn8
      have hz8 := hB8.size
      clear e8 H7
      obtain ⟨P, hP⟩ : ∃ P, hdB h ++ List.replicate 5 0 = P := ⟨_, rfl⟩
      rw [hP] at own8
      go_wp2_with (at_builtin; refine wp_append_b _ T22 rfl _ _ rfl w.heap.size A8 16 c8 P rfl own8 A n c l rfl hs8 (by omega) hz8 ?_)
      intro A9 c9 w9 own9 hb9
      have hB9 := hB8.trans hb9
      go_wp2_with fail
      have hpl : P.length = 16 := by rw [← hP]; simp [hdB_len]
      obtain ⟨X, hX⟩ : ∃ X, P ++ l = X := ⟨_, rfl⟩
      rw [hX] at own9
      go_loopw [7] (fun s wr => ∃ (k : Nat) (A : Option Addr) (m c : Nat), k ≤ 236 - l.length ∧ s = .slice A m c ∧ 16 + n + k ≤ m ∧ m ≤ 16 + n + k ∧ Own wr w.heap.size 5 A m c (filR X k) ∧ Below w.heap.size w wr) (fun s _ => 252 - lenV s)
      case atStart => exact ⟨0, A9, 16 + n, c9, by omega, rfl, by omega, by omega, by rw [filR_zero]; exact own9, hB9⟩
      case round =>
        obtain ⟨k, A', m, c', hk, rfl, hmk, hmk2, hown, hB⟩ := hrel
        by_cases hlt : m < 252
        · have hone := own_one wr 5 0 (.int .u8 0) rfl
          have hown' := hown.alloc (.cells #[.int .u8 0] 5)
          have hzr := hB.size
          go_wp2_with (at_builtin; refine wp_append_b _ T22 rfl _ _ rfl w.heap.size _ _ _ _ rfl hown' _ _ _ _ rfl hone.sl (by omega) (by simp; omega) ?_)
          intro A2 c2 w2 hown2 hb2
          have hb2 := below_new _ hb2 hzr
          rw [filR_next] at hown2
          go_wp2
          exact ⟨⟨k + 1, _, _, _, by omega, rfl, by omega, by omega, hown2, hB.trans hb2⟩, by simp [lenV]; omega⟩
        · have hR : filR X k = restL h l := by
            rw [show k = 236 - l.length by omega, ← hX, ← hP]; unfold restL filR; simp
          rw [hR] at hown
          have hs' := hown.sl
          obtain rfl : m = 252 := by omega
          clear hmk hmk2 hk
          have hlt' := more_lt 0 (restL h l)
          obtain ⟨S, hS⟩ : ∃ S, more 0 (restL h l) = S := ⟨_, rfl⟩
          rw [hS] at hlt'
          go_wp2_with fail
          refine (refsum_any A' 252 c' _ wr hs').mono ?_
          rw [hS]
          rintro e wx ⟨rfl, rfl⟩
          go_wp2_with fail
          refine (refput_any none 0 0 [] (S : Int) 4 wr (sl_nil _) (by omega)).mono ?_
          rw [put_in _ _ 4 (by omega) (by omega)]
          rintro e w5 ⟨A5, n5, c5, rfl, own5, hb5⟩
          have hn5 : n5 = 4 := by have := own5.len; simp [dig_len] at this; omega
          subst hn5
          have hz5 := hb5.size
          have hs5 := hs'.below hb5
          go_wp2_with (at_builtin; refine wp_append_b _ T22 rfl _ _ rfl wr.heap.size _ _ _ _ rfl own5 A' 252 c' _ rfl hs5 (by omega) hz5 ?_)
          intro A6 c6 w6 own6 hb6
          go_wp2
          go_ret2
          have hfin : dig (S : Int) 4 ++ restL h l = blkL h l := by unfold blkL; rw [hS]
          rw [hfin] at own6
          exact ⟨_, _, _, rfl, own6.sl, hB.trans ((hb5.trans hb6).mono hB.size)⟩
    · have hE : sealE h l = 7 := by unfold sealE; rw [if_pos hok, if_neg hl]
      have hB : sealB h l = [] := by unfold sealB; rw [if_pos hok, if_neg hl]
      rw [hE, hB]
      have hn : (236 : Int) < (n : Int) := by omega
      go_enter Tryd.func27, Tryd.ntmps27
      go_wp2_with (first
        | (go_at_call 39; refine (refmay_any h _).mono ?_; rw [hok]; rintro e w2 ⟨rfl, hb2⟩)
        | fail)
      go_ret2
      exact ⟨_, _, _, rfl, sl_nil _, ((Below.refl _ _).alloc (Nat.le_refl _) _).trans (hb2.mono (by simp))⟩
  · have hok' : h.ok = false := by simpa using hok
    have hE : sealE h l = 1 := by unfold sealE; rw [if_neg hok]
    have hB : sealB h l = [] := by unfold sealB; rw [if_neg hok]
    rw [hE, hB]
    go_enter Tryd.func27, Tryd.ntmps27
    go_wp2_with (first
      | (go_at_call 39; refine (refmay_any h _).mono ?_; rw [hok']; rintro e w2 ⟨rfl, hb2⟩)
      | fail)
    go_ret2
    exact ⟨_, _, _, rfl, sl_nil _, ((Below.refl _ _).alloc (Nat.le_refl _) _).trans (hb2.mono (by simp))⟩
end Go.Proofs.YtljlliiedbedeaaDoor
