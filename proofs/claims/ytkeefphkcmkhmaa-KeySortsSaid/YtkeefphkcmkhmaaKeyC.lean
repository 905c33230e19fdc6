/- Keys: Take, the code's and the reference's. -/
import Derived.Test.YtkeefphkcmkhmaaKeyB
namespace Go.Proofs.Ytkeefphkcmkhmaa
open Go Go.RowKit Go.Proofs

/-- The key that bytes say. -/
def kdOf (l : List UInt8) : Kd := ⟨(numL (l.take 4) : Int), (numL ((l.drop 4).take 1) : Int), (numL ((l.drop 5).take 4) : Int)⟩
/-- P5.2's answer. -/
def ktY (l : List UInt8) : Bool := decide (9 ≤ l.length) && (kdOf l).may
def ktK (l : List UInt8) : Kd := if ktY l = true then kdOf l else ⟨0, 0, 0⟩
def ktR (l : List UInt8) : List UInt8 := if ktY l = true then l.drop 9 else []
def ktE (l : List UInt8) : Int := if ktY l = true then 0 else if l.length < 9 then 2 else 3
theorem kt_short {l : List UInt8} (h : l.length < 9) : ktK l = ⟨0, 0, 0⟩ ∧ ktR l = [] ∧ ktE l = 2 := by
  have hy : ktY l = false := by unfold ktY; rw [decide_eq_false (by omega)]; rfl
  unfold ktK ktR ktE
  rw [hy, if_pos h]
  exact ⟨rfl, rfl, rfl⟩
theorem kt_no {l : List UInt8} (h : ¬ l.length < 9) (hm : (kdOf l).may = false) : ktK l = ⟨0, 0, 0⟩ ∧ ktR l = [] ∧ ktE l = 3 := by
  have hy : ktY l = false := by unfold ktY; rw [hm, Bool.and_false]
  unfold ktK ktR ktE
  rw [hy, if_neg h]
  exact ⟨rfl, rfl, rfl⟩
theorem kt_yes {l : List UInt8} (h : ¬ l.length < 9) (hm : (kdOf l).may = true) : ktK l = kdOf l ∧ ktR l = l.drop 9 ∧ ktE l = 0 := by
  have hy : ktY l = true := by unfold ktY; rw [hm, decide_eq_true (by omega)]; rfl
  unfold ktK ktR ktE
  rw [hy]
  exact ⟨rfl, rfl, rfl⟩
theorem drop54 (l : List UInt8) : (l.drop (4 : Int).toNat).drop (1 : Int).toNat = l.drop 5 := by rw [List.drop_drop]; rfl
theorem drop95 (l : List UInt8) : (l.drop 5).drop (4 : Int).toNat = l.drop 9 := by rw [List.drop_drop]; rfl
theorem ktake_says (A : Option Addr) (k c : Nat) (l : List UInt8) (n : Int) (m : Nat) (w : World) (h : Sl w A k c l) (hk : k ≤ 17592186044416) (h1 : 1 ≤ n) (h7 : n ≤ 7) (hn : n ≤ (k : Int)) (hm : m = k - n.toNat) :
    Calls Try.prog 27 #[.slice A k c, .int .i64 n] w fun e w' => ∃ A' c', e = .returned (.tuple #[.int .i64 (numL (l.take n.toNat)), .slice A' m c', .int .i64 0]) ∧ Own w' w.heap.size 5 A' m c' (l.drop n.toNat) ∧ Below w.heap.size w w' := by
  refine (take_yes A k c l n w h hk h1 h7 hn).mono ?_
  rintro e w' ⟨A', n', c', rfl, own, hb⟩
  have := own.len
  rw [List.length_drop, h.len] at this
  obtain rfl : n' = m := by omega
  exact ⟨A', c', rfl, own, hb⟩
theorem refktake_says (A : Option Addr) (k c : Nat) (l : List UInt8) (n : Int) (m : Nat) (w : World) (h : Sl w A k c l) (hk : k ≤ 17592186044416) (h1 : 1 ≤ n) (h7 : n ≤ 7) (hn : n ≤ (k : Int)) (hm : m = k - n.toNat) :
    Calls Try.prog 28 #[.slice A k c, .int .i64 n] w fun e w' => ∃ A' c', e = .returned (.tuple #[.int .i64 (numL (l.take n.toNat)), .slice A' m c', .int .i64 0]) ∧ Own w' w.heap.size 5 A' m c' (l.drop n.toNat) ∧ Below w.heap.size w w' := by
  refine (reftake_yes A k c l n w h hk h1 h7 hn).mono ?_
  rintro e w' ⟨A', n', c', rfl, own, hb⟩
  have := own.len
  rw [List.length_drop, h.len] at this
  obtain rfl : n' = m := by omega
  exact ⟨A', c', rfl, own, hb⟩

set_option maxHeartbeats 2000000 in
theorem ktake_any (A : Option Addr) (n c : Nat) (l : List UInt8) (w : World) (h : Sl w A n c l) (hn : n ≤ 17592186044416) :
    Calls Try.prog 18 #[.slice A n c] w fun e w' => ∃ A' n' c', e = .returned (.tuple #[(ktK l).v, .slice A' n' c', .int .i64 (ktE l)]) ∧ Own w' w.heap.size 5 A' n' c' (ktR l) ∧ Below w.heap.size w w' := by
  have hlen := Lib.hid h.len
  have hB0 : ∀ o, Below w.heap.size w (w.alloc o) := fun o => (Below.refl _ _).alloc (Nat.le_refl _) o
  by_cases h9 : n < 9
  · obtain ⟨e1, e2, e3⟩ := kt_short (l := l) (by rw [hlen.out]; exact h9)
    rw [e1, e2, e3]
    go_enter Try.func18, Try.ntmps18
    go_wp2
    refine bodyPost_ret (res_c3 Try.results18 rfl (load_kd (KB.new w 0 0 0 _))) rfl ?_
    exact ⟨_, _, _, rfl, own_none _ _ _, hB0 _⟩
  · have hnl : ¬ l.length < 9 := by rw [hlen.out]; exact h9
    go_enter Try.func18, Try.ntmps18
    go_wp2_with fail
    have R2 : KB ((w.alloc (.cells #[.int .i64 0, .int .i64 0, .int .i64 0] 23)).alloc (.cells #[.int .i64 0, .int .i64 0, .int .i64 0] 23)) w.heap.size ⟨0, 0, 0⟩ := (KB.new w 0 0 0 _).below ((Below.refl _ _).alloc (Nat.le_refl _) _) (by simp)
    have K2 : KB ((w.alloc (.cells #[.int .i64 0, .int .i64 0, .int .i64 0] 23)).alloc (.cells #[.int .i64 0, .int .i64 0, .int .i64 0] 23)) (w.heap.size + 1) ⟨0, 0, 0⟩ := by
      have := KB.new (w.alloc (.cells #[.int .i64 0, .int .i64 0, .int .i64 0] 23)) 0 0 0 23
      rwa [World.size_alloc] at this
    have B2 : Below w.heap.size w ((w.alloc (.cells #[.int .i64 0, .int .i64 0, .int .i64 0] 23)).alloc (.cells #[.int .i64 0, .int .i64 0, .int .i64 0] 23)) := (hB0 _).alloc (by simp) _
    generalize (w.alloc (.cells #[.int .i64 0, .int .i64 0, .int .i64 0] 23)).alloc (.cells #[.int .i64 0, .int .i64 0, .int .i64 0] 23) = w2 at R2 K2 B2 ⊢
    have h2 := h.below B2
    have z2 := K2.lt
    refine (ktake_says A n c l 4 (n - 4) w2 h2 hn (by omega) (by omega) (by omega) rfl).mono ?_
    rintro e w3 ⟨A3, c3, rfl, own3, hb3⟩
    have R3 := R2.below hb3 R2.lt
    have K3 := K2.below hb3 z2
    have B3 := B2.trans (hb3.mono B2.size)
    clear R2 K2 h2 hb3
    have q0 := K3.c0
    have f0 := K3.fz 0
    have o3 := own3.less (show w.heap.size + 2 ≤ w2.heap.size by omega)
    obtain ⟨X, hX⟩ : ∃ X, numL (l.take (4 : Int).toNat) = X := ⟨_, rfl⟩
    rw [hX]
    clear own3 z2
    go_wp2_with fail
    have K4 := K3.set0 (X : Int)
    have R4 := R3.keep (w' := w3.setCell ⟨w.heap.size + 1, 0, none⟩ (.int .i64 (X : Int))) (Below.heap_setCell _ _ _ _ (by show w.heap.size ≠ w.heap.size + 1; omega))
    have o4 := o3.keep (w' := w3.setCell ⟨w.heap.size + 1, 0, none⟩ (.int .i64 (X : Int))) (fun g hg _ => Below.heap_setCell _ _ _ _ (by show g ≠ w.heap.size + 1; omega))
    have B4 := B3.setCell (p := ⟨w.heap.size + 1, 0, none⟩) (show w.heap.size ≤ w.heap.size + 1 by omega) (.int .i64 (X : Int))
    clear q0 f0
    generalize w3.setCell ⟨w.heap.size + 1, 0, none⟩ (.int .i64 (X : Int)) = w4 at K4 R4 o4 B4 ⊢
    have z4 := K4.lt
    refine (ktake_says A3 (n - 4) c3 _ 1 (n - 5) w4 o4.sl (by omega) (by omega) (by omega) (by omega) rfl).mono ?_
    rw [drop54]
    rintro e w5 ⟨A5, c5, rfl, own5, hb5⟩
    have R5 := R4.below hb5 R4.lt
    have K5 := K4.below hb5 z4
    have B5 := B4.trans (hb5.mono B4.size)
    have q0 := K5.c1
    have f0 := K5.fz 1
    have o5 := own5.less (show w.heap.size + 2 ≤ w4.heap.size by omega)
    obtain ⟨Y, hY⟩ : ∃ Y, numL ((l.drop (4 : Int).toNat).take (1 : Int).toNat) = Y := ⟨_, rfl⟩
    rw [hY]
    clear own5 z4 R3 K3 B3 R4 K4 B4 o3 o4 hb5
    go_wp2_with fail
    have K6 := K5.set1 (Y : Int)
    have R6 := R5.keep (w' := w5.setCell ⟨w.heap.size + 1, 1, none⟩ (.int .i64 (Y : Int))) (Below.heap_setCell _ _ _ _ (by show w.heap.size ≠ w.heap.size + 1; omega))
    have o6 := o5.keep (w' := w5.setCell ⟨w.heap.size + 1, 1, none⟩ (.int .i64 (Y : Int))) (fun g hg _ => Below.heap_setCell _ _ _ _ (by show g ≠ w.heap.size + 1; omega))
    have B6 := B5.setCell (p := ⟨w.heap.size + 1, 1, none⟩) (show w.heap.size ≤ w.heap.size + 1 by omega) (.int .i64 (Y : Int))
    clear q0 f0
    generalize w5.setCell ⟨w.heap.size + 1, 1, none⟩ (.int .i64 (Y : Int)) = w6 at K6 R6 o6 B6 ⊢
    have z6 := K6.lt
    refine (ktake_says A5 (n - 5) c5 _ 4 (n - 9) w6 o6.sl (by omega) (by omega) (by omega) (by omega) rfl).mono ?_
    rw [drop95]
    rintro e w7 ⟨A7, c7, rfl, own7, hb7⟩
    have R7 := R6.below hb7 R6.lt
    have K7 := K6.below hb7 z6
    have B7 := B6.trans (hb7.mono B6.size)
    have q0 := K7.c2
    have f0 := K7.fz 2
    have o7 := own7.less (show w.heap.size + 2 ≤ w6.heap.size by omega)
    obtain ⟨U, hU⟩ : ∃ U, numL ((l.drop 5).take (4 : Int).toNat) = U := ⟨_, rfl⟩
    rw [hU]
    have hK : kdOf l = ⟨(X : Int), (Y : Int), (U : Int)⟩ := by rw [← hX, ← hY, ← hU]; rfl
    clear own7 z6 R5 K5 B5 R6 K6 B6 o5 o6 hb7
    have K8 := K7.set2 (U : Int)
    have R8 := R7.keep (w' := w7.setCell ⟨w.heap.size + 1, 2, none⟩ (.int .i64 (U : Int))) (Below.heap_setCell _ _ _ _ (by show w.heap.size ≠ w.heap.size + 1; omega))
    have o8 := o7.keep (w' := w7.setCell ⟨w.heap.size + 1, 2, none⟩ (.int .i64 (U : Int))) (fun g hg _ => Below.heap_setCell _ _ _ _ (by show g ≠ w.heap.size + 1; omega))
    have B8 := B7.setCell (p := ⟨w.heap.size + 1, 2, none⟩) (show w.heap.size ≤ w.heap.size + 1 by omega) (.int .i64 (U : Int))
    go_wp2_with (first
      | (refine wp_load_kd rfl (.tmp 5) rfl (w.heap.size + 1) rfl ⟨(X : Int), (Y : Int), (U : Int)⟩ K8 ?_)
      | fail)
    clear q0 f0 K7 R7 o7 B7
    generalize w7.setCell ⟨w.heap.size + 1, 2, none⟩ (.int .i64 (U : Int)) = w8 at K8 R8 o8 B8 ⊢
    have z8 := K8.lt
    refine (may_any ⟨(X : Int), (Y : Int), (U : Int)⟩ w8).mono ?_
    obtain ⟨b, hb⟩ : ∃ b, (⟨(X : Int), (Y : Int), (U : Int)⟩ : Kd).may = b := ⟨_, rfl⟩
    have hm : (kdOf l).may = b := by rw [hK, hb]
    rw [hb]
    cases b
    · obtain ⟨e1, e2, e3⟩ := kt_no hnl hm
      rintro e w9 ⟨rfl, hb9⟩
      have R9 := R8.below hb9 R8.lt
      have B9 := B8.trans (hb9.mono B8.size)
      go_wp2_with (first
        | (refine wp_store_kd rfl (.tmp 2) (.tmp 34) rfl w.heap.size rfl ⟨0, 0, 0⟩ _ rfl R9 ?_; intro wz Rz Tz)
        | fail)
      refine bodyPost_ret (res_c3 Try.results18 rfl (load_kd Rz)) rfl ?_
      rw [e1, e2, e3]
      exact ⟨_, _, _, rfl, own_none _ _ _, B9.trans (Tz.belowOne R9.lt)⟩
    · obtain ⟨e1, e2, e3⟩ := kt_yes hnl hm
      rintro e w9 ⟨rfl, hb9⟩
      have R9 := R8.below hb9 R8.lt
      have K9 := K8.below hb9 z8
      have B9 := B8.trans (hb9.mono B8.size)
      have o9 := o8.below hb9
      go_wp2_with (first
        | (refine wp_load_kd rfl (.tmp 5) rfl (w.heap.size + 1) rfl ⟨(X : Int), (Y : Int), (U : Int)⟩ K9 ?_)
        | (refine wp_store_kd rfl (.tmp 2) (.tmp 35) rfl w.heap.size rfl ⟨(X : Int), (Y : Int), (U : Int)⟩ _ rfl R9 ?_; intro wz Rz Tz)
        | fail)
      rw [← hK] at Rz
      refine bodyPost_ret (res_c3 Try.results18 rfl (load_kd Rz)) rfl ?_
      rw [e1, e2, e3]
      refine ⟨A7, n - 9, c7, rfl, ?_, B9.trans (Tz.belowOne R9.lt)⟩
      exact (o9.keep fun g hg hl => Tz.block g hl (by show ¬ g = w.heap.size; omega)).less (by omega)

set_option maxHeartbeats 2000000 in
theorem refktake_any (A : Option Addr) (n c : Nat) (l : List UInt8) (w : World) (h : Sl w A n c l) (hn : n ≤ 17592186044416) :
    Calls Try.prog 19 #[.slice A n c] w fun e w' => ∃ A' n' c', e = .returned (.tuple #[(ktK l).v, .slice A' n' c', .int .i64 (ktE l)]) ∧ Own w' w.heap.size 5 A' n' c' (ktR l) ∧ Below w.heap.size w w' := by
  have hlen := Lib.hid h.len
  have hB0 : ∀ o, Below w.heap.size w (w.alloc o) := fun o => (Below.refl _ _).alloc (Nat.le_refl _) o
  by_cases h9 : n < 9
  · obtain ⟨e1, e2, e3⟩ := kt_short (l := l) (by rw [hlen.out]; exact h9)
    rw [e1, e2, e3]
    go_enter Try.func19, Try.ntmps19
    go_wp2
    refine bodyPost_ret (res_c3 Try.results19 rfl (load_kd (KB.new w 0 0 0 _))) rfl ?_
    exact ⟨_, _, _, rfl, own_none _ _ _, hB0 _⟩
  · have hnl : ¬ l.length < 9 := by rw [hlen.out]; exact h9
    go_enter Try.func19, Try.ntmps19
    go_wp2_with fail
    have R2 := KB.new w 0 0 0 23
    have B2 : Below w.heap.size w (w.alloc (.cells #[.int .i64 0, .int .i64 0, .int .i64 0] 23)) := hB0 _
    generalize w.alloc (.cells #[.int .i64 0, .int .i64 0, .int .i64 0] 23) = w2 at R2 B2 ⊢
    have h2 := h.below B2
    refine (refktake_says A n c l 4 (n - 4) w2 h2 hn (by omega) (by omega) (by omega) rfl).mono ?_
    rintro e w3 ⟨A3, c3, rfl, own3, hb3⟩
    have R3 := R2.below hb3 R2.lt
    have B3 := B2.trans (hb3.mono B2.size)
    obtain ⟨X, hX⟩ : ∃ X, numL (l.take (4 : Int).toNat) = X := ⟨_, rfl⟩
    rw [hX]
    clear R2 h2 hb3
    go_wp2_with fail
    refine (refktake_says A3 (n - 4) c3 _ 1 (n - 5) w3 own3.sl (by omega) (by omega) (by omega) (by omega) rfl).mono ?_
    rw [drop54]
    rintro e w5 ⟨A5, c5, rfl, own5, hb5⟩
    have R5 := R3.below hb5 R3.lt
    have B5 := B3.trans (hb5.mono B3.size)
    obtain ⟨Y, hY⟩ : ∃ Y, numL ((l.drop (4 : Int).toNat).take (1 : Int).toNat) = Y := ⟨_, rfl⟩
    rw [hY]
    clear hb5 own3 R3
    go_wp2_with fail
    have z5 := R5.lt
    refine (refktake_says A5 (n - 5) c5 _ 4 (n - 9) w5 own5.sl (by omega) (by omega) (by omega) (by omega) rfl).mono ?_
    rw [drop95]
    rintro e w7 ⟨A7, c7, rfl, own7, hb7⟩
    have R7 := R5.below hb7 z5
    have B7 := B5.trans (hb7.mono B5.size)
    have o7 := own7.less (show w.heap.size + 1 ≤ w5.heap.size by omega)
    obtain ⟨U, hU⟩ : ∃ U, numL ((l.drop 5).take (4 : Int).toNat) = U := ⟨_, rfl⟩
    rw [hU]
    have hK : kdOf l = ⟨(X : Int), (Y : Int), (U : Int)⟩ := by rw [← hX, ← hY, ← hU]; rfl
    clear own7 z5 R5 B5 hb7 own5
    have K8 := KB.new w7 (X : Int) (Y : Int) (U : Int) 23
    have b78 : Below w7.heap.size w7 (w7.alloc (.cells #[.int .i64 (X : Int), .int .i64 (Y : Int), .int .i64 (U : Int)] 23)) := (Below.refl _ _).alloc (Nat.le_refl _) _
    go_wp2_with (first
      | (refine wp_load_kd rfl (.tmp 12) rfl w7.heap.size rfl ⟨(X : Int), (Y : Int), (U : Int)⟩ K8 ?_)
      | fail)
    have R8 := R7.below b78 R7.lt
    have o8 := o7.below b78
    have B8 := B7.trans (b78.mono B7.size)
    clear R7 o7 B7 b78
    generalize w7.alloc (.cells #[.int .i64 (X : Int), .int .i64 (Y : Int), .int .i64 (U : Int)] 23) = w8 at K8 R8 o8 B8 ⊢
    have z8 := K8.lt
    refine (refmay_any ⟨(X : Int), (Y : Int), (U : Int)⟩ w8).mono ?_
    obtain ⟨b, hb⟩ : ∃ b, (⟨(X : Int), (Y : Int), (U : Int)⟩ : Kd).may = b := ⟨_, rfl⟩
    have hm : (kdOf l).may = b := by rw [hK, hb]
    rw [hb]
    cases b
    · obtain ⟨e1, e2, e3⟩ := kt_no hnl hm
      rintro e w9 ⟨rfl, hb9⟩
      have R9 := R8.below hb9 R8.lt
      have B9 := B8.trans (hb9.mono B8.size)
      go_wp2_with (first
        | (refine wp_store_kd rfl (.tmp 2) (.tmp 44) rfl w.heap.size rfl ⟨0, 0, 0⟩ _ rfl R9 ?_; intro wz Rz Tz)
        | fail)
      refine bodyPost_ret (res_c3 Try.results19 rfl (load_kd Rz)) rfl ?_
      rw [e1, e2, e3]
      exact ⟨_, _, _, rfl, own_none _ _ _, B9.trans (Tz.belowOne R9.lt)⟩
    · obtain ⟨e1, e2, e3⟩ := kt_yes hnl hm
      rintro e w9 ⟨rfl, hb9⟩
      have R9 := R8.below hb9 R8.lt
      have K9 := K8.below hb9 z8
      have B9 := B8.trans (hb9.mono B8.size)
      have o9 := o8.below hb9
      go_wp2_with (first
        | (refine wp_load_kd rfl (.tmp 12) rfl w7.heap.size rfl ⟨(X : Int), (Y : Int), (U : Int)⟩ K9 ?_)
        | (refine wp_store_kd rfl (.tmp 2) (.tmp 45) rfl w.heap.size rfl ⟨(X : Int), (Y : Int), (U : Int)⟩ _ rfl R9 ?_; intro wz Rz Tz)
        | fail)
      rw [← hK] at Rz
      refine bodyPost_ret (res_c3 Try.results19 rfl (load_kd Rz)) rfl ?_
      rw [e1, e2, e3]
      refine ⟨A7, n - 9, c7, rfl, ?_, B9.trans (Tz.belowOne R9.lt)⟩
      exact (o9.keep fun g hg hl => Tz.block g hl (by show ¬ g = w.heap.size; omega)).less (by omega)

end Go.Proofs.Ytkeefphkcmkhmaa
