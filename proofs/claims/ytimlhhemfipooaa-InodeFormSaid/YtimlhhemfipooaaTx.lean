/- The reference's take and TakeText alone (as E15 and E16 have them, under names of their own). -/
import Derived.Test.YtimlhhemfipooaaE14
import Derived.Deep.RegionLaw
namespace Go.Proofs.Ytimlhhemfipooaa
open Go Go.RowKit Go.Proofs

theorem convT {w : World} {A : Option Addr} {n c : Nat} {l : List UInt8} (h : Sl w A n c l) : (convert 26 9 (.slice A n c)).run Try.prog w = .ok (.string ⟨l.toArray⟩) w :=
  run_conv_bs 26 9 5 T22 Try.underlying5 Try.underlying9 h
def WholeT (l : List UInt8) (m : Nat) : Prop := m ≤ l.length ∧ m + numL (l.take m) ≤ l.length
def bodyT (l : List UInt8) (m : Nat) : List UInt8 := (l.drop m).take (numL (l.take m))
def restT (l : List UInt8) (m : Nat) : List UInt8 := l.drop (m + numL (l.take m))
theorem bodyT_le (l : List UInt8) (m : Nat) : (bodyT l m).length ≤ l.length := by unfold bodyT; simp; omega
theorem restT_le (l : List UInt8) (m : Nat) : (restT l m).length ≤ l.length := by unfold restT; simp
set_option maxHeartbeats 400000 in
theorem treftk_no (A : Option Addr) (k c : Nat) (l : List UInt8) (n : Int) (w : World) (h : Sl w A k c l) (hk : k ≤ 17592186044416) (h1 : 1 ≤ n) (h7 : n ≤ 6) (hw : ¬ WholeT l n.toNat) :
    Calls Try.prog 48 #[.slice A k c, .int .i64 n] w fun e w' => e = .returned (.tuple #[.slice none 0 0, .slice none 0 0, .int .i64 2]) ∧ Below w.heap.size w w' := by
  have hl := h.len
  by_cases hs : (k : Int) < n
  · clear hw
    have Hl := Lib.hid hl
    clear hl
    go_enter Try.func48, Try.ntmps48
    go_wp2_with (go_at_call 36; refine (reftake_short A k c n w (by omega) (by omega) hs).mono ?_; rintro e w1 ⟨rfl, rfl⟩)
    go_ret3
    exact ⟨rfl, Below.refl _ _⟩
  · have hv : k < n.toNat + numL (l.take n.toNat) := by
      unfold WholeT at hw
      rcases Nat.lt_or_ge k (n.toNat + numL (l.take n.toNat)) with h2 | h2
      · exact h2
      · exact absurd ⟨by omega, by omega⟩ hw
    clear hw
    have Hl := Lib.hid hl
    clear hl
    go_enter Try.func48, Try.ntmps48
    go_wp2_with fail
    refine (reftake_yes A k c l n w h hk (by omega) (by omega) (by omega)).mono ?_
    rintro e w1 ⟨A1, n1, c1, rfl, ho, hb⟩
    have hn1 : n1 = k - n.toNat := by have := ho.len; rw [List.length_drop, Hl.out] at this; omega
    generalize numL (List.take n.toNat l) = v at hv ⊢
    have hlt : (n1 : Int) < (v : Int) := by omega
    clear hn1
    go_wp2
    go_ret3
    exact ⟨rfl, hb⟩

set_option maxHeartbeats 1000000 in
theorem treftk_yes (A : Option Addr) (k c : Nat) (l : List UInt8) (n : Int) (w : World) (h : Sl w A k c l) (hk : k ≤ 17592186044416) (h1 : 1 ≤ n) (h7 : n ≤ 6) (hw : WholeT l n.toNat) :
    Calls Try.prog 48 #[.slice A k c, .int .i64 n] w fun e w' => ∃ A1 n1 c1 A2 n2 c2, e = .returned (.tuple #[.slice A1 n1 c1, .slice A2 n2 c2, .int .i64 0]) ∧
      Sl w' A1 n1 c1 (bodyT l n.toNat) ∧ Sl w' A2 n2 c2 (restT l n.toNat) ∧ (∀ ad, A2 = some ad → w.heap.size ≤ ad.block) ∧ Below w.heap.size w w' := by
  have hl := h.len
  obtain ⟨ha, hv⟩ := hw
  rw [hl] at ha hv
  have Hl := Lib.hid hl
  clear hl
  have e1 : bodyT l n.toNat = (l.drop n.toNat).take (numL (l.take n.toNat)) := rfl
  have e2 : restT l n.toNat = (l.drop n.toNat).drop (numL (l.take n.toNat)) := by unfold restT; rw [List.drop_drop]
  rw [e1, e2]
  clear e1 e2
  go_enter Try.func48, Try.ntmps48
  go_wp2_with fail
  refine (reftake_yes A k c l n w h hk (by omega) (by omega) (by omega)).mono ?_
  rintro e w1 ⟨A1, n1, c1, rfl, ho, hb⟩
  have hn1 : n1 = k - n.toNat := by have := ho.len; rw [List.length_drop, Hl.out] at this; omega
  generalize hve : numL (List.take n.toNat l) = v at hv ⊢
  generalize hre : l.drop n.toNat = r at ho ⊢
  have Hve := Lib.hid hve
  have Hre := Lib.hid hre
  clear hve hre
  have hlt : v ≤ n1 := by omega
  have hle : n1 ≤ 17592186044416 := by omega
  clear hn1
  have hr := ho.sl
  have hc1 := hr.cap
  have hi3 : v ≤ c1 := by omega
  have hz := hb.size
  have h2 := hr.take hlt
  obtain ⟨A2, hA2, h3⟩ : ∃ A2, (if c1 = v then A1 else Option.map (fun x => x.add v) A1) = A2 ∧ Sl w1 A2 (n1 - v) (c1 - v) (r.drop v) := ⟨_, rfl, hr.drop (by omega)⟩
  have hi4 : (v : Int) ≤ (c1 : Int) := by omega
  have hi5 : (0 : Int) ≤ (v : Int) := by omega
  have hd : decide ((n1 : Int) < (v : Int)) = false := by simp; omega
  go_wp2_with fail
  have o1 : Own (w1.alloc (.cells #[] 5)) w.heap.size 5 (some ⟨w1.heap.size, 0, none⟩) 0 0 [] := (own_empty w1 5).less hz
  have o2 : Own ((w1.alloc (.cells #[] 5)).alloc (.cells #[] 5)) w.heap.size 5 (some ⟨w1.heap.size, 0, none⟩) 0 0 [] := o1.alloc _
  have o3 : Own ((w1.alloc (.cells #[] 5)).alloc (.cells #[] 5)) w.heap.size 5 (some ⟨w1.heap.size + 1, 0, none⟩) 0 0 [] := by
    have := (own_empty (w1.alloc (.cells #[] 5)) 5).less (b := w.heap.size) (by simp; omega)
    simpa using this
  have h21 := h2.alloc (.cells #[] 5)
  have h22 := h21.alloc (.cells #[] 5)
  have h31 := h3.alloc (.cells #[] 5)
  have h32 := h31.alloc (.cells #[] 5)
  have b1 : Below w1.heap.size w1 (w1.alloc (.cells #[] 5)) := (Below.refl _ _).alloc (Nat.le_refl _) _
  have b2 : Below w1.heap.size w1 ((w1.alloc (.cells #[] 5)).alloc (.cells #[] 5)) := b1.alloc b1.size _
  go_region_law (first
    | (rw [if_pos (by rfl)]
       refine wp_append_lit0 _ T22 (.tmp 25) (.tmp 28) (by rfl) w.heap.size _ (by rfl) (by first | exact o1 | exact o2 | exact o3 | exact OF2 | exact OF2b | exact (own_empty _ 5).less HZ) A1 v c1 _ (by rfl) (by first | exact h21 | exact h22 | exact H2F | exact H2F.alloc _) (by omega) (by first | (simp; omega) | omega) ?_
       rintro A3 c3 w3 own3 bel3
       have hb13 : Below w1.heap.size w1 w3 := (by first | exact b1.drew.trans (bel3.mono b1.size) | exact b2.drew.trans (bel3.mono b2.size) | exact HB4.trans (bel3.mono HB4.size) | exact (HB4.alloc HB4.size _).trans (bel3.mono (by have := HB4.size; simp; omega)))
       have HZ : w.heap.size ≤ w3.heap.size := Nat.le_trans hz hb13.size
       have H3F := h3.below hb13
       have HB4 := hb13
       try (have OF1 := Own.below (by exact o2) bel3)
       try (have OF1b := Own.below (by exact o3) bel3)
       try (have own4 := own4.below bel3)
       try (have own4 := (own4.alloc _).below bel3))
    | (rw [if_pos (by rfl)]
       refine wp_append_lit0 _ T22 (.tmp 30) (.tmp 33) (by rfl) w.heap.size _ (by rfl) (by first | exact o1 | exact o2 | exact o3 | exact OF1 | exact OF1b | exact (own_empty _ 5).less HZ) A2 (n1 - v) (c1 - v) _ (by rfl) (by first | exact h31 | exact h32 | exact H3F | exact H3F.alloc _) (by omega) (by first | (simp; omega) | omega) ?_
       rintro A4 c4 w4 own4 bel4
       have hb14 : Below w1.heap.size w1 w4 := (by first | exact b1.drew.trans (bel4.mono b1.size) | exact b2.drew.trans (bel4.mono b2.size) | exact HB4.trans (bel4.mono HB4.size) | exact (HB4.alloc HB4.size _).trans (bel4.mono (by have := HB4.size; simp; omega)))
       have HZ : w.heap.size ≤ w4.heap.size := Nat.le_trans hz hb14.size
       have H2F := h2.below hb14
       have HB4 := hb14
       try (have OF2 := Own.below (by exact o2) bel4)
       try (have OF2b := Own.below (by exact o3) bel4)
       try (have own3 := own3.below bel4)
       try (have own3 := (own3.alloc _).below bel4)))
  all_goals
    go_wp2
    go_ret3
    rw [Hve.out, Hre.out]
    exact ⟨_, _, _, _, _, _, rfl, own3.sl, own4.sl, fun ad h => (own4.block ad h).1, hb.trans (HB4.mono hz)⟩
set_option maxHeartbeats 400000 in
theorem treftaketext_no (A : Option Addr) (k c : Nat) (l : List UInt8) (w : World) (h : Sl w A k c l) (hk : k ≤ 17592186044416) (hw : ¬ WholeT l 1) :
    Calls Try.prog 38 #[.slice A k c] w fun e w' => e = .returned (.tuple #[.string ⟨#[]⟩, .slice none 0 0, .int .i64 2]) ∧ Below w.heap.size w w' := by
  have Hw := Lib.hid hw
  clear hw
  have hc : ∀ W : World, (convert 26 9 (.slice none 0 0)).run Try.prog W = .ok (.string ⟨#[]⟩) W := fun W => convT (sl_nil W)
  go_enter Try.func38, Try.ntmps38
  go_wp2_with (go_at_call 48; refine (treftk_no A k c l 1 w h hk (by omega) (by omega) Hw.out).mono ?_; rintro e w1 ⟨rfl, hb⟩)
  go_ret3
  exact ⟨rfl, hb⟩
set_option maxHeartbeats 400000 in
theorem treftaketext_yes (A : Option Addr) (k c : Nat) (l : List UInt8) (w : World) (h : Sl w A k c l) (hk : k ≤ 17592186044416) (hw : WholeT l 1) :
    Calls Try.prog 38 #[.slice A k c] w fun e w' => ∃ A2 n2 c2, e = .returned (.tuple #[.string ⟨(bodyT l 1).toArray⟩, .slice A2 n2 c2, .int .i64 0]) ∧
      Sl w' A2 n2 c2 (restT l 1) ∧ (∀ ad, A2 = some ad → w.heap.size ≤ ad.block) ∧ Below w.heap.size w w' := by
  have Hw := Lib.hid hw
  clear hw
  go_enter Try.func38, Try.ntmps38
  go_wp2_with (go_at_call 48; refine (treftk_yes A k c l 1 w h hk (by omega) (by omega) Hw.out).mono ?_; rintro e w1 ⟨A1, n1, c1, A2, n2, c2, rfl, h1, h2, hfr, hb⟩; have hc := convT h1)
  go_ret3
  exact ⟨_, _, _, rfl, h2, hfr, hb⟩
end Go.Proofs.Ytimlhhemfipooaa
