/- The reference's counts: Alloc, Free. -/
import Derived.Test.YtancpkdkfemgfaaCtB
namespace Go.Proofs.Ytancpkdkfemgfaa
open Go Go.RowKit Go.Proofs

/-- Whether the sector j may be taken; the first one that may; how many there are below k. -/
def Ct.may (C : Ct) (j : Nat) : Bool := decide (C.first ≤ j) && C.isFree j
def Ct.pick (C : Ct) : Option Nat := (List.range C.n).find? C.may
def Ct.allocE (C : Ct) : Int := match C.pick with | some _ => 0 | none => 6
def Ct.allocV (C : Ct) : Int := match C.pick with | some k => (k : Int) | none => 0
def Ct.alloc (C : Ct) : Ct := match C.pick with | some k => C.put k 1 | none => C
def Ct.freeTo (C : Ct) (k : Nat) : Nat := (List.range k).countP C.may
def Ct.free (C : Ct) : Nat := C.freeTo C.n
theorem Ct.pick_some {C : Ct} {k : Nat} (hk : k < C.n) (h : C.may k = true) (hall : ∀ j, j < k → C.may j = false) : C.pick = some k := by
  unfold Ct.pick
  rw [List.find?_range_eq_some]
  exact ⟨h, List.mem_range.2 hk, fun j hj => by rw [hall j hj]; rfl⟩
theorem Ct.pick_none {C : Ct} (hall : ∀ j, j < C.n → C.may j = false) : C.pick = none := by
  unfold Ct.pick
  rw [List.find?_eq_none]
  intro j hj
  rw [hall j (List.mem_range.1 hj)]
  simp
theorem Ct.alloc_some {C : Ct} {k : Nat} (h : C.pick = some k) : C.allocE = 0 ∧ C.allocV = (k : Int) ∧ C.alloc = C.put k 1 := by
  unfold Ct.allocE Ct.allocV Ct.alloc
  rw [h]
  exact ⟨rfl, rfl, rfl⟩
theorem Ct.alloc_none {C : Ct} (h : C.pick = none) : C.allocE = 6 ∧ C.allocV = 0 ∧ C.alloc = C := by
  unfold Ct.allocE Ct.allocV Ct.alloc
  rw [h]
  exact ⟨rfl, rfl, rfl⟩
theorem Ct.freeTo_next (C : Ct) (k : Nat) : C.freeTo (k + 1) = C.freeTo k + (if C.may k = true then 1 else 0) := by
  unfold Ct.freeTo
  rw [List.range_succ, List.countP_append, List.countP_singleton]
theorem Ct.freeTo_low (C : Ct) {k : Nat} (h : k ≤ C.first) : C.freeTo k = 0 := by
  unfold Ct.freeTo
  rw [List.countP_eq_zero]
  intro j hj
  have := List.mem_range.1 hj
  unfold Ct.may
  rw [decide_eq_false (by omega)]
  simp
theorem Ct.freeTo_le (C : Ct) (k : Nat) : C.freeTo k ≤ k := by
  unfold Ct.freeTo
  have := List.countP_le_length (p := C.may) (l := List.range k)
  rwa [List.length_range] at this
theorem Ct.first_le {C : Ct} (h : C.ok) : C.first ≤ C.n := by
  have := h.1
  unfold Ct.first areaN
  omega

set_option maxRecDepth 10000 in
set_option maxHeartbeats 4000000 in
theorem crefalloc_any {w : World} {p : Nat} {S : Nat → Prop} {C : Ct} (H : RC w p S C) :
    Calls Try.prog 14 #[.pointer (some ⟨p, 0, none⟩)] w fun e w' => e = .returned (.tuple #[.int .i64 C.allocV, .int .i64 C.allocE]) ∧ RC w' p S C.alloc ∧ Turn S w w' := by
  have hok := H.ok.1
  have hfn := C.first_le H.ok
  obtain ⟨f, hf⟩ : ∃ f, C.first = f := ⟨_, rfl⟩
  have Hf := Lib.hid hf
  rw [hf] at hfn
  obtain ⟨g, cg, b, cb, c0, c1, k1, k2, hnow, hdone, hput⟩ := H.open_
  have Hput := Lib.hid hput
  have Hnow := Lib.hid hnow
  have Hdone := Lib.hid hdone
  clear hput hnow hdone hf
  go_enter Try.func14, Try.ntmps14
  go_wp2_with fail
  refine (creffirst_any H f Hf.out).mono ?_
  rintro e w1 ⟨rfl, rfl⟩
  go_wp2_with fail
  go_loop [4] (fun i => ∃ k : Nat, f ≤ k ∧ k ≤ C.n ∧ i = .int .i64 (k : Int) ∧ ∀ j, j < k → C.may j = false) (fun i => C.n - (intOf i).toNat)
  case atStart => exact ⟨f, Nat.le_refl _, hfn, rfl, fun j hj => by unfold Ct.may; rw [decide_eq_false (by rw [Hf.out]; omega)]; rfl⟩
  case round =>
    obtain ⟨k, hfk, hk, rfl, hall⟩ := hrel
    by_cases hlt : k < C.n
    · obtain ⟨hc, hfz⟩ := Hnow.out k hlt
      have hd := Hdone.out k hlt
      obtain ⟨H2, T2, d0, d1⟩ := Hput.out k 1 hlt (by omega) (by omega)
      have hmay := Lib.hid (show C.may k = decide (nm C.now k = 0 ∧ nm C.done k = 0) by unfold Ct.may Ct.isFree; rw [decide_eq_true (by rw [Hf.out]; exact hfk), Bool.true_and])
      obtain ⟨x, hx⟩ : ∃ x, nm C.now k = x := ⟨_, rfl⟩
      obtain ⟨y, hy⟩ : ∃ y, nm C.done k = y := ⟨_, rfl⟩
      rw [hx] at hc hmay
      rw [hy] at hd hmay
      have e3 : (k : Int) < (C.n : Int) := by omega
      have e0 : (0 : Int) ≤ (k : Int) := by omega
      have hsome := fun h => Ct.alloc_some (C := C) (k := k) (Ct.pick_some hlt h hall)
      have Hsome := Lib.hid hsome
      have Hall := Lib.hid hall
      clear hx hy hsome hall
      by_cases hx0 : x = 0
      · by_cases hy0 : y = 0
        · subst hx0 hy0
          have hE := Lib.hid (Hsome.out (by rw [hmay.out]; rfl))
          go_wp2
          go_ret2
          rw [hE.out.1, hE.out.2.1, hE.out.2.2]
          exact ⟨rfl, H2, T2⟩
        · have hb : (y == 0) = false := by simpa using hy0
          subst hx0
          go_wp2
          refine ⟨⟨k + 1, by omega, by omega, by go_num, fun j hj => ?_⟩, by simp [intOf]; omega⟩
          by_cases hjk : j = k
          · rw [hjk, hmay.out]; exact decide_eq_false (by omega)
          · exact Hall.out j (by omega)
      · have hb : (x == 0) = false := by simpa using hx0
        go_wp2
        refine ⟨⟨k + 1, by omega, by omega, by go_num, fun j hj => ?_⟩, by simp [intOf]; omega⟩
        by_cases hjk : j = k
        · rw [hjk, hmay.out]; exact decide_eq_false (by omega)
        · exact Hall.out j (by omega)
    · have hkn : k = C.n := by omega
      have e3 : ¬ (k : Int) < (C.n : Int) := by omega
      have hE := Lib.hid (Ct.alloc_none (Ct.pick_none (C := C) (by rw [← hkn]; exact hall)))
      clear hall hkn
      go_wp2
      go_ret2
      rw [hE.out.1, hE.out.2.1, hE.out.2.2]
      exact ⟨rfl, H, Turn.refl _ _⟩
set_option maxRecDepth 10000 in
set_option maxHeartbeats 4000000 in
theorem creffree_any {w : World} {p : Nat} {S : Nat → Prop} {C : Ct} (H : RC w p S C) (n : Nat) (hn : C.free = n) :
    Calls Try.prog 38 #[.pointer (some ⟨p, 0, none⟩)] w fun e w' => e = .returned (.int .i64 (n : Int)) ∧ w = w' := by
  have hok := H.ok.1
  have hfn := C.first_le H.ok
  obtain ⟨f, hf⟩ : ∃ f, C.first = f := ⟨_, rfl⟩
  have Hf := Lib.hid hf
  rw [hf] at hfn
  obtain ⟨g, cg, b, cb, c0, c1, k1, k2, hnow, hdone, _⟩ := H.open_
  have Hnow := Lib.hid hnow
  have Hdone := Lib.hid hdone
  have Hn := Lib.hid hn
  clear hnow hdone hf hn
  go_enter Try.func38, Try.ntmps38
  go_wp2_with fail
  refine (creffirst_any H f Hf.out).mono ?_
  rintro e w1 ⟨rfl, rfl⟩
  go_wp2_with fail
  go_loop [3, 4] (fun z i => ∃ k : Nat, f ≤ k ∧ k ≤ C.n ∧ i = .int .i64 (k : Int) ∧ z = .int .i64 (C.freeTo k : Int)) (fun _ i => C.n - (intOf i).toNat)
  case atStart => exact ⟨f, Nat.le_refl _, hfn, rfl, by rw [C.freeTo_low (by rw [Hf.out]; exact Nat.le_refl _)]; rfl⟩
  case round =>
    obtain ⟨k, hfk, hk, rfl, rfl⟩ := hrel
    have hle := C.freeTo_le k
    by_cases hlt : k < C.n
    · obtain ⟨hc, hfz⟩ := Hnow.out k hlt
      have hd := Hdone.out k hlt
      have hmay := Lib.hid (show C.may k = decide (nm C.now k = 0 ∧ nm C.done k = 0) by unfold Ct.may Ct.isFree; rw [decide_eq_true (by rw [Hf.out]; exact hfk), Bool.true_and])
      have hnx := Lib.hid (C.freeTo_next k)
      obtain ⟨q, hq⟩ : ∃ q, C.freeTo k = q := ⟨_, rfl⟩
      rw [hq] at hle hnx ⊢
      obtain ⟨x, hx⟩ : ∃ x, nm C.now k = x := ⟨_, rfl⟩
      obtain ⟨y, hy⟩ : ∃ y, nm C.done k = y := ⟨_, rfl⟩
      rw [hx] at hc hmay
      rw [hy] at hd hmay
      have e3 : (k : Int) < (C.n : Int) := by omega
      have e0 : (0 : Int) ≤ (k : Int) := by omega
      clear hx hy hq
      by_cases hx0 : x = 0
      · by_cases hy0 : y = 0
        · subst hx0 hy0
          have hE := Lib.hid (show C.freeTo (k + 1) = q + 1 by rw [hnx.out, if_pos (by rw [hmay.out]; rfl)])
          go_wp2
          refine ⟨⟨k + 1, by omega, by omega, by go_num, by rw [hE.out]; go_num⟩, by simp [intOf]; omega⟩
        · have hb : (y == 0) = false := by simpa using hy0
          subst hx0
          have hE := Lib.hid (show C.freeTo (k + 1) = q by rw [hnx.out, if_neg (by rw [hmay.out]; simpa using hy0), Nat.add_zero])
          go_wp2
          refine ⟨⟨k + 1, by omega, by omega, by go_num, by rw [hE.out]⟩, by simp [intOf]; omega⟩
      · have hb : (x == 0) = false := by simpa using hx0
        have hE := Lib.hid (show C.freeTo (k + 1) = q by rw [hnx.out, if_neg (by rw [hmay.out]; simp; omega), Nat.add_zero])
        go_wp2
        refine ⟨⟨k + 1, by omega, by omega, by go_num, by rw [hE.out]⟩, by simp [intOf]; omega⟩
    · have hkn : k = C.n := by omega
      have e3 : ¬ (k : Int) < (C.n : Int) := by omega
      have hE := Lib.hid (show C.freeTo k = n by rw [hkn]; exact Hn.out)
      clear hkn
      go_wp2
      go_ret
      exact ⟨by rw [← hE.out]; rfl, rfl⟩
end Go.Proofs.Ytancpkdkfemgfaa
