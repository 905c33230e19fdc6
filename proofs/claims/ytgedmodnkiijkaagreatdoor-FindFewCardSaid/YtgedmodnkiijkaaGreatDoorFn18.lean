/- Counts, plain facts: what is written is read as it was. Counts, plain facts: what calls keep. Counts, plain facts: how many are free; all taken one behind the other. The code's counts: take. The code's counts: Load. -/
import Derived.Test.YtgedmodnkiijkaaGreatDoorFn2
import Derived.Test.YtgedmodnkiijkaaGreatDoorFn17
namespace Go.Proofs.YtgedmodnkiijkaaGreatDoor
open Go Go.RowKit Go.Proofs

theorem bodyTo_part (C : Ct) (m : Int) (n k : Nat) (h : k < n) : ((C.bodyTo m n).drop (2 * k)).take 2 = dig (C.get (m + (k : Int))) 2 := by
  induction n with
  | zero => omega
  | succ n ih =>
    show ((C.bodyTo m n ++ dig (C.get (m + (n : Int))) 2).drop (2 * k)).take 2 = _
    by_cases hk : k < n
    · rw [List.drop_append_of_le_length (by rw [C.bodyTo_len]; omega), List.take_append_of_le_length (by rw [List.length_drop, C.bodyTo_len]; omega)]
      exact ih hk
    · obtain rfl : k = n := by omega
      rw [List.drop_append, List.drop_eq_nil_of_le (by rw [C.bodyTo_len]; omega), C.bodyTo_len, Nat.sub_self, List.nil_append, List.drop_zero, List.take_of_length_le (by rw [dig_len]; omega)]
theorem Ct.body_x {C : Ct} (h : C.ok) {i k : Nat} (hi : i < areaN C.n) (hk : k < 118) : cntX (C.body (i : Int)) k = C.get ((i : Int) * 118 + (k : Int)) := by
  have hb : C.body (i : Int) = C.bodyTo ((i : Int) * 118) 118 := by unfold Ct.body; rw [if_pos ⟨by omega, by omega⟩]
  unfold cntX
  rw [hb, bodyTo_part C _ 118 k hk]
  have h1 := C.get_bounds h ((i : Int) * 118 + (k : Int))
  exact num_back _ 2 h1.1 (by have := h1.2; simp; omega)
theorem Ct.body_len {C : Ct} {i : Nat} (hi : i < areaN C.n) : (C.body (i : Int)).length = 236 := by
  unfold Ct.body
  rw [if_pos ⟨by omega, by omega⟩, C.bodyTo_len]
theorem put_now (C : Ct) (k : Nat) (x : Int) (a : Nat) (ha : a < C.n) : nm (C.put k x).now a = if a = k then x else nm C.now a := by
  show nm (C.now.set k x) a = _
  by_cases h : a = k
  · subst h
    rw [if_pos rfl, nm_set_same _ _ _ ha]
  · rw [if_neg h, nm_set_other _ _ _ _ (fun e => h e.symm)]
theorem rowTo_now (i : Nat) (l : List UInt8) (C : Ct) (k a : Nat) (ha : a < C.n) : nm (rowTo C.n i l C k).now a = if i * 118 ≤ a ∧ a < i * 118 + k then cntX l (a - i * 118) else nm C.now a := by
  induction k with
  | zero => rw [if_neg (by omega)]; rfl
  | succ k ih =>
    unfold rowTo
    by_cases hk : i * 118 + k < C.n
    · rw [if_pos hk, put_now _ _ _ _ (by rw [rowTo_n]; exact ha), ih]
      by_cases e : a = i * 118 + k
      · rw [if_pos e, if_pos (by omega), show a - i * 118 = k by omega]
      · rw [if_neg e]
        by_cases h2 : i * 118 ≤ a ∧ a < i * 118 + k
        · rw [if_pos h2, if_pos (by omega)]
        · rw [if_neg h2, if_neg (by omega)]
    · rw [if_neg hk, ih]
      by_cases h2 : i * 118 ≤ a ∧ a < i * 118 + k
      · rw [if_pos h2, if_pos (by omega)]
      · rw [if_neg h2, if_neg (by omega)]
theorem allTo_now (n : Nat) (ls : List (List UInt8)) (i a : Nat) (ha : a < n) : nm (allTo n ls i).now a = if a < i * 118 then cntX (nth ls (a / 118)) (a % 118) else 0 := by
  induction i with
  | zero =>
    rw [if_neg (by omega)]
    show nm (List.replicate n 0) a = 0
    unfold nm
    simp [ha]
  | succ i ih =>
    have h := rowTo_now i (nth ls i) (allTo n ls i) 118 a (by rw [allTo_n]; exact ha)
    rw [allTo_n, ih] at h
    refine (show nm (allTo n ls (i + 1)).now a = _ from h).trans ?_
    by_cases h1 : i * 118 ≤ a ∧ a < i * 118 + 118
    · rw [if_pos h1, if_pos (by omega), show a / 118 = i by omega, show a % 118 = a - i * 118 by omega]
    · rw [if_neg h1]
      by_cases h2 : a < i * 118
      · rw [if_pos h2, if_pos (by omega)]
      · rw [if_neg h2, if_neg (by omega)]
/-- The reserved sectors are not counted. -/
def Ct.res (C : Ct) : Prop := ∀ a, a < C.n → a < C.first → nm C.now a = 0
/-- All bodies. -/
def Ct.bodies (C : Ct) : List (List UInt8) := (List.range (areaN C.n)).map fun (i : Nat) => C.body (i : Int)
theorem Ct.bodies_at (C : Ct) {i : Nat} (h : i < areaN C.n) : nth C.bodies i = C.body (i : Int) := by
  unfold nth Ct.bodies
  rw [List.getD_eq_getElem?_getD, List.getElem?_map, List.getElem?_range h]
  rfl
theorem Ct.back_good {C : Ct} (h : C.ok) (hr : C.res) {i : Nat} (hi : i < areaN C.n) : rowGood C.n (2 + 2 * areaN C.n) i (nth C.bodies i) := by
  rw [C.bodies_at hi]
  refine ⟨Ct.body_len hi, fun k hk => ?_⟩
  unfold rowBad
  rw [Ct.body_x h hi hk]
  refine decide_eq_false ?_
  rintro ⟨h1, h2⟩
  refine h1 ?_
  unfold Ct.get
  split
  · rename_i h3
    have e : ((i : Int) * 118 + (k : Int)).toNat = i * 118 + k := by omega
    rw [e]
    rcases h2 with h2 | h2
    · exact hr _ (by omega) h2
    · omega
  · rfl
theorem Ct.back_loads {C : Ct} (h : C.ok) (hr : C.res) : loadE (C.n : Int) C.bodies = 0 ∧ loadC C.n C.bodies = C.commit := by
  have hl : C.bodies.length = areaN C.n := by unfold Ct.bodies; rw [List.length_map, List.length_range]
  constructor
  · unfold loadE
    rw [Int.toNat_natCast, if_neg (fun e => e (by have := h.1; omega)), if_neg]
    rintro (e | e)
    · exact e hl
    · exact e fun i hi => Ct.back_good h hr hi
  · have hnow : (allTo C.n C.bodies (areaN C.n)).now = C.now := by
      have h1 : (allTo C.n C.bodies (areaN C.n)).now.length = C.now.length := allTo_n _ _ _
      refine List.ext_getElem h1 fun a ha1 ha2 => ?_
      have ha : a < C.n := ha2
      have hw := allTo_now C.n C.bodies (areaN C.n) a ha
      have hda : a / 118 < areaN C.n := by unfold areaN; omega
      rw [if_pos (by unfold areaN; omega), C.bodies_at hda, Ct.body_x h hda (Nat.mod_lt _ (by omega))] at hw
      have e1 : ((a / 118 : Nat) : Int) * 118 + ((a % 118 : Nat) : Int) = (a : Int) := by omega
      rw [e1] at hw
      unfold Ct.get at hw
      rw [if_pos ⟨by omega, by omega⟩, Int.toNat_natCast] at hw
      unfold nm at hw
      simpa [ha1, ha2] using hw
    unfold loadC Ct.commit
    simp only [hnow]
end Go.Proofs.YtgedmodnkiijkaaGreatDoor

namespace Go.Proofs.YtgedmodnkiijkaaGreatDoor
open Go Go.RowKit Go.Proofs

theorem Ct.first_of_n {C D : Ct} (h : D.n = C.n) : D.first = C.first := by unfold Ct.first; rw [h]
theorem Ct.put_res {C : Ct} (h : C.res) {k : Nat} (x : Int) (hk : C.first ≤ k) : (C.put k x).res := fun a ha hf => by
  rw [C.put_n] at ha
  rw [Ct.first_of_n (C.put_n k x)] at hf
  rw [put_now C k x a ha, if_neg (by omega)]
  exact h a ha hf
theorem Ct.get_res {C : Ct} (h : C.res) {a : Int} (hg : ¬ C.get a = 0) : 0 ≤ a ∧ a < (C.n : Int) ∧ C.first ≤ a.toNat := by
  obtain ⟨h1, h2, h3⟩ := Ct.get_in hg
  refine ⟨h1, h2, ?_⟩
  rcases Nat.lt_or_ge a.toNat C.first with h4 | h4
  · exact absurd (h3.trans (h a.toNat (by omega) h4)) hg
  · exact h4
theorem Ct.pick_in {C : Ct} {k : Nat} (h : C.pick = some k) : k < C.n ∧ C.first ≤ k ∧ nm C.now k = 0 ∧ nm C.done k = 0 ∧ ∀ j, j < k → C.may j = false := by
  unfold Ct.pick at h
  rw [List.find?_range_eq_some] at h
  obtain ⟨h1, h2, h3⟩ := h
  unfold Ct.may Ct.isFree at h1
  rw [Bool.and_eq_true, decide_eq_true_iff, decide_eq_true_iff] at h1
  exact ⟨List.mem_range.1 h2, h1.1, h1.2.1, h1.2.2, fun j hj => by have := h3 j hj; simpa using this⟩
theorem Ct.pick_not {C : Ct} (h : C.pick = none) : ∀ j, j < C.n → C.may j = false := fun j hj => by
  unfold Ct.pick at h
  rw [List.find?_eq_none] at h
  have := h j (List.mem_range.2 hj)
  simpa using this
theorem Ct.pick_none_free {C : Ct} (h : C.pick = none) : C.free = 0 := by
  unfold Ct.free Ct.freeTo
  rw [List.countP_eq_zero]
  intro j hj
  rw [Ct.pick_not h j (List.mem_range.1 hj)]
  simp
theorem Ct.alloc_n (C : Ct) : C.alloc.n = C.n := by unfold Ct.alloc; split; exact C.put_n _ _; rfl
theorem Ct.alloc_ok {C : Ct} (h : C.ok) : C.alloc.ok := by unfold Ct.alloc; split; exact Ct.put_ok h _ _ (by omega) (by omega); exact h
theorem Ct.alloc_res {C : Ct} (h : C.res) : C.alloc.res := by
  unfold Ct.alloc
  split
  · rename_i k hk
    exact Ct.put_res h _ (Ct.pick_in hk).2.1
  · exact h
theorem Ct.zero_res (n : Nat) : (Ct.zero n).res := fun a ha _ => by
  rw [Ct.zero_n] at ha
  show nm (List.replicate n 0) a = 0
  unfold nm
  simp [ha]
end Go.Proofs.YtgedmodnkiijkaaGreatDoor

namespace Go.Proofs.YtgedmodnkiijkaaGreatDoor
open Go Go.RowKit Go.Proofs

theorem Ct.may_eq (C : Ct) (j : Nat) : C.may j = decide (C.first ≤ j ∧ nm C.now j = 0 ∧ nm C.done j = 0) := by
  unfold Ct.may Ct.isFree
  rw [Bool.eq_iff_iff]
  simp
/-- Counts whose rows are known: now a is f a, done a is d a. -/
def Ct.is (C : Ct) (n : Nat) (f d : Nat → Int) : Prop := C.n = n ∧ ∀ a, a < n → nm C.now a = f a ∧ nm C.done a = d a
theorem Ct.is_zero (n : Nat) : (Ct.zero n).is n (fun _ => 0) (fun _ => 0) := by
  refine ⟨Ct.zero_n n, fun a ha => ?_⟩
  show nm (List.replicate n 0) a = 0 ∧ nm (List.replicate n 0) a = 0
  unfold nm
  simp [ha]
end Go.Proofs.YtgedmodnkiijkaaGreatDoor

namespace Go.Proofs.YtgedmodnkiijkaaGreatDoor
open Go Go.RowKit Go.Proofs

theorem ctaken (A : Option Addr) (m k c : Nat) (l : List UInt8) (w : World) (h : Sl w A m c l) (hk : m = k + 2) (hm : m ≤ 100000) (y : Nat) (hy : numL (l.take 2) = y) :
    Calls Tryz.prog 119 #[.slice A m c, .int .i64 2] w fun e w' => ∃ A' c', e = .returned (.tuple #[.int .i64 (y : Int), .slice A' k c', .int .i64 0]) ∧ Below w.heap.size w w' := by
  subst hy
  refine (take_yes A m c l 2 w h (by omega) (by omega) (by omega) (by omega)).mono ?_
  rintro e w' ⟨A', n', c', rfl, own, hb⟩
  have h4 := own.len
  rw [List.length_drop, h.len] at h4
  have : n' = k := by have : (2 : Int).toNat = 2 := rfl; omega
  subst this
  exact ⟨A', c', rfl, hb⟩
theorem ct_turned {w w' : World} {A : Option Addr} {n c : Nat} {l : List UInt8} (h : Sl w A n c l) {S : Nat → Prop} (T : Turn S w w') (hA : ∀ ad, A = some ad → ¬ S ad.block) : Sl w' A n c l :=
  ⟨h.1, h.2.1, h.2.2.1, fun j u hu => by
    obtain ⟨ad, e, hb, hc⟩ := h.2.2.2 j u hu
    exact ⟨ad, e, Nat.lt_of_lt_of_le hb T.size, (World.cell?_of_block (a := ad.add j) (by rw [addr_block]; exact T.block _ hb (hA ad e))).trans hc⟩⟩
theorem put_nought (C : Ct) (k : Nat) (hk : k < C.n) (h : nm C.now k = 0) : C.put k 0 = C := by
  have e : C.now.set k 0 = C.now := by
    have h1 : C.now[k]'hk = 0 := by
      unfold nm at h
      rw [List.getD_eq_getElem?_getD, List.getElem?_eq_getElem hk] at h
      exact h
    rw [← h1]
    exact List.set_getElem_self hk
  unfold Ct.put
  simp only [e]
set_option maxRecDepth 10000 in
set_option maxHeartbeats 4000000 in
theorem ctake_any {w : World} {p : Nat} {S : Nat → Prop} {C : Ct} (H : CCo w p 0 S C) (i : Nat) (hi : i ≤ 1000) (A : Option Addr) (c : Nat) (l : List UInt8) (hs : Sl w A 236 c l) (hA : ∀ ad, A = some ad → ¬ S ad.block) (hz : ∀ a, i * 118 ≤ a → a < C.n → nm C.now a = 0) :
    Calls Tryz.prog 141 #[.pointer (some ⟨p, 0, none⟩), .int .i64 (i : Int), .slice A 236 c] w fun e w' => ((e = .returned (.bool true) ∧ (∀ k, k < 118 → rowBad C.n C.first i l k = false) ∧ CCo w' p 0 S (rowTo C.n i l C 118)) ∨ (e = .returned (.bool false) ∧ ∃ k, k < 118 ∧ rowBad C.n C.first i l k = true)) ∧ Turn S w w' := by
  have Hs := Lib.hid hs
  have HA := Lib.hid hA
  have Hz := Lib.hid hz
  have hcap := hs.cap
  have hmax := hs.max
  unfold maxLen at hmax
  have hok := H.ok.1
  clear hs hA hz
  go_enter Tryz.func141, Tryz.ntmps141
  go_wp2_with fail
  go_loopw [7, 8, 9, 10, 11, 12] (fun _ _ _ _ _ k wr => ∃ t : Nat, t ≤ 118 ∧ k = .int .i64 (t : Int) ∧ CCo wr p 0 S (rowTo C.n i l C t) ∧ (∀ q, q < t → rowBad C.n C.first i l q = false) ∧ Turn S w wr) (fun _ _ _ _ _ k _ => 118 - (intOf k).toNat)
  case atStart => exact ⟨0, Nat.zero_le _, rfl, H, fun q hq => absurd hq (Nat.not_lt_zero _), Turn.refl _ _⟩
  case round =>
    clear H
    obtain ⟨t, ht, rfl, R, hgood, T⟩ := hrel
    by_cases hlt : t < 118
    · have e3 : (t : Int) < 118 := by omega
      have e0 : (0 : Int) ≤ (t : Int) := by omega
      obtain ⟨b, hb⟩ : ∃ b, 2 * t = b := ⟨_, rfl⟩
      have hb1 : (t : Int) * 2 = (b : Int) := by omega
      have hb2 : b ≤ 234 := by omega
      have hs0 := ct_turned Hs.out T HA.out
      have hs1 := hs0.drop (k := b) (by omega)
      obtain ⟨A2, hA2⟩ : ∃ A2, (if c = b then A else Option.map (fun x => x.add b) A) = A2 := ⟨_, rfl⟩
      rw [hA2] at hs1
      have hs2 := hs1.take (k := 2) (by omega)
      obtain ⟨y, hy⟩ : ∃ y, numL (((l.drop b).take 2).take 2) = y := ⟨_, rfl⟩
      have hX := Lib.hid (show cntX l t = (y : Int) by unfold cntX; rw [hb, ← hy, List.take_take]; rfl)
      have hy2 : y < 65536 := by
        have h1 := numL_lt (((l.drop b).take 2).take 2)
        have h2 : (((l.drop b).take 2).take 2).length = 2 := by rw [List.length_take, hs2.len]; rfl
        rw [h2, hy] at h1
        exact h1
      have Hy := Lib.hid hy
      have Hs2 := Lib.hid hs2
      have Hb := Lib.hid hb
      have Hgood := Lib.hid hgood
      have hn1 : (rowTo C.n i l C t).n = C.n := rowTo_n _ _ _ _ _
      have hf1 : (rowTo C.n i l C t).first = C.first := by unfold Ct.first; rw [hn1]
      obtain ⟨a, ha⟩ : ∃ a, i * 118 + t = a := ⟨_, rfl⟩
      have haZ : (i : Int) * 118 + (t : Int) = (a : Int) := by omega
      have ha2 : a ≤ 200000 := by omega
      have hz1 : a < C.n → nm (rowTo C.n i l C t).now a = 0 := fun h => by
        rw [rowTo_now i l C t a h, if_neg (by omega)]
        exact Hz.out a (by omega) h
      have hbad := Lib.hid (show rowBad C.n C.first i l t = decide ((y : Int) ≠ 0 ∧ (a < C.first ∨ C.n ≤ a)) by unfold rowBad; rw [hX.out, ha])
      have Hnext := Lib.hid (show rowTo C.n i l C (t + 1) = if a < C.n then (rowTo C.n i l C t).put a (y : Int) else rowTo C.n i l C t by rw [← hX.out, ← ha]; rfl)
      have Hgn := Lib.hid (show (rowBad C.n C.first i l t = false) → ∀ q, q < t + 1 → rowBad C.n C.first i l q = false from fun h q hq => by
        by_cases e : q = t
        · rw [e]; exact h
        · exact Hgood.out q (by omega))
      obtain ⟨C1, hC1⟩ : ∃ C1, rowTo C.n i l C t = C1 := ⟨_, rfl⟩
      rw [hC1] at R hn1 hf1 hz1 Hnext
      have hcn := Lib.hid (show C1.counted a = decide (C.first ≤ a ∧ a < C.n) by unfold Ct.counted; rw [hn1, hf1])
      have Hn1 := Lib.hid hn1
      have Hf1 := Lib.hid hf1
      have Hz1 := Lib.hid hz1
      have Ha := Lib.hid ha
      have i1 : 2 ≤ c - b := by omega
      have i2 : b ≤ 236 := by omega
      have i3 : b ≤ c := by omega
      clear hs0 hs1 hs2 hy hgood hC1 hn1 hf1 hz1 ha hb
      go_wp2_with fail
      refine (ctaken A2 2 0 (c - b) _ wr Hs2.out rfl (by omega) y Hy.out).mono ?_
      rintro e w4 ⟨A4, c4, rfl, hb4⟩
      have R4 := R.below hb4
      have T4 := T.then (turn_below hb4 |>.mono (S' := S) fun k hk => hk)
      clear R T
      by_cases hy0 : y = 0
      · subst hy0
        have hgd := Lib.hid (show rowBad C.n C.first i l t = false by rw [hbad.out]; simp)
        have hnx := Lib.hid (show rowTo C.n i l C (t + 1) = C1 by
          rw [Hnext.out]
          split
          · rename_i h
            exact put_nought C1 a (by rw [Hn1.out]; exact h) (Hz1.out h)
          · rfl)
        go_wp2
        exact ⟨⟨t + 1, by omega, by go_num, by rw [hnx.out]; exact R4, Hgn.out hgd.out, T4⟩, by simp [intOf]; omega⟩
      · have hyb : ((y : Int) == 0) = false := by simpa using hy0
        have hyi : ¬ (y : Int) = 0 := by omega
        by_cases hca : C.first ≤ a ∧ a < C.n
        · have hct := Lib.hid (show C1.counted a = true by rw [hcn.out]; exact decide_eq_true hca)
          have hgd := Lib.hid (show rowBad C.n C.first i l t = false by rw [hbad.out]; exact decide_eq_false (by omega))
          have hnx := Lib.hid (show rowTo C.n i l C (t + 1) = C1.put a (y : Int) by rw [Hnext.out, if_pos hca.2])
          have hlt1 : a < C1.n := by rw [Hn1.out]; exact hca.2
          obtain ⟨g, cg, b0, cb, c0, c1, c2, c3, k1, k2, hnow, hdone, hput⟩ := R4.open_
          obtain ⟨hc, hfz⟩ := hnow a hlt1
          obtain ⟨R5, T5, d0, d1⟩ := hput a ((y : Nat) : Int) hlt1 (by omega) (by omega)
          rw [← hnx.out] at R5
          have T6 := T4.then T5
          have e8 : (a : Int) < (C1.n : Int) := by omega
          have e9 : (0 : Int) ≤ (a : Int) := by omega
          obtain ⟨x0, hx0⟩ : ∃ x, nm C1.now a = x := ⟨_, rfl⟩
          rw [hx0] at hc
          clear hx0 hnow hdone hput c1 c2 c3 hca
          go_wp2_with fail
          refine (ccounted_any R4 a true hct.out).mono ?_
          rintro e w5 ⟨rfl, rfl⟩
          go_wp2
          exact ⟨⟨t + 1, by omega, by go_num, R5, Hgn.out hgd.out, T6⟩, by simp [intOf]; omega⟩
        · have hct := Lib.hid (show C1.counted a = false by rw [hcn.out]; exact decide_eq_false hca)
          have hgd := Lib.hid (show rowBad C.n C.first i l t = true by rw [hbad.out]; exact decide_eq_true ⟨hyi, by omega⟩)
          clear hca
          go_wp2_with fail
          refine (ccounted_any R4 a false hct.out).mono ?_
          rintro e w5 ⟨rfl, rfl⟩
          go_wp2
          go_ret
          exact ⟨.inr ⟨rfl, t, hlt, hgd.out⟩, T4⟩
    · have ht2 : t = 118 := by omega
      subst ht2
      go_wp2
      go_ret
      exact ⟨.inl ⟨rfl, hgood, R⟩, T⟩
end Go.Proofs.YtgedmodnkiijkaaGreatDoor

namespace Go.Proofs.YtgedmodnkiijkaaGreatDoor
open Go Go.RowKit Go.Proofs

set_option maxRecDepth 10000 in
set_option maxHeartbeats 4000000 in
theorem cload_in (n : Nat) (ls : List (List UInt8)) (h1 : 32 ≤ n) (h2 : n ≤ 2048) (A : Option Addr) (m c : Nat) {w : World} (H : Parts w A m c ls) (hm : m = areaN n) :
    Calls Tryz.prog 122 #[.int .i64 (n : Int), .slice A m c] w fun e w' => (((∀ i, i < areaN n → rowGood n (2 + 2 * areaN n) i (nth ls i)) ∧ ∃ p, e = .returned (.tuple #[.pointer (some ⟨p, 0, none⟩), .int .i64 0]) ∧ CCo w' p 0 (fun k => w.heap.size ≤ k) (loadC n ls) ∧ w.heap.size ≤ p) ∨
      ((¬ ∀ i, i < areaN n → rowGood n (2 + 2 * areaN n) i (nth ls i)) ∧ e = .returned (.tuple #[.pointer none, .int .i64 3]))) ∧ Below w.heap.size w w' := by
  obtain ⟨many, hmn⟩ : ∃ k, areaN n = k := ⟨_, rfl⟩
  have hm2 : many ≤ 1000 := by rw [← hmn]; unfold areaN; omega
  have Hmn := Lib.hid hmn
  have hm' : m = many := by omega
  subst hm'
  rw [hmn]
  clear hm hmn
  have hkc : m ≤ c := H.2.1
  have hmx : c ≤ maxLen := H.2.2.1
  unfold maxLen at hmx
  go_enter Tryz.func122, Tryz.ntmps122
  go_wp2_with fail
  refine (cnew_any n h1 h2 w).mono ?_
  rintro e w1 ⟨p, rfl, R, hpn, B⟩
  have c2 : w1.cell? ⟨p, 2, none⟩ = some (.int .i64 (m : Int)) := by
    obtain ⟨_, _, _, _, _, _, c2, _⟩ := R.open_
    rw [Ct.zero_n, Hmn.out] at c2
    exact c2
  have R := R.shrink
  obtain ⟨S, hS⟩ : ∃ S : Nat → Prop, (fun k => w.heap.size ≤ k ∧ k < w1.heap.size) = S := ⟨_, rfl⟩
  rw [hS] at R
  have hS1 : ∀ k, S k → w.heap.size ≤ k := fun k hk => by rw [← hS] at hk; exact hk.1
  clear hS
  have HS1 := Lib.hid hS1
  clear hS1
  go_wp2_with fail
  clear c2
  go_loopw [8, 9, 27] (fun _ _ i wr => ∃ j : Nat, j ≤ m ∧ i = .int .i64 (j : Int) ∧ CCo wr p 0 S (allTo n ls j) ∧ (∀ q, q < j → rowGood n (2 + 2 * m) q (nth ls q)) ∧ Below w.heap.size w wr) (fun _ _ i _ => m - (intOf i).toNat)
  case atStart => exact ⟨0, Nat.zero_le _, rfl, R, fun q hq => absurd hq (Nat.not_lt_zero _), B⟩
  case round =>
    clear R B
    obtain ⟨j, hj, rfl, R, hall, B⟩ := hrel
    by_cases hlt : j < m
    · obtain ⟨ad, A1, n1, c1, eA, hbl, hcl, hsl⟩ := H.cell hlt
      subst eA
      have hcr := (B.cell (p := ad.add j) (by rw [addr_block]; exact hbl)).trans hcl
      have hsr := hsl.below B
      have e3 : (j : Int) < (m : Int) := by omega
      have e0 : (0 : Int) ≤ (j : Int) := by omega
      have hl1 := hsl.len
      obtain ⟨l, hl⟩ : ∃ l, nth ls j = l := ⟨_, rfl⟩
      rw [hl] at hsl hsr hl1
      have Hl := Lib.hid hl
      have Hall := Lib.hid hall
      have Hl1 := Lib.hid hl1
      clear hl hall hcl hl1
      by_cases h236 : n1 = 236
      · subst h236
        have hA1 : ∀ ad, A1 = some ad → ¬ S ad.block := fun ad e => by
          obtain ⟨ad', e', hb, _⟩ := hsl.cell (k := 0) (by omega)
          rw [e] at e'
          injection e' with e'
          subst e'
          exact fun h => absurd (HS1.out _ h) (by omega)
        have HA1 := Lib.hid hA1
        have hsr2 := Lib.hid hsr
        clear hA1 hsr hsl
        have hnC : (allTo n ls j).n = n := allTo_n _ _ _
        have hfC : (allTo n ls j).first = 2 + 2 * m := by unfold Ct.first; rw [hnC, Hmn.out]
        have hzC : ∀ a, j * 118 ≤ a → a < (allTo n ls j).n → nm (allTo n ls j).now a = 0 := fun a ha1 ha2 => by
          rw [hnC] at ha2
          rw [allTo_now n ls j a ha2, if_neg (by omega)]
        have hstep : rowTo n j l (allTo n ls j) 118 = allTo n ls (j + 1) := by rw [← Hl.out]; rfl
        have hk := ctake_any R j (by omega) A1 c1 l hsr2.out HA1.out hzC
        rw [hnC, hfC, hstep] at hk
        have Hk := Lib.hid hk
        clear hk hnC hfC hzC hstep
        go_wp2_with fail
        refine Hk.out.mono ?_
        rintro e w4 ⟨⟨rfl, hg, R4⟩ | ⟨rfl, q, hq, hg⟩, T4⟩
        · have B4 := B.trans (T4.below (fun _ hk => HS1.out _ hk) B.size)
          have Hg := Lib.hid hg
          clear hg R
          go_wp2
          refine ⟨⟨j + 1, by omega, by go_num, R4, fun q hq => ?_, B4⟩, by simp [intOf]; omega⟩
          by_cases e : q = j
          · rw [e, Hl.out]
            exact ⟨Hl1.out, Hg.out⟩
          · exact Hall.out q (by omega)
        · have B4 := B.trans (T4.below (fun _ hk => HS1.out _ hk) B.size)
          have hno : ¬ ∀ i, i < m → rowGood n (2 + 2 * m) i (nth ls i) := fun hh => by
            have h3 := (hh j hlt).2 q hq
            rw [Hl.out, hg] at h3
            cases h3
          have Hno := Lib.hid hno
          clear hno hg
          go_wp2
          go_ret2
          exact ⟨.inr ⟨Hno.out, rfl⟩, B4⟩
      · have e4 : ¬ (n1 : Int) = 236 := by omega
        have hbad := Lib.hid (show ¬ ∀ i, i < m → rowGood n (2 + 2 * m) i (nth ls i) from fun hh => h236 (by have := (hh j hlt).1; rw [Hl.out] at this; exact Hl1.out.symm.trans this))
        have hb : ((n1 : Int) == 236) = false := by simpa using e4
        go_wp2
        go_ret2
        exact ⟨.inr ⟨hbad.out, rfl⟩, B⟩
    · have hjm : j = m := by omega
      subst hjm
      have Hall := Lib.hid hall
      clear hall
      go_wp2_with fail
      refine (ccommit_any R).mono ?_
      rintro e w5 ⟨rfl, R5, T5⟩
      go_wp2
      go_ret2
      refine ⟨.inl ⟨Hall.out, p, rfl, ?_, hpn⟩, B.trans (T5.below (fun _ hk => HS1.out _ hk) B.size)⟩
      exact (show loadC n ls = (allTo n ls j).commit by unfold loadC; rw [Hmn.out]) ▸ R5.mono fun k hk => HS1.out k hk
set_option maxHeartbeats 1000000 in
theorem cload_bad (n : Int) (h : n < 32 ∨ 2048 < n) (A : Option Addr) (m c : Nat) (w : World) :
    Calls Tryz.prog 122 #[.int .i64 n, .slice A m c] w fun e w' => e = .returned (.tuple #[.pointer none, .int .i64 1]) ∧ w = w' := by
  have H := Lib.hid h
  clear h
  go_enter Tryz.func122, Tryz.ntmps122
  go_wp2_with fail
  refine (cnew_bad n H.out w).mono ?_
  rintro e w1 ⟨rfl, rfl⟩
  go_wp2
  go_ret2
  exact ⟨rfl, rfl⟩
set_option maxHeartbeats 1000000 in
theorem cload_many (n : Nat) (h1 : 32 ≤ n) (h2 : n ≤ 2048) (A : Option Addr) (m c : Nat) (w : World) (hm : m ≠ areaN n) :
    Calls Tryz.prog 122 #[.int .i64 (n : Int), .slice A m c] w fun e w' => e = .returned (.tuple #[.pointer none, .int .i64 3]) ∧ Below w.heap.size w w' := by
  obtain ⟨k, hk⟩ : ∃ k, areaN n = k := ⟨_, rfl⟩
  rw [hk] at hm
  have Hk := Lib.hid hk
  have d0 : ¬ (m : Int) = (k : Int) := by omega
  have hb : ((m : Int) == (k : Int)) = false := by simpa using d0
  clear hk
  go_enter Tryz.func122, Tryz.ntmps122
  go_wp2_with fail
  refine (cnew_any n h1 h2 w).mono ?_
  rintro e w1 ⟨p, rfl, R, _, B⟩
  have c2 : w1.cell? ⟨p, 2, none⟩ = some (.int .i64 (k : Int)) := by
    obtain ⟨_, _, _, _, _, _, c2, _⟩ := R.open_
    rw [Ct.zero_n, Hk.out] at c2
    exact c2
  go_wp2
  go_ret2
  exact ⟨rfl, B⟩
/-- Load of anything. -/
theorem cload_any (n : Int) (ls : List (List UInt8)) (A : Option Addr) (m c : Nat) {w : World} (H : Parts w A m c ls) :
    Calls Tryz.prog 122 #[.int .i64 n, .slice A m c] w fun e w' => ((loadE n ls = 0 ∧ ∃ p, e = .returned (.tuple #[.pointer (some ⟨p, 0, none⟩), .int .i64 0]) ∧ CCo w' p 0 (fun k => w.heap.size ≤ k) (loadC n.toNat ls) ∧ w.heap.size ≤ p) ∨
      (loadE n ls ≠ 0 ∧ e = .returned (.tuple #[.pointer none, .int .i64 (loadE n ls)]))) ∧ Below w.heap.size w w' := by
  by_cases hn : 32 ≤ n ∧ n ≤ 2048
  · obtain ⟨k, rfl⟩ := Int.eq_ofNat_of_zero_le (show 0 ≤ n by omega)
    by_cases hm : m = areaN k
    · refine (cload_in k ls (by omega) (by omega) A m c H hm).mono ?_
      have hl : ls.length = areaN k := H.len.trans hm
      rintro e w' ⟨⟨hg, p, rfl, R, hpn⟩ | ⟨hg, rfl⟩, B⟩
      · have hE : loadE (k : Int) ls = 0 := by unfold loadE; rw [Int.toNat_natCast, if_neg (fun h => h hn), if_neg (fun h => h.elim (fun h => h hl) (fun h => h hg))]
        exact ⟨.inl ⟨hE, p, rfl, R, hpn⟩, B⟩
      · have hE : loadE (k : Int) ls = 3 := by unfold loadE; rw [Int.toNat_natCast, if_neg (fun h => h hn), if_pos (.inr hg)]
        rw [hE]
        exact ⟨.inr ⟨by omega, rfl⟩, B⟩
    · refine (cload_many k (by omega) (by omega) A m c w hm).mono ?_
      rintro e w' ⟨rfl, B⟩
      have hE : loadE (k : Int) ls = 3 := by unfold loadE; rw [Int.toNat_natCast, if_neg (fun h => h hn), if_pos (.inl (by rw [H.len]; exact hm))]
      rw [hE]
      exact ⟨.inr ⟨by omega, rfl⟩, B⟩
  · refine (cload_bad n (by omega) A m c w).mono ?_
    rintro e w' ⟨rfl, rfl⟩
    have hE : loadE n ls = 1 := by unfold loadE; rw [if_pos hn]
    rw [hE]
    exact ⟨.inr ⟨by omega, rfl⟩, Below.refl _ _⟩
end Go.Proofs.YtgedmodnkiijkaaGreatDoor
