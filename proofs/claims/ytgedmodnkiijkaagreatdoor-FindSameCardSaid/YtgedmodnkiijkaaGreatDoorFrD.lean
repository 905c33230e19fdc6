/- The reference's Row: any items put into a row. -/
import Derived.Test.YtgedmodnkiijkaaGreatDoorFrC
namespace Go.Proofs.YtgedmodnkiijkaaGreatDoor
open Go Go.RowKit Go.Proofs

theorem rowR_step {L out : List Itm} {j : Nat} (hj : j < L.length) : rowR (L.drop j) out = rowR (L.drop (j + 1)) (if (itAt L j).k.may = true then putR (itAt L j).k ((itAt L j).v.take 28) false out else out) := by
  rw [drop_it hj, rowR]
theorem itAt_take {l : List Itm} {m j : Nat} (h : j < m) : itAt (l.take m) j = itAt l j := by
  unfold itAt
  rw [List.getD_eq_getElem?_getD, List.getD_eq_getElem?_getD, List.getElem?_take, if_pos h]

set_option maxRecDepth 100000 in
set_option maxHeartbeats 16000000 in
theorem rrow_any (A : Option Addr) (n c : Nat) (l : List Itm) (m : Nat) (w : World) (hI : Itms w A n c l) (hm : m ≤ 300) :
    Calls Tryz.prog 11 #[.slice A n c, .int .i64 (m : Int)] w fun e w' => ∃ A' n' c', e = .returned (.slice A' n' c') ∧ Itms w' A' n' c' (rowR (l.take m) []) ∧ Below w.heap.size w w' := by
  have hl := Lib.hid hI.len
  obtain ⟨R, hRe⟩ : ∃ R, rowR (l.take m) [] = R := ⟨_, rfl⟩
  have hR : rowR ((l.take m).drop 0) [] = R := hRe
  rw [hRe]
  clear hRe
  go_enter Tryz.func11, Tryz.ntmps11
  go_wp2_with fail
  have B1 : Below w.heap.size w (w.alloc (.cells #[] 41)) := (Below.refl _ _).alloc (Nat.le_refl _) _
  have I0 := (jrow_lit0 w).itms
  generalize w.alloc (.cells #[] 41) = w1 at B1 I0 ⊢
  go_loopw [5, 6, 7, 8] (fun lv i _ _ wr => ∃ (j q : Nat) (A' : Option Addr) (c' : Nat) (out : List Itm), j ≤ n ∧ j ≤ m ∧ q ≤ j ∧ i = .int .i64 (j : Int) ∧ lv = .slice A' q c' ∧ Itms wr A' q c' out ∧ risen out ∧ rowR ((l.take m).drop j) out = R ∧ Below w.heap.size w wr) (fun _ i _ _ _ => n - (intOf i).toNat)
  case atStart => exact ⟨0, 0, _, _, [], Nat.zero_le _, Nat.zero_le _, Nat.le_refl _, rfl, rfl, I0, List.Pairwise.nil, hR, B1⟩
  case round =>
    clear I0 B1 hR
    obtain ⟨j, q, A', c', out, hjn, hjm, hqj, rfl, rfl, J, hri, hR, B⟩ := hrel
    have hql := J.len
    by_cases hgo : j < n ∧ j < m
    · obtain ⟨hlt, hltm⟩ := hgo
      have hstep := rowR_step (L := l.take m) (out := out) (j := j) (by rw [List.length_take, hl.out]; omega)
      rw [hR, itAt_take hltm] at hstep
      obtain ⟨g, o, X, xp, xq, rfl, hg, c0, c1, c2, c3, hs⟩ := hI.cell hlt
      obtain ⟨x, hx⟩ : ∃ x, itAt l j = x := ⟨_, rfl⟩
      rw [hx] at c0 c1 c2 hs hstep
      have hxl := hs.len
      have hxc := hs.cap
      have HX := Lib.hid (fun (w' : World) (b : Below w.heap.size w w') => show w'.cell? ⟨g, o + j * 4, none⟩ = some (.int .i64 x.k.obj) ∧ w'.cell? ⟨g, o + j * 4 + 1, none⟩ = some (.int .i64 x.k.kind) ∧ w'.cell? ⟨g, o + j * 4 + 2, none⟩ = some (.int .i64 x.k.off) ∧ w'.cell? ⟨g, o + j * 4 + 3, none⟩ = some (.slice X xp xq) ∧ Sl w' X xp xq x.v from
        ⟨(b.cell (p := ⟨g, _, none⟩) hg).trans c0, (b.cell (p := ⟨g, _, none⟩) hg).trans c1, (b.cell (p := ⟨g, _, none⟩) hg).trans c2, (b.cell (p := ⟨g, _, none⟩) hg).trans c3, hs.below b⟩)
      have e0 : (0 : Int) ≤ (j : Int) := by omega
      have e1 : (j : Int) < (n : Int) := by omega
      have e2 : (j : Int) < (m : Int) := by omega
      obtain ⟨d0, d1, d2, d3, hxs⟩ := HX.out wr B
      clear c0 c1 c2 c3 hs hx hR
      cases hmy : x.k.may with
      | true =>
        rw [hmy] at hstep
        replace hstep : R = rowR ((l.take m).drop (j + 1)) (putR x.k (x.v.take 28) false out) := hstep
        have hri2 := putR_risen (k := x.k) (v := x.v.take 28) hri
        have hle2 := putR_len (k := x.k) (v := x.v.take 28) hri
        have H1 := fun w => krefmay_says x.k true hmy w
        clear hmy
        by_cases h28 : xp ≤ 28
        · have h28' : ¬ ((28 : Int) < (xp : Int)) := by omega
          have hvt : x.v.take 28 = x.v := List.take_of_length_le (by omega)
          rw [hvt] at hstep hri2 hle2
          have H2 := fun (w2 : World) (hI2 : Itms w2 A' q c' out) (hs2 : Sl w2 X xp xq x.v) => rput_any A' q c' out x.k X xp xq x.v w2 hI2 hs2 (by omega) (by omega)
          go_wp2_with fail
          refine (H1 wr).mono ?_
          rintro e w2 ⟨rfl, b2⟩
          have z2 := b2.size
          have B2 := B.trans (b2.mono B.size)
          obtain ⟨d0, d1, d2, d3, hxs⟩ := HX.out w2 B2
          have J2 := J.below b2
          go_wp2_with fail
          refine (H2 w2 J2 hxs).mono ?_
          rintro e w3 ⟨A3, n3, c3, rfl, J3, b3⟩
          have B3 := B2.trans (b3.mono B2.size)
          have hl3 := J3.len
          go_wp2
          exact ⟨⟨j + 1, n3, _, _, _, by omega, by omega, by omega, by go_num, rfl, J3, hri2, hstep.symm, B3⟩, by simp [intOf]; omega⟩
        · have h28' : (28 : Int) < (xp : Int) := by omega
          have h28c : (28 : Int) ≤ (xq : Int) := by omega
          have H2 := fun (w2 : World) (hI2 : Itms w2 A' q c' out) (hs2 : Sl w2 X 28 xq (x.v.take 28)) => rput_any A' q c' out x.k X 28 xq (x.v.take 28) w2 hI2 hs2 (by omega) (by omega)
          go_wp2_with fail
          refine (H1 wr).mono ?_
          rintro e w2 ⟨rfl, b2⟩
          have z2 := b2.size
          have B2 := B.trans (b2.mono B.size)
          obtain ⟨d0, d1, d2, d3, hxs⟩ := HX.out w2 B2
          have hx28 := hxs.take (show 28 ≤ xp by omega)
          have J2 := J.below b2
          go_wp2_with fail
          refine (H2 w2 J2 hx28).mono ?_
          rintro e w3 ⟨A3, n3, c3, rfl, J3, b3⟩
          have B3 := B2.trans (b3.mono B2.size)
          have hl3 := J3.len
          go_wp2
          exact ⟨⟨j + 1, n3, _, _, _, by omega, by omega, by omega, by go_num, rfl, J3, hri2, hstep.symm, B3⟩, by simp [intOf]; omega⟩
      | false =>
        rw [hmy] at hstep
        replace hstep : R = rowR ((l.take m).drop (j + 1)) out := hstep
        have H1 := fun w => krefmay_says x.k false hmy w
        clear hmy
        by_cases h28 : xp ≤ 28
        · have h28' : ¬ ((28 : Int) < (xp : Int)) := by omega
          go_wp2_with fail
          refine (H1 wr).mono ?_
          rintro e w2 ⟨rfl, b2⟩
          have B2 := B.trans (b2.mono B.size)
          obtain ⟨d0, d1, d2, d3, hxs⟩ := HX.out w2 B2
          have J2 := J.below b2
          go_wp2
          exact ⟨⟨j + 1, q, _, _, _, by omega, by omega, by omega, by go_num, rfl, J2, hri, hstep.symm, B2⟩, by simp [intOf]; omega⟩
        · have h28' : (28 : Int) < (xp : Int) := by omega
          have h28c : (28 : Int) ≤ (xq : Int) := by omega
          go_wp2_with fail
          refine (H1 wr).mono ?_
          rintro e w2 ⟨rfl, b2⟩
          have B2 := B.trans (b2.mono B.size)
          obtain ⟨d0, d1, d2, d3, hxs⟩ := HX.out w2 B2
          have J2 := J.below b2
          go_wp2
          exact ⟨⟨j + 1, q, _, _, _, by omega, by omega, by omega, by go_num, rfl, J2, hri, hstep.symm, B2⟩, by simp [intOf]; omega⟩
    · have hend : out = R := by
        rw [← hR, List.drop_of_length_le (by rw [List.length_take, hl.out]; omega)]
        rfl
      subst hend
      clear hR
      by_cases h1 : (j : Int) < (n : Int)
      · have h3 : ¬ (j : Int) < (m : Int) := fun h => hgo ⟨by omega, by omega⟩
        clear hgo
        go_wp2
        go_ret
        exact ⟨_, _, _, rfl, J, B⟩
      · clear hgo
        go_wp2
        go_ret
        exact ⟨_, _, _, rfl, J, B⟩
end Go.Proofs.YtgedmodnkiijkaaGreatDoor
