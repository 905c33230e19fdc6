/- FindGets's walk. -/
import Derived.Test.YtgedmodnkiijkaaGreatDoorFn7
import Derived.Test.YtgedmodnkiijkaaGreatDoorFn33
namespace Go.Proofs.YtgedmodnkiijkaaGreatDoor
open Go Go.RowKit Go.Proofs

set_option maxRecDepth 100000 in
set_option maxHeartbeats 16000000 in
theorem findGets_walk (A : Option Addr) (n c : Nat) (l0 : List Itm) (B : Option Addr) (m k : Nat) (zs : List Int) (Ak : Option Addr) (nk ck : Nat) (ks : List Kd) (cm : Bool) (w : World) (hI : Itms w A n c l0) (hC : Ints w B m k zs) (hK : Keyl w Ak nk ck ks) (ht : Tab w) :
    Calls Tryz.prog 3 #[.agg #[.slice A n c, .slice B m k], .slice Ak nk ck, .bool cm] w fun e w' => e = .returned (.bool true) ∧ Below w.heap.size w w' := by
  obtain ⟨HW, Bb⟩ := box_one w (.cells #[.slice A n c, .slice B m k] 25)
  have hG := ht.1
  have hI' := hI
  have hCb := Lib.hid hC.2
  have hCi := ints_intl hC
  go_enter Tryz.func3, Tryz.ntmps3
  go_wp2_with fail
  generalize w.alloc (.cells #[.slice A n c, .slice B m k] 25) = wb at HW Bb ⊢
  have tb := ht.below Bb hG
  refine (fshown_any wb tb).mono ?_
  rintro e w1 ⟨rfl, b1⟩
  have t1 := tb.below b1 tb.1
  have B1 := Bb.trans (b1.mono Bb.size)
  obtain ⟨x0, x1⟩ := wd_cells HW b1
  go_wp2_with fail
  refine (rrow_any A n c l0 150 w1 (hI.below B1) (by omega)).mono ?_
  rintro e w2 ⟨A2, n2, c2, rfl, I2, b2⟩
  have hgood := row_good l0 150
  obtain ⟨l, hl⟩ : ∃ l, rowR (l0.take 150) [] = l := ⟨_, rfl⟩
  rw [hl] at I2 hgood
  have t2 := t1.below b2 t1.1
  have b12 := b1.trans (b2.mono b1.size)
  have B2 := Bb.trans (b12.mono Bb.size)
  clear x0 x1 hl
  obtain ⟨x0, x1⟩ := wd_cells HW b12
  have Hgr := Lib.hid (grown_says A2 n2 c2 l B m k zs I2 (Sls.below hCi B2) hCb.out hgood (Nat.le_refl _) t2)
  have hln := Lib.hid I2.len
  have hlm := Lib.hid hgood.len
  clear hI hI' hC hCi
  go_wp2_with fail
  refine Hgr.out.mono ?_
  rintro e w3 ⟨p, d, root, P, rfl, TR, t3, b3⟩
  have z2 := B2.size
  have B3 := B2.trans (b3.mono z2)
  clear x0 x1 Hgr
  cases cm with
  | false =>
    have TD := TR.told hgood.risen hgood.len
    have I24 := I2.below b3
    have t4 := t3
    have B4 := B3
    obtain ⟨w4, hw4⟩ : ∃ x, x = w3 := ⟨_, rfl⟩
    subst hw4
    go_wp2_with fail
    go_loopw [12, 13, 14] (fun iv _ _ wr => ∃ j : Nat, j ≤ n2 ∧ iv = .int .i64 (j : Int) ∧ Below w4.heap.size w4 wr) (fun iv _ _ _ => n2 - (intOf iv).toNat)
    case atStart => exact ⟨0, Nat.zero_le _, rfl, Below.refl _ _⟩
    case round =>
      obtain ⟨j, hj, rfl, Br⟩ := hrel
      have tr := t4.below Br t4.1
      have I2r := I24.below Br
      have zr := Br.size
      by_cases hlt : j < n2
      · obtain ⟨g, o, V, pp, q, rfl, hg, a0, a1, a2, a3, hs⟩ := I2r.cell hlt
        have hmem : itAt l j ∈ l := List.mem_of_getElem? (itAt_get (by rw [hln.out]; exact hlt))
        have hv := valOf_mem hgood.risen _ hmem
        obtain ⟨x, hx⟩ : ∃ x, itAt l j = x := ⟨_, rfl⟩
        rw [hx] at a0 a1 a2 hs hv
        have Hg := Lib.hid ((TD.below Br).get tr x.k (x.v, 0) (by rw [hv]; rfl))
        have e0 : (0 : Int) ≤ (j : Int) := by omega
        have e1 : (j : Int) < (n2 : Int) := by omega
        obtain ⟨hb1, hb2⟩ := I2r.bounds
        unfold maxLen at hb2
        clear hmem hv hx I2r
        go_wp2_with fail
        refine Hg.out.mono ?_
        rintro e w6 ⟨A6, n6, c6, rfl, s6, b6⟩
        have a3' := (b6.cell (p := ⟨g, _, none⟩) hg).trans a3
        have hs6 := hs.below b6
        have hg6 : g < w6.heap.size := by have := b6.size; omega
        obtain ⟨X, hX⟩ : ∃ X, (⟨x.v.toArray⟩ : ByteArray) = X := ⟨_, rfl⟩
        have s1 := fun k => strB (s6.drewN k)
        have s2 := fun k => strB (hs6.drewN k)
        simp only [hX] at s1 s2
        clear s6 hs6 hs a0 a1 a2 a3 Hg hX
        go_wp2_with fail
        go_quiet (fail)
        generalize hw5 : World.drewN w6 _ = w7
        have hB7 : Below w4.heap.size w4 w7 := by rw [← hw5]; exact below_drewN (Br.trans (b6.mono zr)) _
        clear hw5 s1 s2
        go_wp2
        exact ⟨⟨j + 1, by omega, by go_num, hB7⟩, by simp [intOf]; omega⟩
      · have e1 : ¬ (j : Int) < (n2 : Int) := by omega
        go_wp2_with fail
        go_loopw [15, 16, 17, 18, 19] (fun iv _ _ _ _ wr => ∃ i : Nat, i ≤ nk ∧ i ≤ 20 ∧ iv = .int .i64 (i : Int) ∧ Below w4.heap.size w4 wr) (fun iv _ _ _ _ _ => 20 - (intOf iv).toNat)
        case atStart => exact ⟨0, Nat.zero_le _, Nat.zero_le _, rfl, Br⟩
        case round =>
          clear tr I2r zr Br e1
          obtain ⟨i, hi, hi20, rfl, Bq⟩ := hrel
          have tq := t4.below Bq t4.1
          have I2q := I24.below Bq
          have zq := Bq.size
          have BQ : Below w.heap.size w wr := B4.trans (Bq.mono B4.size)
          by_cases hgo : i < nk ∧ i < 20
          · obtain ⟨hi1, hi2⟩ := hgo
            obtain ⟨g, o, rfl, hg, a0, a1, a2⟩ := Keyl.cell (Sls.below hK BQ) hi1
            obtain ⟨y, hy⟩ : ∃ y, keyAt ks i = y := ⟨_, rfl⟩
            rw [hy] at a0 a1 a2
            obtain ⟨G, hG2⟩ : ∃ G, gotOf (valOf l y) = G := ⟨_, rfl⟩
            have Hg := Lib.hid ((TD.below Bq).get tq y G hG2)
            have e0 : (0 : Int) ≤ (i : Int) := by omega
            have e1 : (i : Int) < (nk : Int) := by omega
            have e2 : (i : Int) < 20 := by omega
            have hkb := (Sls.below hK BQ).cap
            have hkc := (Sls.below hK BQ).max
            unfold maxLen at hkc
            clear hy
            go_wp2_with fail
            refine Hg.out.mono ?_
            rintro e w6 ⟨A6, n6, c6, rfl, s6, b6⟩
            have a0' := (b6.cell (p := ⟨g, _, none⟩) hg).trans a0
            have a1' := (b6.cell (p := ⟨g, _, none⟩) hg).trans a1
            have a2' := (b6.cell (p := ⟨g, _, none⟩) hg).trans a2
            have Hr := Lib.hid (rget_any A2 n2 c2 l y w6 (I2q.below b6) (by have h1 := hln.out; have h2 := hlm.out; omega))
            rw [hG2] at Hr
            clear a0 a1 a2 Hg
            go_wp2_with fail
            refine Hr.out.mono ?_
            rintro e w7 ⟨A7, n7, c7, rfl, s7, b7⟩
            have k1 := str_bs (s6.below b7)
            have k2 := str_bs s7
            obtain ⟨X, hX⟩ : ∃ X, (⟨G.1.toArray⟩ : ByteArray) = X := ⟨_, rfl⟩
            rw [hX] at k1 k2
            have B7 := Bq.trans ((b6.trans (b7.mono b6.size)).mono zq)
            clear a0' a1' a2' s6 s7 Hr hX hG2
            go_wp2_with fail
            exact ⟨⟨i + 1, by omega, by omega, by go_num, B7⟩, by simp [intOf]; omega⟩
          · have hfin : ¬ ((i : Int) < (nk : Int) ∧ (i : Int) < 20) := fun h => hgo ⟨by omega, by omega⟩
            clear hgo
            by_cases h1 : (i : Int) < (nk : Int)
            all_goals (
              have h2 : ¬ ((i : Int) < (nk : Int) ∧ (i : Int) < 20) := hfin
              first
                | (have h3 : ¬ (i : Int) < 20 := fun h => h2 ⟨h1, h⟩
                   clear h2 hfin
                   go_wp2_with fail)
                | (clear h2 hfin
                   go_wp2_with fail)
              go_ret
              exact ⟨rfl, BQ⟩)
  | true =>
    have hTc := Lib.hid (treed_commit TR (by omega) t3)
    go_wp2_with fail
    refine hTc.out.mono ?_
    rintro e w4 ⟨rfl, ⟨S0, S, T, H4⟩, TR4, t4, b4⟩
    have TD : Told w4 p (P.done.store (cmtD P)) root l := ⟨src_done H4, TR4, hgood.risen, hgood.len⟩
    have I24 : Itms w4 A2 n2 c2 l := I2.below (b3.trans b4)
    have B4 : Below w.heap.size w w4 := B2.trans ((b3.trans b4).mono z2)
    clear hTc H4 TR4
    go_wp2_with fail
    go_loopw [12, 13, 14] (fun iv _ _ wr => ∃ j : Nat, j ≤ n2 ∧ iv = .int .i64 (j : Int) ∧ Below w4.heap.size w4 wr) (fun iv _ _ _ => n2 - (intOf iv).toNat)
    case atStart => exact ⟨0, Nat.zero_le _, rfl, Below.refl _ _⟩
    case round =>
      obtain ⟨j, hj, rfl, Br⟩ := hrel
      have tr := t4.below Br t4.1
      have I2r := I24.below Br
      have zr := Br.size
      by_cases hlt : j < n2
      · obtain ⟨g, o, V, pp, q, rfl, hg, a0, a1, a2, a3, hs⟩ := I2r.cell hlt
        have hmem : itAt l j ∈ l := List.mem_of_getElem? (itAt_get (by rw [hln.out]; exact hlt))
        have hv := valOf_mem hgood.risen _ hmem
        obtain ⟨x, hx⟩ : ∃ x, itAt l j = x := ⟨_, rfl⟩
        rw [hx] at a0 a1 a2 hs hv
        have Hg := Lib.hid ((TD.below Br).get tr x.k (x.v, 0) (by rw [hv]; rfl))
        have e0 : (0 : Int) ≤ (j : Int) := by omega
        have e1 : (j : Int) < (n2 : Int) := by omega
        obtain ⟨hb1, hb2⟩ := I2r.bounds
        unfold maxLen at hb2
        clear hmem hv hx I2r
        go_wp2_with fail
        refine Hg.out.mono ?_
        rintro e w6 ⟨A6, n6, c6, rfl, s6, b6⟩
        have a3' := (b6.cell (p := ⟨g, _, none⟩) hg).trans a3
        have hs6 := hs.below b6
        have hg6 : g < w6.heap.size := by have := b6.size; omega
        obtain ⟨X, hX⟩ : ∃ X, (⟨x.v.toArray⟩ : ByteArray) = X := ⟨_, rfl⟩
        have s1 := fun k => strB (s6.drewN k)
        have s2 := fun k => strB (hs6.drewN k)
        simp only [hX] at s1 s2
        clear s6 hs6 hs a0 a1 a2 a3 Hg hX
        go_wp2_with fail
        go_quiet (fail)
        generalize hw5 : World.drewN w6 _ = w7
        have hB7 : Below w4.heap.size w4 w7 := by rw [← hw5]; exact below_drewN (Br.trans (b6.mono zr)) _
        clear hw5 s1 s2
        go_wp2
        exact ⟨⟨j + 1, by omega, by go_num, hB7⟩, by simp [intOf]; omega⟩
      · have e1 : ¬ (j : Int) < (n2 : Int) := by omega
        go_wp2_with fail
        go_loopw [15, 16, 17, 18, 19] (fun iv _ _ _ _ wr => ∃ i : Nat, i ≤ nk ∧ i ≤ 20 ∧ iv = .int .i64 (i : Int) ∧ Below w4.heap.size w4 wr) (fun iv _ _ _ _ _ => 20 - (intOf iv).toNat)
        case atStart => exact ⟨0, Nat.zero_le _, Nat.zero_le _, rfl, Br⟩
        case round =>
          clear tr I2r zr Br e1
          obtain ⟨i, hi, hi20, rfl, Bq⟩ := hrel
          have tq := t4.below Bq t4.1
          have I2q := I24.below Bq
          have zq := Bq.size
          have BQ : Below w.heap.size w wr := B4.trans (Bq.mono B4.size)
          by_cases hgo : i < nk ∧ i < 20
          · obtain ⟨hi1, hi2⟩ := hgo
            obtain ⟨g, o, rfl, hg, a0, a1, a2⟩ := Keyl.cell (Sls.below hK BQ) hi1
            obtain ⟨y, hy⟩ : ∃ y, keyAt ks i = y := ⟨_, rfl⟩
            rw [hy] at a0 a1 a2
            obtain ⟨G, hG2⟩ : ∃ G, gotOf (valOf l y) = G := ⟨_, rfl⟩
            have Hg := Lib.hid ((TD.below Bq).get tq y G hG2)
            have e0 : (0 : Int) ≤ (i : Int) := by omega
            have e1 : (i : Int) < (nk : Int) := by omega
            have e2 : (i : Int) < 20 := by omega
            have hkb := (Sls.below hK BQ).cap
            have hkc := (Sls.below hK BQ).max
            unfold maxLen at hkc
            clear hy
            go_wp2_with fail
            refine Hg.out.mono ?_
            rintro e w6 ⟨A6, n6, c6, rfl, s6, b6⟩
            have a0' := (b6.cell (p := ⟨g, _, none⟩) hg).trans a0
            have a1' := (b6.cell (p := ⟨g, _, none⟩) hg).trans a1
            have a2' := (b6.cell (p := ⟨g, _, none⟩) hg).trans a2
            have Hr := Lib.hid (rget_any A2 n2 c2 l y w6 (I2q.below b6) (by have h1 := hln.out; have h2 := hlm.out; omega))
            rw [hG2] at Hr
            clear a0 a1 a2 Hg
            go_wp2_with fail
            refine Hr.out.mono ?_
            rintro e w7 ⟨A7, n7, c7, rfl, s7, b7⟩
            have k1 := str_bs (s6.below b7)
            have k2 := str_bs s7
            obtain ⟨X, hX⟩ : ∃ X, (⟨G.1.toArray⟩ : ByteArray) = X := ⟨_, rfl⟩
            rw [hX] at k1 k2
            have B7 := Bq.trans ((b6.trans (b7.mono b6.size)).mono zq)
            clear a0' a1' a2' s6 s7 Hr hX hG2
            go_wp2_with fail
            exact ⟨⟨i + 1, by omega, by omega, by go_num, B7⟩, by simp [intOf]; omega⟩
          · have hfin : ¬ ((i : Int) < (nk : Int) ∧ (i : Int) < 20) := fun h => hgo ⟨by omega, by omega⟩
            clear hgo
            by_cases h1 : (i : Int) < (nk : Int)
            all_goals (
              have h2 : ¬ ((i : Int) < (nk : Int) ∧ (i : Int) < 20) := hfin
              first
                | (have h3 : ¬ (i : Int) < 20 := fun h => h2 ⟨h1, h⟩
                   clear h2 hfin
                   go_wp2_with fail)
                | (clear h2 hfin
                   go_wp2_with fail)
              go_ret
              exact ⟨rfl, BQ⟩)
end Go.Proofs.YtgedmodnkiijkaaGreatDoor
