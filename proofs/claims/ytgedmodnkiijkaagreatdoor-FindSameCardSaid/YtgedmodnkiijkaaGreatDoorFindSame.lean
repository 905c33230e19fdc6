/- FindSame's walk. -/
import Derived.Test.YtgedmodnkiijkaaGreatDoorFn7
import Derived.Test.YtgedmodnkiijkaaGreatDoorFn33
namespace Go.Proofs.YtgedmodnkiijkaaGreatDoor
open Go Go.RowKit Go.Proofs

set_option maxRecDepth 100000 in
set_option maxHeartbeats 16000000 in
theorem findSame_walk (A : Option Addr) (n c : Nat) (l0 : List Itm) (B : Option Addr) (m k : Nat) (zs : List Int) (Ac : Option Addr) (nc cc : Nat) (zc : List Int) (Ak : Option Addr) (nk ck : Nat) (ks : List Kd) (w : World) (hI : Itms w A n c l0) (hC : Ints w B m k zs) (hC2 : Ints w Ac nc cc zc) (hK : Keyl w Ak nk ck ks) (ht : Tab w) :
    Calls Tryz.prog 9 #[.agg #[.slice A n c, .slice B m k], .slice Ac nc cc, .slice Ak nk ck] w fun e w' => e = .returned (.bool true) ∧ Below w.heap.size w w' := by
  obtain ⟨HW, Bb⟩ := box_one w (.cells #[.slice A n c, .slice B m k] 25)
  have hG := ht.1
  have hI' := hI
  have hCb := Lib.hid hC.2
  have hCi := ints_intl hC
  go_enter Tryz.func9, Tryz.ntmps9
  go_wp2_with fail
  generalize w.alloc (.cells #[.slice A n c, .slice B m k] 25) = wb at HW Bb ⊢
  have tb := ht.below Bb hG
  refine (fshown_any wb tb).mono ?_
  rintro e w1 ⟨rfl, b1⟩
  have t1 := tb.below b1 tb.1
  have B1 := Bb.trans (b1.mono Bb.size)
  obtain ⟨x0, x1⟩ := wd_cells HW b1
  go_wp2_with fail
  refine (rrow_any A n c l0 150 w1 (hI.below B1) (by omega)).mono ?_
  rintro e w2 ⟨A2, n2, c2, rfl, I2, b2⟩
  have hgood := row_good l0 150
  obtain ⟨l, hl⟩ : ∃ l, rowR (l0.take 150) [] = l := ⟨_, rfl⟩
  rw [hl] at I2 hgood
  have t2 := t1.below b2 t1.1
  have b12 := b1.trans (b2.mono b1.size)
  have B2 := Bb.trans (b12.mono Bb.size)
  clear x0 x1 hl
  obtain ⟨x0, x1⟩ := wd_cells HW b12
  have Hgr := Lib.hid (grown_says A2 n2 c2 l B m k zs I2 (Sls.below hCi B2) hCb.out hgood (Nat.le_refl _) t2)
  have hln := Lib.hid I2.len
  have hlm := Lib.hid hgood.len
  clear hI hI' hC hCi
  go_wp2_with fail
  refine Hgr.out.mono ?_
  rintro e w3 ⟨p, d, root, P, rfl, TR, t3, b3⟩
  have z2 := B2.size
  have B3 := B2.trans (b3.mono z2)
  clear x0 x1 Hgr
  have TD := TR.told hgood.risen hgood.len
  have Hgr2 := Lib.hid (grown_says A2 n2 c2 l Ac nc cc zc (I2.below b3) (Sls.below (ints_intl hC2) B3) hC2.2 hgood (Nat.le_refl _) t3)
  go_wp2_with fail
  refine Hgr2.out.mono ?_
  rintro e w4 ⟨q, d2, root2, P2, rfl, TR2, t4, b4⟩
  have TQ := TR2.told hgood.risen hgood.len
  have TP := TD.below b4
  have B4 := B3.trans (b4.mono B3.size)
  clear Hgr2 TD
  go_wp2_with fail
  go_loopw [15, 16, 17, 18, 19, 20, 21, 22, 23, 24] (fun iv _ _ _ _ _ _ _ _ _ wr => ∃ i : Nat, i ≤ nk ∧ i ≤ 20 ∧ iv = .int .i64 (i : Int) ∧ Below w4.heap.size w4 wr) (fun iv _ _ _ _ _ _ _ _ _ _ => 20 - (intOf iv).toNat)
  case atStart => exact ⟨0, Nat.zero_le _, Nat.zero_le _, rfl, Below.refl _ _⟩
  case round =>
    obtain ⟨i, hi, hi20, rfl, Br⟩ := hrel
    have tr := t4.below Br t4.1
    have zr := Br.size
    have BQ : Below w.heap.size w wr := B4.trans (Br.mono B4.size)
    by_cases hgo : i < nk ∧ i < 20
    · obtain ⟨hi1, hi2⟩ := hgo
      obtain ⟨g, o, rfl, hg, a0, a1, a2⟩ := Keyl.cell (Sls.below hK BQ) hi1
      obtain ⟨g0, o0, hA0, -, c0, c1, c2'⟩ := Keyl.cell (Sls.below hK BQ) (show 0 < nk by omega)
      injection hA0 with hA0
      injection hA0 with hg0 ho0
      subst hg0 ho0
      rw [Nat.zero_mul, Nat.add_zero] at c0 c1 c2'
      obtain ⟨y, hy⟩ : ∃ y, keyAt ks i = y := ⟨_, rfl⟩
      obtain ⟨y0, hy0⟩ : ∃ y, keyAt ks 0 = y := ⟨_, rfl⟩
      rw [hy] at a0 a1 a2
      rw [hy0] at c0 c1 c2'
      obtain ⟨G, hG2⟩ : ∃ G, gotOf (valOf l y) = G := ⟨_, rfl⟩
      obtain ⟨L, hL⟩ : ∃ L, (within y0 y l).take (9 : Int).toNat = L := ⟨_, rfl⟩
      have hF : ∀ w', Below wr.heap.size wr w' → (w'.cell? ⟨g, o, none⟩ = some (.int .i64 y0.obj) ∧ w'.cell? ⟨g, o + 1, none⟩ = some (.int .i64 y0.kind) ∧ w'.cell? ⟨g, o + 2, none⟩ = some (.int .i64 y0.off)) ∧ w'.cell? ⟨g, o + i * 3, none⟩ = some (.int .i64 y.obj) ∧ w'.cell? ⟨g, o + i * 3 + 1, none⟩ = some (.int .i64 y.kind) ∧ w'.cell? ⟨g, o + i * 3 + 2, none⟩ = some (.int .i64 y.off) := fun w' hb => ⟨⟨(hb.cell (p := ⟨g, _, none⟩) hg).trans c0, (hb.cell (p := ⟨g, _, none⟩) hg).trans c1, (hb.cell (p := ⟨g, _, none⟩) hg).trans c2'⟩, (hb.cell (p := ⟨g, _, none⟩) hg).trans a0, (hb.cell (p := ⟨g, _, none⟩) hg).trans a1, (hb.cell (p := ⟨g, _, none⟩) hg).trans a2⟩
      have HF := Lib.hid hF
      have Hg := Lib.hid ((TP.below Br).get tr y G hG2)
      have e0 : (0 : Int) ≤ (i : Int) := by omega
      have e1 : (i : Int) < (nk : Int) := by omega
      have e2 : (i : Int) < 20 := by omega
      have e3 : (0 : Int) < (nk : Int) := by omega
      have e4 : 0 < nk := by omega
      have hkb := (Sls.below hK BQ).cap
      have hkc := (Sls.below hK BQ).max
      unfold maxLen at hkc
      clear hy hy0 hF c0 c1 c2'
      go_wp2_with fail
      refine Hg.out.mono ?_
      rintro e w6 ⟨A6, n6, c6, rfl, s6, b6⟩
      have t6 := tr.below b6 tr.1
      obtain ⟨-, a0', a1', a2'⟩ := HF.out w6 b6
      have Hg2 := Lib.hid ((TQ.below (Br.trans (b6.mono zr))).get t6 y G hG2)
      clear a0 a1 a2 Hg
      go_wp2_with fail
      refine Hg2.out.mono ?_
      rintro e w7 ⟨A7, n7, c7, rfl, s7, b7⟩
      have b67 := b6.trans (b7.mono b6.size)
      have B47 := Br.trans (b67.mono zr)
      have t7 := t6.below b7 t6.1
      obtain ⟨⟨c0, c1, c2'⟩, a0, a1, a2⟩ := HF.out w7 b67
      have BD : Below w7.heap.size w7 w7.drew := (Below.refl _ _).drew
      have hFD : ∀ w', Below w7.heap.size w7 w' → w'.cell? ⟨g, o, none⟩ = some (.int .i64 y0.obj) ∧ w'.cell? ⟨g, o + 1, none⟩ = some (.int .i64 y0.kind) ∧ w'.cell? ⟨g, o + 2, none⟩ = some (.int .i64 y0.off) ∧ w'.cell? ⟨g, o + i * 3, none⟩ = some (.int .i64 y.obj) ∧ w'.cell? ⟨g, o + i * 3 + 1, none⟩ = some (.int .i64 y.kind) ∧ w'.cell? ⟨g, o + i * 3 + 2, none⟩ = some (.int .i64 y.off) := fun w' hb => by
        obtain ⟨⟨d0, d1, d2⟩, d3, d4, d5⟩ := HF.out w' (b67.trans (hb.mono b67.size))
        exact ⟨d0, d1, d2, d3, d4, d5⟩
      have Hs1 := Lib.hid ((TP.below (B47.trans (BD.mono B47.size))).scan (t7.below BD t7.1) y0 y 9 L hL)
      clear a0' a1' a2' Hg2 hG2
      go_wp2_with fail
      go_region_held3 (fun w' => w'.cell? ⟨g, o, none⟩ = some (.int .i64 y0.obj) ∧ w'.cell? ⟨g, o + 1, none⟩ = some (.int .i64 y0.kind) ∧ w'.cell? ⟨g, o + 2, none⟩ = some (.int .i64 y0.off) ∧ w'.cell? ⟨g, o + i * 3, none⟩ = some (.int .i64 y.obj) ∧ w'.cell? ⟨g, o + i * 3 + 1, none⟩ = some (.int .i64 y.kind) ∧ w'.cell? ⟨g, o + i * 3 + 2, none⟩ = some (.int .i64 y.off))
        (first | assumption | exact hFD _ BD | exact hFD _ bb3)
        (first
          | (go_at_call 16; refine Hs1.out.mono ?_; rintro e w8 ⟨A8, n8, c8, rfl, I8, b8⟩; have bb3 : Below w7.heap.size w7 w8 := BD.trans b8)
          | fail)
      have B48 := B47.trans (bb3.mono B47.size)
      have t8 := t7.below bb3 t7.1
      have BD8 : Below w8.heap.size w8 w8.drew := (Below.refl _ _).drew
      have hFE : ∀ w', Below w8.heap.size w8 w' → w'.cell? ⟨g, o, none⟩ = some (.int .i64 y0.obj) ∧ w'.cell? ⟨g, o + 1, none⟩ = some (.int .i64 y0.kind) ∧ w'.cell? ⟨g, o + 2, none⟩ = some (.int .i64 y0.off) ∧ w'.cell? ⟨g, o + i * 3, none⟩ = some (.int .i64 y.obj) ∧ w'.cell? ⟨g, o + i * 3 + 1, none⟩ = some (.int .i64 y.kind) ∧ w'.cell? ⟨g, o + i * 3 + 2, none⟩ = some (.int .i64 y.off) := fun w' hb => hFD w' (bb3.trans (hb.mono bb3.size))
      obtain ⟨z0, z1, z2', z3, z4, z5⟩ := hFE w8 (Below.refl _ _)
      have Hs2 := Lib.hid ((TQ.below (B48.trans (BD8.mono B48.size))).scan (t8.below BD8 t8.1) y0 y 9 L hL)
      clear hFD c0 c1 c2' a0 a1 a2 Hs1
      go_wp2_with fail
      go_region_held3 (fun w' => w'.cell? ⟨g, o, none⟩ = some (.int .i64 y0.obj) ∧ w'.cell? ⟨g, o + 1, none⟩ = some (.int .i64 y0.kind) ∧ w'.cell? ⟨g, o + 2, none⟩ = some (.int .i64 y0.off) ∧ w'.cell? ⟨g, o + i * 3, none⟩ = some (.int .i64 y.obj) ∧ w'.cell? ⟨g, o + i * 3 + 1, none⟩ = some (.int .i64 y.kind) ∧ w'.cell? ⟨g, o + i * 3 + 2, none⟩ = some (.int .i64 y.off))
        (first | assumption | exact hFE _ BD8 | exact hFE _ bb4)
        (first
          | (go_at_call 16; refine Hs2.out.mono ?_; rintro e w9 ⟨A9, n9, c9, rfl, I9, b9⟩; have bb4 : Below w8.heap.size w8 w9 := BD8.trans b9)
          | fail)
      have I89 := I8.below bb4
      have hn89 : n8 = n9 := I89.len.symm.trans I9.len
      subst hn89
      have b79 := bb3.trans (bb4.mono bb3.size)
      clear hFE z0 z1 z2' z3 z4 z5 Hs2
      go_wp2_with fail
      refine (rsameitems_yes L A8 n8 c8 A9 c9 w9 I89 I9).mono ?_
      rintro e w10 ⟨rfl, b10⟩
      have k1 := str_bs (s6.below ((b7.trans (b79.mono b7.size)).trans (b10.mono (by have := b7.size; have := b79.size; omega))))
      have k2 := str_bs (s7.below (b79.trans (b10.mono b79.size)))
      obtain ⟨X, hX⟩ : ∃ X, (⟨G.1.toArray⟩ : ByteArray) = X := ⟨_, rfl⟩
      rw [hX] at k1 k2
      have B10 := (B47.trans (b79.mono B47.size)).trans (b10.mono (by have := B47.size; have := b79.size; omega))
      clear s6 s7 I8 I89 I9 hX hL
      go_wp2_with fail
      exact ⟨⟨i + 1, by omega, by omega, by go_num, B10⟩, by simp [intOf]; omega⟩
    · have hfin : ¬ ((i : Int) < (nk : Int) ∧ (i : Int) < 20) := fun h => hgo ⟨by omega, by omega⟩
      clear hgo
      by_cases h1 : (i : Int) < (nk : Int)
      all_goals (
        have h2 : ¬ ((i : Int) < (nk : Int) ∧ (i : Int) < 20) := hfin
        first
          | (have h3 : ¬ (i : Int) < 20 := fun h => h2 ⟨h1, h⟩
             clear h2 hfin
             go_wp2_with fail)
          | (clear h2 hfin
             go_wp2_with fail)
        go_ret
        exact ⟨rfl, BQ⟩)
end Go.Proofs.YtgedmodnkiijkaaGreatDoor
