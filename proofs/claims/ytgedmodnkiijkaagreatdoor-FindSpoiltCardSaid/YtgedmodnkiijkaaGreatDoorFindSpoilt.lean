/- FindSpoilt's walk. -/
import Derived.Test.YtgedmodnkiijkaaGreatDoorFn12
import Derived.Test.YtgedmodnkiijkaaGreatDoorFn33
namespace Go.Proofs.YtgedmodnkiijkaaGreatDoor
open Go Go.RowKit Go.Proofs

theorem tmod_in (a : Int) : ∃ s, a.tmod 256 = s ∧ -255 ≤ s ∧ s ≤ 255 := by
  refine ⟨_, rfl, ?_⟩
  have h1 := Int.tmod_lt_of_pos a (by omega : (0 : Int) < 256)
  have h2 := Int.lt_tmod_of_pos a (by omega : (0 : Int) < 256)
  omega
/-- What the law's loops go by, of a tree a byte of whose blocks was turned. -/
structure Spoilt (w : World) (p : Nat) (R R' : Int → Nd × Int) (root : Int) (its : List Itm) : Prop where
  src : Src w p R'
  less : Less1 R R'
  tree : TreeOf R root its
set_option maxRecDepth 100000 in
set_option maxHeartbeats 16000000 in
theorem findSpoilt_walk (A : Option Addr) (n c : Nat) (l0 : List Itm) (B : Option Addr) (m k : Nat) (zs : List Int) (x0 x1 x2 : Int) (w : World) (hI : Itms w A n c l0) (hC : Ints w B m k zs) (_hx0 : i64 x0) (_hx1 : i64 x1) (_hx2 : i64 x2) (ht : Tab w) :
    Calls Tryz.prog 6 #[.agg #[.slice A n c, .slice B m k], .agg #[.int .i64 x0, .int .i64 x1, .int .i64 x2]] w fun e w' => e = .returned (.bool true) ∧ Below w.heap.size w w' := by
  obtain ⟨HW, HX, Bb⟩ := box_two w (.cells #[.slice A n c, .slice B m k] 25) (.cells #[.int .i64 x0, .int .i64 x1, .int .i64 x2] 64)
  have hG := ht.1
  have hI' := hI
  have hCb := Lib.hid hC.2
  have hCi := ints_intl hC
  go_enter Tryz.func6, Tryz.ntmps6
  go_wp2_with fail
  generalize (w.alloc (.cells #[.slice A n c, .slice B m k] 25)).alloc (.cells #[.int .i64 x0, .int .i64 x1, .int .i64 x2] 64) = wb at HW HX Bb ⊢
  have tb := ht.below Bb hG
  refine (fshown_any wb tb).mono ?_
  rintro e w1 ⟨rfl, b1⟩
  have t1 := tb.below b1 tb.1
  have B1 := Bb.trans (b1.mono Bb.size)
  obtain ⟨u0, u1⟩ := wd_cells HW b1
  go_wp2_with fail
  refine (rrow_any A n c l0 150 w1 (hI.below B1) (by omega)).mono ?_
  rintro e w2 ⟨A2, n2, c2, rfl, I2, b2⟩
  have hgood := row_good l0 150
  obtain ⟨l, hl⟩ : ∃ l, rowR (l0.take 150) [] = l := ⟨_, rfl⟩
  rw [hl] at I2 hgood
  have t2 := t1.below b2 t1.1
  have b12 := b1.trans (b2.mono b1.size)
  have B2 := Bb.trans (b12.mono Bb.size)
  clear u0 u1 hl
  obtain ⟨u0, u1⟩ := wd_cells HW b12
  have Hgr := Lib.hid (grown_says A2 n2 c2 l B m k zs I2 (Sls.below hCi B2) hCb.out hgood (Nat.le_refl _) t2)
  have hln := Lib.hid I2.len
  have hlm := Lib.hid hgood.len
  clear hI hI' hC hCi
  go_wp2_with fail
  refine Hgr.out.mono ?_
  rintro e w3 ⟨p, d, root, P, rfl, TR, t3, b3⟩
  have z2 := B2.size
  have B3 := B2.trans (b3.mono z2)
  clear u0 u1 Hgr
  have hTc := Lib.hid (treed_commit TR (by omega) t3)
  go_wp2_with fail
  refine hTc.out.mono ?_
  rintro e w4 ⟨rfl, ⟨S0, S, T, H4⟩, TR4, t4, b4⟩
  have b24 : Below w2.heap.size w2 w4 := b3.trans b4
  have B4 : Below w.heap.size w w4 := B2.trans (b24.mono z2)
  have b14 : Below wb.heap.size wb w4 := b12.trans (b24.mono b12.size)
  have HX4 := (b14.block _ (lt_of_heap HX)).trans HX
  have v0 : w4.cell? ⟨w.heap.size + 1, 0, none⟩ = some (.int .i64 x0) := by rw [cell_of_row _ _ _ _ _ _ HX4]; rfl
  have v1 : w4.cell? ⟨w.heap.size + 1, 1, none⟩ = some (.int .i64 x1) := by rw [cell_of_row _ _ _ _ _ _ HX4]; rfl
  have v2 : w4.cell? ⟨w.heap.size + 1, 2, none⟩ = some (.int .i64 x2) := by rw [cell_of_row _ _ _ _ _ _ HX4]; rfl
  obtain ⟨s0, hs0, hs00, hs01⟩ := tmod_in x0
  obtain ⟨s1, hs1, hs10, hs11⟩ := tmod_in x1
  obtain ⟨s2, hs2, hs20, hs21⟩ := tmod_in x2
  have hcl := TR.stock.ok
  have hT0 : ∀ k, S0 k → w2.heap.size ≤ k := fun k hk => (H4.tight k (H4.sub k hk)).1
  clear hTc HX4
  go_wp2_with fail
  refine (at_turned H4 _ _ _ (cmtD_rows hcl)).mono ?_
  rintro e w5 ⟨⟨rc, rfl⟩, H5, X5⟩
  have SP : Spoilt w5 p (P.done.store (cmtD P)) (P.done.store ((cmtD P).corrupt (max s0 (-s0)) (max s1 (-s1)) (max s2 (-s2)))) root l := ⟨src_done H5, store_turned _ _ _ _ _, TR4⟩
  generalize P.done.store (cmtD P) = R at SP
  generalize P.done.store ((cmtD P).corrupt (max s0 (-s0)) (max s1 (-s1)) (max s2 (-s2))) = R' at SP
  have t5 := t4.turned X5 (fun h => by have := hT0 _ h; omega)
  have b25 : Below w2.heap.size w2 w5 := b24.trans (X5.below hT0 b24.size)
  have B5 : Below w.heap.size w w5 := B2.trans (b25.mono z2)
  have I25 := I2.below b25
  clear H4 H5 TR4 X5 hT0 hcl v0 v1 v2 hs0 hs1 hs2 hs00 hs01 hs10 hs11 hs20 hs21 _hx0 _hx1 _hx2 TR
  go_wp2_with fail
  go_loopw [13, 14, 15] (fun iv _ _ wr => ∃ j : Nat, j ≤ n2 ∧ iv = .int .i64 (j : Int) ∧ Below w5.heap.size w5 wr) (fun iv _ _ _ => n2 - (intOf iv).toNat)
  case atStart => exact ⟨0, Nat.zero_le _, rfl, Below.refl _ _⟩
  case round =>
    obtain ⟨j, hj, rfl, Br⟩ := hrel
    have tr := t5.below Br t5.1
    have I2r := I25.below Br
    have zr := Br.size
    by_cases hlt : j < n2
    · obtain ⟨g, o, V, pp, q, rfl, hg, a0, a1, a2, a3, hs⟩ := I2r.cell hlt
      have hmem : itAt l j ∈ l := List.mem_of_getElem? (itAt_get (by rw [hln.out]; exact hlt))
      have hv := valOf_mem hgood.risen _ hmem
      obtain ⟨x, hx⟩ : ∃ x, itAt l j = x := ⟨_, rfl⟩
      rw [hx] at a0 a1 a2 hs hv
      have hgv : gotOf (valOf l x.k) = (x.v, 0) := by rw [hv]; rfl
      have hgt := spoilt_get (SP.src.below Br) SP.less SP.tree hgood.risen tr x.k
      rw [hgv] at hgt
      have Hg := Lib.hid hgt
      have e0 : (0 : Int) ≤ (j : Int) := by omega
      have e1 : (j : Int) < (n2 : Int) := by omega
      obtain ⟨hb1, hb2⟩ := I2r.bounds
      unfold maxLen at hb2
      clear hmem hv hx I2r hgv hgt
      go_wp2_with fail
      refine Hg.out.mono ?_
      rintro e w6 ⟨A6, n6, c6, ⟨rfl, s6⟩ | ⟨xx, rfl, s6⟩, b6⟩
      · have a3' := (b6.cell (p := ⟨g, _, none⟩) hg).trans a3
        have hs6 := hs.below b6
        have hg6 : g < w6.heap.size := by have := b6.size; omega
        obtain ⟨X, hX⟩ : ∃ X, (⟨x.v.toArray⟩ : ByteArray) = X := ⟨_, rfl⟩
        have s1 := fun k => strB (s6.drewN k)
        have s2 := fun k => strB (hs6.drewN k)
        simp only [hX] at s1 s2
        clear s6 hs6 hs a0 a1 a2 a3 Hg hX
        go_wp2_with fail
        go_quiet (fail)
        generalize hw5 : World.drewN w6 _ = w7
        have hB7 : Below w5.heap.size w5 w7 := by rw [← hw5]; exact below_drewN (Br.trans (b6.mono zr)) _
        clear hw5 s1 s2
        go_wp2
        exact ⟨⟨j + 1, by omega, by go_num, hB7⟩, by simp [intOf]; omega⟩
      · clear s6 hs a0 a1 a2 a3 Hg
        go_wp2_with fail
        go_quiet (fail)
        generalize hw5 : World.drewN w6 _ = w7
        have hB7 : Below w5.heap.size w5 w7 := by rw [← hw5]; exact below_drewN (Br.trans (b6.mono zr)) _
        clear hw5
        go_wp2
        exact ⟨⟨j + 1, by omega, by go_num, hB7⟩, by simp [intOf]; omega⟩
    · have e1 : ¬ (j : Int) < (n2 : Int) := by omega
      have hsc := spoilt_scan (SP.src.below Br) SP.less SP.tree hgood.risen hgood.len tr ⟨0, 0, 0⟩ ⟨2147483647, 255, 2147483647⟩ 1000
      rw [scan_whole hgood (Nat.le_refl _)] at hsc
      have Hsc := Lib.hid hsc
      have BQ : Below w.heap.size w wr := B5.trans (Br.mono B5.size)
      clear hsc
      go_wp2_with fail
      refine Hsc.out.mono ?_
      rintro e w7 ⟨A7, n7, c7, ⟨rfl, I7⟩ | ⟨rfl, I7⟩, b7⟩
      · have I27 := I2r.below b7
        have hn7 : n7 = n2 := I7.len.symm.trans I27.len
        subst hn7
        clear Hsc
        go_wp2_with fail
        refine (rsameitems_yes l A7 n7 c7 A2 c2 w7 I7 I27).mono ?_
        rintro e w8 ⟨rfl, b8⟩
        go_wp2_with fail
        go_ret
        exact ⟨rfl, BQ.trans ((b7.trans (b8.mono b7.size)).mono BQ.size)⟩
      · have I27 := I2r.below b7
        have hn7 : n7 = 0 := I7.len.symm
        subst hn7
        clear Hsc
        go_wp2_with fail
        by_cases hn0 : n2 = 0
        · have hl0 : l = [] := List.length_eq_zero_iff.1 (by rw [hln.out]; exact hn0)
          rw [hl0] at I27
          rw [hn0] at I27 ⊢
          refine (rsameitems_yes [] A7 0 c7 A2 c2 w7 I7 I27).mono ?_
          rintro e w8 ⟨rfl, b8⟩
          go_wp2_with fail
          go_ret
          exact ⟨rfl, BQ.trans ((b7.trans (b8.mono b7.size)).mono BQ.size)⟩
        · refine (rsameitems_len A7 0 c7 A2 n2 c2 w7 (fun h => hn0 h.symm)).mono ?_
          rintro e w8 ⟨rfl, rfl⟩
          go_wp2_with fail
          go_ret
          exact ⟨rfl, BQ.trans (b7.mono BQ.size)⟩
end Go.Proofs.YtgedmodnkiijkaaGreatDoor
