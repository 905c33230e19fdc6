/- FindScans's walk. -/
import Derived.Test.YtgedmodnkiijkaaGreatDoorFn33
namespace Go.Proofs.YtgedmodnkiijkaaGreatDoor
open Go Go.RowKit Go.Proofs

set_option maxRecDepth 100000 in
set_option maxHeartbeats 16000000 in
theorem findScans_walk (A : Option Addr) (n c : Nat) (l0 : List Itm) (B : Option Addr) (m k : Nat) (zs : List Int) (k0 k1 : Kd) (most : Int) (w : World) (hI : Itms w A n c l0) (hC : Ints w B m k zs) (hmo : i64 most) (ht : Tab w) :
    Calls Tryz.prog 4 #[.agg #[.slice A n c, .slice B m k], .agg #[.int .i64 k0.obj, .int .i64 k0.kind, .int .i64 k0.off, .int .i64 k1.obj, .int .i64 k1.kind, .int .i64 k1.off], .int .i64 most] w fun e w' => e = .returned (.bool true) ∧ Below w.heap.size w w' := by
  obtain ⟨HW, HK, Bb⟩ := box_two w (.cells #[.slice A n c, .slice B m k] 25) (.cells #[.int .i64 k0.obj, .int .i64 k0.kind, .int .i64 k0.off, .int .i64 k1.obj, .int .i64 k1.kind, .int .i64 k1.off] 44)
  have hG := ht.1
  have hI' := hI
  have hCb := Lib.hid hC.2
  have hCi := ints_intl hC
  go_enter Tryz.func4, Tryz.ntmps4
  go_wp2_with fail
  generalize (w.alloc (.cells #[.slice A n c, .slice B m k] 25)).alloc (.cells #[.int .i64 k0.obj, .int .i64 k0.kind, .int .i64 k0.off, .int .i64 k1.obj, .int .i64 k1.kind, .int .i64 k1.off] 44) = wb at HW HK Bb ⊢
  have tb := ht.below Bb hG
  refine (fshown_any wb tb).mono ?_
  rintro e w1 ⟨rfl, b1⟩
  have t1 := tb.below b1 tb.1
  have B1 := Bb.trans (b1.mono Bb.size)
  obtain ⟨x0, x1⟩ := wd_cells HW b1
  go_wp2_with fail
  refine (rrow_any A n c l0 150 w1 (hI.below B1) (by omega)).mono ?_
  rintro e w2 ⟨A2, n2, c2, rfl, I2, b2⟩
  have hgood := row_good l0 150
  obtain ⟨l, hl⟩ : ∃ l, rowR (l0.take 150) [] = l := ⟨_, rfl⟩
  rw [hl] at I2 hgood
  have t2 := t1.below b2 t1.1
  have b12 := b1.trans (b2.mono b1.size)
  have B2 := Bb.trans (b12.mono Bb.size)
  clear x0 x1 hl
  obtain ⟨x0, x1⟩ := wd_cells HW b12
  have Hgr := Lib.hid (grown_says A2 n2 c2 l B m k zs I2 (Sls.below hCi B2) hCb.out hgood (Nat.le_refl _) t2)
  have hln := Lib.hid I2.len
  have hlm := Lib.hid hgood.len
  clear hI hI' hC hCi
  go_wp2_with fail
  refine Hgr.out.mono ?_
  rintro e w3 ⟨p, d, root, P, rfl, TR, t3, b3⟩
  have z2 := B2.size
  have B3 := B2.trans (b3.mono z2)
  clear x0 x1 Hgr
  have TD := TR.told hgood.risen hgood.len
  have b13 : Below wb.heap.size wb w3 := b12.trans (b3.mono b12.size)
  obtain ⟨y0, y1, y2, y3, y4, y5⟩ := two_cells HK b13
  obtain ⟨L, hL⟩ : ∃ L, (within k0 k1 l).take most.toNat = L := ⟨_, rfl⟩
  have Hsc := Lib.hid (TD.scan t3 k0 k1 most L hL)
  go_wp2_with fail
  refine Hsc.out.mono ?_
  rintro e w4 ⟨A4, n4, c4, rfl, I4, b4⟩
  have t4 := t3.below b4 t3.1
  have b14 := b13.trans (b4.mono b13.size)
  have I24 := (I2.below b3).below b4
  clear y0 y1 y2 y3 y4 y5 Hsc
  obtain ⟨y0, y1, y2, y3, y4, y5⟩ := two_cells HK b14
  have Hrs := Lib.hid (rscan_any A2 n2 c2 l k0 k1 most hmo w4 I24 (by have h1 := hln.out; have h2 := hlm.out; omega))
  go_wp2_with fail
  refine Hrs.out.mono ?_
  rw [hL]
  rintro e w5 ⟨A5, n5, c5, rfl, I5, b5⟩
  have hn45 : n4 = n5 := I4.len.symm.trans I5.len
  subst hn45
  have t5 := t4.below b5 t4.1
  clear y0 y1 y2 y3 y4 y5 Hrs
  go_wp2_with fail
  refine (rsameitems_yes L A4 n4 c4 A5 c5 w5 (I4.below b5) I5).mono ?_
  rintro e w6 ⟨rfl, b6⟩
  have t6 := t5.below b6 t5.1
  have b46 := b4.trans (((b5.trans (b6.mono b5.size))).mono b4.size)
  have Hsw := Lib.hid ((TD.below b46).scan t6 ⟨0, 0, 0⟩ ⟨2147483647, 255, 2147483647⟩ 1000 l (scan_whole hgood (Nat.le_refl _)))
  go_wp2_with fail
  refine Hsw.out.mono ?_
  rintro e w7 ⟨A7, n7, c7, rfl, I7, b7⟩
  have I27 := ((I2.below b3).below b46).below b7
  have hn7 : n7 = n2 := I7.len.symm.trans I27.len
  subst hn7
  clear Hsw
  go_wp2_with fail
  refine (rsameitems_yes l A7 n7 c7 A2 c2 w7 I7 I27).mono ?_
  rintro e w8 ⟨rfl, b8⟩
  go_wp2_with fail
  go_ret
  exact ⟨rfl, (B3.trans (b46.mono B3.size)).trans ((b7.trans (b8.mono b7.size)).mono (by have := B3.size; have := b46.size; omega))⟩
end Go.Proofs.YtgedmodnkiijkaaGreatDoor
