/- PoolFormats's walk. -/
import Derived.Test.YtipejjgodnnkaaaGreatDoorPw9
import Derived.Test.YtipejjgodnnkaaaGreatDoorPw15
import Derived.Test.YtipejjgodnnkaaaGreatDoorPw22
import Derived.Test.YtipejjgodnnkaaaGreatDoorPw23
namespace Go.Proofs.YtipejjgodnnkaaaGreatDoor
open Go Go.RowKit Go.Proofs

theorem does_free {D : DM} (h : D.free) {a : Stp} (ha : a.ok D.n) : (D.does a).free := by
  have hst : D.stop = false := by unfold DM.stop; rw [h.on, h.unfused]; rfl
  obtain ⟨_, _, _, _, h5, h6, _⟩ := does_ok ha hst
  exact ⟨h5, h6.trans h.unfused⟩
theorem sys_super_eq {b : Nat} {w : World} {d p : Nat} {T : Nat → Prop} {D : DM} {P : Pl} (H : Sys b w d p T D P) (S : Sp) (hS : P.S = S) : Calls Tryz.prog 31 #[.pointer (some ⟨p, 0, none⟩)] w fun e w' => e = .returned (.agg S.vs.toArray) ∧ Below w.heap.size w w' := hS ▸ sys_super H
attribute [local go_sem ↓] bdS_shut
set_option maxRecDepth 100000 in
set_option maxHeartbeats 16000000 in
theorem poolFormats_walk (x : Int) (A : Option Addr) (n c : Nat) (ps : List (Int × Int)) (w : World) (hx : i64 x) (hp0 : Pairs w A n c ps) (ht : Tab w) :
    Calls Tryz.prog 7 #[.int .i64 x, .slice A n c] w fun e w' => e = .returned (.bool true) ∧ Below w.heap.size w w' := by
  have hnc := hp0.2.1
  have hcm := hp0.2.2.1
  unfold maxLen at hcm
  have hG := ht.1
  have hk := pkind_any x 300 hx (by omega) (by omega)
  have hkm := md_lt x (m := 300) (by omega)
  obtain ⟨y, hy⟩ : ∃ y, md x 300 = y := ⟨_, rfl⟩
  rw [hy] at hk hkm
  obtain ⟨kn, hkn⟩ : ∃ k, 32 + y = k := ⟨_, rfl⟩
  have hkn2 : (32 : Int) + (y : Int) = (kn : Int) := by omega
  have hkn3 : 32 ≤ kn ∧ kn ≤ 331 := by omega
  clear hy
  go_enter Tryz.func7, Tryz.ntmps7
  go_wp2_with fail
  refine (pshown_any w ht).mono ?_
  rintro e w1 ⟨rfl, b1⟩
  have t1 := ht.below b1 hG
  go_wp2_with fail
  refine (hk w1).mono ?_
  rintro e w2 ⟨rfl, rfl⟩
  go_wp2_with fail
  refine (new_yes kn ⟨hkn3.1, by omega⟩ w1).mono ?_
  rintro e w3 ⟨d, rfl, L3, b3⟩
  have t3 := t1.below b3 t1.1
  have z1 := b1.size
  have z3 := b3.size
  have B3 := b1.trans (b3.mono z1)
  have L3 : Drv w3 d (fun k => w.heap.size ≤ k) (DM.mk0 kn) := L3.mono fun k _ h => by omega
  clear hk hkn
  go_wp2_with fail
  go_loopw [9, 10, 11] (fun i _ _ wr => ∃ (j : Nat) (D : DM), j ≤ n ∧ j ≤ 20 ∧ i = .int .i64 (j : Int) ∧ Drv wr d (fun k => w.heap.size ≤ k) D ∧ D.free ∧ D.n = kn ∧ D.tame j ∧ Below w.heap.size w wr ∧ Tab wr) (fun i _ _ _ => 20 - (intOf i).toNat)
  case atStart => exact ⟨0, _, Nat.zero_le _, by omega, rfl, L3, ⟨rfl, rfl⟩, rfl, tame_mk0 kn, B3, t3⟩
  case round =>
    clear L3 t3
    obtain ⟨j, D, hjn, hj20, rfl, L, hfr, hDn, htm, B, t⟩ := hrel
    obtain ⟨w4, rfl⟩ : ∃ x, x = wr := ⟨_, rfl⟩
    by_cases hgo : j < n ∧ j < 20
    · obtain ⟨hlt, hlt2⟩ := hgo
      obtain ⟨g, o, xa, xb, rfl, hg, hc1, hc2, hb1, hb2⟩ := hp0.get hlt
      have hd1 : w4.cell? ⟨g, o + j * 2, none⟩ = some (.int .i64 xa) := (B.cell (p := ⟨g, _, none⟩) hg).trans hc1
      have hd2 : w4.cell? ⟨g, o + j * 2 + 1, none⟩ = some (.int .i64 xb) := (B.cell (p := ⟨g, _, none⟩) hg).trans hc2
      have hix := fun w => run_ix_pair w g o n c j hlt
      have hks := fun w => pkind_any xa kn hb1 (by omega) (by omega) w
      have hsl := md_lt xa (m := kn) (by omega)
      obtain ⟨s, hs⟩ : ∃ s, md xa kn = s := ⟨_, rfl⟩
      rw [hs] at hks hsl
      have e1 : (j : Int) < (n : Int) := by omega
      have e2 : (j : Int) < 20 := by omega
      have e0 : (0 : Int) ≤ (j : Int) := by omega
      have hgr : g < w4.heap.size := by have := B.size; omega
      clear hc1 hc2 hs
      go_wp2_with (first
        | (at_make; refine wp_make_z _ T22 rfl _ _ rfl _ _ 256 rfl rfl (by omega) ?_)
        | fail)
      intro w5 own5 b5
      have hd15 := (b5.cell (p := ⟨g, _, none⟩) hgr).trans hd1
      have hd25 := (b5.cell (p := ⟨g, _, none⟩) hgr).trans hd2
      have L5 := L.below b5
      have t5 := t.below b5 t.1
      have z5 := b5.size
      have hz := B.size
      have B5 := B.trans (b5.mono hz)
      clear hd1 hd2
      go_wp2_with fail
      go_loopw [11] (fun i wr => ∃ k : Nat, k ≤ 256 ∧ i = .int .i64 (k : Int) ∧ Own wr w4.heap.size 5 (some ⟨w4.heap.size, 0, none⟩) 256 256 (fillTo xb k) ∧ Below w4.heap.size w5 wr ∧ w5.heap.size = wr.heap.size) (fun i _ => 256 - (intOf i).toNat)
      case atStart => exact ⟨0, Nat.zero_le _, rfl, by rw [fillTo_zero]; exact own5, (Below.refl _ _), rfl⟩
      case round =>
        obtain ⟨k, hk, rfl, hown, hbq, hzq⟩ := hrel
        have hd1q := (hbq.cell (p := ⟨g, o + j * 2, none⟩) hgr).trans hd15
        have hd2q := (hbq.cell (p := ⟨g, o + j * 2 + 1, none⟩) hgr).trans hd25
        by_cases hlt3 : k < 256
        · obtain ⟨hc, hf⟩ := hown.at_ k hlt3
          have hn := hown.set_ k (lowB xb)
          rw [fill_next xb k hlt3, bv_lowB] at hn
          have e4 : (k : Int) < 256 := by omega
          have e5 : (0 : Int) ≤ (k : Int) := by omega
          go_wp2
          exact ⟨⟨k + 1, by omega, by go_num, hn, hbq.setCell (Nat.le_refl _) _, by rw [World.size_setCell]; exact hzq⟩, by simp [intOf]; omega⟩
        · obtain rfl : k = 256 := by omega
          rw [fillTo_full] at hown
          have Lq : Drv wr d (fun k => w.heap.size ≤ k) D := L.keep fun k hk _ => (hbq.block k hk).trans (b5.block k hk)
          have Bq : Below w.heap.size w wr := B5.trans (hbq.mono hz)
          have tq : Tab wr := t.turned (S := fun _ => False) ⟨hbq.os.trans b5.os, hbq.tape.trans b5.tape, hbq.output.trans b5.output, by omega, fun k hk _ => (hbq.block k hk).trans (b5.block k hk)⟩ (fun h => h)
          have hwr := write_any Lq (s : Int) (some ⟨w4.heap.size, 0, none⟩) 256 256 (fill xb) hown.sl (by have := htm.steps; omega) fun k => by have := htm.rows k; omega
          have hw0 : D.writeE (s : Int) (fill xb) = 0 := (does_ok (D := D) (a := .w s (fill xb)) ⟨by omega, fill_len xb⟩ (by unfold DM.stop; rw [hfr.on, hfr.unfused]; rfl)).1
          have hf2 : (D.writeD (s : Int) (fill xb)).free := does_free (a := .w s (fill xb)) hfr ⟨by omega, fill_len xb⟩
          have hn2 : (D.writeD (s : Int) (fill xb)).n = kn := (does_n D (.w s (fill xb))).trans hDn
          have ht2 : (D.writeD (s : Int) (fill xb)).tame (j + 1) := tame_write htm _ _
          rw [hw0] at hwr
          have Hwr := Lib.hid hwr
          generalize D.writeD (s : Int) (fill xb) = D2 at *
          have e4 : ¬ ((256 : Nat) : Int) < 256 := by omega
          clear hwr hw0
          go_wp2_with (first
            | (go_at_call 14; refine (hks _).mono ?_; rintro e w7 ⟨rfl, rfl⟩)
            | (go_at_call 37; refine Hwr.out.mono ?_; rintro e w8 ⟨rfl, L8, X8⟩)
            | fail)
          have B8 := Bq.trans (X8.below (fun k hk => hk) Bq.size)
          exact ⟨⟨j + 1, D2, by omega, by omega, by go_num, L8.mono fun k _ hk => hk.elim id fun h => by have := Bq.size; omega, hf2, hn2, ht2, B8, tq.turned X8 (by omega)⟩, by simp [intOf]; omega⟩
    · have hfin : ¬ ((j : Int) < (n : Int) ∧ (j : Int) < 20) := fun h => hgo ⟨by omega, by omega⟩
      have hfm := pformat_any L hfr (by omega) t htm (by omega)
      rw [hDn] at hfm
      obtain ⟨e0, S1, _⟩ := fmt_done (D := D) (n := kn) hkn3.1 (by omega) hDn hfr
      obtain ⟨m1, m2, m3⟩ := sound_mounts S1
      obtain ⟨D1, hD1⟩ : ∃ x, D.runD (fmtL kn) = x := ⟨_, rfl⟩
      rw [hD1] at hfm S1 m1 m2 m3
      have hoff := S1.free.on
      have hmE : mtE D1.newest D1.off D1.n = 0 := by rw [hoff]; exact m1
      have hmP : Pl.mounted D1.newest D1.n = Pl.fresh kn := by
        unfold Pl.mounted Pl.fresh
        rw [m2]
        have h : mtC D1.newest D1.n (fmtS kn).gen = (Ct.zero kn).commit := m3
        rw [h]
        rfl
      have hgn : (mtS D1.newest).gen < 1099511627775 := by rw [m2]; show (1 : Int) < 1099511627775; omega
      have hfree : (Pl.fresh kn).C.free = kn - (2 + 2 * areaN kn) := Ct.zero_free
      obtain ⟨ar, har⟩ : ∃ m, areaN kn = m := ⟨_, rfl⟩
      have har2 : 2 + 2 * ar ≤ kn := by unfold areaN at har; omega
      rw [har] at hfree
      obtain ⟨fr, hfrr⟩ : ∃ m, kn - (2 + 2 * ar) = m := ⟨_, rfl⟩
      rw [hfrr] at hfree
      have hsub : (kn : Int) - (2 + 2 * (ar : Int)) = (fr : Int) := by omega
      have hq := eql_sp (fmtS kn)
      have hgd := grd_sp
      have hbd : ∀ w, (bdS #[(0, .int .i64 1), (1, .int .i64 (kn : Int))]).run Tryz.prog w = .ok (.agg (fmtS kn).vs.toArray) w := bdS_two 1 (kn : Int)
      have Hfm := Lib.hid hfm
      have HmE := Lib.hid hmE
      have HmP := Lib.hid hmP
      have Hgn := Lib.hid hgn
      have Har := Lib.hid har
      have Hfree := Lib.hid hfree
      clear hfm m1 m2 m3 e0 hmE hmP hgn har hfree hD1 hoff S1 hgo hfrr
      by_cases h1 : (j : Int) < (n : Int)
      all_goals (
        have h2 : ¬ ((j : Int) < (n : Int) ∧ (j : Int) < 20) := hfin
        first
          | (have h3 : ¬ (j : Int) < 20 := fun h => h2 ⟨h1, h⟩
             clear h2 hfin
             go_wp2_with fail)
          | (clear h2 hfin
             go_wp2_with fail)
        refine Hfm.out.mono ?_
        rintro e w5 ⟨p, q, rfl, X5⟩
        have H5 := sys_of (b := w.heap.size) X5 (fun k hk => hk) B.size
        have t5 := t.turned X5.turn (by omega)
        have B5 := B.trans (X5.turn.below (fun k hk => hk) B.size)
        clear X5
        go_wp2_with fail
        refine (dr_mount H5.dr H5.base t5 Hgn.out).mono ?_
        rw [HmE.out, HmP.out]
        rintro e w6 ⟨⟨_, p6, rfl, H6⟩ | ⟨h, _⟩, b6⟩
        · have H56 := H5.below b6
          have B6 := B5.trans (b6.mono B5.size)
          have hs1 := sys_super_eq H56 (fmtS kn) rfl
          go_wp2_with (first
            | (go_at_call 38; refine (xrefareas_any (kn : Int) kn rfl (by omega) ar Har.out w6).mono ?_; rintro e w7 ⟨rfl, rfl⟩)
            | (go_at_call 35; have hh := b10; refine (sys_free H610 fr Hfree.out).mono ?_; rintro e w12 ⟨rfl, rfl⟩)
            | (go_at_call 35; have hh := b10; refine (sys_free H510 fr Hfree.out).mono ?_; rintro e w12 ⟨rfl, rfl⟩)
            | (go_at_call 31; have hh := b9; refine (sys_super_eq H59 (fmtS kn) rfl).mono ?_; rintro e w10 ⟨rfl, b10⟩; have H610 := H69.below b10; have H510 := H59.below b10; have B10 := B9.trans (b10.mono B9.size))
            | (go_at_call 31; have hh := b8; refine (sys_super_eq H68 (fmtS kn) rfl).mono ?_; rintro e w9 ⟨rfl, b9⟩; have H69 := H68.below b9; have H59 := H58.below b9; have B9 := B8.trans (b9.mono B8.size))
            | (go_at_call 31; refine hs1.mono ?_; rintro e w8 ⟨rfl, b8⟩; have H68 := H6.below b8; have H58 := H56.below b8; have B8 := B6.trans (b8.mono B6.size))
            | fail)
          go_ret
          exact ⟨rfl, B10⟩
        · exact absurd rfl h)
end Go.Proofs.YtipejjgodnnkaaaGreatDoor
