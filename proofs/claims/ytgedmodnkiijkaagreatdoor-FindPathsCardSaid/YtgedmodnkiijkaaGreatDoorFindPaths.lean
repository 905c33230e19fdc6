/- FindPaths's walk. -/
import Derived.Test.YtgedmodnkiijkaaGreatDoorFn33
namespace Go.Proofs.YtgedmodnkiijkaaGreatDoor
open Go Go.RowKit Go.Proofs

theorem intl_at {w : World} {A : Option Addr} {n c : Nat} {zs : List Int} (h : Intl w A n c zs) {j : Nat} {z : Int} (hz : zs[j]? = some z) : ∃ g o, A = some ⟨g, o, none⟩ ∧ g < w.heap.size ∧ w.cell? ⟨g, o + j, none⟩ = some (.int .i64 z) := by
  obtain ⟨g, o, e, hg, _, hr⟩ := h.2.2.2 j (iv z) (by rw [List.getElem?_map, hz]; rfl)
  have h0 := hr 0 (.int .i64 z) rfl
  rw [Nat.mul_one, Nat.add_zero] at h0
  exact ⟨g, o, e, hg, h0⟩
set_option maxRecDepth 100000 in
set_option maxHeartbeats 16000000 in
theorem findPaths_walk (A : Option Addr) (n c : Nat) (l0 : List Itm) (B : Option Addr) (m k : Nat) (zs : List Int) (y : Kd) (w : World) (hI : Itms w A n c l0) (hC : Ints w B m k zs) (ht : Tab w) :
    Calls Tryz.prog 5 #[.agg #[.slice A n c, .slice B m k], .agg #[.int .i64 y.obj, .int .i64 y.kind, .int .i64 y.off]] w fun e w' => e = .returned (.bool true) ∧ Below w.heap.size w w' := by
  obtain ⟨HW, HK0, Bb⟩ := box_two w (.cells #[.slice A n c, .slice B m k] 25) (.cells #[.int .i64 y.obj, .int .i64 y.kind, .int .i64 y.off] 39)
  have HK : KB ((w.alloc (.cells #[.slice A n c, .slice B m k] 25)).alloc (.cells #[.int .i64 y.obj, .int .i64 y.kind, .int .i64 y.off] 39)) (w.heap.size + 1) y := ⟨_, HK0⟩
  clear HK0
  have hG := ht.1
  have hI' := hI
  have hCb := Lib.hid hC.2
  have hCi := ints_intl hC
  go_enter Tryz.func5, Tryz.ntmps5
  go_wp2_with fail
  generalize (w.alloc (.cells #[.slice A n c, .slice B m k] 25)).alloc (.cells #[.int .i64 y.obj, .int .i64 y.kind, .int .i64 y.off] 39) = wb at HW HK Bb ⊢
  have tb := ht.below Bb hG
  refine (fshown_any wb tb).mono ?_
  rintro e w1 ⟨rfl, b1⟩
  have t1 := tb.below b1 tb.1
  have B1 := Bb.trans (b1.mono Bb.size)
  obtain ⟨x0, x1⟩ := wd_cells HW b1
  go_wp2_with fail
  refine (rrow_any A n c l0 150 w1 (hI.below B1) (by omega)).mono ?_
  rintro e w2 ⟨A2, n2, c2, rfl, I2, b2⟩
  have hgood := row_good l0 150
  obtain ⟨l, hl⟩ : ∃ l, rowR (l0.take 150) [] = l := ⟨_, rfl⟩
  rw [hl] at I2 hgood
  have t2 := t1.below b2 t1.1
  have b12 := b1.trans (b2.mono b1.size)
  have B2 := Bb.trans (b12.mono Bb.size)
  clear x0 x1 hl
  obtain ⟨x0, x1⟩ := wd_cells HW b12
  have Hgr := Lib.hid (grown_says A2 n2 c2 l B m k zs I2 (Sls.below hCi B2) hCb.out hgood (Nat.le_refl _) t2)
  have hln := Lib.hid I2.len
  have hlm := Lib.hid hgood.len
  clear hI hI' hC hCi
  go_wp2_with fail
  refine Hgr.out.mono ?_
  rintro e w3 ⟨p, d, root, P, rfl, TR, t3, b3⟩
  have z2 := B2.size
  have B3 := B2.trans (b3.mono z2)
  clear x0 x1 Hgr
  have TD := TR.told hgood.risen hgood.len
  have b13 : Below wb.heap.size wb w3 := b12.trans (b3.mono b12.size)
  have K3 := HK.below b13 HK.lt
  have Hh := Lib.hid (fheight_any TD.src t3 root)
  go_wp2_with fail
  refine Hh.out.mono ?_
  rintro e w4 ⟨rfl, b4⟩
  have t4 := t3.below b4 t3.1
  have K4 := K3.below b4 K3.lt
  have k0 := K4.c0
  have k1 := K4.c1
  have k2 := K4.c2
  have Hp := Lib.hid (fpath_any (TD.src.below b4) t4 root y)
  clear Hh
  go_wp2_with fail
  refine Hp.out.mono ?_
  clear k0 k1 k2 Hp
  have B4 := B3.trans (b4.mono B3.size)
  rcases tree_path TD.tree hgood.risen y with ⟨h1, h2, h3, h4⟩ | ⟨lv, ps, hlv, h1, h2, h3, h4, hway⟩
  · rw [h3, h4]
    rintro e w5 ⟨A5, n5, c5, rfl, I5, b5⟩
    have hn5 : n5 = 0 := by have := Sls.len I5; simpa using this.symm
    subst hn5
    subst h2
    have hn2 : n2 = 0 := by rw [← hln.out, h1]; rfl
    subst hn2
    have hn20 : (((0 : Nat) : Int) == 0) = true := rfl
    clear h1 h3 h4
    go_wp2_with fail
    go_loopw [14, 15, 16, 17, 18, 19, 20, 21] (fun _ iv _ _ _ _ _ _ wr => iv = .int .i64 0 ∧ Below w5.heap.size w5 wr) (fun _ _ _ _ _ _ _ _ _ => 0)
    case atStart => exact ⟨rfl, Below.refl _ _⟩
    case round =>
      obtain ⟨rfl, Br⟩ := hrel
      go_wp2_with fail
      go_ret
      exact ⟨rfl, (B4.trans (b5.mono B4.size)).trans (Br.mono (by have := B4.size; have := b5.size; omega))⟩
  · rw [h3, h4]
    rintro e w5 ⟨A5, n5, c5, rfl, I5, b5⟩
    have hwl := way_len hway
    have I5 : Intl w5 A5 n5 c5 ps := I5
    have hn5 : n5 = lv + 1 := by have := Sls.len I5; rw [List.length_map] at this; omega
    subst hn5
    have hnl : n2 ≠ 0 := fun h => h1 (List.length_eq_zero_iff.1 (by rw [hln.out]; exact h))
    have t5 := t4.below b5 t4.1
    have B5 := B4.trans (b5.mono B4.size)
    have b25 : Below w2.heap.size w2 w5 := (b3.trans (b4.mono b3.size)).trans (b5.mono (by have := b3.size; have := b4.size; omega))
    have b35 : Below w3.heap.size w3 w5 := b4.trans (b5.mono b4.size)
    have I25 := I2.below b25
    have K5 := K4.below b5 K4.lt
    obtain ⟨Lv, hLv⟩ : ∃ Lv, lv + 1 = Lv := ⟨_, rfl⟩
    have hL1 : (lv : Int) + 1 = (Lv : Int) := by omega
    rw [hLv] at I5
    rw [hL1, hLv]
    have g1 : ((Lv : Int) == 0) = false := beq_eq_false_iff_ne.2 (by omega)
    have g2 : ((n2 : Int) == 0) = false := beq_eq_false_iff_ne.2 (by omega)
    have hL7 : Lv ≤ 7 := by omega
    have HLv := Lib.hid hLv
    clear hLv hL1 h1 h2 h3 h4
    go_wp2_with fail
    go_loopw [14, 15, 16, 17, 18, 19, 20, 21] (fun av iv _ _ _ _ _ _ wr => ∃ (i : Nat) (x : Int), i ≤ Lv ∧ iv = .int .i64 (i : Int) ∧ av = .int .i64 x ∧ (i < Lv → ps[i]? = some x) ∧ Below w5.heap.size w5 wr) (fun _ iv _ _ _ _ _ _ _ => Lv - (intOf iv).toNat)
    case atStart =>
      refine ⟨0, root, Nat.zero_le _, rfl, rfl, fun _ => ?_, Below.refl _ _⟩
      obtain ⟨ai, N, q1, q2, _⟩ := way_at hway 0 (Nat.zero_le _)
      rw [q1, q2 rfl]
    case round =>
      obtain ⟨i, x, hi, rfl, rfl, hx, Br⟩ := hrel
      have tr := t5.below Br t5.1
      have zr := Br.size
      by_cases hlt : i < Lv
      · have hL := HLv.out
        obtain ⟨ai, N, q1, -, q3, q4, q5, q6⟩ := way_at hway i (by omega)
        have hxa : x = ai := by have := hx hlt; rw [q1] at this; exact (Option.some.inj this).symm
        subst hxa
        obtain ⟨g, o, rfl, hg, a0⟩ := intl_at (Sls.below I5 Br) q1
        have hcap := (Sls.below I5 Br).cap
        have hcmx := (Sls.below I5 Br).max
        unfold maxLen at hcmx
        have Hn := Lib.hid (TD.src.node wr (b35.trans (Br.mono b35.size)) tr x)
        rw [q3] at Hn
        have hmy := TD.src.may x (by rw [q3])
        rw [q3] at hmy
        have hmy : N.may = true := hmy
        have e0 : (0 : Int) ≤ (i : Int) := by omega
        have e1 : (i : Int) < (Lv : Int) := by omega
        have Q4 := Lib.hid q4
        have Q5 := Lib.hid q5
        have Q6 := Lib.hid q6
        have Hx := Lib.hid hx
        clear q3 q4 q5 q6 hx
        go_wp2_with fail
        refine Hn.out.mono ?_
        rintro e w6 ⟨A6, n6, c6, B6, m6, d6, rfl, hn6, hm6, hI6, hK6, b6⟩
        have Hd6 := held_of hn6 hm6 hI6 hK6
        have N6 : NB (w6.alloc (.cells #[.int .i64 0, .slice none 0 0, .slice none 0 0] 56)) w6.heap.size 0 none 0 0 none 0 0 := NB.new w6 _ _ _ _ _ _ _ _
        have b67 : Below w6.heap.size w6 (w6.alloc (.cells #[.int .i64 0, .slice none 0 0, .slice none 0 0] 56)) := (Below.refl _ _).alloc (Nat.le_refl _) _
        have hq4 := Lib.hid (show N.lvl = (Lv : Int) - 1 - (i : Int) by have := Q4.out; omega)
        have ga : (N.lvl == (Lv : Int) - 1 - (i : Int)) = true := beq_iff_eq.2 hq4.out
        have gb : (N.lvl != (Lv : Int) - 1 - (i : Int)) = false := by simp [hq4.out]
        have z6 := b6.size
        clear hI6 hK6 Hn
        go_wp2_with (first
          | (refine wp_store_nd rfl (.tmp 16) _ rfl w6.heap.size rfl N.lvl A6 n6 c6 B6 m6 d6 rfl N6 ?_; intro w8 N8 T8; have X68 : Turn (fun _ => False) w6 w8 := (turn_below (S := fun _ => False) b67).trans T8 (fun k h => .inr (by have h : k = w6.heap.size := h; omega)); have Xr8 : Turn (fun _ => False) wr w8 := (turn_below (S := fun _ => False) b6).trans X68 (fun _ h => .inl h); have br8 : Below wr.heap.size wr w8 := Xr8.below (fun _ h => h.elim) (Nat.le_refl _); have a8 := (br8.cell (p := ⟨g, _, none⟩) hg).trans a0; have p0 := N8.c0; have p1 := N8.c1; have p2 := N8.c2; have K8 := (K5.below Br K5.lt).below br8 (by have := K5.lt; omega); have k0 := K8.c0; have k1 := K8.c1; have k2 := K8.c2)
          | fail)
        have I28 := (I25.below Br).below br8
        have hdl := Hd6.turn X68 (fun _ _ _ h => h)
        obtain ⟨r8, s8⟩ := hdl.rows
        obtain ⟨s, hs⟩ : ∃ s, N.seek y = s := ⟨_, rfl⟩
        obtain ⟨fd, hfd⟩ : ∃ fd, foundAt N.keys y s = fd := ⟨_, rfl⟩
        have Hsk := refseek_any N y A6 n6 c6 B6 m6 d6 w8 r8.itms s8 (by omega) (by omega)
        rw [hs, hfd] at Hsk
        have Hsk := Lib.hid Hsk
        have Hrg := Lib.hid (fun w9 (b9 : Below w8.heap.size w8 w9) => rget_any A2 n2 c2 l y w9 (I28.below b9) (by have h1 := hln.out; have h2 := hlm.out; omega))
        obtain ⟨E, hE⟩ : ∃ E, (gotOf (valOf l y)).2 = E := ⟨_, rfl⟩
        rw [hE] at Hrg
        have Hq4 := hq4
        have Hs := Lib.hid hs
        have Hfd := Lib.hid hfd
        have HE := Lib.hid hE
        clear hq4 hs hfd hE r8 s8
        by_cases hlast : i = lv
        · have hL := HLv.out
          have hq := Hq4.out
          have gc : (N.lvl == 0) = true := beq_iff_eq.2 (by omega)
          have gd : ¬ (0 : Int) < N.lvl := by omega
          have ge : decide (N.lvl = 0) = true := decide_eq_true (by omega)
          have gf : (fd == (E == 0)) = true := by
            have h1 := Q5.out hlast
            rw [Hs.out, Hfd.out] at h1
            rw [h1, ← HE.out]
            cases valOf l y <;> rfl
          have gg : (fd != (E == 0)) = false := by
            have h1 := Q5.out hlast
            rw [Hs.out, Hfd.out] at h1
            rw [h1, ← HE.out]
            cases valOf l y <;> rfl
          have Hla := Lib.hid hlast
          clear hL hq hlast
          refine Hsk.out.mono ?_
          rintro e w9 ⟨rfl, b9⟩
          have K9 := K8.below b9 K8.lt
          have j0 := K9.c0
          have j1 := K9.c1
          have j2 := K9.c2
          clear p0 p1 p2 k0 k1 k2
          go_wp2_with fail
          refine (Hrg.out w9 b9).mono ?_
          rintro e w10 ⟨A10, n10, c10, rfl, s10, b10⟩
          have b810 := b9.trans (b10.mono b9.size)
          have o0 := (N8.below b810 N8.lt).c0
          clear j0 j1 j2
          go_wp2_with fail
          have Bf : Below w5.heap.size w5 w10 := Br.trans ((br8.trans (b810.mono br8.size)).mono zr)
          exact ⟨⟨i + 1, x, by omega, by go_num, rfl, fun h => by have := HLv.out; have := Hla.out; omega, Bf⟩, by simp [intOf]; omega⟩
        · have hL := HLv.out
          have hq := Hq4.out
          have gc : (N.lvl == 0) = false := beq_eq_false_iff_ne.2 (by omega)
          have gd : (0 : Int) < N.lvl := by omega
          have ge : decide (N.lvl = 0) = false := decide_eq_false (by omega)
          obtain ⟨v1, v2⟩ := Q6.out (by omega)
          rw [Hs.out] at v1 v2
          have hml : N.kids.length = m6 := by
            have := Sls.len hdl.rows.2
            rwa [List.length_map] at this
          have hsm : s < m6 := by rw [← hml]; exact v1
          have hsm1 : (s : Int) < (m6 : Int) := by omega
          have hsm0 : (0 : Int) ≤ (s : Int) := by omega
          have V2 := Lib.hid v2
          clear hL hq hlast v1 v2 hml
          refine Hsk.out.mono ?_
          rintro e w9 ⟨rfl, b9⟩
          have K9 := K8.below b9 K8.lt
          have j0 := K9.c0
          have j1 := K9.c1
          have j2 := K9.c2
          clear p0 p1 p2 k0 k1 k2
          go_wp2_with fail
          refine (Hrg.out w9 b9).mono ?_
          rintro e w10 ⟨A10, n10, c10, rfl, s10, b10⟩
          have b810 := b9.trans (b10.mono b9.size)
          have N10 := N8.below b810 N8.lt
          obtain ⟨g2, o2, rfl, hg2, -, -, -, z3⟩ := (hdl.below b810).rows.2.cell hsm
          obtain ⟨_, hdm⟩ := Kidl.bounds (hdl.below b810).rows.2
          have o0 := N10.c0
          have o1 := N10.c1
          have o2 := N10.c2
          clear j0 j1 j2
          go_wp2_with fail
          have Bf : Below w5.heap.size w5 w10 := Br.trans ((br8.trans (b810.mono br8.size)).mono zr)
          exact ⟨⟨i + 1, _, by omega, by go_num, rfl, fun _ => V2.out, Bf⟩, by simp [intOf]; omega⟩
      · have hie : i = Lv := by omega
        have e1 : ¬ (i : Int) < (Lv : Int) := by omega
        go_wp2_with fail
        go_ret
        exact ⟨rfl, B5.trans (Br.mono B5.size)⟩
end Go.Proofs.YtgedmodnkiijkaaGreatDoor
