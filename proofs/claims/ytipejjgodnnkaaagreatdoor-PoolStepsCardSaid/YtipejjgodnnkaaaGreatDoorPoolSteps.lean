/- PoolSteps's walk. -/
import Derived.Test.YtipejjgodnnkaaaGreatDoorPw9
import Derived.Test.YtipejjgodnnkaaaGreatDoorPw22
import Derived.Test.YtipejjgodnnkaaaGreatDoorPoOp
import Derived.Test.YtipejjgodnnkaaaGreatDoorPoolFormats
namespace Go.Proofs.YtipejjgodnnkaaaGreatDoor
open Go Go.RowKit Go.Proofs

/-- What the law's loop keeps. -/
structure Stepped (kn mm : Nat) (D : DM) (P : Pl) (j many : Nat) : Prop where
  ok : P.ok
  n : P.C.n = kn
  S : P.S = fmtS kn
  sound : Sound D P (fmtS kn) (Ct.zero kn)
  new : P.new.length = many
  free : j < mm → P.C.free + j = kn - (2 + 2 * areaN kn)
theorem Stepped.lays {kn mm : Nat} {D : DM} {P : Pl} {j many : Nat} (h : Stepped kn mm D P j many) (hj : j < mm) : Lays kn D P (fmtS kn) (Ct.zero kn) j many := ⟨h.ok, h.n, h.sound, h.new, h.free hj⟩
theorem sys_steps {b : Nat} {w : World} {d : Nat} {T : Nat → Prop} {D : DM} (H : Dr b w d T D) : Calls Tryz.prog 40 #[.pointer (some ⟨d, 0, none⟩)] w fun e w' => e = .returned (.int .i64 (D.steps : Int)) ∧ w = w' := by
  obtain ⟨S0, ⟨_, _, _, _, _, L⟩, _⟩ := H
  exact steps_any L
theorem sys_cached {b : Nat} {w : World} {d : Nat} {T : Nat → Prop} {D : DM} (H : Dr b w d T D) : Calls Tryz.prog 41 #[.pointer (some ⟨d, 0, none⟩)] w fun e w' => e = .returned (.int .i64 (D.cnt : Int)) ∧ w = w' := by
  obtain ⟨S0, ⟨_, _, _, _, _, L⟩, _⟩ := H
  exact cached_any L
attribute [local go_sem ↓] fldS_shut
set_option maxRecDepth 100000 in
set_option maxHeartbeats 16000000 in
theorem poolSteps_walk (x : Int) (A : Option Addr) (n c : Nat) (ls : List (List UInt8)) (A2 : Option Addr) (n2 c2 : Nat) (f : Nat → Bool) (w : World) (hx : i64 x) (hp0 : Parts w A n c ls) (hg0 : Bools w A2 n2 c2 f) (ht : Tab w) :
    Calls Tryz.prog 8 #[.int .i64 x, .slice A n c, .slice A2 n2 c2] w fun e w' => e = .returned (.bool true) ∧ Below w.heap.size w w' := by
  have hnc := hp0.2.1
  have hcm := hp0.2.2.1
  unfold maxLen at hcm
  have hnc2 := hg0.1
  have hcm2 := hg0.2.1
  unfold maxLen at hcm2
  have hG := ht.1
  have hk := pkind_any x 300 hx (by omega) (by omega)
  have hkm := md_lt x (m := 300) (by omega)
  obtain ⟨y, hy⟩ : ∃ y, md x 300 = y := ⟨_, rfl⟩
  rw [hy] at hk hkm
  obtain ⟨kn, hkn⟩ : ∃ k, 32 + y = k := ⟨_, rfl⟩
  have hkn2 : (32 : Int) + (y : Int) = (kn : Int) := by omega
  have hkn3 : 32 ≤ kn ∧ kn ≤ 331 := by omega
  clear hy
  go_enter Tryz.func8, Tryz.ntmps8
  go_wp2_with fail
  refine (pshown_any w ht).mono ?_
  rintro e w1 ⟨rfl, b1⟩
  have t1 := ht.below b1 hG
  go_wp2_with fail
  refine (hk w1).mono ?_
  rintro e w2 ⟨rfl, rfl⟩
  go_wp2_with fail
  refine (new_yes kn ⟨hkn3.1, by omega⟩ w1).mono ?_
  rintro e w3 ⟨d, rfl, L3, b3⟩
  have t3 := t1.below b3 t1.1
  have z1 := b1.size
  have z3 := b3.size
  have B3 := b1.trans (b3.mono z1)
  have L3 : Drv w3 d (fun k => w.heap.size ≤ k) (DM.mk0 kn) := L3.mono fun k _ h => by omega
  obtain ⟨e0, S1, st1⟩ := fmt_done (D := DM.mk0 kn) (n := kn) hkn3.1 (by omega) rfl ⟨rfl, rfl⟩
  have hfm := pformat_any L3 ⟨rfl, rfl⟩ (by omega) t3 (tame_mk0 kn) (by omega)
  have hmn : (DM.mk0 kn).n = kn := rfl
  rw [hmn] at hfm
  have tm1 := tame_run (fmtL kn) (tame_mk0 kn)
  have fl := fmt_le (n := kn) (by omega)
  obtain ⟨D1, hD1⟩ : ∃ D, (DM.mk0 kn).runD (fmtL kn) = D := ⟨_, rfl⟩
  rw [hD1] at hfm S1 tm1 st1
  obtain ⟨F0, hF0⟩ : ∃ m, kn - (2 + 2 * areaN kn) = m := ⟨_, rfl⟩
  have hF24 : 20 ≤ F0 := by rw [← hF0]; unfold areaN; omega
  have HF0 := Lib.hid hF0
  clear hk hkn e0 hD1 hmn hF0
  go_wp2_with fail
  refine hfm.mono ?_
  rintro e w5 ⟨p, q, rfl, X5⟩
  have H5 := sys_of (b := w.heap.size) X5 (fun k hk => hk) B3.size
  have t5 := t3.turned X5.turn (by omega)
  have B5 := B3.trans (X5.turn.below (fun k hk => hk) B3.size)
  obtain ⟨T, hT⟩ : ∃ T : Nat → Prop, (fun k => w.heap.size ≤ k ∧ k < w5.heap.size) = T := ⟨_, rfl⟩
  rw [hT] at H5
  have tg := Lib.hid H5.tight
  have K5 : Stepped kn n D1 (Pl.fresh kn) 0 0 := by
    have h := lays_zero hkn3.1 (by omega) S1
    exact ⟨h.ok, h.n, rfl, h.sound, h.new, fun _ => h.free⟩
  clear X5 hT hfm S1
  go_wp2_with fail
  go_loopw [13, 14, 15, 16, 17] (fun mv i _ _ _ wr => ∃ (j many : Nat) (P : Pl), j ≤ n ∧ j ≤ 8 ∧ many ≤ j ∧ i = .int .i64 (j : Int) ∧ mv = .int .i64 (many : Int) ∧ Stepped kn n D1 P j many ∧ Sys w.heap.size wr d p T D1 P ∧ Below w.heap.size w wr ∧ Tab wr) (fun _ i _ _ _ _ => 8 - (intOf i).toNat)
  case atStart => exact ⟨0, 0, _, Nat.zero_le _, by omega, Nat.le_refl _, rfl, rfl, K5, H5, B5, t5⟩
  case round =>
    clear K5 H5 B5 t5
    obtain ⟨j, many, P, hjn, hj8, hmj, rfl, rfl, K, H, B, t⟩ := hrel
    by_cases hgo : j < n ∧ j < 8
    · obtain ⟨hlt, hlt2⟩ := hgo
      obtain ⟨ad, A1, n1, c1, eA, hbl, hcl, hsl⟩ := hp0.cell hlt
      subst eA
      have hcr := (B.cell (p := ad.add j) (by rw [addr_block]; exact hbl)).trans hcl
      have hsr : Sl wr A1 n1 c1 (nth ls j) := ⟨hsl.1, hsl.2.1, hsl.2.2.1, fun i u hu => by
        obtain ⟨ad', e', h1, h2⟩ := hsl.2.2.2 i u hu
        exact ⟨ad', e', Nat.lt_of_lt_of_le h1 B.size, (B.cell (p := ad'.add i) (by rw [addr_block]; exact h1)).trans h2⟩⟩
      have hA1 : 0 < n1 → ∀ ad', A1 = some ad' → ¬ T ad'.block := fun hn ad' e' h => by
        obtain ⟨ad2, e2, h1, _⟩ := hsl.cell hn
        rw [e'] at e2
        injection e2 with e2
        subst e2
        have := (tg.out _ h).1
        omega
      obtain ⟨xl, hxl⟩ : ∃ z, cut128 (nth ls j) = z := ⟨_, rfl⟩
      have hxle : xl.length ≤ 128 := by rw [← hxl]; exact cut_len _
      obtain ⟨a, hpick, han, hnone, K2⟩ := lays_put (K.lays hlt) (by rw [HF0.out]; omega) hxle
      obtain ⟨p1, p2, p3⟩ := put_data hpick hxle
      have hlv := live_lay hpick (.bytes 5 xl) a
      rw [if_pos rfl] at hlv
      have hget : (P.lay (.bytes 5 xl)).C.get (a : Int) = 1 := by rw [lay_get hpick _ a (by rw [K.n]; exact han), if_pos rfl]
      have hput := fun (nb : Nat) (hsb : Sl wr A1 nb c1 xl) (hnb : nb ≤ n1) => sys_put H hG 5 A1 nb c1 xl hsb (fun h => hA1 (by omega)) t
      rw [p1, p2, p3] at hput
      have hPS : (P.lay (.bytes 5 xl)).S = fmtS kn := (lay_S _).trans K.S
      obtain ⟨P2, hP2⟩ : ∃ Q, P.lay (.bytes 5 xl) = Q := ⟨_, rfl⟩
      rw [hP2] at hput K2 hlv hget hPS
      have Hput := Lib.hid hput
      have e1 : (j : Int) < (n : Int) := by omega
      have e2 : (j : Int) < 8 := by omega
      have e0 : (0 : Int) ≤ (j : Int) := by omega
      have ha2 : a ≤ 2048 := by omega
      have hm8 : many ≤ 8 := by omega
      have hL : (nth ls j).length = n1 := hsl.len
      have hn1 : n1 ≤ c1 := hsl.cap
      have hc1 := hsl.max
      unfold maxLen at hc1
      have hh128 : 128 < n1 ∨ n1 ≤ 128 := by omega
      have hcase : (n2 ≤ j) ∨ (j < n2 ∧ f j = false) ∨ (j < n2 ∧ f j = true ∧ j + 1 < n) ∨ (j < n2 ∧ f j = true ∧ j + 1 = n) := by
        by_cases h1 : j < n2
        · cases hfj : f j
          · exact .inr (.inl ⟨h1, rfl⟩)
          · by_cases h2 : j + 1 < n
            · exact .inr (.inr (.inl ⟨h1, rfl, h2⟩))
            · exact .inr (.inr (.inr ⟨h1, rfl, by omega⟩))
        · exact .inl (by omega)
      have hsub : (n : Int) - 1 = ((n - 1 : Nat) : Int) := by omega
      clear hput hcl hsl p1 p2 p3 hpick hP2 hnone
      rcases hcase with hc | ⟨hc, hfj⟩ | ⟨hc, hfj, hc2⟩ | ⟨hc, hfj, hc2⟩
      · have d1 : ¬ (j : Int) < (n2 : Int) := by omega
        rcases hh128 with h128 | h128
        · have d0 : (128 : Int) < (n1 : Int) := by omega
          have hsb : Sl wr A1 128 c1 xl := by rw [← hxl]; exact hsr.take (by omega)
          have hnb : 128 ≤ n1 := by omega
          go_wp2_with (first
            | (go_at_call 27; refine (Hput.out 128 hsb hnb).mono ?_; rintro e w7 ⟨rfl, H7, X7, t7⟩)
            | fail)
          have B7 := B.trans (X7.below (fun k hk => (tg.out k hk).1) B.size)
          exact ⟨⟨j + 1, many + 1, P2, by omega, by omega, by omega, by go_num, by go_num, ⟨K2.ok, K2.n, hPS, K2.sound, K2.new, fun _ => K2.free⟩, H7, B7, t7⟩, by simp [intOf]; omega⟩
        · have d0 : ¬ (128 : Int) < (n1 : Int) := by omega
          have hsb : Sl wr A1 n1 c1 xl := by rw [← hxl]; unfold cut128; rw [List.take_of_length_le (by rw [hL]; exact h128)]; exact hsr
          have hnb : n1 ≤ n1 := Nat.le_refl _
          go_wp2_with (first
            | (go_at_call 27; refine (Hput.out n1 hsb hnb).mono ?_; rintro e w7 ⟨rfl, H7, X7, t7⟩)
            | fail)
          have B7 := B.trans (X7.below (fun k hk => (tg.out k hk).1) B.size)
          exact ⟨⟨j + 1, many + 1, P2, by omega, by omega, by omega, by go_num, by go_num, ⟨K2.ok, K2.n, hPS, K2.sound, K2.new, fun _ => K2.free⟩, H7, B7, t7⟩, by simp [intOf]; omega⟩
      · have d1 : (j : Int) < (n2 : Int) := by omega
        obtain ⟨ad2, rfl, hb2, hq2⟩ := hg0.2.2 j hc
        rw [hfj] at hq2
        have hq2r := (B.cell (p := ad2.add j) (by rw [addr_block]; exact hb2)).trans hq2
        rcases hh128 with h128 | h128
        · have d0 : (128 : Int) < (n1 : Int) := by omega
          have hsb : Sl wr A1 128 c1 xl := by rw [← hxl]; exact hsr.take (by omega)
          have hnb : 128 ≤ n1 := by omega
          go_wp2_with (first
            | (go_at_call 27; refine (Hput.out 128 hsb hnb).mono ?_; rintro e w7 ⟨rfl, H7, X7, t7⟩; have hq2r7 := (X7.below (fun k hk => (tg.out k hk).1) B.size |>.cell (p := ad2.add j) (by rw [addr_block]; exact hb2)).trans hq2r)
            | fail)
          have B7 := B.trans (X7.below (fun k hk => (tg.out k hk).1) B.size)
          exact ⟨⟨j + 1, many + 1, P2, by omega, by omega, by omega, by go_num, by go_num, ⟨K2.ok, K2.n, hPS, K2.sound, K2.new, fun _ => K2.free⟩, H7, B7, t7⟩, by simp [intOf]; omega⟩
        · have d0 : ¬ (128 : Int) < (n1 : Int) := by omega
          have hsb : Sl wr A1 n1 c1 xl := by rw [← hxl]; unfold cut128; rw [List.take_of_length_le (by rw [hL]; exact h128)]; exact hsr
          have hnb : n1 ≤ n1 := Nat.le_refl _
          go_wp2_with (first
            | (go_at_call 27; refine (Hput.out n1 hsb hnb).mono ?_; rintro e w7 ⟨rfl, H7, X7, t7⟩; have hq2r7 := (X7.below (fun k hk => (tg.out k hk).1) B.size |>.cell (p := ad2.add j) (by rw [addr_block]; exact hb2)).trans hq2r)
            | fail)
          have B7 := B.trans (X7.below (fun k hk => (tg.out k hk).1) B.size)
          exact ⟨⟨j + 1, many + 1, P2, by omega, by omega, by omega, by go_num, by go_num, ⟨K2.ok, K2.n, hPS, K2.sound, K2.new, fun _ => K2.free⟩, H7, B7, t7⟩, by simp [intOf]; omega⟩
      · have d1 : (j : Int) < (n2 : Int) := by omega
        obtain ⟨ad2, rfl, hb2, hq2⟩ := hg0.2.2 j hc
        rw [hfj] at hq2
        have hq2r := (B.cell (p := ad2.add j) (by rw [addr_block]; exact hb2)).trans hq2
        have nbq : ((j : Int) == ((n - 1 : Nat) : Int)) = false := by simp; omega
        rcases hh128 with h128 | h128
        · have d0 : (128 : Int) < (n1 : Int) := by omega
          have hsb : Sl wr A1 128 c1 xl := by rw [← hxl]; exact hsr.take (by omega)
          have hnb : 128 ≤ n1 := by omega
          go_wp2_with (first
            | (go_at_call 27; refine (Hput.out 128 hsb hnb).mono ?_; rintro e w7 ⟨rfl, H7, X7, t7⟩; have hq2r7 := (X7.below (fun k hk => (tg.out k hk).1) B.size |>.cell (p := ad2.add j) (by rw [addr_block]; exact hb2)).trans hq2r)
            | fail)
          have B7 := B.trans (X7.below (fun k hk => (tg.out k hk).1) B.size)
          exact ⟨⟨j + 1, many + 1, P2, by omega, by omega, by omega, by go_num, by go_num, ⟨K2.ok, K2.n, hPS, K2.sound, K2.new, fun _ => K2.free⟩, H7, B7, t7⟩, by simp [intOf]; omega⟩
        · have d0 : ¬ (128 : Int) < (n1 : Int) := by omega
          have hsb : Sl wr A1 n1 c1 xl := by rw [← hxl]; unfold cut128; rw [List.take_of_length_le (by rw [hL]; exact h128)]; exact hsr
          have hnb : n1 ≤ n1 := Nat.le_refl _
          go_wp2_with (first
            | (go_at_call 27; refine (Hput.out n1 hsb hnb).mono ?_; rintro e w7 ⟨rfl, H7, X7, t7⟩; have hq2r7 := (X7.below (fun k hk => (tg.out k hk).1) B.size |>.cell (p := ad2.add j) (by rw [addr_block]; exact hb2)).trans hq2r)
            | fail)
          have B7 := B.trans (X7.below (fun k hk => (tg.out k hk).1) B.size)
          exact ⟨⟨j + 1, many + 1, P2, by omega, by omega, by omega, by go_num, by go_num, ⟨K2.ok, K2.n, hPS, K2.sound, K2.new, fun _ => K2.free⟩, H7, B7, t7⟩, by simp [intOf]; omega⟩
      · have d1 : (j : Int) < (n2 : Int) := by omega
        obtain ⟨ad2, rfl, hb2, hq2⟩ := hg0.2.2 j hc
        rw [hfj] at hq2
        have hq2r := (B.cell (p := ad2.add j) (by rw [addr_block]; exact hb2)).trans hq2
        have nbq : ((j : Int) == ((n - 1 : Nat) : Int)) = true := by simp; omega
        obtain ⟨u1, u2, u3, u4, u5⟩ := lays_gone K2 hlv hget
        have hun := fun (w7 : World) (H7 : Sys w.heap.size w7 d p T D1 P2) (t7 : Tab w7) => sys_unref H7 hG t7 (a : Int)
        rw [u1, u2] at hun
        have Hun := Lib.hid hun
        have U3 := Lib.hid u3
        have U4 := Lib.hid u4
        have U5 := Lib.hid u5
        clear hun u1 u2 u3 u4 u5
        rcases hh128 with h128 | h128
        · have d0 : (128 : Int) < (n1 : Int) := by omega
          have hsb : Sl wr A1 128 c1 xl := by rw [← hxl]; exact hsr.take (by omega)
          have hnb : 128 ≤ n1 := by omega
          go_wp2_with (first
            | (go_at_call 27; refine (Hput.out 128 hsb hnb).mono ?_; rintro e w7 ⟨rfl, H7, X7, t7⟩; have hq2r7 := (X7.below (fun k hk => (tg.out k hk).1) B.size |>.cell (p := ad2.add j) (by rw [addr_block]; exact hb2)).trans hq2r)
            | (go_at_call 39; refine (Hun.out w7 H7 t7).mono ?_; rintro e w8 ⟨rfl, H8, X8, t8⟩)
            | fail)
          have B7 := B.trans (X7.below (fun k hk => (tg.out k hk).1) B.size)
          have B8 := B7.trans (X8.below (fun k hk => (tg.out k hk).1) B7.size)
          exact ⟨⟨j + 1, many, _, by omega, by omega, by omega, by go_num, by first | rfl | go_num, ⟨U3.out, (Ct.unref_n _ _).trans K2.n, hPS, U4.out, by have := U5.out; omega, fun h => by omega⟩, H8, B8, t8⟩, by simp [intOf]; omega⟩
        · have d0 : ¬ (128 : Int) < (n1 : Int) := by omega
          have hsb : Sl wr A1 n1 c1 xl := by rw [← hxl]; unfold cut128; rw [List.take_of_length_le (by rw [hL]; exact h128)]; exact hsr
          have hnb : n1 ≤ n1 := Nat.le_refl _
          go_wp2_with (first
            | (go_at_call 27; refine (Hput.out n1 hsb hnb).mono ?_; rintro e w7 ⟨rfl, H7, X7, t7⟩; have hq2r7 := (X7.below (fun k hk => (tg.out k hk).1) B.size |>.cell (p := ad2.add j) (by rw [addr_block]; exact hb2)).trans hq2r)
            | (go_at_call 39; refine (Hun.out w7 H7 t7).mono ?_; rintro e w8 ⟨rfl, H8, X8, t8⟩)
            | fail)
          have B7 := B.trans (X7.below (fun k hk => (tg.out k hk).1) B.size)
          have B8 := B7.trans (X8.below (fun k hk => (tg.out k hk).1) B7.size)
          exact ⟨⟨j + 1, many, _, by omega, by omega, by omega, by go_num, by first | rfl | go_num, ⟨U3.out, (Ct.unref_n _ _).trans K2.n, hPS, U4.out, by have := U5.out; omega, fun h => by omega⟩, H8, B8, t8⟩, by simp [intOf]; omega⟩
    · have hfin : ¬ ((j : Int) < (n : Int) ∧ (j : Int) < 8) := fun h => hgo ⟨by omega, by omega⟩
      have hS := K.S
      have hC := K.n
      have hnw := K.new
      have hg2 : P.g = 2 := by unfold Pl.g; rw [hS]; rfl
      have hcm := sys_commit H hG t tm1 (by omega) (by rw [hg2]; omega)
      obtain ⟨k1, k2, S7, _, _, _⟩ := cmt_sys K.ok K.sound
      obtain ⟨_, _, k4, _⟩ := cmt_sound K.ok K.sound
      rw [hnw, hC] at k4
      obtain ⟨ar, har⟩ : ∃ m, areaN kn = m := ⟨_, rfl⟩
      have har2 : ar ≤ 3 := by unfold areaN at har; omega
      rw [har] at k4 st1
      have har3 := Lib.hid har
      have hd1 : D1.steps = ar + 6 := by rw [st1]; show 0 + (ar + 6) = _; omega
      rw [hd1] at k4
      have hs6 := fun (u : World) (Hu : Sys w.heap.size u d p T D1 P) => sys_steps Hu.dr
      rw [hd1] at hs6
      have hgen : P.done.S.gen = 2 := hg2
      have hcn := cnt_zero S7.set_
      rw [k1, k2] at hcm
      obtain ⟨D2, hD2⟩ : ∃ D, D1.runD P.steps = D := ⟨_, rfl⟩
      rw [hD2] at hcm k4 hcn
      have hst := fun (u : World) (T2 : Nat → Prop) (Hu : Sys w.heap.size u d p T2 D2 P.done) => sys_steps Hu.dr
      have hca := fun (u : World) (T2 : Nat → Prop) (Hu : Sys w.heap.size u d p T2 D2 P.done) => sys_cached Hu.dr
      rw [k4] at hst
      rw [hcn] at hca
      have fld : ∀ u, (fldS (.agg P.done.S.vs.toArray)).run Tryz.prog u = .ok (.int .i64 P.done.S.gen) u := fun u => fld_gen P.done.S u
      rw [hgen] at fld
      have hj8' : many ≤ 8 := by omega
      have Hs6 := Lib.hid hs6
      have Hst := Lib.hid hst
      have Hca := Lib.hid hca
      have Hcm := Lib.hid hcm
      have i0 : ((ar + 6 : Nat) : Int) = (ar : Int) + 6 := by omega
      have i1 : (((ar + 6) + (many + ar + 3) : Nat) : Int) = (ar : Int) + 6 + (many : Int) + (ar : Int) + 3 := by omega
      clear hs6 hst hca hcm k1 k2 S7 k4 hcn hD2 hd1 st1 har hnw hC hS hg2 hgo K hgen
      by_cases h1 : (j : Int) < (n : Int)
      all_goals (
        have h2 : ¬ ((j : Int) < (n : Int) ∧ (j : Int) < 8) := hfin
        first
          | (have h3 : ¬ (j : Int) < 8 := fun h => h2 ⟨h1, h⟩
             clear h2 hfin
             go_wp2_with fail)
          | (clear h2 hfin
             go_wp2_with fail)
        refine (xrefareas_any (kn : Int) kn rfl (by omega) ar har3.out _).mono ?_
        rintro e w6 ⟨rfl, rfl⟩
        go_wp2_with fail
        refine (Hs6.out wr H).mono ?_
        rintro e w7 ⟨rfl, rfl⟩
        go_wp2_with fail
        refine Hcm.out.mono ?_
        rintro e w8 ⟨rfl, H8, X8, t8⟩
        have B8 := B.trans (X8.below (fun k hk => (tg.out k hk).1) B.size)
        have hst8 := Hst.out w8 _ H8
        rw [i1] at hst8
        have hca8 := Hca.out w8 _ H8
        have hsu8 := sys_super H8
        go_wp2_with (first
          | (go_at_call 40; refine hst8.mono ?_; rintro e w9 ⟨rfl, rfl⟩)
          | (go_at_call 41; refine hca8.mono ?_; rintro e w9 ⟨rfl, rfl⟩)
          | (go_at_call 31; refine hsu8.mono ?_; rintro e w10 ⟨rfl, b10⟩)
          | fail)
        go_ret
        exact ⟨rfl, B8.trans (b10.mono B8.size)⟩)
end Go.Proofs.YtipejjgodnnkaaaGreatDoor
