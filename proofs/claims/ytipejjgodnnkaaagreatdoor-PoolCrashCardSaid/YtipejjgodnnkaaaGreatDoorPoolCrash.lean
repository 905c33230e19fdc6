/- PoolCrash's walk. -/
import Derived.Test.YtipejjgodnnkaaaGreatDoorPx9
import Derived.Test.YtipejjgodnnkaaaGreatDoorPx23
import Derived.Test.YtipejjgodnnkaaaGreatDoorPoOq
import Derived.Test.YtipejjgodnnkaaaGreatDoorPoolSteps
namespace Go.Proofs.YtipejjgodnnkaaaGreatDoor
open Go Go.RowKit Go.Proofs

attribute [local go_sem ↓] fldS_shut
set_option maxRecDepth 100000 in
set_option pp.deepTerms true in
set_option pp.maxSteps 1000000 in
set_option maxHeartbeats 16000000 in
theorem poolCrash_walk (x : Int) (A : Option Addr) (n c : Nat) (ls : List (List UInt8)) (A2 : Option Addr) (n2 c2 : Nat) (ls2 : List (List UInt8)) (z : Int) (A3 : Option Addr) (n3 c3 : Nat) (zs : List Int) (w : World) (hx : i64 x) (hp0 : Parts w A n c ls) (hp2 : Parts w A2 n2 c2 ls2) (hz : i64 z) (hk0 : Ints w A3 n3 c3 zs) (ht : Tab w) :
    Calls Tryz.prog 5 #[.int .i64 x, .agg #[.slice A n c, .slice A2 n2 c2], .agg #[.int .i64 z, .slice A3 n3 c3]] w fun e w' => e = .returned (.bool true) ∧ Below w.heap.size w w' := by
  have hG := ht.1
  go_enter Tryz.func5, Tryz.ntmps5
  have hn := hp0.2.1
  have hcm := hp0.2.2.1
  unfold maxLen at hcm
  have hn2 := hp2.2.1
  have hcm2 := hp2.2.2.1
  unfold maxLen at hcm2
  have hk := pkind_any x 32 hx (by omega) (by omega)
  have hkm := md_lt x (m := 32) (by omega)
  obtain ⟨y, hy⟩ : ∃ y, md x 32 = y := ⟨_, rfl⟩
  rw [hy] at hk hkm
  obtain ⟨kn, hkn⟩ : ∃ k, 32 + y = k := ⟨_, rfl⟩
  have hkn2 : (32 : Int) + (y : Int) = (kn : Int) := by omega
  have hkn3 : 32 ≤ kn ∧ kn ≤ 63 := by omega
  have hkz := pkind_any z 40 hz (by omega) (by omega)
  have hkm2 := md_lt z (m := 40) (by omega)
  obtain ⟨yz, hyz⟩ : ∃ y, md z 40 = y := ⟨_, rfl⟩
  rw [hyz] at hkz hkm2
  have Hkz := Lib.hid hkz
  clear hy hyz hkz
  have b1 : Below w.heap.size w (w.alloc (.cells #[.slice A n c, .slice A2 n2 c2] 68)) := (Below.refl _ _).alloc (Nat.le_refl _) _
  have b2 := b1.alloc (o := .cells #[.int .i64 z, .slice A3 n3 c3] 70) (by simp)
  have t2 := ht.below b2 hG
  have q0 : ((w.alloc (.cells #[.slice A n c, .slice A2 n2 c2] 68)).alloc (.cells #[.int .i64 z, .slice A3 n3 c3] 70)).cell? ⟨w.heap.size, 0, none⟩ = some (.slice A n c) := by
    simp [go_sem]
  have q1 : ((w.alloc (.cells #[.slice A n c, .slice A2 n2 c2] 68)).alloc (.cells #[.int .i64 z, .slice A3 n3 c3] 70)).cell? ⟨w.heap.size, 1, none⟩ = some (.slice A2 n2 c2) := by
    simp [go_sem]
  have r0 : ((w.alloc (.cells #[.slice A n c, .slice A2 n2 c2] 68)).alloc (.cells #[.int .i64 z, .slice A3 n3 c3] 70)).cell? ⟨w.heap.size + 1, 0, none⟩ = some (.int .i64 z) := by
    simp [go_sem]
  have r1 : ((w.alloc (.cells #[.slice A n c, .slice A2 n2 c2] 68)).alloc (.cells #[.int .i64 z, .slice A3 n3 c3] 70)).cell? ⟨w.heap.size + 1, 1, none⟩ = some (.slice A3 n3 c3) := by
    simp [go_sem]
  have z2 : ((w.alloc (.cells #[.slice A n c, .slice A2 n2 c2] 68)).alloc (.cells #[.int .i64 z, .slice A3 n3 c3] 70)).heap.size = w.heap.size + 2 := by simp
  go_wp2_with fail
  generalize (w.alloc (.cells #[.slice A n c, .slice A2 n2 c2] 68)).alloc (.cells #[.int .i64 z, .slice A3 n3 c3] 70) = w2 at b2 t2 q0 q1 r0 r1 z2 ⊢
  clear b1
  obtain ⟨tb, htb⟩ : ∃ k, w.heap.size = k := ⟨_, rfl⟩
  have htb2 : tb < w2.heap.size := by omega
  have hG2 : 1 < w2.heap.size := by omega
  simp only [htb] at q0 q1 r0 r1 ⊢
  obtain ⟨ob, hob⟩ : ∃ k, tb + 1 = k := ⟨_, rfl⟩
  have hob2 : ob < w2.heap.size := by omega
  simp only [hob] at r0 r1 ⊢
  have Z2 := Lib.hid z2
  have Htb := Lib.hid htb
  clear z2 htb hob
  refine (pshown_any w2 t2).mono ?_
  rintro e w3 ⟨rfl, b3⟩
  have t3 := t2.below b3 hG2
  go_wp2_with fail
  refine (hk w3).mono ?_
  rintro e w4 ⟨rfl, rfl⟩
  go_wp2_with fail
  refine (new_yes kn ⟨hkn3.1, by omega⟩ w3).mono ?_
  rintro e w4 ⟨d, rfl, L4, b4⟩
  have t4 := t3.below b4 t3.1
  have z3 := b3.size
  have z4 := b4.size
  have B4 := b3.trans (b4.mono z3)
  have L4 : Drv w4 d (fun k => w2.heap.size ≤ k) (DM.mk0 kn) := L4.mono fun k _ h => by omega
  obtain ⟨e0, S1, st1⟩ := fmt_done (D := DM.mk0 kn) (n := kn) hkn3.1 (by omega) rfl ⟨rfl, rfl⟩
  have hfm := pformat_any L4 ⟨rfl, rfl⟩ (by omega) t4 (tame_mk0 kn) (by omega)
  have hmn : (DM.mk0 kn).n = kn := rfl
  rw [hmn] at hfm
  have tm1 := tame_run (fmtL kn) (tame_mk0 kn)
  have fl := fmt_le (n := kn) (by omega)
  obtain ⟨D1, hD1⟩ : ∃ D, (DM.mk0 kn).runD (fmtL kn) = D := ⟨_, rfl⟩
  rw [hD1] at hfm S1 tm1
  have tm1 : D1.tame 30 := tm1.mono (by omega)
  clear hk hkm e0 hD1 hmn st1 fl
  go_wp2_with fail
  refine hfm.mono ?_
  rintro e w5 ⟨p, qq, rfl, X5⟩
  have H5 := sys_of (b := w2.heap.size) X5 (fun k hk => hk) B4.size
  have t5 := t4.turned X5.turn (by omega)
  have B5 := B4.trans (X5.turn.below (fun k hk => hk) B4.size)
  obtain ⟨S0, S, H5⟩ := H5
  have K5 := laid_zero hkn3.1 hkn3.2 S1 [] ls
  clear X5 hfm S1 L4 b3 b4
  have b56 : Below w5.heap.size w5 (w5.alloc (.cells #[.slice none 0 0, .slice none 0 0] 75)) := (Below.refl _ _).alloc (Nat.le_refl _) _
  have H6 := H5.more b56
  have R6 : Rows2 (w5.alloc (.cells #[.slice none 0 0, .slice none 0 0] 75)) w2.heap.size w5.heap.size S0 S (grow (fun k => w2.heap.size ≤ k ∧ k < w5.heap.size) w5 (w5.alloc (.cells #[.slice none 0 0, .slice none 0 0] 75))) none 0 0 [] none 0 0 [] :=
    by
    refine ⟨heap_alloc_new w5 _, arow_none _ _, arow_none _ _, fun k hk => ?_, fun h => (by cases h), fun h => (by cases h), fun k h => (by cases h)⟩
    have e : k = w5.heap.size := by
      rcases hk with h | h | h
      · exact h
      · cases h
      · cases h
    subst e
    exact ⟨⟨.inr (Nat.le_refl _), by simp⟩, fun h => by have := (H5.tight _ (H5.sub _ h)).2; omega, fun h => by have := (H5.tight _ (H5.subS _ h)).2; omega⟩
  have t6 := t5.below b56 t5.1
  have B6 := B5.trans (b56.mono B5.size)
  have hab : w5.heap.size < w5.heap.size + 1 := by omega
  go_wp2_with fail
  generalize grow (fun k => w2.heap.size ≤ k ∧ k < w5.heap.size) w5 (w5.alloc (.cells #[.slice none 0 0, .slice none 0 0] 75)) = T6 at H6 R6
  generalize w5.alloc (.cells #[.slice none 0 0, .slice none 0 0] 75) = w6 at b56 H6 R6 t6 B6 ⊢
  obtain ⟨ab, hab⟩ : ∃ k, w5.heap.size = k := ⟨_, rfl⟩
  simp only [hab] at R6 ⊢
  clear hab b56 H5 t5 B5 t4 B4 z4 z3
  obtain ⟨P5, hP5⟩ : ∃ P, Pl.fresh kn = P := ⟨_, rfl⟩
  rw [hP5] at H6 K5
  clear hP5
  go_loopw [13, 14, 15, 16, 17] (fun kv _ _ _ _ wr => ∃ (k : Nat) (S0 S T : Nat → Prop) (D : DM) (P : Pl) (S0c : Sp) (C0 : Ct) (A4 A5 : Option Addr) (n4 c4 n5 c5 : Nat) (an0 an1 : List Nat), k ≤ 2 ∧ kv = .int .i64 (k : Int) ∧ SysAt w2.heap.size wr d p S0 S T D P ∧ Rows2 wr w2.heap.size ab S0 S T A4 n4 c4 an0 A5 n5 c5 an1 ∧ D.tame 2200 ∧ (an0.length ≤ 8 ∧ an0.length ≤ n) ∧ (an1.length ≤ 8 ∧ an1.length ≤ n2) ∧
      (k = 0 ∧ A4 = none ∧ n4 = 0 ∧ c4 = 0 ∧ an0 = [] ∧ A5 = none ∧ n5 = 0 ∧ c5 = 0 ∧ an1 = [] ∧ S0c = fmtS kn ∧ C0 = Ct.zero kn ∧ D.tame 30 ∧ Laid kn D P S0c C0 1 [] [] [] ls ∨ k = 1 ∧ an1 = [] ∧ Laid kn D P S0c C0 2 an0 ls [] ls2 ∨ k = 2 ∧ Laid kn D P S0c C0 2 an0 ls an1 ls2) ∧ Below w2.heap.size w2 wr ∧ Tab wr) (fun kv _ _ _ _ _ => 2 - (intOf kv).toNat)
  case atStart => exact ⟨0, S0, S, T6, D1, P5, _, _, none, none, 0, 0, 0, 0, [], [], by omega, rfl, H6, R6, tm1.mono (by omega), by simp, by simp, .inl ⟨rfl, rfl, rfl, rfl, rfl, rfl, rfl, rfl, rfl, rfl, rfl, tm1, K5⟩, B6, t6⟩
  case round =>
    clear H6 R6 K5 tm1 B6 t6 S0 S
    obtain ⟨k, S0, S, T, D1, P, S0c, C0, A4, A5, n4, c4, n5, c5, an0, an1, hk2, rfl, H, R, tm, hl0, hl1, ph, B, t⟩ := hrel
    rcases ph with ⟨rfl, rfl, rfl, rfl, rfl, rfl, rfl, rfl, rfl, rfl, rfl, tm1, K⟩ | ⟨rfl, rfl, K⟩ | ⟨rfl, K⟩
    · have hq : wr.cell? ⟨tb, 0, none⟩ = some (.slice A n c) := (B.cell (p := ⟨tb, 0, none⟩) htb2).trans q0
      simp only [show ((0 : Nat) : Int) = 0 from rfl]
      go_wp2_with fail
      go_loopw [14, 15, 16, 17] (fun iv _ _ _ wr => ∃ (i : Nat) (T : Nat → Prop) (P : Pl) (A5 : Option Addr) (n5 c5 : Nat) (an : List Nat), i ≤ n ∧ i ≤ 8 ∧ iv = .int .i64 (i : Int) ∧ an.length = i ∧ SysAt w2.heap.size wr d p S0 S T D1 P ∧ Rows2 wr w2.heap.size ab S0 S T A5 n5 c5 an none 0 0 [] ∧ Laid kn D1 P (fmtS kn) (Ct.zero kn) 1 [] [] an ls ∧ Below w2.heap.size w2 wr ∧ Tab wr) (fun iv _ _ _ _ => 8 - (intOf iv).toNat)
      case atStart => exact ⟨0, T, P, none, 0, 0, [], Nat.zero_le _, by omega, rfl, rfl, H, R, K, B, t⟩
      case round =>
        clear H R K B t hq
        obtain ⟨i, T, P, A5, n5, c5, an, hin, hi8, rfl, hal, H, R, K, B, t⟩ := hrel
        have hq : wr.cell? ⟨tb, 0, none⟩ = some (.slice A n c) := (B.cell (p := ⟨tb, 0, none⟩) htb2).trans q0
        have hc5 := R.c0
        have hn5 := R.r0.len
        have e0 : (0 : Int) ≤ (i : Int) := by omega
        by_cases hgo : i < n ∧ i < 8
        · obtain ⟨hlt, hlt2⟩ := hgo
          have BB := b2.trans (B.mono b2.size)
          obtain ⟨ad, A1, n1, c1, eA, hbl, hcl, hsl⟩ := hp0.cell hlt
          have hcr := (BB.cell (p := ad.add i) (by rw [addr_block]; exact hbl)).trans hcl
          have hsr : Sl wr A1 n1 c1 (nth ls i) := ⟨hsl.1, hsl.2.1, hsl.2.2.1, fun i u hu => by
            obtain ⟨ad', e', h1, h2⟩ := hsl.2.2.2 i u hu
            exact ⟨ad', e', Nat.lt_of_lt_of_le h1 BB.size, (BB.cell (p := ad'.add i) (by rw [addr_block]; exact h1)).trans h2⟩⟩
          have hA1 : 0 < n1 → ∀ ad', A1 = some ad' → ¬ T ad'.block := fun hn ad' e' h => by
            obtain ⟨ad2, e2, h1, _⟩ := hsl.cell hn
            rw [e'] at e2
            injection e2 with e2
            subst e2
            have := (H.tight _ h).1
            have := b2.size
            omega
          obtain ⟨xl, hxl⟩ : ∃ z, cut128 (nth ls i) = z := ⟨_, rfl⟩
          have hxle : xl.length ≤ 128 := by rw [← hxl]; exact cut_len _
          obtain ⟨a, hpick, han, K2⟩ := K.put (by omega)
          rw [hal, hxl] at K2
          obtain ⟨p1, p2, p3⟩ := put_data hpick hxle
          have hput := fun (nb : Nat) (hsb : Sl wr A1 nb c1 xl) (hnb : nb ≤ n1) => at_put H hG2 5 A1 nb c1 xl hsb (fun h => hA1 (by omega)) t
          rw [p1, p2, p3] at hput
          obtain ⟨P2, hP2⟩ : ∃ Q, P.lay (.bytes 5 xl) = Q := ⟨_, rfl⟩
          rw [hP2] at hput K2
          have Hput := Lib.hid hput
          have e1 : (i : Int) < (n : Int) := by omega
          have e2 : (i : Int) < 8 := by omega
          have ha2 : a ≤ 2048 := by omega
          have hL : (nth ls i).length = n1 := hsl.len
          have hn1 : n1 ≤ c1 := hsl.cap
          have hc1 := hsl.max
          unfold maxLen at hc1
          have hh128 : 128 < n1 ∨ n1 ≤ 128 := by omega
          have hXl := Lib.hid hxl
          have hA_ := Lib.hid eA
          have qr : wr.cell? ⟨tb, 0, none⟩ = some (.slice (some ad) n c) := by rw [← eA]; exact hq
          clear hput hcl hsl p1 p2 p3 hpick hP2 hq hxl eA
          rcases hh128 with h128 | h128
          · have d0 : (128 : Int) < (n1 : Int) := by omega
            have hsb : Sl wr A1 128 c1 xl := by rw [← hXl.out]; exact hsr.take (by omega)
            have hnb : 128 ≤ n1 := by omega
            go_wp2_with (first
              | (go_at_call 27; refine (Hput.out 128 hsb hnb).mono ?_; rintro e w7 ⟨rfl, H7, X7, t7⟩; have R7 := R.turned X7 (fun k hk => .inr hk); have c57 := R7.c0; have b8 : Below w7.heap.size w7 (w7.alloc (.cells #[.int .i64 (a : Int)] 3)) := (Below.refl _ _).alloc (Nat.le_refl _) _; have B7 := B.trans (H.belowS X7 (fun k hk => .inr hk)))
              | (at_builtin; refine wp_append_int rfl _ _ rfl w2.heap.size A5 n5 c5 an rfl ((R7.below b8).r0) (some ⟨w7.heap.size, 0, none⟩) 1 a rfl (lit1_int w7 (a : Int)) (by omega) (by have h1 := B7.size; have h2 := b8.size; omega) ?_)
              | fail)
            intro A6 c6 w8 own8 X8 hA8
            have m8 := R8_0 (R7.below b8) X8
            have d8 := m8.1
            have f8 := m8.2
            have b8z := b8.size
            have H8 := H7.more b8
            have R8 := (R7.below b8).mono (T' := grow T w7 (w7.alloc (.cells #[.int .i64 (a : Int)] 3))) (by have := R7.lt; omega) (fun k _ h => h) (fun k hk h => grow_old h hk)
            have t8 := t7.below b8 t7.1
            obtain ⟨H9, R9, X9, t9⟩ := rows_push0 H8 hG2 t8 R8 own8 X8 (by rw [World.size_alloc]; exact hA8)
            have B9 := (B7.trans (b8.mono B7.size)).trans (rows_below H8 R8 X9 (fun k hk => hk.elim .inl fun h => .inr (.inl h)))
            clear hA8 H8 R8 m8
            go_wp2
            exact ⟨⟨i + 1, _, P2, A6, _, c6, _, by omega, by omega, by go_num, by rw [List.length_append, List.length_singleton]; omega, H9, R9, K2, B9, t9⟩, by simp [intOf]; omega⟩
          · have d0 : ¬ (128 : Int) < (n1 : Int) := by omega
            have hsb : Sl wr A1 n1 c1 xl := by rw [← hXl.out]; unfold cut128; rw [List.take_of_length_le (by rw [hL]; exact h128)]; exact hsr
            have hnb : n1 ≤ n1 := Nat.le_refl _
            go_wp2_with (first
              | (go_at_call 27; refine (Hput.out n1 hsb hnb).mono ?_; rintro e w7 ⟨rfl, H7, X7, t7⟩; have R7 := R.turned X7 (fun k hk => .inr hk); have c57 := R7.c0; have b8 : Below w7.heap.size w7 (w7.alloc (.cells #[.int .i64 (a : Int)] 3)) := (Below.refl _ _).alloc (Nat.le_refl _) _; have B7 := B.trans (H.belowS X7 (fun k hk => .inr hk)))
              | (at_builtin; refine wp_append_int rfl _ _ rfl w2.heap.size A5 n5 c5 an rfl ((R7.below b8).r0) (some ⟨w7.heap.size, 0, none⟩) 1 a rfl (lit1_int w7 (a : Int)) (by omega) (by have h1 := B7.size; have h2 := b8.size; omega) ?_)
              | fail)
            intro A6 c6 w8 own8 X8 hA8
            have m8 := R8_0 (R7.below b8) X8
            have d8 := m8.1
            have f8 := m8.2
            have b8z := b8.size
            have H8 := H7.more b8
            have R8 := (R7.below b8).mono (T' := grow T w7 (w7.alloc (.cells #[.int .i64 (a : Int)] 3))) (by have := R7.lt; omega) (fun k _ h => h) (fun k hk h => grow_old h hk)
            have t8 := t7.below b8 t7.1
            obtain ⟨H9, R9, X9, t9⟩ := rows_push0 H8 hG2 t8 R8 own8 X8 (by rw [World.size_alloc]; exact hA8)
            have B9 := (B7.trans (b8.mono B7.size)).trans (rows_below H8 R8 X9 (fun k hk => hk.elim .inl fun h => .inr (.inl h)))
            clear hA8 H8 R8 m8
            go_wp2
            exact ⟨⟨i + 1, _, P2, A6, _, c6, _, by omega, by omega, by go_num, by rw [List.length_append, List.length_singleton]; omega, H9, R9, K2, B9, t9⟩, by simp [intOf]; omega⟩
        · have hfin : ¬ ((i : Int) < (n : Int) ∧ (i : Int) < 8) := fun h => hgo ⟨by omega, by omega⟩
          have hg2 : P.g = 2 := by unfold Pl.g; rw [K.gen]; rfl
          have hcm := at_commit H hG2 t tm1 (by omega) (by rw [hg2]; omega)
          obtain ⟨k1, k2, K3⟩ := K.commit (by omega) ls2
          rw [k1, k2] at hcm
          have tm3 : (D1.runD P.steps).tame 2200 := (tame_run P.steps tm1).mono (by have := steps_le K.ok; omega)
          obtain ⟨D2, hD2⟩ : ∃ D, D1.runD P.steps = D := ⟨_, rfl⟩
          rw [hD2] at hcm K3 tm3
          have Hcm := Lib.hid hcm
          clear hcm k1 k2 hD2 hg2 hgo
          by_cases h1 : (i : Int) < (n : Int)
          all_goals (
            have h2 : ¬ ((i : Int) < (n : Int) ∧ (i : Int) < 8) := hfin
            first
              | (have h3 : ¬ (i : Int) < 8 := fun h => h2 ⟨h1, h⟩
                 clear h2 hfin
                 go_wp2_with fail)
              | (clear h2 hfin
                 go_wp2_with fail)
            refine Hcm.out.mono ?_
            rintro e w8 ⟨rfl, H8, X8, t8⟩
            have zz := X8.size
            have R8 := (R.mono (S0' := grow S0 wr w8) (T' := grow T wr w8) R.lt (fun k hk h => h.1.elim id fun h2 => by omega) (fun k hk h => grow_old h (by omega))).turned X8 (fun k hk => hk.imp (fun h => grow_old h (by have := (H.tight k (H.sub k h)).2; omega)) id)
            have B8 := B.trans (H.belowS X8 (fun k hk => hk))
            go_wp2_with fail
            exact ⟨⟨1, _, S, _, D2, P.done, P.sup, P.C, A5, none, n5, c5, 0, 0, an, [], by omega, rfl, H8, R8, tm3, by omega, by simp, .inr (.inl ⟨rfl, rfl, K3⟩), B8, t8⟩, by simp [intOf]⟩)
    · have hq : wr.cell? ⟨tb, 1, none⟩ = some (.slice A2 n2 c2) := (B.cell (p := ⟨tb, 1, none⟩) htb2).trans q1
      simp only [show ((1 : Nat) : Int) = 1 from rfl]
      go_wp2_with fail
      go_loopw [14, 15, 16, 17] (fun iv _ _ _ wr => ∃ (i : Nat) (T : Nat → Prop) (P : Pl) (A5 : Option Addr) (n5 c5 : Nat) (an : List Nat), i ≤ n2 ∧ i ≤ 8 ∧ iv = .int .i64 (i : Int) ∧ an.length = i ∧ SysAt w2.heap.size wr d p S0 S T D1 P ∧ Rows2 wr w2.heap.size ab S0 S T A4 n4 c4 an0 A5 n5 c5 an ∧ Laid kn D1 P S0c C0 2 an0 ls an ls2 ∧ Below w2.heap.size w2 wr ∧ Tab wr) (fun iv _ _ _ _ => 8 - (intOf iv).toNat)
      case atStart => exact ⟨0, T, P, A5, n5, c5, [], Nat.zero_le _, by omega, rfl, rfl, H, R, K, B, t⟩
      case round =>
        clear H R K B t hq
        obtain ⟨i, T, P, A5, n5, c5, an, hin, hi8, rfl, hal, H, R, K, B, t⟩ := hrel
        have hq : wr.cell? ⟨tb, 1, none⟩ = some (.slice A2 n2 c2) := (B.cell (p := ⟨tb, 1, none⟩) htb2).trans q1
        have hc5 := R.c1
        have hn5 := R.r1.len
        have e0 : (0 : Int) ≤ (i : Int) := by omega
        by_cases hgo : i < n2 ∧ i < 8
        · obtain ⟨hlt, hlt2⟩ := hgo
          have BB := b2.trans (B.mono b2.size)
          obtain ⟨ad, A1, n1, c1, eA, hbl, hcl, hsl⟩ := hp2.cell hlt
          have hcr := (BB.cell (p := ad.add i) (by rw [addr_block]; exact hbl)).trans hcl
          have hsr : Sl wr A1 n1 c1 (nth ls2 i) := ⟨hsl.1, hsl.2.1, hsl.2.2.1, fun i u hu => by
            obtain ⟨ad', e', h1, h2⟩ := hsl.2.2.2 i u hu
            exact ⟨ad', e', Nat.lt_of_lt_of_le h1 BB.size, (BB.cell (p := ad'.add i) (by rw [addr_block]; exact h1)).trans h2⟩⟩
          have hA1 : 0 < n1 → ∀ ad', A1 = some ad' → ¬ T ad'.block := fun hn ad' e' h => by
            obtain ⟨ad2, e2, h1, _⟩ := hsl.cell hn
            rw [e'] at e2
            injection e2 with e2
            subst e2
            have := (H.tight _ h).1
            have := b2.size
            omega
          obtain ⟨xl, hxl⟩ : ∃ z, cut128 (nth ls2 i) = z := ⟨_, rfl⟩
          have hxle : xl.length ≤ 128 := by rw [← hxl]; exact cut_len _
          obtain ⟨a, hpick, han, K2⟩ := K.put (by omega)
          rw [hal, hxl] at K2
          obtain ⟨p1, p2, p3⟩ := put_data hpick hxle
          have hput := fun (nb : Nat) (hsb : Sl wr A1 nb c1 xl) (hnb : nb ≤ n1) => at_put H hG2 5 A1 nb c1 xl hsb (fun h => hA1 (by omega)) t
          rw [p1, p2, p3] at hput
          obtain ⟨P2, hP2⟩ : ∃ Q, P.lay (.bytes 5 xl) = Q := ⟨_, rfl⟩
          rw [hP2] at hput K2
          have Hput := Lib.hid hput
          have e1 : (i : Int) < (n2 : Int) := by omega
          have e2 : (i : Int) < 8 := by omega
          have ha2 : a ≤ 2048 := by omega
          have hL : (nth ls2 i).length = n1 := hsl.len
          have hn1 : n1 ≤ c1 := hsl.cap
          have hc1 := hsl.max
          unfold maxLen at hc1
          have hh128 : 128 < n1 ∨ n1 ≤ 128 := by omega
          have hXl := Lib.hid hxl
          have hA_ := Lib.hid eA
          have qr : wr.cell? ⟨tb, 1, none⟩ = some (.slice (some ad) n2 c2) := by rw [← eA]; exact hq
          clear hput hcl hsl p1 p2 p3 hpick hP2 hq hxl eA
          rcases hh128 with h128 | h128
          · have d0 : (128 : Int) < (n1 : Int) := by omega
            have hsb : Sl wr A1 128 c1 xl := by rw [← hXl.out]; exact hsr.take (by omega)
            have hnb : 128 ≤ n1 := by omega
            go_wp2_with (first
              | (go_at_call 27; refine (Hput.out 128 hsb hnb).mono ?_; rintro e w7 ⟨rfl, H7, X7, t7⟩; have R7 := R.turned X7 (fun k hk => .inr hk); have c57 := R7.c1; have b8 : Below w7.heap.size w7 (w7.alloc (.cells #[.int .i64 (a : Int)] 3)) := (Below.refl _ _).alloc (Nat.le_refl _) _; have B7 := B.trans (H.belowS X7 (fun k hk => .inr hk)))
              | (at_builtin; refine wp_append_int rfl _ _ rfl w2.heap.size A5 n5 c5 an rfl ((R7.below b8).r1) (some ⟨w7.heap.size, 0, none⟩) 1 a rfl (lit1_int w7 (a : Int)) (by omega) (by have h1 := B7.size; have h2 := b8.size; omega) ?_)
              | fail)
            intro A6 c6 w8 own8 X8 hA8
            have m8 := R8_1 (R7.below b8) X8
            have d8 := m8.1
            have f8 := m8.2
            have b8z := b8.size
            have H8 := H7.more b8
            have R8 := (R7.below b8).mono (T' := grow T w7 (w7.alloc (.cells #[.int .i64 (a : Int)] 3))) (by have := R7.lt; omega) (fun k _ h => h) (fun k hk h => grow_old h hk)
            have t8 := t7.below b8 t7.1
            obtain ⟨H9, R9, X9, t9⟩ := rows_push1 H8 hG2 t8 R8 own8 X8 (by rw [World.size_alloc]; exact hA8)
            have B9 := (B7.trans (b8.mono B7.size)).trans (rows_below H8 R8 X9 (fun k hk => hk.elim .inl fun h => .inr (.inr h)))
            clear hA8 H8 R8 m8
            go_wp2
            exact ⟨⟨i + 1, _, P2, A6, _, c6, _, by omega, by omega, by go_num, by rw [List.length_append, List.length_singleton]; omega, H9, R9, K2, B9, t9⟩, by simp [intOf]; omega⟩
          · have d0 : ¬ (128 : Int) < (n1 : Int) := by omega
            have hsb : Sl wr A1 n1 c1 xl := by rw [← hXl.out]; unfold cut128; rw [List.take_of_length_le (by rw [hL]; exact h128)]; exact hsr
            have hnb : n1 ≤ n1 := Nat.le_refl _
            go_wp2_with (first
              | (go_at_call 27; refine (Hput.out n1 hsb hnb).mono ?_; rintro e w7 ⟨rfl, H7, X7, t7⟩; have R7 := R.turned X7 (fun k hk => .inr hk); have c57 := R7.c1; have b8 : Below w7.heap.size w7 (w7.alloc (.cells #[.int .i64 (a : Int)] 3)) := (Below.refl _ _).alloc (Nat.le_refl _) _; have B7 := B.trans (H.belowS X7 (fun k hk => .inr hk)))
              | (at_builtin; refine wp_append_int rfl _ _ rfl w2.heap.size A5 n5 c5 an rfl ((R7.below b8).r1) (some ⟨w7.heap.size, 0, none⟩) 1 a rfl (lit1_int w7 (a : Int)) (by omega) (by have h1 := B7.size; have h2 := b8.size; omega) ?_)
              | fail)
            intro A6 c6 w8 own8 X8 hA8
            have m8 := R8_1 (R7.below b8) X8
            have d8 := m8.1
            have f8 := m8.2
            have b8z := b8.size
            have H8 := H7.more b8
            have R8 := (R7.below b8).mono (T' := grow T w7 (w7.alloc (.cells #[.int .i64 (a : Int)] 3))) (by have := R7.lt; omega) (fun k _ h => h) (fun k hk h => grow_old h hk)
            have t8 := t7.below b8 t7.1
            obtain ⟨H9, R9, X9, t9⟩ := rows_push1 H8 hG2 t8 R8 own8 X8 (by rw [World.size_alloc]; exact hA8)
            have B9 := (B7.trans (b8.mono B7.size)).trans (rows_below H8 R8 X9 (fun k hk => hk.elim .inl fun h => .inr (.inr h)))
            clear hA8 H8 R8 m8
            go_wp2
            exact ⟨⟨i + 1, _, P2, A6, _, c6, _, by omega, by omega, by go_num, by rw [List.length_append, List.length_singleton]; omega, H9, R9, K2, B9, t9⟩, by simp [intOf]; omega⟩
        · have hfin : ¬ ((i : Int) < (n2 : Int) ∧ (i : Int) < 8) := fun h => hgo ⟨by omega, by omega⟩
          clear hgo
          by_cases h1 : (i : Int) < (n2 : Int)
          all_goals (
            have h2 : ¬ ((i : Int) < (n2 : Int) ∧ (i : Int) < 8) := hfin
            first
              | (have h3 : ¬ (i : Int) < 8 := fun h => h2 ⟨h1, h⟩
                 clear h2 hfin
                 go_wp2_with fail)
              | (clear h2 hfin
                 go_wp2_with fail)
            exact ⟨⟨2, S0, S, T, D1, P, S0c, C0, A4, A5, n4, c4, n5, c5, an0, an, by omega, rfl, H, R, tm, hl0, by omega, .inr (.inr ⟨rfl, K⟩), B, t⟩, by simp [intOf]⟩)
    · simp only [show ((2 : Nat) : Int) = 2 from rfl]
      have BB := b2.trans (B.mono b2.size)
      have hr0 : wr.cell? ⟨ob, 0, none⟩ = some (.int .i64 z) := (B.cell (p := ⟨ob, 0, none⟩) hob2).trans r0
      have hfu := at_fuse H (yz : Int) (by omega)
      have tmf : (D1.fuse (yz : Int)).tame 2200 := ⟨tm.steps, tm.rows⟩
      have hg3 : P.g = 3 := by unfold Pl.g; rw [K.gen]; rfl
      have hcs := crash_says K.ok K.sound (yz : Int) zs
      have hbase := H.base
      obtain ⟨DF, hDF⟩ : ∃ D, D1.fuse (yz : Int) = D := ⟨_, rfl⟩
      rw [hDF] at hfu tmf hcs
      clear hDF
      go_wp2_with fail
      refine (Hkz.out wr).mono ?_
      rintro e w4 ⟨rfl, rfl⟩
      go_wp2_with fail
      refine hfu.mono ?_
      rintro e w7 ⟨rfl, H7, X7⟩
      have z7 := X7.size
      have t7 : Tab w7 := t.turned X7 fun h => by have := (H.tight _ (H.sub _ h)).1; omega
      have R7 := R.turned X7 (fun k hk => .inl hk)
      have B7 := B.trans (H.belowS X7 (fun k hk => .inl hk))
      have hcm := at_commit H7 hG2 t7 tmf (by omega) (by rw [hg3]; omega)
      have tm8 : (DF.runD P.steps).tame 4400 := (tame_run P.steps tmf).mono (by have := steps_le K.ok; omega)
      go_wp2_with fail
      refine hcm.mono ?_
      rintro e w8 ⟨rfl, H8, X8, t8⟩
      have z8 := X8.size
      have R8 := (R7.mono (S0' := grow S0 w7 w8) (T' := grow T w7 w8) R7.lt (fun k hk h => h.1.elim id fun h2 => by omega) (fun k hk h => grow_old h (by omega))).turned X8 (fun k hk => hk.imp (fun h => grow_old h (by have := (H7.tight k (H7.sub k h)).2; omega)) id)
      have B8 := B7.trans (H7.belowS X8 (fun k hk => hk))
      clear hfu hcm X7 X8
      obtain ⟨E, hE⟩ : ∃ E, DF.cmtE P = E := ⟨_, rfl⟩
      rw [hE] at hcs ⊢
      have hr1 : w8.cell? ⟨ob, 1, none⟩ = some (.slice A3 n3 c3) := (B8.cell (p := ⟨ob, 1, none⟩) hob2).trans r1
      have BB8 := b2.trans (B8.mono b2.size)
      have hcr := at_crash H8 A3 n3 c3 zs (hk0.turn (turn_below BB8 (S := fun _ => False)) (fun _ _ h => h)) (fun h0 ad e h => by
        obtain ⟨ad', e', hb, _⟩ := hk0.1.2.2.2 0 (.int .i64 (zs.getD 0 0)) (by rw [List.getElem?_map, List.getD_eq_getElem?_getD, List.getElem?_eq_getElem (by have := hk0.len; omega)]; rfl)
        rw [e] at e'
        injection e' with e'
        subst e'
        have h1 := (H8.tight _ (H8.sub _ h)).1
        have h2 := b2.size
        omega) tm8 (by omega)
      obtain ⟨D3, hD3⟩ : ∃ D, (DF.runD P.steps).crash zs = D := ⟨_, rfl⟩
      rw [hD3] at hcr hcs
      clear hD3 hE
      go_wp2_with fail
      refine hcr.mono ?_
      rintro e w9 ⟨rfl, H9, X9⟩
      have z9 := X9.size
      have t9 : Tab w9 := t8.turned X9 fun h => by have := (H8.tight _ (H8.sub _ h)).1; omega
      have R9 := R8.turned X9 (fun k hk => .inl hk)
      have B9 := B8.trans (H8.belowS X9 (fun k hk => .inl hk))
      have En := laid_ends K hcs
      have hmt := hcs.mt
      have hgn : (mtS D3.newest).gen < 1099511627775 := by
        have h : (Pl.mounted D3.newest D3.n).S = mtS D3.newest := rfl
        have h2 := En.gen
        rw [h] at h2
        omega
      have hmo := dr_mount H9.sys.dr H9.base t9 hgn
      obtain ⟨Q, hQ⟩ : ∃ Q, Pl.mounted D3.newest D3.n = Q := ⟨_, rfl⟩
      rw [hQ] at hmo En
      rw [hmt] at hmo
      have Hmo := Lib.hid hmo
      clear hcs hmt hgn hmo hQ hcr X9
      go_wp2_with fail
      refine Hmo.out.mono ?_
      rintro e w10 ⟨⟨_, q, rfl, H10⟩ | ⟨h, _⟩, b10⟩
      · have t10 := t9.below b10 t9.1
        have R10 := R9.below b10
        have B10 := B9.trans (b10.mono B9.size)
        have hn4 := R10.r0.len
        have hn5 := R10.r1.len
        have hsu := sys_super H10
        have fld : ∀ u, (fldS (.agg Q.S.vs.toArray)).run Tryz.prog u = .ok (.int .i64 Q.S.gen) u := fun u => fld_gen Q.S u
        have hc4 := R10.c0
        have hc5 := R10.c1
        have hab10 := R10.lt
        clear H R t B H7 R7 t7 B7 H8 R8 t8 B8 BB8 H9 R9 t9 B9 BB tmf tm8 Hmo
        rcases En.gen with hg | hg
        · obtain ⟨hE, hC⟩ := En.two hg
          have nbE : (E == 0) = false := by simpa using hE
          rw [hg] at fld
          have Hold := Lib.hid En.old
          have HC := Lib.hid hC
          clear En hC hE
          go_wp2_with fail
          refine hsu.mono ?_
          rintro e w11 ⟨rfl, b11⟩
          go_wp2_with fail
          have t11 := t10.below b11 t10.1
          go_loopw [22, 23, 24, 25, 26] (fun kv _ _ _ _ wr => ∃ (k : Nat), k ≤ 1 ∧ kv = .int .i64 (k : Int) ∧ Below w10.heap.size w10 wr ∧ Tab wr) (fun kv _ _ _ _ _ => 2 - (intOf kv).toNat)
          case atStart => exact ⟨0, by omega, rfl, b11, t11⟩
          case round =>
            clear b11 t11
            obtain ⟨k, hk, rfl, B, t⟩ := hrel
            rcases (by omega : k = 0 ∨ k = 1) with rfl | rfl
            · simp only [show ((0 : Nat) : Int) = 0 from rfl]
              go_wp2_with fail
              go_loopw [23, 24, 25, 26] (fun iv _ _ _ wr => ∃ (i : Nat), i ≤ n4 ∧ iv = .int .i64 (i : Int) ∧ Below w10.heap.size w10 wr ∧ Tab wr) (fun iv _ _ _ _ => n4 - (intOf iv).toNat)
              case atStart => exact ⟨0, Nat.zero_le _, rfl, B, t⟩
              case round =>
                clear B t
                obtain ⟨i, him, rfl, B, t⟩ := hrel
                have cAr0 := (B.cell (p := ⟨ab, 0, none⟩) hab10).trans hc4
                by_cases hlt : i < n4
                · obtain ⟨ad, a, eA, ha, hcell, hblk⟩ := R10.r0.cell hlt
                  obtain ⟨e1, e2, hget⟩ := Hold.out i a ha
                  have hcellr := (B.cell (p := ad.add i) (by rw [addr_block]; exact hblk)).trans hcell
                  have hblk2 : ad.block < wr.heap.size := Nat.lt_of_lt_of_le hblk B.size
                  have BB := b2.trans ((B10.trans (B.mono B10.size)).mono b2.size)
                  obtain ⟨ad2, A1, n1, c1, eA2, hbl, hcl, hsl⟩ := hp0.cell (by omega : i < n)
                  have hbl2 : ad2.block < wr.heap.size := Nat.lt_of_lt_of_le hbl BB.size
                  have hcr := (BB.cell (p := ad2.add i) (by rw [addr_block]; exact hbl)).trans hcl
                  have hsr : Sl wr A1 n1 c1 (nth ls i) := ⟨hsl.1, hsl.2.1, hsl.2.2.1, fun i u hu => by
                    obtain ⟨ad', e', h1, h2⟩ := hsl.2.2.2 i u hu
                    exact ⟨ad', e', Nat.lt_of_lt_of_le h1 BB.size, (BB.cell (p := ad'.add i) (by rw [addr_block]; exact h1)).trans h2⟩⟩
                  have qr : wr.cell? ⟨tb, 0, none⟩ = some (.slice (some ad2) n c) := by rw [← eA2]; exact ((B10.trans (B.mono B10.size)).cell (p := ⟨tb, 0, none⟩) htb2).trans q0
                  have cAr : wr.cell? ⟨ab, 0, none⟩ = some (.slice (some ad) n4 c4) := by rw [← eA]; exact cAr0
                  have hby0 : ∀ u, Below w10.heap.size w10 u → Tab u → Calls Tryz.prog 20 #[.pointer (some ⟨q, 0, none⟩), .int .i64 (a : Int), .int .i64 5] u fun e w' => ∃ A n c, e = .returned (.tuple #[.slice A n c, .int .i64 0]) ∧ Sl w' A n c (cut128 (nth ls i)) ∧ Below u.heap.size u w' ∧ ∀ ad, A = some ad → u.heap.size ≤ ad.block := fun u hu tu => by
                    have hby := sys_bytes (H10.below hu) tu (a : Int) 5
                    unfold BytesSays at hby
                    rw [e1, e2] at hby
                    exact hby
                  have Hby := Lib.hid hby0
                  clear hby0
                  obtain ⟨xl, hxl⟩ : ∃ z, cut128 (nth ls i) = z := ⟨_, rfl⟩
                  rw [hxl] at Hby
                  have e0 : (i : Int) < (n4 : Int) := by omega
                  have e3 : (i : Int) < (n : Int) := by omega
                  have e4 : (0 : Int) ≤ (i : Int) := by omega
                  have hL : (nth ls i).length = n1 := hsl.len
                  have hn1 : n1 ≤ c1 := hsl.cap
                  have hc1 := hsl.max
                  unfold maxLen at hc1
                  have hh128 : 128 < n1 ∨ n1 ≤ 128 := by omega
                  have hXl := Lib.hid hxl
                  clear hcell hcl hsl e1 e2 hxl eA eA2 cAr0
                  rcases hh128 with h128 | h128
                  · have d0 : (128 : Int) < (n1 : Int) := by omega
                    have hsb : Sl wr A1 128 c1 xl := by rw [← hXl.out]; exact hsr.take (by omega)
                    go_wp2_with fail
                    refine (Hby.out wr B t).mono ?_
                    rintro e w12 ⟨A9, n9, c9, rfl, s9, b12, _⟩
                    have B12 := B.trans (b12.mono B.size)
                    have t12 := t.below b12 t.1
                    have k9 := str_bs s9
                    have qr12 := (b12.cell (p := ⟨tb, 0, none⟩) (show tb < wr.heap.size by have h1 := B.size; have h2 := B10.size; omega)).trans qr
                    have hcr12 := (b12.cell (p := ad2.add i) (by rw [addr_block]; exact hbl2)).trans hcr
                    have cA12 := (b12.cell (p := ⟨ab, 0, none⟩) (show ab < wr.heap.size by have h1 := B.size; omega)).trans cAr
                    have hcell12 := (b12.cell (p := ad.add i) (by rw [addr_block]; exact hblk2)).trans hcellr
                    have kw := str_bs ((hsb).below b12)
                    have hcn := sys_count (H10.below B12) (a : Int) 1 hget
                    go_wp2_with (first
                      | (go_at_call 32; refine hcn.mono ?_; rintro e w13 ⟨rfl, rfl⟩)
                      | fail)
                    exact ⟨⟨i + 1, by omega, by go_num, B12, t12⟩, by simp [intOf]; omega⟩
                  · have d0 : ¬ (128 : Int) < (n1 : Int) := by omega
                    have hsb : Sl wr A1 n1 c1 xl := by rw [← hXl.out]; unfold cut128; rw [List.take_of_length_le (by rw [hL]; exact h128)]; exact hsr
                    go_wp2_with fail
                    refine (Hby.out wr B t).mono ?_
                    rintro e w12 ⟨A9, n9, c9, rfl, s9, b12, _⟩
                    have B12 := B.trans (b12.mono B.size)
                    have t12 := t.below b12 t.1
                    have k9 := str_bs s9
                    have qr12 := (b12.cell (p := ⟨tb, 0, none⟩) (show tb < wr.heap.size by have h1 := B.size; have h2 := B10.size; omega)).trans qr
                    have hcr12 := (b12.cell (p := ad2.add i) (by rw [addr_block]; exact hbl2)).trans hcr
                    have cA12 := (b12.cell (p := ⟨ab, 0, none⟩) (show ab < wr.heap.size by have h1 := B.size; omega)).trans cAr
                    have hcell12 := (b12.cell (p := ad.add i) (by rw [addr_block]; exact hblk2)).trans hcellr
                    have kw := str_bs ((hsb).below b12)
                    have hcn := sys_count (H10.below B12) (a : Int) 1 hget
                    go_wp2_with (first
                      | (go_at_call 32; refine hcn.mono ?_; rintro e w13 ⟨rfl, rfl⟩)
                      | fail)
                    exact ⟨⟨i + 1, by omega, by go_num, B12, t12⟩, by simp [intOf]; omega⟩
                · have e0 : ¬ (i : Int) < (n4 : Int) := by omega
                  go_wp2_with fail
                  exact ⟨⟨1, by omega, rfl, B, t⟩, by simp [intOf]⟩
            · simp only [show ((1 : Nat) : Int) = 1 from rfl]
              have hc5r := (B.cell (p := ⟨ab, 1, none⟩) hab10).trans hc5
              have Bw := b2.trans ((B10.trans (B.mono B10.size)).mono b2.size)
              by_cases h5 : n5 = 0
              · have nz : ((n5 : Int) == 0) = true := by simp [h5]
                clear h5
                go_wp2_with fail
                go_ret
                exact ⟨rfl, Bw⟩
              · have nz : ((n5 : Int) == 0) = false := by simp; omega
                obtain ⟨ad, a, eA, ha, hcell, hblk⟩ := R10.r1.cell (by omega : 0 < n5)
                have h00 : ad.add 0 = ad := by cases ad; rfl
                rw [h00] at hcell
                have hcellr := (B.cell (p := ad) hblk).trans hcell
                have hc5s : wr.cell? ⟨ab, 1, none⟩ = some (.slice (some ad) n5 c5) := by rw [← eA]; exact hc5r
                have hcn := sys_count (H10.below B) (a : Int) 0 (HC.out a (List.mem_of_getElem? ha))
                have h50 : (0 : Int) < (n5 : Int) := by omega
                clear hcell eA h5 hc5r
                go_wp2_with (first
                  | (go_at_call 32; refine hcn.mono ?_; rintro e w13 ⟨rfl, rfl⟩)
                  | fail)
                go_ret
                exact ⟨rfl, Bw⟩
        · rw [hg] at fld
          have Hold := Lib.hid En.old
          have Hnew := Lib.hid (En.new hg)
          clear En
          go_wp2_with fail
          refine hsu.mono ?_
          rintro e w11 ⟨rfl, b11⟩
          have hEE : (E == 0) = true ∨ (E == 0) = false := by cases (E == 0) <;> simp
          have t11 := t10.below b11 t10.1
          rcases hEE with nbE | nbE
          all_goals (
          go_wp2_with fail
          go_loopw [22, 23, 24, 25, 26] (fun kv _ _ _ _ wr => ∃ (k : Nat), k ≤ 2 ∧ kv = .int .i64 (k : Int) ∧ Below w10.heap.size w10 wr ∧ Tab wr) (fun kv _ _ _ _ _ => 2 - (intOf kv).toNat)
          case atStart => exact ⟨0, by omega, rfl, b11, t11⟩
          case round =>
            clear b11 t11
            obtain ⟨k, hk, rfl, B, t⟩ := hrel
            rcases (by omega : k = 0 ∨ k = 1 ∨ k = 2) with rfl | rfl | rfl
            · simp only [show ((0 : Nat) : Int) = 0 from rfl]
              go_wp2_with fail
              go_loopw [23, 24, 25, 26] (fun iv _ _ _ wr => ∃ (i : Nat), i ≤ n4 ∧ iv = .int .i64 (i : Int) ∧ Below w10.heap.size w10 wr ∧ Tab wr) (fun iv _ _ _ _ => n4 - (intOf iv).toNat)
              case atStart => exact ⟨0, Nat.zero_le _, rfl, B, t⟩
              case round =>
                clear B t
                obtain ⟨i, him, rfl, B, t⟩ := hrel
                have cAr0 := (B.cell (p := ⟨ab, 0, none⟩) hab10).trans hc4
                by_cases hlt : i < n4
                · obtain ⟨ad, a, eA, ha, hcell, hblk⟩ := R10.r0.cell hlt
                  obtain ⟨e1, e2, hget⟩ := Hold.out i a ha
                  have hcellr := (B.cell (p := ad.add i) (by rw [addr_block]; exact hblk)).trans hcell
                  have hblk2 : ad.block < wr.heap.size := Nat.lt_of_lt_of_le hblk B.size
                  have BB := b2.trans ((B10.trans (B.mono B10.size)).mono b2.size)
                  obtain ⟨ad2, A1, n1, c1, eA2, hbl, hcl, hsl⟩ := hp0.cell (by omega : i < n)
                  have hbl2 : ad2.block < wr.heap.size := Nat.lt_of_lt_of_le hbl BB.size
                  have hcr := (BB.cell (p := ad2.add i) (by rw [addr_block]; exact hbl)).trans hcl
                  have hsr : Sl wr A1 n1 c1 (nth ls i) := ⟨hsl.1, hsl.2.1, hsl.2.2.1, fun i u hu => by
                    obtain ⟨ad', e', h1, h2⟩ := hsl.2.2.2 i u hu
                    exact ⟨ad', e', Nat.lt_of_lt_of_le h1 BB.size, (BB.cell (p := ad'.add i) (by rw [addr_block]; exact h1)).trans h2⟩⟩
                  have qr : wr.cell? ⟨tb, 0, none⟩ = some (.slice (some ad2) n c) := by rw [← eA2]; exact ((B10.trans (B.mono B10.size)).cell (p := ⟨tb, 0, none⟩) htb2).trans q0
                  have cAr : wr.cell? ⟨ab, 0, none⟩ = some (.slice (some ad) n4 c4) := by rw [← eA]; exact cAr0
                  have hby0 : ∀ u, Below w10.heap.size w10 u → Tab u → Calls Tryz.prog 20 #[.pointer (some ⟨q, 0, none⟩), .int .i64 (a : Int), .int .i64 5] u fun e w' => ∃ A n c, e = .returned (.tuple #[.slice A n c, .int .i64 0]) ∧ Sl w' A n c (cut128 (nth ls i)) ∧ Below u.heap.size u w' ∧ ∀ ad, A = some ad → u.heap.size ≤ ad.block := fun u hu tu => by
                    have hby := sys_bytes (H10.below hu) tu (a : Int) 5
                    unfold BytesSays at hby
                    rw [e1, e2] at hby
                    exact hby
                  have Hby := Lib.hid hby0
                  clear hby0
                  obtain ⟨xl, hxl⟩ : ∃ z, cut128 (nth ls i) = z := ⟨_, rfl⟩
                  rw [hxl] at Hby
                  have e0 : (i : Int) < (n4 : Int) := by omega
                  have e3 : (i : Int) < (n : Int) := by omega
                  have e4 : (0 : Int) ≤ (i : Int) := by omega
                  have hL : (nth ls i).length = n1 := hsl.len
                  have hn1 : n1 ≤ c1 := hsl.cap
                  have hc1 := hsl.max
                  unfold maxLen at hc1
                  have hh128 : 128 < n1 ∨ n1 ≤ 128 := by omega
                  have hXl := Lib.hid hxl
                  clear hcell hcl hsl e1 e2 hxl eA eA2 cAr0
                  rcases hh128 with h128 | h128
                  · have d0 : (128 : Int) < (n1 : Int) := by omega
                    have hsb : Sl wr A1 128 c1 xl := by rw [← hXl.out]; exact hsr.take (by omega)
                    go_wp2_with fail
                    refine (Hby.out wr B t).mono ?_
                    rintro e w12 ⟨A9, n9, c9, rfl, s9, b12, _⟩
                    have B12 := B.trans (b12.mono B.size)
                    have t12 := t.below b12 t.1
                    have k9 := str_bs s9
                    have qr12 := (b12.cell (p := ⟨tb, 0, none⟩) (show tb < wr.heap.size by have h1 := B.size; have h2 := B10.size; omega)).trans qr
                    have hcr12 := (b12.cell (p := ad2.add i) (by rw [addr_block]; exact hbl2)).trans hcr
                    have cA12 := (b12.cell (p := ⟨ab, 0, none⟩) (show ab < wr.heap.size by have h1 := B.size; omega)).trans cAr
                    have hcell12 := (b12.cell (p := ad.add i) (by rw [addr_block]; exact hblk2)).trans hcellr
                    have kw := str_bs ((hsb).below b12)
                    have hcn := sys_count (H10.below B12) (a : Int) 1 hget
                    go_wp2_with (first
                      | (go_at_call 32; refine hcn.mono ?_; rintro e w13 ⟨rfl, rfl⟩)
                      | fail)
                    exact ⟨⟨i + 1, by omega, by go_num, B12, t12⟩, by simp [intOf]; omega⟩
                  · have d0 : ¬ (128 : Int) < (n1 : Int) := by omega
                    have hsb : Sl wr A1 n1 c1 xl := by rw [← hXl.out]; unfold cut128; rw [List.take_of_length_le (by rw [hL]; exact h128)]; exact hsr
                    go_wp2_with fail
                    refine (Hby.out wr B t).mono ?_
                    rintro e w12 ⟨A9, n9, c9, rfl, s9, b12, _⟩
                    have B12 := B.trans (b12.mono B.size)
                    have t12 := t.below b12 t.1
                    have k9 := str_bs s9
                    have qr12 := (b12.cell (p := ⟨tb, 0, none⟩) (show tb < wr.heap.size by have h1 := B.size; have h2 := B10.size; omega)).trans qr
                    have hcr12 := (b12.cell (p := ad2.add i) (by rw [addr_block]; exact hbl2)).trans hcr
                    have cA12 := (b12.cell (p := ⟨ab, 0, none⟩) (show ab < wr.heap.size by have h1 := B.size; omega)).trans cAr
                    have hcell12 := (b12.cell (p := ad.add i) (by rw [addr_block]; exact hblk2)).trans hcellr
                    have kw := str_bs ((hsb).below b12)
                    have hcn := sys_count (H10.below B12) (a : Int) 1 hget
                    go_wp2_with (first
                      | (go_at_call 32; refine hcn.mono ?_; rintro e w13 ⟨rfl, rfl⟩)
                      | fail)
                    exact ⟨⟨i + 1, by omega, by go_num, B12, t12⟩, by simp [intOf]; omega⟩
                · have e0 : ¬ (i : Int) < (n4 : Int) := by omega
                  go_wp2_with fail
                  exact ⟨⟨1, by omega, rfl, B, t⟩, by simp [intOf]⟩
            · simp only [show ((1 : Nat) : Int) = 1 from rfl]
              go_wp2_with fail
              go_loopw [23, 24, 25, 26] (fun iv _ _ _ wr => ∃ (i : Nat), i ≤ n5 ∧ iv = .int .i64 (i : Int) ∧ Below w10.heap.size w10 wr ∧ Tab wr) (fun iv _ _ _ _ => n5 - (intOf iv).toNat)
              case atStart => exact ⟨0, Nat.zero_le _, rfl, B, t⟩
              case round =>
                clear B t
                obtain ⟨i, him, rfl, B, t⟩ := hrel
                have cAr0 := (B.cell (p := ⟨ab, 1, none⟩) hab10).trans hc5
                by_cases hlt : i < n5
                · obtain ⟨ad, a, eA, ha, hcell, hblk⟩ := R10.r1.cell hlt
                  obtain ⟨e1, e2, hget⟩ := Hnew.out i a ha
                  have hcellr := (B.cell (p := ad.add i) (by rw [addr_block]; exact hblk)).trans hcell
                  have hblk2 : ad.block < wr.heap.size := Nat.lt_of_lt_of_le hblk B.size
                  have BB := b2.trans ((B10.trans (B.mono B10.size)).mono b2.size)
                  obtain ⟨ad2, A1, n1, c1, eA2, hbl, hcl, hsl⟩ := hp2.cell (by omega : i < n2)
                  have hbl2 : ad2.block < wr.heap.size := Nat.lt_of_lt_of_le hbl BB.size
                  have hcr := (BB.cell (p := ad2.add i) (by rw [addr_block]; exact hbl)).trans hcl
                  have hsr : Sl wr A1 n1 c1 (nth ls2 i) := ⟨hsl.1, hsl.2.1, hsl.2.2.1, fun i u hu => by
                    obtain ⟨ad', e', h1, h2⟩ := hsl.2.2.2 i u hu
                    exact ⟨ad', e', Nat.lt_of_lt_of_le h1 BB.size, (BB.cell (p := ad'.add i) (by rw [addr_block]; exact h1)).trans h2⟩⟩
                  have qr : wr.cell? ⟨tb, 1, none⟩ = some (.slice (some ad2) n2 c2) := by rw [← eA2]; exact ((B10.trans (B.mono B10.size)).cell (p := ⟨tb, 1, none⟩) htb2).trans q1
                  have cAr : wr.cell? ⟨ab, 1, none⟩ = some (.slice (some ad) n5 c5) := by rw [← eA]; exact cAr0
                  have hby0 : ∀ u, Below w10.heap.size w10 u → Tab u → Calls Tryz.prog 20 #[.pointer (some ⟨q, 0, none⟩), .int .i64 (a : Int), .int .i64 5] u fun e w' => ∃ A n c, e = .returned (.tuple #[.slice A n c, .int .i64 0]) ∧ Sl w' A n c (cut128 (nth ls2 i)) ∧ Below u.heap.size u w' ∧ ∀ ad, A = some ad → u.heap.size ≤ ad.block := fun u hu tu => by
                    have hby := sys_bytes (H10.below hu) tu (a : Int) 5
                    unfold BytesSays at hby
                    rw [e1, e2] at hby
                    exact hby
                  have Hby := Lib.hid hby0
                  clear hby0
                  obtain ⟨xl, hxl⟩ : ∃ z, cut128 (nth ls2 i) = z := ⟨_, rfl⟩
                  rw [hxl] at Hby
                  have e0 : (i : Int) < (n5 : Int) := by omega
                  have e3 : (i : Int) < (n2 : Int) := by omega
                  have e4 : (0 : Int) ≤ (i : Int) := by omega
                  have hL : (nth ls2 i).length = n1 := hsl.len
                  have hn1 : n1 ≤ c1 := hsl.cap
                  have hc1 := hsl.max
                  unfold maxLen at hc1
                  have hh128 : 128 < n1 ∨ n1 ≤ 128 := by omega
                  have hXl := Lib.hid hxl
                  clear hcell hcl hsl e1 e2 hxl eA eA2 cAr0
                  rcases hh128 with h128 | h128
                  · have d0 : (128 : Int) < (n1 : Int) := by omega
                    have hsb : Sl wr A1 128 c1 xl := by rw [← hXl.out]; exact hsr.take (by omega)
                    go_wp2_with fail
                    refine (Hby.out wr B t).mono ?_
                    rintro e w12 ⟨A9, n9, c9, rfl, s9, b12, _⟩
                    have B12 := B.trans (b12.mono B.size)
                    have t12 := t.below b12 t.1
                    have k9 := str_bs s9
                    have qr12 := (b12.cell (p := ⟨tb, 1, none⟩) (show tb < wr.heap.size by have h1 := B.size; have h2 := B10.size; omega)).trans qr
                    have hcr12 := (b12.cell (p := ad2.add i) (by rw [addr_block]; exact hbl2)).trans hcr
                    have cA12 := (b12.cell (p := ⟨ab, 1, none⟩) (show ab < wr.heap.size by have h1 := B.size; omega)).trans cAr
                    have hcell12 := (b12.cell (p := ad.add i) (by rw [addr_block]; exact hblk2)).trans hcellr
                    have kw := str_bs ((hsb).below b12)
                    have hcn := sys_count (H10.below B12) (a : Int) 1 hget
                    go_wp2_with (first
                      | (go_at_call 32; refine hcn.mono ?_; rintro e w13 ⟨rfl, rfl⟩)
                      | fail)
                    exact ⟨⟨i + 1, by omega, by go_num, B12, t12⟩, by simp [intOf]; omega⟩
                  · have d0 : ¬ (128 : Int) < (n1 : Int) := by omega
                    have hsb : Sl wr A1 n1 c1 xl := by rw [← hXl.out]; unfold cut128; rw [List.take_of_length_le (by rw [hL]; exact h128)]; exact hsr
                    go_wp2_with fail
                    refine (Hby.out wr B t).mono ?_
                    rintro e w12 ⟨A9, n9, c9, rfl, s9, b12, _⟩
                    have B12 := B.trans (b12.mono B.size)
                    have t12 := t.below b12 t.1
                    have k9 := str_bs s9
                    have qr12 := (b12.cell (p := ⟨tb, 1, none⟩) (show tb < wr.heap.size by have h1 := B.size; have h2 := B10.size; omega)).trans qr
                    have hcr12 := (b12.cell (p := ad2.add i) (by rw [addr_block]; exact hbl2)).trans hcr
                    have cA12 := (b12.cell (p := ⟨ab, 1, none⟩) (show ab < wr.heap.size by have h1 := B.size; omega)).trans cAr
                    have hcell12 := (b12.cell (p := ad.add i) (by rw [addr_block]; exact hblk2)).trans hcellr
                    have kw := str_bs ((hsb).below b12)
                    have hcn := sys_count (H10.below B12) (a : Int) 1 hget
                    go_wp2_with (first
                      | (go_at_call 32; refine hcn.mono ?_; rintro e w13 ⟨rfl, rfl⟩)
                      | fail)
                    exact ⟨⟨i + 1, by omega, by go_num, B12, t12⟩, by simp [intOf]; omega⟩
                · have e0 : ¬ (i : Int) < (n5 : Int) := by omega
                  go_wp2_with fail
                  exact ⟨⟨2, by omega, rfl, B, t⟩, by simp [intOf]⟩
            · simp only [show ((2 : Nat) : Int) = 2 from rfl]
              have Bw := b2.trans ((B10.trans (B.mono B10.size)).mono b2.size)
              go_wp2_with fail
              go_ret
              exact ⟨rfl, Bw⟩)
      · exact absurd rfl h
end Go.Proofs.YtipejjgodnnkaaaGreatDoor
