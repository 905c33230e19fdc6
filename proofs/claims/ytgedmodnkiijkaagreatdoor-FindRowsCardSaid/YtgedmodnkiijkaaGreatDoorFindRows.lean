/- FindRows's walk. -/
import Derived.Test.YtgedmodnkiijkaaGreatDoorFn5
import Derived.Test.YtgedmodnkiijkaaGreatDoorFn23
import Derived.Test.YtgedmodnkiijkaaGreatDoorFn33
namespace Go.Proofs.YtgedmodnkiijkaaGreatDoor
open Go Go.RowKit Go.Proofs

set_option maxRecDepth 100000 in
set_option maxHeartbeats 16000000 in
theorem findRows_walk (A : Option Addr) (n c : Nat) (l0 : List Itm) (B : Option Addr) (m k : Nat) (zs : List Int) (y : Kd) (w : World) (hI : Itms w A n c l0) (hC : Ints w B m k zs) (ht : Tab w) :
    Calls Tryz.prog 7 #[.agg #[.slice A n c, .slice B m k], .agg #[.int .i64 y.obj, .int .i64 y.kind, .int .i64 y.off]] w fun e w' => e = .returned (.bool true) ∧ Below w.heap.size w w' := by
  obtain ⟨HW, HK0, Bb⟩ := box_two w (.cells #[.slice A n c, .slice B m k] 25) (.cells #[.int .i64 y.obj, .int .i64 y.kind, .int .i64 y.off] 39)
  have HK : KB ((w.alloc (.cells #[.slice A n c, .slice B m k] 25)).alloc (.cells #[.int .i64 y.obj, .int .i64 y.kind, .int .i64 y.off] 39)) (w.heap.size + 1) y := ⟨_, HK0⟩
  clear HK0
  have hG := ht.1
  have hI' := hI
  have hCb := Lib.hid hC.2
  have hCi := ints_intl hC
  go_enter Tryz.func7, Tryz.ntmps7
  go_wp2_with fail
  generalize (w.alloc (.cells #[.slice A n c, .slice B m k] 25)).alloc (.cells #[.int .i64 y.obj, .int .i64 y.kind, .int .i64 y.off] 39) = wb at HW HK Bb ⊢
  have tb := ht.below Bb hG
  refine (fshown_any wb tb).mono ?_
  rintro e w1 ⟨rfl, b1⟩
  have t1 := tb.below b1 tb.1
  have B1 := Bb.trans (b1.mono Bb.size)
  obtain ⟨x0, x1⟩ := wd_cells HW b1
  go_wp2_with fail
  refine (rrow_any A n c l0 150 w1 (hI.below B1) (by omega)).mono ?_
  rintro e w2 ⟨A2, n2, c2, rfl, I2, b2⟩
  have hgood := row_good l0 150
  obtain ⟨l, hl⟩ : ∃ l, rowR (l0.take 150) [] = l := ⟨_, rfl⟩
  rw [hl] at I2 hgood
  have t2 := t1.below b2 t1.1
  have b12 := b1.trans (b2.mono b1.size)
  have B2 := Bb.trans (b12.mono Bb.size)
  clear x0 x1 hl
  obtain ⟨x0, x1⟩ := wd_cells HW b12
  have Hgr := Lib.hid (grown_says A2 n2 c2 l B m k zs I2 (Sls.below hCi B2) hCb.out hgood (Nat.le_refl _) t2)
  have hln := Lib.hid I2.len
  have hlm := Lib.hid hgood.len
  clear hI hI' hC hCi
  go_wp2_with fail
  refine Hgr.out.mono ?_
  rintro e w3 ⟨p, d, root, P, rfl, TR, t3, b3⟩
  have z2 := B2.size
  have B3 := B2.trans (b3.mono z2)
  clear x0 x1 Hgr
  have TD := TR.told hgood.risen hgood.len
  have b13 : Below wb.heap.size wb w3 := b12.trans (b3.mono b12.size)
  have K3 := HK.below b13 HK.lt
  have k0 := K3.c0
  have k1 := K3.c1
  have k2 := K3.c2
  go_wp2_with fail
  refine (krefmay_any y w3).mono ?_
  rintro e w4 ⟨rfl, b4⟩
  have K4 := K3.below b4 K3.lt
  have B4 := B3.trans (b4.mono B3.size)
  clear k0 k1 k2
  have k0 := K4.c0
  have k1 := K4.c1
  have k2 := K4.c2
  by_cases hok : y.may = true ∧ y.hasNext = true
  · obtain ⟨hmay, hnx⟩ := hok
    have hE : y.nextE = 0 := by unfold Kd.nextE; rw [if_pos hnx]
    obtain ⟨z, hz⟩ : ∃ z, y.next = z := ⟨_, rfl⟩
    have hhalf := within_halves hgood.risen (fun x hx => (hgood.may x hx).1) hmay hnx
    rw [hz] at hhalf
    have Hnx := Lib.hid (refnext_says y w4 hmay z hz 0 hE)
    have Hhalf := Lib.hid hhalf
    rw [hmay]
    clear hmay hnx hE hz hhalf
    go_wp2_with fail
    refine Hnx.out.mono ?_
    rintro e w5 ⟨rfl, b5⟩
    have K5 := K4.below b5 K4.lt
    have z5 := b5.size
    have KZ : KB (w5.alloc (.cells #[.int .i64 0, .int .i64 0, .int .i64 0] 39)) w5.heap.size ⟨0, 0, 0⟩ := KB.new w5 0 0 0 _
    have b56' : Below w5.heap.size w5 (w5.alloc (.cells #[.int .i64 0, .int .i64 0, .int .i64 0] 39)) := (Below.refl _ _).alloc (Nat.le_refl _) _
    clear k0 k1 k2 Hnx
    go_wp2_with (first
      | (refine wp_store_kd rfl (.tmp 11) _ rfl w5.heap.size rfl z _ rfl KZ ?_; intro w6 K6 T6; have X56 : Turn (fun _ => False) w5 w6 := (turn_below (S := fun _ => False) b56').trans T6 (fun k h => .inr (by have h : k = w5.heap.size := h; omega)); have b56 : Below w5.heap.size w5 w6 := X56.below (fun _ h => h.elim) (Nat.le_refl _); have Ky := K5.below b56 K5.lt; have k0 := Ky.c0; have k1 := Ky.c1; have k2 := Ky.c2)
      | fail)
    have hD6 := b4.trans ((b5.trans (b56.mono b5.size)).mono b4.size)
    have B6 := B3.trans (hD6.mono B3.size)
    have t6 := t3.below hD6 t3.1
    have TD6 := TD.below hD6
    obtain ⟨La, hLa⟩ : ∃ L, within ⟨0, 0, 0⟩ y l = L := ⟨_, rfl⟩
    obtain ⟨Lb, hLb⟩ : ∃ L, within z ⟨2147483647, 255, 2147483647⟩ l = L := ⟨_, rfl⟩
    have hlab : La ++ Lb = l := by rw [← hLa, ← hLb]; exact Hhalf.out
    have hlen : La.length + Lb.length = n2 := by rw [← List.length_append, hlab]; exact hln.out
    have hl150 : n2 ≤ 150 := by have h1 := hln.out; have h2 := hlm.out; omega
    have Hs1 := Lib.hid (TD6.scanNew t6 ⟨0, 0, 0⟩ y 1000 La (by rw [hLa]; exact List.take_of_length_le (show La.length ≤ 1000 by omega)))
    have Hs2 := Lib.hid (fun w7 (b : Below w6.heap.size w6 w7) => (TD6.below b).scanNew (t6.below b t6.1) z ⟨2147483647, 255, 2147483647⟩ 1000 Lb (by rw [hLb]; exact List.take_of_length_le (show Lb.length ≤ 1000 by omega)))
    have Hlab := Lib.hid hlab
    have Hlen := Lib.hid hlen
    have z6 := B6.size
    have K6l := K6.lt
    clear hLa hLb hlab hlen k0 k1 k2
    refine Hs1.out.mono ?_
    rintro e w7 ⟨A7, n7, c7, rfl, I7, b7⟩
    have K7 := K6.below b7 K6l
    have k0 := K7.c0
    have k1 := K7.c1
    have k2 := K7.c2
    have hn7 : La.length = n7 := I7.itms.len
    clear Hs1
    go_wp2_with fail
    refine (Hs2.out w7 b7).mono ?_
    rintro e w8 ⟨A8, n8, c8, rfl, I8, b8⟩
    have hn8 : Lb.length = n8 := I8.itms.len
    have hN : n7 + n8 = n2 := by rw [← hn7, ← hn8]; exact Hlen.out
    have b78 := b7.trans (b8.mono b7.size)
    have z7 := b7.size
    have z8 := b8.size
    have b89 : Below w8.heap.size w8 (w8.alloc (.cells #[] 41)) := (Below.refl _ _).alloc (Nat.le_refl _) _
    have R9 : IRow (w8.alloc (.cells #[] 41)) w.heap.size (some ⟨w8.heap.size, 0, none⟩) 0 0 [] := (irow_lit0 w8).less (by omega)
    have Y9 : Brought (w8.alloc (.cells #[] 41)) w.heap.size (some ⟨w8.heap.size, 0, none⟩) A7 n7 c7 La := brought_old (I7.below b8) b89 (by omega) (fun k hk => by have hk : w8.heap.size = k := Option.some.inj hk; omega)
    have z9 : (w8.alloc (.cells #[] 41)).heap.size = w8.heap.size + 1 := by simp
    have HN := Lib.hid hN
    have hn7s : n7 ≤ 150 := by omega
    have hn8s : n8 ≤ 150 := by omega
    clear hN hn7 hn8 k0 k1 k2 Hs2
    go_wp2_with (first
      | (at_builtin; refine wp_append_items rfl _ _ rfl w.heap.size (some ⟨w8.heap.size, 0, none⟩) 0 0 [] rfl R9 A7 n7 c7 La rfl Y9 (by omega) (by omega) ?_; intro A10 c10 w10 R10 T10 hA10; have R10 : IRow w10 w.heap.size A10 n7 c10 La := (by simpa using R10); have X810 : Turn (fun _ => False) w8 w10 := (turn_below (S := fun _ => False) b89).trans T10 (fun k hk => .inr (by have hk : w8.heap.size = k := Option.some.inj hk; omega)); have b810 : Below w8.heap.size w8 w10 := X810.below (fun _ h => h.elim) (Nat.le_refl _); have hA10' : ∀ k, blockOf A10 = some k → w8.heap.size ≤ k := (fun k hk => by
          rcases hA10 with h | h
          · rw [h] at hk
            have hk : w8.heap.size = k := Option.some.inj hk
            omega
          · rw [h] at hk
            have hk := Option.some.inj hk
            omega); have Y10 : Brought w10 w.heap.size A10 A8 n8 c8 Lb := brought_old I8 b810 (by omega) hA10'; have z10 := b810.size)
      | (at_builtin; refine wp_append_items rfl _ _ rfl w.heap.size A10 n7 c10 La rfl R10 A8 n8 c8 Lb rfl Y10 (by omega) (by omega) ?_; intro A11 c11 w11 R11 T11 hA11; rw [HN.out] at R11 ⊢; rw [Hlab.out] at R11)
      | fail)
    have b811 : Below w8.heap.size w8 w11 := b810.trans (T11.below (fun k hk => hA10' k hk) b810.size)
    have B11 : Below w.heap.size w w11 := (B6.trans (b78.mono z6)).trans (b811.mono (by have := b78.size; omega))
    have t11 := (t6.below b78 t6.1).below b811 (by have := t6.1; have := b78.size; omega)
    have TD11 := (TD6.below b78).below b811
    have I11 := R11.itms
    clear R9 R10 R11 Y9 Y10 hA10 hA10' hA11 T10 T11 X810
    go_loopw [18, 19, 20] (fun iv _ _ wr => ∃ j : Nat, j ≤ n2 ∧ iv = .int .i64 (j : Int) ∧ Below w11.heap.size w11 wr) (fun iv _ _ _ => n2 - (intOf iv).toNat)
    case atStart => exact ⟨0, Nat.zero_le _, rfl, Below.refl _ _⟩
    case round =>
      obtain ⟨j, hj, rfl, Br⟩ := hrel
      have tr := t11.below Br t11.1
      have I2r := I11.below Br
      have zr := Br.size
      by_cases hlt : j < n2
      · obtain ⟨g, o, V, pp, qq, rfl, hg, a0, a1, a2, a3, hs⟩ := I2r.cell hlt
        have hmem : itAt l j ∈ l := List.mem_of_getElem? (itAt_get (by rw [hln.out]; exact hlt))
        have hv := valOf_mem hgood.risen _ hmem
        have hlj := hln.out
        obtain ⟨x, hx⟩ : ∃ x, itAt l j = x := ⟨_, rfl⟩
        rw [hx] at a0 a1 a2 hs hv
        have Hg := Lib.hid ((TD11.below Br).get tr x.k (x.v, 0) (by rw [hv]; rfl))
        obtain ⟨hb1, hb2⟩ := I2r.bounds
        unfold maxLen at hb2
        have e0 : (0 : Int) ≤ (j : Int) := by omega
        have e1 : (j : Int) < (n2 : Int) := by omega
        clear hmem hv
        cases j with
        | zero =>
          rw [Nat.zero_mul, Nat.add_zero] at a0 a1 a2 a3
          have e2 : (0 : Int) < (n2 : Int) := by omega
          have e3 : 0 < n2 := hlt
          clear hx hlj I2r
          go_wp2_with fail
          refine Hg.out.mono ?_
          rintro e w12 ⟨A6, n6, c6, rfl, s6, b6⟩
          have hg6 : g < w12.heap.size := by have := b6.size; omega
          have d3 := fun u : Grown w12 => Grown.cell ((b6.cell (p := ⟨g, _, none⟩) hg).trans a3) hg6 u
          have hs6 := hs.below b6
          obtain ⟨X, hX⟩ : ∃ X, (⟨x.v.toArray⟩ : ByteArray) = X := ⟨_, rfl⟩
          have s1 := fun u : Grown w12 => strB (s6.below u.ok)
          have s2 := fun u : Grown w12 => strB (hs6.below u.ok)
          simp only [hX] at s1 s2
          clear s6 hs6 hs a0 a1 a2 a3 Hg hX
          go_wp2_with fail
          refine wp_region_grown (by kernel_rfl) (by kernel_rfl) ?_
          repeat (go_big_quiet_step (fail))
          refine wpQuiet_nil ?_
          rintro _ ⟨u, rfl⟩
          have hBu := Br.trans ((b6.trans (u.ok.mono b6.size)).mono zr)
          clear s1 s2 d3
          go_wp2
          exact ⟨⟨1, by omega, by go_num, hBu⟩, by simp [intOf]; omega⟩
        | succ q =>
          obtain ⟨g', o', V', pp', qq', hA', -, p0, p1, p2, -, -⟩ := I2r.cell (show q < n2 by omega)
          injection hA' with hA'
          injection hA' with hgg hoo
          subst hgg hoo
          obtain ⟨x', hx'⟩ : ∃ x, itAt l q = x := ⟨_, rfl⟩
          have hless : x'.k.less x.k = true := by
            have h1 := List.pairwise_iff_getElem.1 hgood.risen q (q + 1) (by omega) (by omega) (by omega)
            have e : ∀ r (hr : r < l.length), itAt l r = l[r] := fun r hr => by unfold itAt; rw [List.getD_eq_getElem?_getD, List.getElem?_eq_getElem hr]; rfl
            rw [← e q (by omega), ← e (q + 1) (by omega), hx, hx'] at h1
            exact h1
          rw [hx'] at p0 p1 p2
          have hsub : ((q + 1 : Nat) : Int) - 1 = (q : Int) := by omega
          have hq0 : (0 : Int) ≤ (q : Int) := by omega
          have hqn : (q : Int) < (n2 : Int) := by omega
          have hq1 : (0 : Int) ≤ ((q + 1 : Nat) : Int) := by omega
          have hqn1 : ((q + 1 : Nat) : Int) < (n2 : Int) := by omega
          have hq2 : (0 : Int) ≤ (q : Int) + 1 := by omega
          have hqn2 : (q : Int) + 1 < (n2 : Int) := by omega
          have hgt : (0 : Int) < (q : Int) + 1 := by omega
          have hw2 : IntKind.i64.wrap (q : Int) = (q : Int) := IntWalk.i64_in _ (by omega)
          have hw3 : IntKind.i64.wrap ((q : Int) + 1 - 1) = (q : Int) := by rw [Int.add_sub_cancel]; exact hw2
          have hw1 : IntKind.i64.wrap (((q + 1 : Nat) : Int) - 1) = (q : Int) := by rw [hsub]; exact IntWalk.i64_in _ (by omega)
          clear hx hlj I2r hx'
          go_wp2_with fail
          refine Hg.out.mono ?_
          rintro e w12 ⟨A6, n6, c6, rfl, s6, b6⟩
          have hg6 : g < w12.heap.size := by have := b6.size; omega
          have d0 := fun u : Grown w12 => Grown.cell ((b6.cell (p := ⟨g, _, none⟩) hg).trans a0) hg6 u
          have d1 := fun u : Grown w12 => Grown.cell ((b6.cell (p := ⟨g, _, none⟩) hg).trans a1) hg6 u
          have d2 := fun u : Grown w12 => Grown.cell ((b6.cell (p := ⟨g, _, none⟩) hg).trans a2) hg6 u
          have d3 := fun u : Grown w12 => Grown.cell ((b6.cell (p := ⟨g, _, none⟩) hg).trans a3) hg6 u
          have d4 := fun u : Grown w12 => Grown.cell ((b6.cell (p := ⟨g, _, none⟩) hg).trans p0) hg6 u
          have d5 := fun u : Grown w12 => Grown.cell ((b6.cell (p := ⟨g, _, none⟩) hg).trans p1) hg6 u
          have d6 := fun u : Grown w12 => Grown.cell ((b6.cell (p := ⟨g, _, none⟩) hg).trans p2) hg6 u
          have hs6 := hs.below b6
          obtain ⟨X, hX⟩ : ∃ X, (⟨x.v.toArray⟩ : ByteArray) = X := ⟨_, rfl⟩
          have s1 := fun u : Grown w12 => strB (s6.below u.ok)
          have s2 := fun u : Grown w12 => strB (hs6.below u.ok)
          simp only [hX] at s1 s2
          have Hle := Lib.hid hless
          clear s6 hs6 hs a0 a1 a2 a3 p0 p1 p2 Hg hX hless
          go_wp2_with fail
          refine wp_region_grown (by kernel_rfl) (by kernel_rfl) ?_
          repeat (go_big_quiet_step (first | (go_at_call 26; exact Calls.grown (refless_says x'.k x.k true Hle.out _)) | fail))
          refine wpQuiet_nil ?_
          rintro _ ⟨u, rfl⟩
          have hBu := Br.trans ((b6.trans (u.ok.mono b6.size)).mono zr)
          clear s1 s2 d0 d1 d2 d3 d4 d5 d6
          go_wp2
          exact ⟨⟨q + 1 + 1, by omega, by go_num, hBu⟩, by simp [intOf]; omega⟩
      · have hje : j = n2 := by omega
        have e1 : ¬ (j : Int) < (n2 : Int) := by omega
        go_wp2_with fail
        go_ret
        exact ⟨rfl, B11.trans (Br.mono B11.size)⟩
  · cases hmay : y.may with
    | false =>
      go_wp2_with fail
      refine (refnext_ex y w4).mono ?_
      rintro e w5 ⟨z, x, rfl, b5⟩
      have KZ : KB (w5.alloc (.cells #[.int .i64 0, .int .i64 0, .int .i64 0] 39)) w5.heap.size ⟨0, 0, 0⟩ := KB.new w5 0 0 0 _
      have b56' : Below w5.heap.size w5 (w5.alloc (.cells #[.int .i64 0, .int .i64 0, .int .i64 0] 39)) := (Below.refl _ _).alloc (Nat.le_refl _) _
      clear k0 k1 k2
      go_wp2_with (first
        | (refine wp_store_kd rfl (.tmp 11) _ rfl w5.heap.size rfl z _ rfl KZ ?_; intro w6 K6 T6)
        | fail)
      go_ret
      have X56 : Turn (fun _ => False) w5 w6 := (turn_below (S := fun _ => False) b56').trans T6 (fun k h => .inr (by have h : k = w5.heap.size := h; omega))
      exact ⟨rfl, (B4.trans (b5.mono B4.size)).trans (X56.below (fun _ h => h.elim) (by have := B4.size; have := b5.size; omega))⟩
    | true =>
      have hnx : y.hasNext = false := by
        cases h : y.hasNext with
        | false => rfl
        | true => exact absurd ⟨hmay, h⟩ hok
      have hE : y.nextE = 10 := by unfold Kd.nextE; rw [hnx]; rfl
      obtain ⟨z, hz⟩ : ∃ z, y.next = z := ⟨_, rfl⟩
      have Hnx := Lib.hid (refnext_says y w4 hmay z hz 10 hE)
      clear hok hmay hnx hE hz
      go_wp2_with fail
      refine Hnx.out.mono ?_
      rintro e w5 ⟨rfl, b5⟩
      have KZ : KB (w5.alloc (.cells #[.int .i64 0, .int .i64 0, .int .i64 0] 39)) w5.heap.size ⟨0, 0, 0⟩ := KB.new w5 0 0 0 _
      have b56' : Below w5.heap.size w5 (w5.alloc (.cells #[.int .i64 0, .int .i64 0, .int .i64 0] 39)) := (Below.refl _ _).alloc (Nat.le_refl _) _
      clear k0 k1 k2 Hnx
      go_wp2_with (first
        | (refine wp_store_kd rfl (.tmp 11) _ rfl w5.heap.size rfl z _ rfl KZ ?_; intro w6 K6 T6)
        | fail)
      go_ret
      have X56 : Turn (fun _ => False) w5 w6 := (turn_below (S := fun _ => False) b56').trans T6 (fun k h => .inr (by have h : k = w5.heap.size := h; omega))
      exact ⟨rfl, (B4.trans (b5.mono B4.size)).trans (X56.below (fun _ h => h.elim) (by have := B4.size; have := b5.size; omega))⟩
end Go.Proofs.YtgedmodnkiijkaaGreatDoor
