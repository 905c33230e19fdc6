/- FindFew's walk. -/
import Derived.Test.YtgedmodnkiijkaaGreatDoorFn5
import Derived.Test.YtgedmodnkiijkaaGreatDoorFn23
import Derived.Test.YtgedmodnkiijkaaGreatDoorFn33
namespace Go.Proofs.YtgedmodnkiijkaaGreatDoor
open Go Go.RowKit Go.Proofs

theorem tmod20 (a : Int) : ∃ s, a.tmod 20 = s ∧ -19 ≤ s ∧ s ≤ 19 := by
  refine ⟨_, rfl, ?_⟩
  have h1 := Int.tmod_lt_of_pos a (by omega : (0 : Int) < 20)
  have h2 := Int.lt_tmod_of_pos a (by omega : (0 : Int) < 20)
  omega
/-- What the law's loop keeps: D was told, rest is still to be told. -/
structure FewAt (w3 w : World) (r0 ab eb : Nat) (l : List Itm) (i N : Nat) (A : Option Addr) (c : Nat) (D rest : List Itm) (at_ : Kd) : Prop where
  len : D.length = N
  row : IRow w r0 A N c D
  ka : KB w ab at_
  ke : KB w eb ⟨2147483647, 255, 2147483647⟩
  all : D ++ rest = l
  rest_ : within at_ ⟨2147483647, 255, 2147483647⟩ l = rest
  few : i ≤ N
  low : Below w3.heap.size w3 w
  lt : r0 ≤ w.heap.size
set_option maxRecDepth 100000 in
set_option maxHeartbeats 16000000 in
theorem findFew_walk (A : Option Addr) (n c : Nat) (l0 : List Itm) (B : Option Addr) (m k : Nat) (zs : List Int) (x0 : Int) (w : World) (hI : Itms w A n c l0) (hC : Ints w B m k zs) (_hx0 : i64 x0) (ht : Tab w) :
    Calls Tryz.prog 8 #[.agg #[.slice A n c, .slice B m k], .int .i64 x0] w fun e w' => e = .returned (.bool true) ∧ Below w.heap.size w w' := by
  obtain ⟨HW, Bb⟩ := box_one w (.cells #[.slice A n c, .slice B m k] 25)
  have hG := ht.1
  have hI' := hI
  have hCb := Lib.hid hC.2
  have hCi := ints_intl hC
  go_enter Tryz.func8, Tryz.ntmps8
  go_wp2_with fail
  generalize w.alloc (.cells #[.slice A n c, .slice B m k] 25) = wb at HW Bb ⊢
  have tb := ht.below Bb hG
  refine (fshown_any wb tb).mono ?_
  rintro e w1 ⟨rfl, b1⟩
  have t1 := tb.below b1 tb.1
  have B1 := Bb.trans (b1.mono Bb.size)
  obtain ⟨u0, u1⟩ := wd_cells HW b1
  go_wp2_with fail
  refine (rrow_any A n c l0 150 w1 (hI.below B1) (by omega)).mono ?_
  rintro e w2 ⟨A2, n2, c2, rfl, I2, b2⟩
  have hgood := row_good l0 150
  obtain ⟨l, hl⟩ : ∃ l, rowR (l0.take 150) [] = l := ⟨_, rfl⟩
  rw [hl] at I2 hgood
  have t2 := t1.below b2 t1.1
  have b12 := b1.trans (b2.mono b1.size)
  have B2 := Bb.trans (b12.mono Bb.size)
  clear u0 u1 hl
  obtain ⟨u0, u1⟩ := wd_cells HW b12
  have Hgr := Lib.hid (grown_says A2 n2 c2 l B m k zs I2 (Sls.below hCi B2) hCb.out hgood (Nat.le_refl _) t2)
  have hln := Lib.hid I2.len
  have hlm := Lib.hid hgood.len
  clear hI hI' hC hCi
  go_wp2_with fail
  refine Hgr.out.mono ?_
  rintro e w3 ⟨p, d, root, P, rfl, TR, t3, b3⟩
  have z2 := B2.size
  have B3 := B2.trans (b3.mono z2)
  clear u0 u1 Hgr
  have TD := TR.told hgood.risen hgood.len
  have I23 := I2.below b3
  obtain ⟨s, hs, hs0, hs1⟩ := tmod20 x0
  clear TR
  by_cases hneg : s < 0
  · obtain ⟨F, hF⟩ : ∃ F : Nat, -s + 1 = (F : Int) := ⟨(-s + 1).toNat, by omega⟩
    have hF1 : 1 ≤ F ∧ F ≤ 20 := by omega
    obtain ⟨hF1, hF20⟩ := hF1
    have hw : IntKind.i64.wrap (-s + 1) = (F : Int) := by rw [hF]; exact IntWalk.i64_in _ (by omega)
    have K11a : KB (w3.alloc (.cells #[.int .i64 0, .int .i64 0, .int .i64 0] 39)) w3.heap.size ⟨0, 0, 0⟩ := KB.new w3 0 0 0 _
    have bA : Below w3.heap.size w3 (w3.alloc (.cells #[.int .i64 0, .int .i64 0, .int .i64 0] 39)) := (Below.refl _ _).alloc (Nat.le_refl _) _
    go_wp2_with (first
      | (refine wp_store_kd rfl (.tmp 12) _ rfl w4.heap.size rfl ⟨0, 0, 0⟩ _ rfl K12a ?_; intro w5 K12 T5)
      | (refine wp_store_kd rfl (.tmp 11) _ rfl w3.heap.size rfl ⟨2147483647, 255, 2147483647⟩ _ rfl K11a ?_; intro w4 K11 T4; have z4' : w3.heap.size < w4.heap.size := K11.lt; have K12a : KB (w4.alloc (.cells #[.int .i64 0, .int .i64 0, .int .i64 0] 39)) w4.heap.size ⟨0, 0, 0⟩ := KB.new w4 0 0 0 _; have bB : Below w4.heap.size w4 (w4.alloc (.cells #[.int .i64 0, .int .i64 0, .int .i64 0] 39)) := (Below.refl _ _).alloc (Nat.le_refl _) _)
      | fail)
    have X34 : Turn (fun _ => False) w3 w4 := (turn_below (S := fun _ => False) bA).trans T4 (fun k h => .inr (by have h : k = w3.heap.size := h; omega))
    have X45 : Turn (fun _ => False) w4 w5 := (turn_below (S := fun _ => False) bB).trans T5 (fun k h => .inr (by have h : k = w4.heap.size := h; omega))
    have K11' := K11.keep (X45.block _ K11.lt (fun h => h))
    have z5 : w4.heap.size < w5.heap.size := K12.lt
    have bC : Below w5.heap.size w5 (w5.alloc (.cells #[] 41)) := (Below.refl _ _).alloc (Nat.le_refl _) _
    have b35 : Below w3.heap.size w3 w5 := (X34.trans X45 (fun _ h => .inl h)).below (fun _ h => h.elim) (Nat.le_refl _)
    have R0 := irow_lit0 w5
    have K11b := K11'.below bC K11'.lt
    have K12b := K12.below bC K12.lt
    have b36 := b35.trans (bC.mono b35.size)
    have F0 : FewAt w3 (w5.alloc (.cells #[] 41)) w5.heap.size w4.heap.size w3.heap.size l 0 0 (some ⟨w5.heap.size, 0, none⟩) 0 [] l ⟨0, 0, 0⟩ := ⟨rfl, R0, K12b, K11b, rfl, within_all (fun x hx => (hgood.may x hx).1), Nat.le_refl _, b36, bC.size⟩
    clear K11 K11a K12a K11' K12 T4 T5 bA bB X34 X45 bC R0 K11b K12b b36
    go_loopw [13, 14, 15, 16, 17, 18] (fun ov iv _ _ _ _ wr => ∃ (i N : Nat) (A9 : Option Addr) (c9 : Nat) (D rest : List Itm) (at_ : Kd), iv = .int .i64 (i : Int) ∧ ov = .slice A9 N c9 ∧ FewAt w3 wr w5.heap.size w4.heap.size w3.heap.size l i N A9 c9 D rest at_) (fun _ iv _ _ _ _ _ => n2 + 1 - (intOf iv).toNat)
    case atStart => exact ⟨0, 0, _, 0, [], l, ⟨0, 0, 0⟩, rfl, rfl, F0⟩
    case round =>
      clear F0
      obtain ⟨i, N, A9, c9, D, rest, at_, rfl, rfl, hDN, R, Ka, Ke, hDl, hrest, hiN, Br, hsz⟩ := hrel
      have tr := t3.below Br t3.1
      have zr := Br.size
      have hn150 : n2 ≤ 150 := by have h1 := hln.out; have h2 := hlm.out; omega
      have hDr : N + rest.length = n2 := by rw [← hDN, ← List.length_append, hDl]; exact hln.out
      obtain ⟨X, hX⟩ : ∃ X, rest.take F = X := ⟨_, rfl⟩
      have hXl : X.length = min F rest.length := by rw [← hX, List.length_take]
      have Hs := Lib.hid ((TD.below Br).scanNew tr at_ ⟨2147483647, 255, 2147483647⟩ (F : Int) X (by rw [hrest, Int.toNat_natCast]; exact hX))
      have k0 := Ka.c0
      have k1 := Ka.c1
      have k2 := Ka.c2
      have k3 := Ke.c0
      have k4 := Ke.c1
      have k5 := Ke.c2
      have e1 : (i : Int) ≤ (n2 : Int) := by omega
      have hA9 := R.blockLt
      have HDN := Lib.hid hDN
      have HX := Lib.hid hX
      have HXl := Lib.hid hXl
      have HDl := Lib.hid hDl
      have HDr := Lib.hid hDr
      clear hDN hX hXl hDl hDr hrest
      go_wp2_with fail
      refine Hs.out.mono ?_
      rintro e w6 ⟨A6, n6, c6, rfl, I6, b6⟩
      have hn6 : X.length = n6 := I6.itms.len
      have hn6F : n6 ≤ F := by have := HXl.out; omega
      have e2 : ¬ (F : Int) < (n6 : Int) := by omega
      have R6 := R.below b6
      have Y6 : Brought w6 w5.heap.size A9 A6 n6 c6 X := brought_new I6 hsz (fun k hk => (hA9 k hk).2)
      have z6 := b6.size
      have hN150 : N ≤ 150 := by have := HDr.out; omega
      have hn6s : n6 ≤ 20 := by omega
      have Hn6 := Lib.hid hn6
      clear k0 k1 k2 k3 k4 k5 Hs hn6
      by_cases hend : n6 < F
      · have e3 : (n6 : Int) < (F : Int) := by omega
        have hall : D ++ X = l := by
          rw [← HX.out, List.take_of_length_le (by have h1 := HXl.out; have h2 := Hn6.out; omega)]
          exact HDl.out
        have hN2 : N + n6 = n2 := by rw [← HDN.out, ← Hn6.out, ← List.length_append, hall]; exact hln.out
        have Hall := Lib.hid hall
        have HN2 := Lib.hid hN2
        clear hall hN2
        go_wp2_with (first
          | (at_builtin; refine wp_append_items rfl _ _ rfl w5.heap.size A9 N c9 D rfl R6 A6 n6 c6 X rfl Y6 (by omega) (by omega) ?_; intro A7 c7 w7 R7 T7 hA7; rw [HN2.out] at R7 ⊢; rw [Hall.out] at R7)
          | fail)
        have b67 : Below w3.heap.size w3 w7 := (Br.trans (b6.mono zr)).trans (T7.below (fun k hk => by have := (hA9 k hk).1; omega) (by omega))
        have z37 := b67.size
        have z67 := T7.size
        have I27 := I23.below b67
        refine (rsameitems_yes l A7 n2 c7 A2 c2 w7 R7.itms I27).mono ?_
        rintro e w8 ⟨rfl, b8⟩
        go_wp2_with fail
        go_ret
        exact ⟨rfl, (B3.trans (b67.mono B3.size)).trans (b8.mono (by have := B3.size; have := b67.size; omega))⟩
      · have e3 : ¬ (n6 : Int) < (F : Int) := by omega
        obtain ⟨q, hq⟩ : ∃ q, n6 = q + 1 := ⟨n6 - 1, by omega⟩
        have hFq : F = q + 1 := by omega
        have hX2 := HX.out
        have hXlen := HXl.out
        have hnn := Hn6.out
        have hqX : q < X.length := by omega
        have hrl : q + 1 ≤ rest.length := by omega
        have hxq : itAt X q = itAt rest q := by
          unfold itAt
          rw [← hX2, List.getD_eq_getElem?_getD, List.getD_eq_getElem?_getD, List.getElem?_take_of_lt (by omega)]
        obtain ⟨x, hx⟩ : ∃ x, itAt rest q = x := ⟨_, rfl⟩
        have hsplit : D ++ rest.take q ++ x :: rest.drop (q + 1) = l := by
          rw [← HDl.out, List.append_assoc]
          congr 1
          have h1 := drop_it (l := rest) (j := q) (by omega)
          rw [hx] at h1
          rw [← h1, List.take_append_drop]
        have hDX : D ++ X ++ rest.drop (q + 1) = l := by
          rw [← HDl.out, List.append_assoc, ← hX2, hFq, List.take_append_drop]
        obtain ⟨fs1, fs2⟩ := few_step (A := D ++ rest.take q) (y := x) (B := rest.drop (q + 1)) (by rw [hsplit]; exact hgood.risen) (by rw [hsplit]; exact fun y hy => (hgood.may y hy).1)
        rw [hsplit] at fs1
        have hxmay : x.k.may = true := (hgood.may x (by rw [← hsplit]; simp)).1
        obtain ⟨z, hz⟩ : ∃ z, x.k.next = z := ⟨_, rfl⟩
        rw [hz] at fs1
        have hND : (D ++ X).length = N + n6 := by rw [List.length_append, HDN.out, hnn]
        have hw2 : IntKind.i64.wrap (q : Int) = (q : Int) := IntWalk.i64_in _ (by omega)
        have hw3 : IntKind.i64.wrap ((n6 : Int) - 1) = (q : Int) := by rw [show (n6 : Int) - 1 = (q : Int) by omega]; exact hw2
        have hq0 : (0 : Int) ≤ (q : Int) := by omega
        have hqn : (q : Int) < (n6 : Int) := by omega
        have hqn' : q < n6 := by omega
        have HDX := Lib.hid hDX
        have Hfs1 := Lib.hid fs1
        have Hfs2 := Lib.hid fs2
        have HND := Lib.hid hND
        have Hnx := Lib.hid (fun w7 E (hE : x.k.nextE = E) => refnext_says x.k w7 hxmay z hz E hE)
        obtain ⟨N', hN'⟩ : ∃ N', N + n6 = N' := ⟨_, rfl⟩
        have HN' := Lib.hid hN'
        have Hrl := Lib.hid hrl
        have Hxk := Lib.hid (hxq.trans hx)
        have hq20 : q < 20 := by omega
        have Hmm := Lib.hid hFq
        have Hqq := Lib.hid hq
        clear hX2 hXlen hnn hqX hrl hxq hx hsplit hDX fs1 fs2 hxmay hz hND hN' hFq hq hend hn6F
        go_wp2_with (first
          | (at_builtin; refine wp_append_items rfl _ _ rfl w5.heap.size A9 N c9 D rfl R6 A6 n6 c6 X rfl Y6 (by omega) (by omega) ?_; intro A7 c7 w7 R7 T7 hA7; rw [HN'.out] at R7 ⊢; have I67 := I6.low T7 (fun k hk => (hA9 k hk).2); obtain ⟨g, o, V, pp, qq, hA6, hg, y0, y1, y2, -, -⟩ := I67.itms.cell hqn'; rw [Hxk.out] at y0 y1 y2; subst hA6)
          | fail)
        have Ka6 := Ka.below b6 Ka.lt
        have Ka7 := Ka6.keep (T7.block _ Ka6.lt (fun h => by have := (hA9 _ h).1; omega))
        have Ke6 := Ke.below b6 Ke.lt
        have Ke7 := Ke6.keep (T7.block _ Ke6.lt (fun h => by have := (hA9 _ h).1; omega))
        have b67 : Below w3.heap.size w3 w7 := (Br.trans (b6.mono zr)).trans (T7.below (fun k hk => by have := (hA9 k hk).1; omega) (by omega))
        have z37 := b67.size
        have z67 := T7.size
        clear Ka Ke Ka6 Ke6 I67 I6 Y6 T7 R6
        cases hnxt : x.k.hasNext with
        | true =>
          have hE : x.k.nextE = 0 := by unfold Kd.nextE; rw [if_pos hnxt]
          have Hf := Lib.hid (Hfs1.out hnxt).1
          have Hn7 := Lib.hid (Hnx.out w7 0 hE)
          clear hE Hnx hnxt
          refine Hn7.out.mono ?_
          rintro e w8 ⟨rfl, b8⟩
          have KZ : KB (w8.alloc (.cells #[.int .i64 0, .int .i64 0, .int .i64 0] 39)) w8.heap.size ⟨0, 0, 0⟩ := KB.new w8 0 0 0 _
          have b89 : Below w8.heap.size w8 (w8.alloc (.cells #[.int .i64 0, .int .i64 0, .int .i64 0] 39)) := (Below.refl _ _).alloc (Nat.le_refl _) _
          have Ka8 := Ka7.below b8 Ka7.lt
          have Ke8 := Ke7.below b8 Ke7.lt
          have z48 : w4.heap.size < w8.heap.size := Ka8.lt
          clear y0 y1 y2 Ka7 Ke7
          go_wp2_with (first
            | (refine wp_store_kd rfl (.tmp 12) _ rfl w4.heap.size rfl z _ rfl Ka10 ?_; intro w11 K11 T11)
            | (refine wp_store_kd rfl (.tmp 17) _ rfl w8.heap.size rfl z _ rfl KZ ?_; intro w10 K10 T10; have X810 : Turn (fun _ => False) w8 w10 := (turn_below (S := fun _ => False) b89).trans T10 (fun k h => .inr (by have h : k = w8.heap.size := h; omega)); have b810 : Below w8.heap.size w8 w10 := X810.below (fun _ h => h.elim) (Nat.le_refl _); have k0 := K10.c0; have k1 := K10.c1; have k2 := K10.c2; have Ka10 := Ka8.below b810 Ka8.lt)
            | fail)
          have hi1 : i + 1 ≤ N' := by have h1 := HN'.out; have h2 := Hqq.out; omega
          have z78 := b8.size
          have z810 := b810.size
          have Ke10 := Ke8.below b810 Ke8.lt
          have Ke11 := Ke10.keep (T11.block _ Ke10.lt (fun h => by have h : w3.heap.size = w4.heap.size := h; omega))
          have R11 := ((R7.below b8).below b810).low T11 (fun k h => by have h : k = w4.heap.size := h; omega)
          have b11 : Below w3.heap.size w3 w11 := ((b67.trans (b8.mono b67.size)).trans (b810.mono (by omega))).trans (T11.below (fun k h => by have h : k = w4.heap.size := h; omega) (by omega))
          exact ⟨⟨i + 1, N', A7, c7, D ++ X, rest.drop (q + 1), z, by go_num, rfl, ⟨HND.out.trans HN'.out, R11, K11, Ke11, HDX.out, Hf.out, hi1, b11, by have := T11.size; omega⟩⟩, by simp [intOf]; omega⟩
        | false =>
          have hE : x.k.nextE = 10 := by unfold Kd.nextE; rw [hnxt]; rfl
          have Hn7 := Lib.hid (Hnx.out w7 10 hE)
          have hall : D ++ X = l := by
            have h1 := HDX.out
            rw [Hfs2.out hnxt, List.append_nil] at h1
            exact h1
          have hN2 : n2 = N' := by rw [← HN'.out, ← HND.out, hall]; exact hln.out.symm
          clear hE Hnx hnxt
          subst hN2
          rw [hall] at R7
          clear hall
          refine Hn7.out.mono ?_
          rintro e w8 ⟨rfl, b8⟩
          have KZ : KB (w8.alloc (.cells #[.int .i64 0, .int .i64 0, .int .i64 0] 39)) w8.heap.size ⟨0, 0, 0⟩ := KB.new w8 0 0 0 _
          have b89 : Below w8.heap.size w8 (w8.alloc (.cells #[.int .i64 0, .int .i64 0, .int .i64 0] 39)) := (Below.refl _ _).alloc (Nat.le_refl _) _
          clear y0 y1 y2 Ka7 Ke7
          go_wp2_with (first
            | (refine wp_store_kd rfl (.tmp 17) _ rfl w8.heap.size rfl z _ rfl KZ ?_; intro w10 K10 T10)
            | fail)
          have X810 : Turn (fun _ => False) w8 w10 := (turn_below (S := fun _ => False) b89).trans T10 (fun k h => .inr (by have h : k = w8.heap.size := h; omega))
          have b810 : Below w8.heap.size w8 w10 := X810.below (fun _ h => h.elim) (Nat.le_refl _)
          have z78 := b8.size
          have z810 := b810.size
          have b10 : Below w3.heap.size w3 w10 := (b67.trans (b8.mono b67.size)).trans (b810.mono (by omega))
          have R10 := (R7.below b8).below b810
          have I10 := I23.below b10
          refine (rsameitems_yes l A7 n2 c7 A2 c2 w10 R10.itms I10).mono ?_
          rintro e w12 ⟨rfl, b12'⟩
          go_wp2_with fail
          go_ret
          exact ⟨rfl, (B3.trans (b10.mono B3.size)).trans (b12'.mono (by have := B3.size; have := b10.size; omega))⟩
  · obtain ⟨F, hF⟩ : ∃ F : Nat, s + 1 = (F : Int) := ⟨(s + 1).toNat, by omega⟩
    have hF1 : 1 ≤ F ∧ F ≤ 20 := by omega
    obtain ⟨hF1, hF20⟩ := hF1
    have hw : IntKind.i64.wrap (s + 1) = (F : Int) := by rw [hF]; exact IntWalk.i64_in _ (by omega)
    have K11a : KB (w3.alloc (.cells #[.int .i64 0, .int .i64 0, .int .i64 0] 39)) w3.heap.size ⟨0, 0, 0⟩ := KB.new w3 0 0 0 _
    have bA : Below w3.heap.size w3 (w3.alloc (.cells #[.int .i64 0, .int .i64 0, .int .i64 0] 39)) := (Below.refl _ _).alloc (Nat.le_refl _) _
    go_wp2_with (first
      | (refine wp_store_kd rfl (.tmp 12) _ rfl w4.heap.size rfl ⟨0, 0, 0⟩ _ rfl K12a ?_; intro w5 K12 T5)
      | (refine wp_store_kd rfl (.tmp 11) _ rfl w3.heap.size rfl ⟨2147483647, 255, 2147483647⟩ _ rfl K11a ?_; intro w4 K11 T4; have z4' : w3.heap.size < w4.heap.size := K11.lt; have K12a : KB (w4.alloc (.cells #[.int .i64 0, .int .i64 0, .int .i64 0] 39)) w4.heap.size ⟨0, 0, 0⟩ := KB.new w4 0 0 0 _; have bB : Below w4.heap.size w4 (w4.alloc (.cells #[.int .i64 0, .int .i64 0, .int .i64 0] 39)) := (Below.refl _ _).alloc (Nat.le_refl _) _)
      | fail)
    have X34 : Turn (fun _ => False) w3 w4 := (turn_below (S := fun _ => False) bA).trans T4 (fun k h => .inr (by have h : k = w3.heap.size := h; omega))
    have X45 : Turn (fun _ => False) w4 w5 := (turn_below (S := fun _ => False) bB).trans T5 (fun k h => .inr (by have h : k = w4.heap.size := h; omega))
    have K11' := K11.keep (X45.block _ K11.lt (fun h => h))
    have z5 : w4.heap.size < w5.heap.size := K12.lt
    have bC : Below w5.heap.size w5 (w5.alloc (.cells #[] 41)) := (Below.refl _ _).alloc (Nat.le_refl _) _
    have b35 : Below w3.heap.size w3 w5 := (X34.trans X45 (fun _ h => .inl h)).below (fun _ h => h.elim) (Nat.le_refl _)
    have R0 := irow_lit0 w5
    have K11b := K11'.below bC K11'.lt
    have K12b := K12.below bC K12.lt
    have b36 := b35.trans (bC.mono b35.size)
    have F0 : FewAt w3 (w5.alloc (.cells #[] 41)) w5.heap.size w4.heap.size w3.heap.size l 0 0 (some ⟨w5.heap.size, 0, none⟩) 0 [] l ⟨0, 0, 0⟩ := ⟨rfl, R0, K12b, K11b, rfl, within_all (fun x hx => (hgood.may x hx).1), Nat.le_refl _, b36, bC.size⟩
    clear K11 K11a K12a K11' K12 T4 T5 bA bB X34 X45 bC R0 K11b K12b b36
    go_loopw [13, 14, 15, 16, 17, 18] (fun ov iv _ _ _ _ wr => ∃ (i N : Nat) (A9 : Option Addr) (c9 : Nat) (D rest : List Itm) (at_ : Kd), iv = .int .i64 (i : Int) ∧ ov = .slice A9 N c9 ∧ FewAt w3 wr w5.heap.size w4.heap.size w3.heap.size l i N A9 c9 D rest at_) (fun _ iv _ _ _ _ _ => n2 + 1 - (intOf iv).toNat)
    case atStart => exact ⟨0, 0, _, 0, [], l, ⟨0, 0, 0⟩, rfl, rfl, F0⟩
    case round =>
      clear F0
      obtain ⟨i, N, A9, c9, D, rest, at_, rfl, rfl, hDN, R, Ka, Ke, hDl, hrest, hiN, Br, hsz⟩ := hrel
      have tr := t3.below Br t3.1
      have zr := Br.size
      have hn150 : n2 ≤ 150 := by have h1 := hln.out; have h2 := hlm.out; omega
      have hDr : N + rest.length = n2 := by rw [← hDN, ← List.length_append, hDl]; exact hln.out
      obtain ⟨X, hX⟩ : ∃ X, rest.take F = X := ⟨_, rfl⟩
      have hXl : X.length = min F rest.length := by rw [← hX, List.length_take]
      have Hs := Lib.hid ((TD.below Br).scanNew tr at_ ⟨2147483647, 255, 2147483647⟩ (F : Int) X (by rw [hrest, Int.toNat_natCast]; exact hX))
      have k0 := Ka.c0
      have k1 := Ka.c1
      have k2 := Ka.c2
      have k3 := Ke.c0
      have k4 := Ke.c1
      have k5 := Ke.c2
      have e1 : (i : Int) ≤ (n2 : Int) := by omega
      have hA9 := R.blockLt
      have HDN := Lib.hid hDN
      have HX := Lib.hid hX
      have HXl := Lib.hid hXl
      have HDl := Lib.hid hDl
      have HDr := Lib.hid hDr
      clear hDN hX hXl hDl hDr hrest
      go_wp2_with fail
      refine Hs.out.mono ?_
      rintro e w6 ⟨A6, n6, c6, rfl, I6, b6⟩
      have hn6 : X.length = n6 := I6.itms.len
      have hn6F : n6 ≤ F := by have := HXl.out; omega
      have e2 : ¬ (F : Int) < (n6 : Int) := by omega
      have R6 := R.below b6
      have Y6 : Brought w6 w5.heap.size A9 A6 n6 c6 X := brought_new I6 hsz (fun k hk => (hA9 k hk).2)
      have z6 := b6.size
      have hN150 : N ≤ 150 := by have := HDr.out; omega
      have hn6s : n6 ≤ 20 := by omega
      have Hn6 := Lib.hid hn6
      clear k0 k1 k2 k3 k4 k5 Hs hn6
      by_cases hend : n6 < F
      · have e3 : (n6 : Int) < (F : Int) := by omega
        have hall : D ++ X = l := by
          rw [← HX.out, List.take_of_length_le (by have h1 := HXl.out; have h2 := Hn6.out; omega)]
          exact HDl.out
        have hN2 : N + n6 = n2 := by rw [← HDN.out, ← Hn6.out, ← List.length_append, hall]; exact hln.out
        have Hall := Lib.hid hall
        have HN2 := Lib.hid hN2
        clear hall hN2
        go_wp2_with (first
          | (at_builtin; refine wp_append_items rfl _ _ rfl w5.heap.size A9 N c9 D rfl R6 A6 n6 c6 X rfl Y6 (by omega) (by omega) ?_; intro A7 c7 w7 R7 T7 hA7; rw [HN2.out] at R7 ⊢; rw [Hall.out] at R7)
          | fail)
        have b67 : Below w3.heap.size w3 w7 := (Br.trans (b6.mono zr)).trans (T7.below (fun k hk => by have := (hA9 k hk).1; omega) (by omega))
        have z37 := b67.size
        have z67 := T7.size
        have I27 := I23.below b67
        refine (rsameitems_yes l A7 n2 c7 A2 c2 w7 R7.itms I27).mono ?_
        rintro e w8 ⟨rfl, b8⟩
        go_wp2_with fail
        go_ret
        exact ⟨rfl, (B3.trans (b67.mono B3.size)).trans (b8.mono (by have := B3.size; have := b67.size; omega))⟩
      · have e3 : ¬ (n6 : Int) < (F : Int) := by omega
        obtain ⟨q, hq⟩ : ∃ q, n6 = q + 1 := ⟨n6 - 1, by omega⟩
        have hFq : F = q + 1 := by omega
        have hX2 := HX.out
        have hXlen := HXl.out
        have hnn := Hn6.out
        have hqX : q < X.length := by omega
        have hrl : q + 1 ≤ rest.length := by omega
        have hxq : itAt X q = itAt rest q := by
          unfold itAt
          rw [← hX2, List.getD_eq_getElem?_getD, List.getD_eq_getElem?_getD, List.getElem?_take_of_lt (by omega)]
        obtain ⟨x, hx⟩ : ∃ x, itAt rest q = x := ⟨_, rfl⟩
        have hsplit : D ++ rest.take q ++ x :: rest.drop (q + 1) = l := by
          rw [← HDl.out, List.append_assoc]
          congr 1
          have h1 := drop_it (l := rest) (j := q) (by omega)
          rw [hx] at h1
          rw [← h1, List.take_append_drop]
        have hDX : D ++ X ++ rest.drop (q + 1) = l := by
          rw [← HDl.out, List.append_assoc, ← hX2, hFq, List.take_append_drop]
        obtain ⟨fs1, fs2⟩ := few_step (A := D ++ rest.take q) (y := x) (B := rest.drop (q + 1)) (by rw [hsplit]; exact hgood.risen) (by rw [hsplit]; exact fun y hy => (hgood.may y hy).1)
        rw [hsplit] at fs1
        have hxmay : x.k.may = true := (hgood.may x (by rw [← hsplit]; simp)).1
        obtain ⟨z, hz⟩ : ∃ z, x.k.next = z := ⟨_, rfl⟩
        rw [hz] at fs1
        have hND : (D ++ X).length = N + n6 := by rw [List.length_append, HDN.out, hnn]
        have hw2 : IntKind.i64.wrap (q : Int) = (q : Int) := IntWalk.i64_in _ (by omega)
        have hw3 : IntKind.i64.wrap ((n6 : Int) - 1) = (q : Int) := by rw [show (n6 : Int) - 1 = (q : Int) by omega]; exact hw2
        have hq0 : (0 : Int) ≤ (q : Int) := by omega
        have hqn : (q : Int) < (n6 : Int) := by omega
        have hqn' : q < n6 := by omega
        have HDX := Lib.hid hDX
        have Hfs1 := Lib.hid fs1
        have Hfs2 := Lib.hid fs2
        have HND := Lib.hid hND
        have Hnx := Lib.hid (fun w7 E (hE : x.k.nextE = E) => refnext_says x.k w7 hxmay z hz E hE)
        obtain ⟨N', hN'⟩ : ∃ N', N + n6 = N' := ⟨_, rfl⟩
        have HN' := Lib.hid hN'
        have Hrl := Lib.hid hrl
        have Hxk := Lib.hid (hxq.trans hx)
        have hq20 : q < 20 := by omega
        have Hmm := Lib.hid hFq
        have Hqq := Lib.hid hq
        clear hX2 hXlen hnn hqX hrl hxq hx hsplit hDX fs1 fs2 hxmay hz hND hN' hFq hq hend hn6F
        go_wp2_with (first
          | (at_builtin; refine wp_append_items rfl _ _ rfl w5.heap.size A9 N c9 D rfl R6 A6 n6 c6 X rfl Y6 (by omega) (by omega) ?_; intro A7 c7 w7 R7 T7 hA7; rw [HN'.out] at R7 ⊢; have I67 := I6.low T7 (fun k hk => (hA9 k hk).2); obtain ⟨g, o, V, pp, qq, hA6, hg, y0, y1, y2, -, -⟩ := I67.itms.cell hqn'; rw [Hxk.out] at y0 y1 y2; subst hA6)
          | fail)
        have Ka6 := Ka.below b6 Ka.lt
        have Ka7 := Ka6.keep (T7.block _ Ka6.lt (fun h => by have := (hA9 _ h).1; omega))
        have Ke6 := Ke.below b6 Ke.lt
        have Ke7 := Ke6.keep (T7.block _ Ke6.lt (fun h => by have := (hA9 _ h).1; omega))
        have b67 : Below w3.heap.size w3 w7 := (Br.trans (b6.mono zr)).trans (T7.below (fun k hk => by have := (hA9 k hk).1; omega) (by omega))
        have z37 := b67.size
        have z67 := T7.size
        clear Ka Ke Ka6 Ke6 I67 I6 Y6 T7 R6
        cases hnxt : x.k.hasNext with
        | true =>
          have hE : x.k.nextE = 0 := by unfold Kd.nextE; rw [if_pos hnxt]
          have Hf := Lib.hid (Hfs1.out hnxt).1
          have Hn7 := Lib.hid (Hnx.out w7 0 hE)
          clear hE Hnx hnxt
          refine Hn7.out.mono ?_
          rintro e w8 ⟨rfl, b8⟩
          have KZ : KB (w8.alloc (.cells #[.int .i64 0, .int .i64 0, .int .i64 0] 39)) w8.heap.size ⟨0, 0, 0⟩ := KB.new w8 0 0 0 _
          have b89 : Below w8.heap.size w8 (w8.alloc (.cells #[.int .i64 0, .int .i64 0, .int .i64 0] 39)) := (Below.refl _ _).alloc (Nat.le_refl _) _
          have Ka8 := Ka7.below b8 Ka7.lt
          have Ke8 := Ke7.below b8 Ke7.lt
          have z48 : w4.heap.size < w8.heap.size := Ka8.lt
          clear y0 y1 y2 Ka7 Ke7
          go_wp2_with (first
            | (refine wp_store_kd rfl (.tmp 12) _ rfl w4.heap.size rfl z _ rfl Ka10 ?_; intro w11 K11 T11)
            | (refine wp_store_kd rfl (.tmp 17) _ rfl w8.heap.size rfl z _ rfl KZ ?_; intro w10 K10 T10; have X810 : Turn (fun _ => False) w8 w10 := (turn_below (S := fun _ => False) b89).trans T10 (fun k h => .inr (by have h : k = w8.heap.size := h; omega)); have b810 : Below w8.heap.size w8 w10 := X810.below (fun _ h => h.elim) (Nat.le_refl _); have k0 := K10.c0; have k1 := K10.c1; have k2 := K10.c2; have Ka10 := Ka8.below b810 Ka8.lt)
            | fail)
          have hi1 : i + 1 ≤ N' := by have h1 := HN'.out; have h2 := Hqq.out; omega
          have z78 := b8.size
          have z810 := b810.size
          have Ke10 := Ke8.below b810 Ke8.lt
          have Ke11 := Ke10.keep (T11.block _ Ke10.lt (fun h => by have h : w3.heap.size = w4.heap.size := h; omega))
          have R11 := ((R7.below b8).below b810).low T11 (fun k h => by have h : k = w4.heap.size := h; omega)
          have b11 : Below w3.heap.size w3 w11 := ((b67.trans (b8.mono b67.size)).trans (b810.mono (by omega))).trans (T11.below (fun k h => by have h : k = w4.heap.size := h; omega) (by omega))
          exact ⟨⟨i + 1, N', A7, c7, D ++ X, rest.drop (q + 1), z, by go_num, rfl, ⟨HND.out.trans HN'.out, R11, K11, Ke11, HDX.out, Hf.out, hi1, b11, by have := T11.size; omega⟩⟩, by simp [intOf]; omega⟩
        | false =>
          have hE : x.k.nextE = 10 := by unfold Kd.nextE; rw [hnxt]; rfl
          have Hn7 := Lib.hid (Hnx.out w7 10 hE)
          have hall : D ++ X = l := by
            have h1 := HDX.out
            rw [Hfs2.out hnxt, List.append_nil] at h1
            exact h1
          have hN2 : n2 = N' := by rw [← HN'.out, ← HND.out, hall]; exact hln.out.symm
          clear hE Hnx hnxt
          subst hN2
          rw [hall] at R7
          clear hall
          refine Hn7.out.mono ?_
          rintro e w8 ⟨rfl, b8⟩
          have KZ : KB (w8.alloc (.cells #[.int .i64 0, .int .i64 0, .int .i64 0] 39)) w8.heap.size ⟨0, 0, 0⟩ := KB.new w8 0 0 0 _
          have b89 : Below w8.heap.size w8 (w8.alloc (.cells #[.int .i64 0, .int .i64 0, .int .i64 0] 39)) := (Below.refl _ _).alloc (Nat.le_refl _) _
          clear y0 y1 y2 Ka7 Ke7
          go_wp2_with (first
            | (refine wp_store_kd rfl (.tmp 17) _ rfl w8.heap.size rfl z _ rfl KZ ?_; intro w10 K10 T10)
            | fail)
          have X810 : Turn (fun _ => False) w8 w10 := (turn_below (S := fun _ => False) b89).trans T10 (fun k h => .inr (by have h : k = w8.heap.size := h; omega))
          have b810 : Below w8.heap.size w8 w10 := X810.below (fun _ h => h.elim) (Nat.le_refl _)
          have z78 := b8.size
          have z810 := b810.size
          have b10 : Below w3.heap.size w3 w10 := (b67.trans (b8.mono b67.size)).trans (b810.mono (by omega))
          have R10 := (R7.below b8).below b810
          have I10 := I23.below b10
          refine (rsameitems_yes l A7 n2 c7 A2 c2 w10 R10.itms I10).mono ?_
          rintro e w12 ⟨rfl, b12'⟩
          go_wp2_with fail
          go_ret
          exact ⟨rfl, (B3.trans (b10.mono B3.size)).trans (b12'.mono (by have := B3.size; have := b10.size; omega))⟩
end Go.Proofs.YtgedmodnkiijkaaGreatDoor
