/- The code's node: Read. -/
import Derived.Test.YtmebdjafnefneaaDoorPkNU
import Derived.Test.YtmebdjafnefneaaDoorNodeW
import Derived.Test.YtmebdjafnefneaaDoorNodeK
import Derived.Test.YtmebdjafnefneaaDoorPkNL
import Derived.Test.YtmebdjafnefneaaDoorPkS
namespace Go.Proofs.YtmebdjafnefneaaDoor
open Go Go.RowKit Go.Proofs

/-- What the code's Read answers, as plain data. -/
def cfin (H : Hd) (addr : Int) : Option (Nd × List UInt8) → Option Nd
  | some (N, r) => if H.kind = (if H.level = 0 then 3 else 4) ∧ H.addr = addr ∧ allZ r = true ∧ N.may = true then some N else none
  | none => none
def creadN (b : List UInt8) (addr : Int) : Option Nd := if opE b = 0 then cfin (opH b) addr (rnTo (opH b).level (opB b) (opH b).count.toNat) else none
def CReadSays (b : List UInt8) (addr : Int) (w : World) (e : Ending) (w' : World) : Prop :=
  ∃ A1 n1 c1 B1 m1 d1, e = .returned (.tuple #[.agg #[.int .i64 ((creadN b addr).getD ⟨0, [], []⟩).lvl, .slice A1 n1 c1, .slice B1 m1 d1], .int .i64 (if (creadN b addr).isSome = true then 0 else 3)]) ∧ n1 ≤ 20 ∧ m1 ≤ 20 ∧
      Itms w' A1 n1 c1 ((creadN b addr).getD ⟨0, [], []⟩).items ∧ Kidl w' B1 m1 d1 ((creadN b addr).getD ⟨0, [], []⟩).kids ∧ Below w.heap.size w w'
theorem csays_no {b : List UInt8} {addr : Int} {w w' : World} (h : creadN b addr = none) (hb : Below w.heap.size w w') : CReadSays b addr w (.returned (.tuple #[.agg #[.int .i64 0, .slice none 0 0, .slice none 0 0], .int .i64 3])) w' := by
  unfold CReadSays
  rw [h]
  exact ⟨none, 0, 0, none, 0, 0, rfl, by omega, by omega, itms_nil w', kidl_nil w', hb⟩
theorem csays_yes {b : List UInt8} {addr : Int} {N : Nd} {w w' : World} (h : creadN b addr = some N) {A : Option Addr} {n c : Nat} {B : Option Addr} {m d : Nat} (hn : n ≤ 20) (hm : m ≤ 20) (hI : Itms w' A n c N.items) (hK : Kidl w' B m d N.kids) (hb : Below w.heap.size w w') :
    CReadSays b addr w (.returned (.tuple #[.agg #[.int .i64 N.lvl, .slice A n c, .slice B m d], .int .i64 0])) w' := by
  unfold CReadSays
  rw [h]
  exact ⟨A, n, c, B, m, d, rfl, hn, hm, hI, hK, hb⟩
set_option maxRecDepth 100000 in
set_option maxHeartbeats 8000000 in
theorem cread_any (A : Option Addr) (k c : Nat) (b : List UInt8) (addr : Int) (w : World) (hs : Sl w A k c b) (ht : Tab w) :
    Calls Tryd.prog 15 #[.slice A k c, .int .i64 addr] w fun e w' => CReadSays b addr w e w' := by
  go_enter Tryd.func15, Tryd.ntmps15
  go_wp2_with fail
  have R1 : NB (w.alloc (.cells #[.int .i64 0, .slice none 0 0, .slice none 0 0] 25)) w.heap.size 0 none 0 0 none 0 0 := NB.new w _ _ _ _ _ _ _ _
  have W1 : Below w.heap.size w (w.alloc (.cells #[.int .i64 0, .slice none 0 0, .slice none 0 0] 25)) := (Below.refl _ _).alloc (Nat.le_refl _) _
  generalize w.alloc (.cells #[.int .i64 0, .slice none 0 0, .slice none 0 0] 25) = w1 at R1 W1 ⊢
  have hO := open_any A k c b w1 (hs.below W1) (ht.below W1 ht.1)
  unfold OpenSays Hd.v at hO
  obtain ⟨H, hH⟩ : ∃ H, opH b = H := ⟨_, rfl⟩
  obtain ⟨R, hR⟩ : ∃ R, opB b = R := ⟨_, rfl⟩
  obtain ⟨E, hE⟩ : ∃ E, opE b = E := ⟨_, rfl⟩
  rw [hH, hR, hE] at hO
  refine hO.mono ?_
  clear hO
  rintro e v ⟨A2, n2, c2, rfl, own2, hb2⟩
  have Rv := R1.below hb2 R1.lt
  have Wv := W1.trans (hb2.mono W1.size)
  have bx : Below v.heap.size v (v.alloc (.cells #[.int .i64 H.kind, .int .i64 H.addr, .int .i64 H.count, .int .i64 H.level, .int .i64 H.gen] 65)) := (Below.refl _ _).alloc (Nat.le_refl _) _
  have H3 : HB (v.alloc (.cells #[.int .i64 H.kind, .int .i64 H.addr, .int .i64 H.count, .int .i64 H.level, .int .i64 H.gen] 65)) v.heap.size H := ⟨_, heap_alloc_new v _⟩
  have R3 := Rv.below bx Rv.lt
  have W3 := Wv.trans (bx.mono Wv.size)
  have s3 := own2.sl.below bx
  have zw : w.heap.size < v.heap.size := Rv.lt
  have zv3 : v.heap.size < (v.alloc (.cells #[.int .i64 H.kind, .int .i64 H.addr, .int .i64 H.count, .int .i64 H.level, .int .i64 H.gen] 65)).heap.size := by simp
  by_cases hE0 : E = 0
  · subst hE0
    have hlen : R.length ≤ 236 := by
      cases hb : okB b
      · obtain ⟨_, _, h3⟩ := op_no hb
        rw [h3] at hE; omega
      · obtain ⟨_, h2, _⟩ := op_yes hb
        have := (of_decide_eq_true hb).1
        rw [← hR, h2, List.length_drop]; omega
    have hok := opH_ok hE
    rw [hH] at hok
    have hin : (0 ≤ H.level ∧ H.level ≤ 8) ∧ 0 ≤ H.count ∧ H.count ≤ 65535 := by
      have := of_decide_eq_true hok
      omega
    obtain ⟨⟨hl0, hl8⟩, hc0, hc1⟩ := hin
    have hn2 : n2 ≤ 236 := by have := own2.len; omega
    have Hread := Lib.hid (show creadN b addr = cfin H addr (rnTo H.level R H.count.toNat) by unfold creadN; rw [hE, if_pos rfl, hH, hR])
    have hA2 : ∀ g, blockOf A2 = some g → g < v.heap.size := fun g hg => by
      cases A2 with
      | none => cases hg
      | some ad => have := (own2.block ad rfl).2; have e : ad.block = g := Option.some.inj hg; omega
    clear hok hE hH hR Rv Wv bx own2 hb2
    obtain ⟨kd, ad, ct, lv, gn⟩ := H
    simp only at hl0 hl8 hc0 hc1
    obtain ⟨cnt, rfl⟩ : ∃ cnt : Nat, ct = (cnt : Int) := ⟨ct.toNat, by omega⟩
    obtain ⟨Kb, hKb⟩ : ∃ Kb : Int, (if lv = 0 then 3 else 4) = Kb := ⟨_, rfl⟩
    have Hkb := Lib.hid hKb
    clear hKb
    go_wp2_with fail
    generalize v.alloc (.cells #[.int .i64 kd, .int .i64 ad, .int .i64 (cnt : Int), .int .i64 lv, .int .i64 gn] 65) = w3 at H3 R3 W3 s3 zv3 ⊢
    have y0 := H3.at_ 0
    have y1 := H3.at_ 2
    have y3 := H3.at_ 1
    simp only [foff, Hd.fld] at y0 y1 y3
    have p0 : ∀ u : Grown w3, u.to.cell? ⟨v.heap.size, 0, none⟩ = some (.int .i64 kd) := Grown.cell y0 zv3
    have p1 : ∀ u : Grown w3, u.to.cell? ⟨v.heap.size, 1, none⟩ = some (.int .i64 ad) := Grown.cell y1 zv3
    have p3 : ∀ u : Grown w3, u.to.cell? ⟨v.heap.size, 3, none⟩ = some (.int .i64 lv) := Grown.cell y3 zv3
    clear y0 y1 y3
    by_cases hk : kd = Kb
    · have Hk := Lib.hid hk
      have k1 : (kd == Kb) = true := by simp [hk]
      have k2 : (kd != Kb) = false := by simp [hk]
      clear hk
      by_cases ha : ad = addr
      · have Ha := Lib.hid ha
        have a1 : (ad == addr) = true := by simp [ha]
        have a2 : (ad != addr) = false := by simp [ha]
        clear ha
        refine wp_region_grown (by kernel_rfl) (by kernel_rfl) ?_
        repeat (go_big_quiet_step (first
          | (go_at_call 35; exact Calls.grown_same (cblock_says lv Kb Hkb.out _))
          | fail))
        refine wpQuiet_nil ?_
        rintro _ ⟨u, rfl⟩
        have H4 := H3.below u.ok zv3
        have R4 := R3.below u.ok R3.lt
        have W4 := W3.trans (u.ok.mono W3.size)
        have s4 := s3.below u.ok
        have H4lt : v.heap.size < u.to.heap.size := Nat.lt_of_lt_of_le zv3 u.ok.size
        generalize u.to = w4 at H4 R4 W4 s4 H4lt ⊢
        clear p0 p1 p3 H3 R3 W3 s3 zv3 k1 k2 a1 a2 u
        have y3 := H4.at_ 1
        simp only [foff, Hd.fld] at y3
        by_cases hlv : lv = 0
        · subst hlv
          have HK3 := Lib.hid (show Kb = 3 by rw [← Hkb.out]; rfl)
          go_wp2_with fail
          have N5 : NB (w4.alloc (.cells #[.int .i64 0, .slice none 0 0, .slice none 0 0] 25)) w4.heap.size 0 none 0 0 none 0 0 := NB.new w4 _ _ _ _ _ _ _ _
          have b5 : Below w4.heap.size w4 (w4.alloc (.cells #[.int .i64 0, .slice none 0 0, .slice none 0 0] 25)) := (Below.refl _ _).alloc (Nat.le_refl _) _
          have H5 := H4.below b5 H4lt
          have R5 := R4.below b5 R4.lt
          have W5 := W4.trans (b5.mono W4.size)
          have s5 := s4.below b5
          generalize w4.alloc (.cells #[.int .i64 0, .slice none 0 0, .slice none 0 0] 25) = w5 at N5 b5 H5 R5 W5 s5 ⊢
          obtain ⟨nb, hnb⟩ : ∃ nb, w4.heap.size = nb := ⟨_, rfl⟩
          have hvn : v.heap.size < nb := by rw [← hnb]; exact H4lt
          rw [hnb] at N5 ⊢
          clear hnb b5 H4 R4 W4 s4 H4lt
          refine (cleaf_any 0 true rfl none 0 0 none 0 0 w5).mono ?_
          rintro e w6 ⟨rfl, hb6⟩
          have N6 := N5.below hb6 N5.lt
          have H6 := H5.below hb6 (by have := N5.lt; omega)
          have R6 := R5.below hb6 R5.lt
          have W6 := W5.trans (hb6.mono W5.size)
          have s6 := s5.below hb6
          have y2 := H6.at_ 3
          simp only [foff, Hd.fld] at y2
          clear N5 H5 R5 W5 s5 hb6
          go_wp2_with fail
          refine (ctakeI_any R cnt A2 n2 c2 w6 s6 (by omega) (by omega)).mono ?_
          rintro e w7 (⟨xs, r, A1, c1, A4, n4, c4, hrn, rfl, hc1000, row, s7, hfar, hb7⟩ | ⟨E, hE, hrn, rfl, hb7⟩)
          · have hrd := Lib.hid (show creadN b addr = (if allZ r = true ∧ (⟨0, xs, []⟩ : Nd).may = true then some (⟨0, xs, []⟩ : Nd) else none) by
                rw [Hread.out]
                show cfin ⟨kd, ad, (cnt : Int), 0, gn⟩ addr (rnTo 0 R (cnt : Int).toNat) = _
                rw [Int.toNat_natCast, hrn]
                show (if kd = (if (0 : Int) = 0 then 3 else 4) ∧ ad = addr ∧ allZ r = true ∧ (⟨0, xs, []⟩ : Nd).may = true then some (⟨0, xs, []⟩ : Nd) else none) = _
                rw [if_pos (rfl : (0 : Int) = 0), ← HK3.out]
                by_cases hz : allZ r = true ∧ (⟨0, xs, []⟩ : Nd).may = true
                · rw [if_pos hz, if_pos ⟨Hk.out, Ha.out, hz⟩]
                · rw [if_neg hz, if_neg (fun h => hz h.2.2)])
            have N7 := N6.below hb7 N6.lt
            have R7 := R6.below hb7 R6.lt
            have W7 := W6.trans (hb7.mono W6.size)
            have z6 : nb < w6.heap.size := N6.lt
            have f1 := N7.fz 1
            have g1 := N7.c1
            have TS : Turn (fun g => g = nb) w7 (w7.setCell ⟨nb, 1, none⟩ (.slice A1 cnt c1)) := turn_setCell (a := ⟨nb, 1, none⟩) _ rfl
            have N8 := N7.set1 A1 cnt c1
            have R8 := R7.keep (TS.block w.heap.size R7.lt (by show ¬ w.heap.size = nb; omega))
            have row8 := row.low TS (fun k hk => by have : k = nb := hk; omega)
            have s8 := s7.turned TS (fun g hg e => by
              have h2 : g = nb := e
              rcases hfar g hg with h1 | h1
              · have := hA2 g h1; omega
              · omega)
            have W8 := W7.trans (TS.below (B := w.heap.size) (fun x hx => by have : x = nb := hx; omega) (by have := W7.size; omega))
            clear N6 R6 W6 s6 H6 hb7 N7 R7 W7 row s7 hfar hrn y2
            go_wp2_with fail
            generalize w7.setCell ⟨nb, 1, none⟩ (.slice A1 cnt c1) = w8 at N8 R8 row8 s8 W8 TS ⊢
            clear TS f1 g1
            cases hz : allZ r
            · refine (cnoughts_any A4 n4 c4 r false hz w8 s8).mono ?_
              rintro e w9 ⟨rfl, hb9⟩
              have R9 := R8.below hb9 R8.lt
              have W9 := W8.trans (hb9.mono W8.size)
              have hno := Lib.hid (hrd.out.trans (if_neg (fun h => by rw [hz] at h; exact absurd h.1 (by simp))))
              clear hz hrd
              go_wp2_with (first
                | (refine wp_store_nd rfl (.tmp 4) (.tmp 68) rfl w.heap.size rfl 0 none 0 0 none 0 0 rfl R9 ?_; intro wz Rz Tz)
                | fail)
              refine bodyPost_ret (res_c2 Tryd.results15 rfl (load_nd Rz)) rfl ?_
              exact csays_no hno.out (W9.trans (Tz.belowOne R9.lt))
            · refine (cnoughts_any A4 n4 c4 r true hz w8 s8).mono ?_
              rintro e w9 ⟨rfl, hb9⟩
              have N9 := N8.below hb9 N8.lt
              have R9 := R8.below hb9 R8.lt
              have row9 := row8.below hb9
              have W9 := W8.trans (hb9.mono W8.size)
              have q0 := N9.c0
              have q1 := N9.c1
              have q2 := N9.c2
              have Hz := Lib.hid hz
              clear hz N8 R8 row8 s8 W8 hb9
              go_wp2_with fail
              cases hm : (⟨0, xs, []⟩ : Nd).may
              · refine (cnmay_any ⟨0, xs, []⟩ false hm A1 cnt c1 none 0 0 w9 row9.itms (kidl_nil w9) (by omega) (by omega)).mono ?_
                rintro e wA ⟨rfl, hbA⟩
                have RA := R9.below hbA R9.lt
                have WA := W9.trans (hbA.mono W9.size)
                have hno := Lib.hid (hrd.out.trans (if_neg (fun h => by rw [hm] at h; exact absurd h.2 (by simp))))
                clear hm hrd q0 q1 q2
                go_wp2_with (first
                  | (refine wp_store_nd rfl (.tmp 4) (.tmp 68) rfl w.heap.size rfl 0 none 0 0 none 0 0 rfl RA ?_; intro wz Rz Tz)
                  | fail)
                refine bodyPost_ret (res_c2 Tryd.results15 rfl (load_nd Rz)) rfl ?_
                exact csays_no hno.out (WA.trans (Tz.belowOne RA.lt))
              · refine (cnmay_any ⟨0, xs, []⟩ true hm A1 cnt c1 none 0 0 w9 row9.itms (kidl_nil w9) (by omega) (by omega)).mono ?_
                rintro e wA ⟨rfl, hbA⟩
                have RA := R9.below hbA R9.lt
                have NA := N9.below hbA N9.lt
                have rowA := row9.below hbA
                have WA := W9.trans (hbA.mono W9.size)
                have hyes := Lib.hid (hrd.out.trans (if_pos (And.intro Hz.out hm)))
                have hsz := may_sizes hm
                have hc20 : cnt ≤ 20 := by have h1 := hsz.1; have h2 := rowA.itms.len; have h3 : xs.length ≤ 6 := h1; omega
                have q0 := NA.c0
                have q1 := NA.c1
                have q2 := NA.c2
                clear hm hrd hsz
                go_wp2_with (first
                  | (refine wp_store_nd rfl (.tmp 4) (.tmp 69) rfl w.heap.size rfl 0 A1 cnt c1 none 0 0 rfl RA ?_; intro wz Rz Tz)
                  | fail)
                refine bodyPost_ret (res_c2 Tryd.results15 rfl (load_nd Rz)) rfl ?_
                have rowz := rowA.low Tz (fun k hk => by have : k = w.heap.size := hk; omega)
                exact csays_yes hyes.out hc20 (by omega) rowz.itms (kidl_nil wz) (WA.trans (Tz.belowOne RA.lt))
          · have hno := Lib.hid (show creadN b addr = none by
                rw [Hread.out]
                show cfin ⟨kd, ad, (cnt : Int), 0, gn⟩ addr (rnTo 0 R (cnt : Int).toNat) = none
                rw [Int.toNat_natCast, hrn]; rfl)
            have N7 := N6.below hb7 N6.lt
            have R7 := R6.below hb7 R6.lt
            have W7 := W6.trans (hb7.mono W6.size)
            have f1 := N7.fz 1
            have g1 := N7.c1
            have TS : Turn (fun g => g = nb) w7 (w7.setCell ⟨nb, 1, none⟩ (.slice none 0 0)) := turn_setCell (a := ⟨nb, 1, none⟩) _ rfl
            have R8 := R7.keep (TS.block w.heap.size R7.lt (by show ¬ w.heap.size = nb; omega))
            have W8 := W7.trans (TS.below (B := w.heap.size) (fun x hx => by have : x = nb := hx; omega) (by have := W7.size; omega))
            have hE1 : decide (E = 0) = false := decide_eq_false hE
            have hE2 : (E == 0) = false := by simp [hE]
            have hE3 : (E != 0) = true := by simp [hE]
            clear N6 R6 W6 s6 H6 hb7 N7 R7 W7 hrn y2 TS
            go_wp2_with (first
              | (refine wp_store_nd rfl (.tmp 4) (.tmp 68) rfl w.heap.size rfl 0 none 0 0 none 0 0 rfl R8 ?_; intro wz Rz Tz)
              | fail)
            refine bodyPost_ret (res_c2 Tryd.results15 rfl (load_nd Rz)) rfl ?_
            exact csays_no hno.out (W8.trans (Tz.belowOne R8.lt))
        · have hlvb : decide (lv = 0) = false := decide_eq_false hlv
          go_wp2_with fail
          have N5 : NB (w4.alloc (.cells #[.int .i64 lv, .slice none 0 0, .slice none 0 0] 25)) w4.heap.size lv none 0 0 none 0 0 := NB.new w4 _ _ _ _ _ _ _ _
          have b5 : Below w4.heap.size w4 (w4.alloc (.cells #[.int .i64 lv, .slice none 0 0, .slice none 0 0] 25)) := (Below.refl _ _).alloc (Nat.le_refl _) _
          have H5 := H4.below b5 H4lt
          have R5 := R4.below b5 R4.lt
          have W5 := W4.trans (b5.mono W4.size)
          have s5 := s4.below b5
          generalize w4.alloc (.cells #[.int .i64 lv, .slice none 0 0, .slice none 0 0] 25) = w5 at N5 b5 H5 R5 W5 s5 ⊢
          obtain ⟨nb, hnb⟩ : ∃ nb, w4.heap.size = nb := ⟨_, rfl⟩
          have hvn : v.heap.size < nb := by rw [← hnb]; exact H4lt
          rw [hnb] at N5 ⊢
          clear hnb b5 H4 R4 W4 s4 H4lt
          refine (cleaf_any lv false (decide_eq_false hlv) none 0 0 none 0 0 w5).mono ?_
          rintro e w6 ⟨rfl, hb6⟩
          have N6 := N5.below hb6 N5.lt
          have H6 := H5.below hb6 (by have := N5.lt; omega)
          have R6 := R5.below hb6 R5.lt
          have W6 := W5.trans (hb6.mono W5.size)
          have s6 := s5.below hb6
          have y2 := H6.at_ 3
          simp only [foff, Hd.fld] at y2
          clear N5 H5 R5 W5 s5 hb6
          go_wp2_with fail
          refine (ctakeK_any lv hlv R cnt A2 n2 c2 w6 s6 (by omega) (by omega)).mono ?_
          rintro e w7 (⟨xs, r, A1, c1, A4, n4, c4, hrn, rfl, hc1000, row, s7, hfar, hb7⟩ | ⟨E, hE, hrn, rfl, hb7⟩)
          · have hrd := Lib.hid (show creadN b addr = (if allZ r = true ∧ (⟨lv, [], xs⟩ : Nd).may = true then some (⟨lv, [], xs⟩ : Nd) else none) by
                rw [Hread.out]
                show cfin ⟨kd, ad, (cnt : Int), lv, gn⟩ addr (rnTo lv R (cnt : Int).toNat) = _
                rw [Int.toNat_natCast, hrn]
                show (if kd = (if (lv : Int) = 0 then 3 else 4) ∧ ad = addr ∧ allZ r = true ∧ (⟨lv, [], xs⟩ : Nd).may = true then some (⟨lv, [], xs⟩ : Nd) else none) = _
                rw [Hkb.out]
                by_cases hz : allZ r = true ∧ (⟨lv, [], xs⟩ : Nd).may = true
                · rw [if_pos hz, if_pos ⟨Hk.out, Ha.out, hz⟩]
                · rw [if_neg hz, if_neg (fun h => hz h.2.2)])
            have N7 := N6.below hb7 N6.lt
            have R7 := R6.below hb7 R6.lt
            have W7 := W6.trans (hb7.mono W6.size)
            have z6 : nb < w6.heap.size := N6.lt
            have f1 := N7.fz 2
            have g1 := N7.c2
            have TS : Turn (fun g => g = nb) w7 (w7.setCell ⟨nb, 2, none⟩ (.slice A1 cnt c1)) := turn_setCell (a := ⟨nb, 2, none⟩) _ rfl
            have N8 := N7.set2 A1 cnt c1
            have R8 := R7.keep (TS.block w.heap.size R7.lt (by show ¬ w.heap.size = nb; omega))
            have row8 := row.turned TS (fun k hk e => by have h1 := (row.blockLt k hk).1; have h2 : k = nb := e; omega)
            have s8 := s7.turned TS (fun g hg e => by
              have h2 : g = nb := e
              rcases hfar g hg with h1 | h1
              · have := hA2 g h1; omega
              · omega)
            have W8 := W7.trans (TS.below (B := w.heap.size) (fun x hx => by have : x = nb := hx; omega) (by have := W7.size; omega))
            clear N6 R6 W6 s6 H6 hb7 N7 R7 W7 row s7 hfar hrn y2
            go_wp2_with fail
            generalize w7.setCell ⟨nb, 2, none⟩ (.slice A1 cnt c1) = w8 at N8 R8 row8 s8 W8 TS ⊢
            clear TS f1 g1
            cases hz : allZ r
            · refine (cnoughts_any A4 n4 c4 r false hz w8 s8).mono ?_
              rintro e w9 ⟨rfl, hb9⟩
              have R9 := R8.below hb9 R8.lt
              have W9 := W8.trans (hb9.mono W8.size)
              have hno := Lib.hid (hrd.out.trans (if_neg (fun h => by rw [hz] at h; exact absurd h.1 (by simp))))
              clear hz hrd
              go_wp2_with (first
                | (refine wp_store_nd rfl (.tmp 4) (.tmp 68) rfl w.heap.size rfl 0 none 0 0 none 0 0 rfl R9 ?_; intro wz Rz Tz)
                | fail)
              refine bodyPost_ret (res_c2 Tryd.results15 rfl (load_nd Rz)) rfl ?_
              exact csays_no hno.out (W9.trans (Tz.belowOne R9.lt))
            · refine (cnoughts_any A4 n4 c4 r true hz w8 s8).mono ?_
              rintro e w9 ⟨rfl, hb9⟩
              have N9 := N8.below hb9 N8.lt
              have R9 := R8.below hb9 R8.lt
              have row9 := row8.below hb9
              have W9 := W8.trans (hb9.mono W8.size)
              have q0 := N9.c0
              have q1 := N9.c1
              have q2 := N9.c2
              have Hz := Lib.hid hz
              clear hz N8 R8 row8 s8 W8 hb9
              go_wp2_with fail
              cases hm : (⟨lv, [], xs⟩ : Nd).may
              · refine (cnmay_any ⟨lv, [], xs⟩ false hm none 0 0 A1 cnt c1 w9 (itms_nil w9) (show Kidl _ _ _ _ _ from row9.sls (by omega)) (by omega) (by omega)).mono ?_
                rintro e wA ⟨rfl, hbA⟩
                have RA := R9.below hbA R9.lt
                have WA := W9.trans (hbA.mono W9.size)
                have hno := Lib.hid (hrd.out.trans (if_neg (fun h => by rw [hm] at h; exact absurd h.2 (by simp))))
                clear hm hrd q0 q1 q2
                go_wp2_with (first
                  | (refine wp_store_nd rfl (.tmp 4) (.tmp 68) rfl w.heap.size rfl 0 none 0 0 none 0 0 rfl RA ?_; intro wz Rz Tz)
                  | fail)
                refine bodyPost_ret (res_c2 Tryd.results15 rfl (load_nd Rz)) rfl ?_
                exact csays_no hno.out (WA.trans (Tz.belowOne RA.lt))
              · refine (cnmay_any ⟨lv, [], xs⟩ true hm none 0 0 A1 cnt c1 w9 (itms_nil w9) (show Kidl _ _ _ _ _ from row9.sls (by omega)) (by omega) (by omega)).mono ?_
                rintro e wA ⟨rfl, hbA⟩
                have RA := R9.below hbA R9.lt
                have NA := N9.below hbA N9.lt
                have rowA := row9.below hbA
                have WA := W9.trans (hbA.mono W9.size)
                have hyes := Lib.hid (hrd.out.trans (if_pos (And.intro Hz.out hm)))
                have hsz := may_sizes hm
                have hc20 : cnt ≤ 20 := by have h1 := hsz.2.1; have h2 := (show Kidl _ _ _ _ xs from rowA.sls (by omega)).len; have h3 : xs.length ≤ 12 := h1; omega
                have q0 := NA.c0
                have q1 := NA.c1
                have q2 := NA.c2
                clear hm hrd hsz
                go_wp2_with (first
                  | (refine wp_store_nd rfl (.tmp 4) (.tmp 69) rfl w.heap.size rfl lv none 0 0 A1 cnt c1 rfl RA ?_; intro wz Rz Tz)
                  | fail)
                refine bodyPost_ret (res_c2 Tryd.results15 rfl (load_nd Rz)) rfl ?_
                have rowz := rowA.turned Tz (fun k hk e => by have h1 := (rowA.blockLt k hk).1; have h2 : k = w.heap.size := e; omega)
                exact csays_yes hyes.out (by omega) hc20 (itms_nil wz) (show Kidl _ _ _ _ _ from rowz.sls (by omega)) (WA.trans (Tz.belowOne RA.lt))
          · have hno := Lib.hid (show creadN b addr = none by
                rw [Hread.out]
                show cfin ⟨kd, ad, (cnt : Int), lv, gn⟩ addr (rnTo lv R (cnt : Int).toNat) = none
                rw [Int.toNat_natCast, hrn]; rfl)
            have N7 := N6.below hb7 N6.lt
            have R7 := R6.below hb7 R6.lt
            have W7 := W6.trans (hb7.mono W6.size)
            have f1 := N7.fz 2
            have g1 := N7.c2
            have TS : Turn (fun g => g = nb) w7 (w7.setCell ⟨nb, 2, none⟩ (.slice none 0 0)) := turn_setCell (a := ⟨nb, 2, none⟩) _ rfl
            have R8 := R7.keep (TS.block w.heap.size R7.lt (by show ¬ w.heap.size = nb; omega))
            have W8 := W7.trans (TS.below (B := w.heap.size) (fun x hx => by have : x = nb := hx; omega) (by have := W7.size; omega))
            have hE1 : decide (E = 0) = false := decide_eq_false hE
            have hE2 : (E == 0) = false := by simp [hE]
            have hE3 : (E != 0) = true := by simp [hE]
            clear N6 R6 W6 s6 H6 hb7 N7 R7 W7 hrn y2 TS
            go_wp2_with (first
              | (refine wp_store_nd rfl (.tmp 4) (.tmp 68) rfl w.heap.size rfl 0 none 0 0 none 0 0 rfl R8 ?_; intro wz Rz Tz)
              | fail)
            refine bodyPost_ret (res_c2 Tryd.results15 rfl (load_nd Rz)) rfl ?_
            exact csays_no hno.out (W8.trans (Tz.belowOne R8.lt))
      · have hno := Lib.hid (show creadN b addr = none by
          rw [Hread.out]
          cases rnTo lv R (cnt : Int).toNat with
          | none => rfl
          | some x => exact if_neg (fun h => ha h.2.1))
        have a1 : (ad == addr) = false := by simp [ha]
        have a2 : (ad != addr) = true := by simp [ha]
        clear ha
        refine wp_region_grown (by kernel_rfl) (by kernel_rfl) ?_
        repeat (go_big_quiet_step (first
          | (go_at_call 35; exact Calls.grown_same (cblock_says lv Kb Hkb.out _))
          | fail))
        refine wpQuiet_nil ?_
        rintro _ ⟨u, rfl⟩
        have R4 := R3.below u.ok R3.lt
        have W4 := W3.trans (u.ok.mono W3.size)
        clear p0 p1 p3
        go_wp2_with (first
          | (refine wp_store_nd rfl (.tmp 4) (.tmp 32) rfl w.heap.size rfl 0 none 0 0 none 0 0 rfl R4 ?_; intro wz Rz Tz)
          | fail)
        refine bodyPost_ret (res_c2 Tryd.results15 rfl (load_nd Rz)) rfl ?_
        exact csays_no hno.out (W4.trans (Tz.belowOne R4.lt))
    · have hno := Lib.hid (show creadN b addr = none by
        rw [Hread.out]
        cases rnTo lv R (cnt : Int).toNat with
        | none => rfl
        | some x => exact if_neg (fun h => hk (h.1.trans Hkb.out)))
      have k1 : (kd == Kb) = false := by simp [hk]
      have k2 : (kd != Kb) = true := by simp [hk]
      clear hk
      refine wp_region_grown (by kernel_rfl) (by kernel_rfl) ?_
      repeat (go_big_quiet_step (first
        | (go_at_call 35; exact Calls.grown_same (cblock_says lv Kb Hkb.out _))
        | fail))
      refine wpQuiet_nil ?_
      rintro _ ⟨u, rfl⟩
      have R4 := R3.below u.ok R3.lt
      have W4 := W3.trans (u.ok.mono W3.size)
      clear p0 p1 p3
      go_wp2_with (first
        | (refine wp_store_nd rfl (.tmp 4) (.tmp 32) rfl w.heap.size rfl 0 none 0 0 none 0 0 rfl R4 ?_; intro wz Rz Tz)
        | fail)
      refine bodyPost_ret (res_c2 Tryd.results15 rfl (load_nd Rz)) rfl ?_
      exact csays_no hno.out (W4.trans (Tz.belowOne R4.lt))
  · have hno := Lib.hid (show creadN b addr = none by unfold creadN; rw [hE, if_neg hE0])
    have hE1 : decide (E = 0) = false := decide_eq_false hE0
    have hE2 : (E == 0) = false := by simp [hE0]
    have hE3 : (E != 0) = true := by simp [hE0]
    clear hE0 hE hH hR Rv Wv
    go_wp2_with fail
    generalize v.alloc (.cells #[.int .i64 H.kind, .int .i64 H.addr, .int .i64 H.count, .int .i64 H.level, .int .i64 H.gen] 65) = w3 at H3 R3 W3 s3 zv3 ⊢
    refine wp_region_grown (by kernel_rfl) (by kernel_rfl) ?_
    repeat (go_big_quiet_step (fail))
    refine wpQuiet_nil ?_
    rintro _ ⟨u, rfl⟩
    have R4 := R3.below u.ok R3.lt
    have W4 := W3.trans (u.ok.mono W3.size)
    go_wp2_with (first
      | (refine wp_store_nd rfl (.tmp 4) (.tmp 32) rfl w.heap.size rfl 0 none 0 0 none 0 0 rfl R4 ?_; intro wz Rz Tz)
      | fail)
    refine bodyPost_ret (res_c2 Tryd.results15 rfl (load_nd Rz)) rfl ?_
    exact csays_no hno.out (W4.trans (Tz.belowOne R4.lt))
end Go.Proofs.YtmebdjafnefneaaDoor
