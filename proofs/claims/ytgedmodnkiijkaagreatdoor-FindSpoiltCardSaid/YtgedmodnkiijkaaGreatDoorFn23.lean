/- The code's node: whether all are noughts, by the library's Count. The code's node: Read. Plain facts of nodes: what was written is read; the two ways to say what is read. Nodes, plain facts: how long a body is; when a node that may be is not written. A node cut to twenty of each reads so from the start; what reads as the document says. append of a row of items onto the call's own row. -/
import Derived.Test.YtgedmodnkiijkaaGreatDoorFn2
import Derived.Test.YtgedmodnkiijkaaGreatDoorFn6
import Derived.Test.YtgedmodnkiijkaaGreatDoorFn7
import Derived.Test.YtgedmodnkiijkaaGreatDoorFn12
import Derived.Test.YtgedmodnkiijkaaGreatDoorFn13
import Derived.Test.YtgedmodnkiijkaaGreatDoorFn21
import Derived.Test.YtgedmodnkiijkaaGreatDoorFn22
import Derived.Shelf.Bytes.SlCountOne
import Derived.Laws.Externs
import Derived.Lib.SlBytesConst
namespace Go.Proofs.YtgedmodnkiijkaaGreatDoor
open Go Go.RowKit Go.Proofs

def ints (l : List UInt8) : List Int := l.map fun x => (x.toNat : Int)
theorem ints_bytes (l : List UInt8) : Lib.bytesOf (ints l) = l := by
  unfold Lib.bytesOf ints
  rw [List.map_map]
  conv => rhs; rw [← List.map_id l]
  refine List.map_congr_left fun x _ => ?_
  simp
theorem sl_ints {w : World} {a : Addr} {n c : Nat} {l : List UInt8} (h : Sl w (some a) n c l) : ∀ i, i < n → w.cell? (a.add i) = some (.int .u8 ((ints l).getD i 0)) := by
  intro i hi
  obtain ⟨ad, e, _, hc⟩ := h.cell hi
  injection e with e
  subst e
  rw [hc]
  have hl : i < l.length := by have := h.len; omega
  simp [ints, byt, List.getD_eq_getElem?_getD, List.getElem?_map, List.getElem?_eq_getElem hl]
theorem run_count_any {P : Program} {w : World} {A : Option Addr} {n c : Nat} {l : List UInt8} (h : Sl w A n c l) (cv : Int) :
    (Extern.BytealgCount.count #[.slice A n c, .int .u8 cv]).run P w = .ok (.int .i64 (Lib.countByte l cv.toNat.toUInt8)) w := by
  cases A with
  | some a =>
    have := Lib.run_countAt (P := P) w a n c (ints l) (by unfold ints; rw [List.length_map]; exact h.len) (sl_ints h) cv
    rwa [ints_bytes] at this
  | none =>
    have hn : n = 0 := by
      rcases Nat.eq_zero_or_pos n with h0 | h0
      · exact h0
      · obtain ⟨ad, e, _⟩ := h.cell h0
        cases e
    have hl : l = [] := List.eq_nil_of_length_eq_zero (by rw [h.len]; exact hn)
    rw [Lib.run_countNil, hl]
    rfl
theorem count_all (l : List UInt8) : (Lib.countByte l 0 = l.length) ↔ allZ l = true := by
  unfold Lib.countByte allZ
  rw [List.count_eq_length, List.all_eq_true]
  constructor
  · intro h x hx
    rw [← h x hx]; rfl
  · intro h x hx
    have := h x hx
    exact (by simpa using this : x = 0).symm
set_option maxRecDepth 100000 in
set_option maxHeartbeats 4000000 in
theorem ccount_any (A : Option Addr) (n c : Nat) (l : List UInt8) (g d : Nat) (w : World) (h : Sl w A n c l) (hc : w.cell? ⟨g, 0, none⟩ = some (.int .u8 0)) :
    Calls Tryz.prog 120 #[.slice A n c, .slice (some ⟨g, 0, none⟩) 1 d] w fun e w' => e = .returned (.int .i64 (Lib.countByte l 0 : Nat)) ∧ w = w' := by
  go_enter Tryz.func120, Tryz.ntmps120
  go_wp2
  rw [run_callFunc_extern Tryz.func138 (by kernel_rfl) (by kernel_rfl) (by kernel_rfl) (e := Extern.BytealgCount.count) (by kernel_rfl), run_count_any h 0]
  simp only [Result.andThen]
  rw [Oper.upon_value]
  go_wp2
  go_ret
  exact ⟨rfl, rfl⟩
set_option maxHeartbeats 4000000 in
theorem cnoughts_any (A : Option Addr) (n c : Nat) (l : List UInt8) (r : Bool) (hr : allZ l = r) (w : World) (h : Sl w A n c l) :
    Calls Tryz.prog 87 #[.slice A n c] w fun e w' => e = .returned (.bool r) ∧ Below w.heap.size w w' := by
  have hlen := h.len
  have b1 : Below w.heap.size w (w.alloc (.cells #[.int .u8 0] 5)) := (Below.refl _ _).alloc (Nat.le_refl _) _
  have hc : (w.alloc (.cells #[.int .u8 0] 5)).cell? ⟨w.heap.size, 0, none⟩ = some (.int .u8 0) := by rw [cell_of_row _ _ _ _ _ _ (heap_alloc_new w _)]; rfl
  obtain ⟨q, hq⟩ : ∃ q, Lib.countByte l 0 = q := ⟨_, rfl⟩
  have hres := Lib.hid (show ((q : Int) == (n : Int)) = r by
    have := count_all l
    rw [hq, hlen, hr] at this
    cases r
    · exact decide_eq_false (fun e : (q : Int) = (n : Int) => by have := this.1 (by omega); cases this)
    · exact decide_eq_true (by have := this.2 rfl; omega : (q : Int) = (n : Int)))
  clear hlen
  go_enter Tryz.func87, Tryz.ntmps87
  go_wp2_with fail
  refine (ccount_any A n c l w.heap.size 1 _ (h.below b1) hc).mono ?_
  rw [hq]
  rintro e w2 ⟨rfl, rfl⟩
  go_wp2
  go_ret
  exact ⟨by rw [← hres.out]; rfl, b1⟩
end Go.Proofs.YtgedmodnkiijkaaGreatDoor

namespace Go.Proofs.YtgedmodnkiijkaaGreatDoor
open Go Go.RowKit Go.Proofs

/-- What the code's Read answers, as plain data. -/
def cfin (H : Hd) (addr : Int) : Option (Nd × List UInt8) → Option Nd
  | some (N, r) => if H.kind = (if H.level = 0 then 3 else 4) ∧ H.addr = addr ∧ allZ r = true ∧ N.may = true then some N else none
  | none => none
def creadN (b : List UInt8) (addr : Int) : Option Nd := if opE b = 0 then cfin (opH b) addr (rnTo (opH b).level (opB b) (opH b).count.toNat) else none
def CReadSays (b : List UInt8) (addr : Int) (w : World) (e : Ending) (w' : World) : Prop :=
  ∃ A1 n1 c1 B1 m1 d1, e = .returned (.tuple #[.agg #[.int .i64 ((creadN b addr).getD ⟨0, [], []⟩).lvl, .slice A1 n1 c1, .slice B1 m1 d1], .int .i64 (if (creadN b addr).isSome = true then 0 else 3)]) ∧ n1 ≤ 20 ∧ m1 ≤ 20 ∧
      Itms w' A1 n1 c1 ((creadN b addr).getD ⟨0, [], []⟩).items ∧ Kidl w' B1 m1 d1 ((creadN b addr).getD ⟨0, [], []⟩).kids ∧ Below w.heap.size w w'
/-- .. its rows are new. -/
def CReadOwn (b : List UInt8) (addr : Int) (w : World) (e : Ending) (w' : World) : Prop :=
  ∃ A1 n1 c1 B1 m1 d1, e = .returned (.tuple #[.agg #[.int .i64 ((creadN b addr).getD ⟨0, [], []⟩).lvl, .slice A1 n1 c1, .slice B1 m1 d1], .int .i64 (if (creadN b addr).isSome = true then 0 else 3)]) ∧ n1 ≤ 20 ∧ m1 ≤ 20 ∧
      IRow w' w.heap.size A1 n1 c1 ((creadN b addr).getD ⟨0, [], []⟩).items ∧ OwnS w' w.heap.size 62 4 B1 m1 d1 (((creadN b addr).getD ⟨0, [], []⟩).kids.map Kidd.vs) ∧ Below w.heap.size w w'
theorem CReadOwn.says {b : List UInt8} {addr : Int} {w : World} {e : Ending} {w' : World} (h : CReadOwn b addr w e w') : CReadSays b addr w e w' := by
  obtain ⟨A1, n1, c1, B1, m1, d1, h1, h2, h3, h4, h5, h6⟩ := h
  exact ⟨A1, n1, c1, B1, m1, d1, h1, h2, h3, h4.itms, h5.sls (by omega), h6⟩
theorem IRow.less {w : World} {b base n c : Nat} {A : Option Addr} {xs : List Itm} (h : IRow w base A n c xs) (hb : b ≤ base) : IRow w b A n c xs := by
  obtain ⟨raw, h1, h2, h3⟩ := h
  refine ⟨raw, h1.less hb, h2, fun j r x hr hx => ?_⟩
  obtain ⟨V, p, q, e, hs, hne⟩ := h3 j r x hr hx
  exact ⟨V, p, q, e, hs, fun hl g hg => ⟨Nat.le_trans hb (hne hl g hg).1, (hne hl g hg).2⟩⟩
theorem cown_no {b : List UInt8} {addr : Int} {w w' : World} (h : creadN b addr = none) (hb : Below w.heap.size w w') : CReadOwn b addr w (.returned (.tuple #[.agg #[.int .i64 0, .slice none 0 0, .slice none 0 0], .int .i64 3])) w' := by
  unfold CReadOwn
  rw [h]
  exact ⟨none, 0, 0, none, 0, 0, rfl, by omega, by omega, irow_nil _ _, owns_none _ _ _ _, hb⟩
theorem cown_yes {b : List UInt8} {addr : Int} {N : Nd} {w w' : World} (h : creadN b addr = some N) {A : Option Addr} {n c : Nat} {B : Option Addr} {m d : Nat} (hn : n ≤ 20) (hm : m ≤ 20) (hI : IRow w' w.heap.size A n c N.items) (hK : OwnS w' w.heap.size 62 4 B m d (N.kids.map Kidd.vs)) (hb : Below w.heap.size w w') :
    CReadOwn b addr w (.returned (.tuple #[.agg #[.int .i64 N.lvl, .slice A n c, .slice B m d], .int .i64 0])) w' := by
  unfold CReadOwn
  rw [h]
  exact ⟨A, n, c, B, m, d, rfl, hn, hm, hI, hK, hb⟩
set_option maxRecDepth 100000 in
set_option maxHeartbeats 8000000 in
theorem cread_own (A : Option Addr) (k c : Nat) (b : List UInt8) (addr : Int) (w : World) (hs : Sl w A k c b) (ht : Tab w) :
    Calls Tryz.prog 47 #[.slice A k c, .int .i64 addr] w fun e w' => CReadOwn b addr w e w' := by
  go_enter Tryz.func47, Tryz.ntmps47
  go_wp2_with fail
  have R1 : NB (w.alloc (.cells #[.int .i64 0, .slice none 0 0, .slice none 0 0] 56)) w.heap.size 0 none 0 0 none 0 0 := NB.new w _ _ _ _ _ _ _ _
  have W1 : Below w.heap.size w (w.alloc (.cells #[.int .i64 0, .slice none 0 0, .slice none 0 0] 56)) := (Below.refl _ _).alloc (Nat.le_refl _) _
  generalize w.alloc (.cells #[.int .i64 0, .slice none 0 0, .slice none 0 0] 56) = w1 at R1 W1 ⊢
  have hO := open_any A k c b w1 (hs.below W1) (ht.below W1 ht.1)
  unfold OpenSays Hd.v at hO
  obtain ⟨H, hH⟩ : ∃ H, opH b = H := ⟨_, rfl⟩
  obtain ⟨R, hR⟩ : ∃ R, opB b = R := ⟨_, rfl⟩
  obtain ⟨E, hE⟩ : ∃ E, opE b = E := ⟨_, rfl⟩
  rw [hH, hR, hE] at hO
  refine hO.mono ?_
  clear hO
  rintro e v ⟨A2, n2, c2, rfl, own2, hb2⟩
  have Rv := R1.below hb2 R1.lt
  have Wv := W1.trans (hb2.mono W1.size)
  have bx : Below v.heap.size v (v.alloc (.cells #[.int .i64 H.kind, .int .i64 H.addr, .int .i64 H.count, .int .i64 H.level, .int .i64 H.gen] 133)) := (Below.refl _ _).alloc (Nat.le_refl _) _
  have H3 : HB (v.alloc (.cells #[.int .i64 H.kind, .int .i64 H.addr, .int .i64 H.count, .int .i64 H.level, .int .i64 H.gen] 133)) v.heap.size H := ⟨_, heap_alloc_new v _⟩
  have R3 := Rv.below bx Rv.lt
  have W3 := Wv.trans (bx.mono Wv.size)
  have s3 := own2.sl.below bx
  have zw : w.heap.size < v.heap.size := Rv.lt
  have zv3 : v.heap.size < (v.alloc (.cells #[.int .i64 H.kind, .int .i64 H.addr, .int .i64 H.count, .int .i64 H.level, .int .i64 H.gen] 133)).heap.size := by simp
  by_cases hE0 : E = 0
  · subst hE0
    have hlen : R.length ≤ 236 := by
      cases hb : okB b
      · obtain ⟨_, _, h3⟩ := op_no hb
        rw [h3] at hE; omega
      · obtain ⟨_, h2, _⟩ := op_yes hb
        have := (of_decide_eq_true hb).1
        rw [← hR, h2, List.length_drop]; omega
    have hok := opH_ok hE
    rw [hH] at hok
    have hin : (0 ≤ H.level ∧ H.level ≤ 8) ∧ 0 ≤ H.count ∧ H.count ≤ 65535 := by
      have := of_decide_eq_true hok
      omega
    obtain ⟨⟨hl0, hl8⟩, hc0, hc1⟩ := hin
    have hn2 : n2 ≤ 236 := by have := own2.len; omega
    have Hread := Lib.hid (show creadN b addr = cfin H addr (rnTo H.level R H.count.toNat) by unfold creadN; rw [hE, if_pos rfl, hH, hR])
    have hA2 : ∀ g, blockOf A2 = some g → g < v.heap.size := fun g hg => by
      cases A2 with
      | none => cases hg
      | some ad => have := (own2.block ad rfl).2; have e : ad.block = g := Option.some.inj hg; omega
    clear hok hE hH hR Rv Wv bx own2 hb2
    obtain ⟨kd, ad, ct, lv, gn⟩ := H
    simp only at hl0 hl8 hc0 hc1
    obtain ⟨cnt, rfl⟩ : ∃ cnt : Nat, ct = (cnt : Int) := ⟨ct.toNat, by omega⟩
    obtain ⟨Kb, hKb⟩ : ∃ Kb : Int, (if lv = 0 then 3 else 4) = Kb := ⟨_, rfl⟩
    have Hkb := Lib.hid hKb
    clear hKb
    go_wp2_with fail
    generalize v.alloc (.cells #[.int .i64 kd, .int .i64 ad, .int .i64 (cnt : Int), .int .i64 lv, .int .i64 gn] 133) = w3 at H3 R3 W3 s3 zv3 ⊢
    have y0 := H3.at_ 0
    have y1 := H3.at_ 2
    have y3 := H3.at_ 1
    simp only [foff, Hd.fld] at y0 y1 y3
    have p0 : ∀ u : Grown w3, u.to.cell? ⟨v.heap.size, 0, none⟩ = some (.int .i64 kd) := Grown.cell y0 zv3
    have p1 : ∀ u : Grown w3, u.to.cell? ⟨v.heap.size, 1, none⟩ = some (.int .i64 ad) := Grown.cell y1 zv3
    have p3 : ∀ u : Grown w3, u.to.cell? ⟨v.heap.size, 3, none⟩ = some (.int .i64 lv) := Grown.cell y3 zv3
    clear y0 y1 y3
    by_cases hk : kd = Kb
    · have Hk := Lib.hid hk
      have k1 : (kd == Kb) = true := by simp [hk]
      have k2 : (kd != Kb) = false := by simp [hk]
      clear hk
      by_cases ha : ad = addr
      · have Ha := Lib.hid ha
        have a1 : (ad == addr) = true := by simp [ha]
        have a2 : (ad != addr) = false := by simp [ha]
        clear ha
        refine wp_region_grown (by kernel_rfl) (by kernel_rfl) ?_
        repeat (go_big_quiet_step (first
          | (go_at_call 82; exact Calls.grown_same (cblock_says lv Kb Hkb.out _))
          | fail))
        refine wpQuiet_nil ?_
        rintro _ ⟨u, rfl⟩
        have H4 := H3.below u.ok zv3
        have R4 := R3.below u.ok R3.lt
        have W4 := W3.trans (u.ok.mono W3.size)
        have s4 := s3.below u.ok
        have H4lt : v.heap.size < u.to.heap.size := Nat.lt_of_lt_of_le zv3 u.ok.size
        generalize u.to = w4 at H4 R4 W4 s4 H4lt ⊢
        clear p0 p1 p3 H3 R3 W3 s3 zv3 k1 k2 a1 a2 u
        have y3 := H4.at_ 1
        simp only [foff, Hd.fld] at y3
        by_cases hlv : lv = 0
        · subst hlv
          have HK3 := Lib.hid (show Kb = 3 by rw [← Hkb.out]; rfl)
          go_wp2_with fail
          have N5 : NB (w4.alloc (.cells #[.int .i64 0, .slice none 0 0, .slice none 0 0] 56)) w4.heap.size 0 none 0 0 none 0 0 := NB.new w4 _ _ _ _ _ _ _ _
          have b5 : Below w4.heap.size w4 (w4.alloc (.cells #[.int .i64 0, .slice none 0 0, .slice none 0 0] 56)) := (Below.refl _ _).alloc (Nat.le_refl _) _
          have H5 := H4.below b5 H4lt
          have R5 := R4.below b5 R4.lt
          have W5 := W4.trans (b5.mono W4.size)
          have s5 := s4.below b5
          generalize w4.alloc (.cells #[.int .i64 0, .slice none 0 0, .slice none 0 0] 56) = w5 at N5 b5 H5 R5 W5 s5 ⊢
          obtain ⟨nb, hnb⟩ : ∃ nb, w4.heap.size = nb := ⟨_, rfl⟩
          have hvn : v.heap.size < nb := by rw [← hnb]; exact H4lt
          rw [hnb] at N5 ⊢
          clear hnb b5 H4 R4 W4 s4 H4lt
          refine (cleaf_any 0 true rfl none 0 0 none 0 0 w5).mono ?_
          rintro e w6 ⟨rfl, hb6⟩
          have N6 := N5.below hb6 N5.lt
          have H6 := H5.below hb6 (by have := N5.lt; omega)
          have R6 := R5.below hb6 R5.lt
          have W6 := W5.trans (hb6.mono W5.size)
          have s6 := s5.below hb6
          have y2 := H6.at_ 3
          simp only [foff, Hd.fld] at y2
          clear N5 H5 R5 W5 s5 hb6
          go_wp2_with fail
          refine (ctakeI_any R cnt A2 n2 c2 w6 s6 (by omega) (by omega)).mono ?_
          rintro e w7 (⟨xs, r, A1, c1, A4, n4, c4, hrn, rfl, hc1000, row, s7, hfar, hb7⟩ | ⟨E, hE, hrn, rfl, hb7⟩)
          · have hrd := Lib.hid (show creadN b addr = (if allZ r = true ∧ (⟨0, xs, []⟩ : Nd).may = true then some (⟨0, xs, []⟩ : Nd) else none) by
                rw [Hread.out]
                show cfin ⟨kd, ad, (cnt : Int), 0, gn⟩ addr (rnTo 0 R (cnt : Int).toNat) = _
                rw [Int.toNat_natCast, hrn]
                show (if kd = (if (0 : Int) = 0 then 3 else 4) ∧ ad = addr ∧ allZ r = true ∧ (⟨0, xs, []⟩ : Nd).may = true then some (⟨0, xs, []⟩ : Nd) else none) = _
                rw [if_pos (rfl : (0 : Int) = 0), ← HK3.out]
                by_cases hz : allZ r = true ∧ (⟨0, xs, []⟩ : Nd).may = true
                · rw [if_pos hz, if_pos ⟨Hk.out, Ha.out, hz⟩]
                · rw [if_neg hz, if_neg (fun h => hz h.2.2)])
            have N7 := N6.below hb7 N6.lt
            have R7 := R6.below hb7 R6.lt
            have W7 := W6.trans (hb7.mono W6.size)
            have z6 : nb < w6.heap.size := N6.lt
            have f1 := N7.fz 1
            have g1 := N7.c1
            have TS : Turn (fun g => g = nb) w7 (w7.setCell ⟨nb, 1, none⟩ (.slice A1 cnt c1)) := turn_setCell (a := ⟨nb, 1, none⟩) _ rfl
            have N8 := N7.set1 A1 cnt c1
            have R8 := R7.keep (TS.block w.heap.size R7.lt (by show ¬ w.heap.size = nb; omega))
            have row8 := row.low TS (fun k hk => by have : k = nb := hk; omega)
            have s8 := s7.turned TS (fun g hg e => by
              have h2 : g = nb := e
              rcases hfar g hg with h1 | h1
              · have := hA2 g h1; omega
              · omega)
            have W8 := W7.trans (TS.below (B := w.heap.size) (fun x hx => by have : x = nb := hx; omega) (by have := W7.size; omega))
            clear N6 R6 W6 s6 H6 hb7 N7 R7 W7 row s7 hfar hrn y2
            go_wp2_with fail
            generalize w7.setCell ⟨nb, 1, none⟩ (.slice A1 cnt c1) = w8 at N8 R8 row8 s8 W8 TS ⊢
            clear TS f1 g1
            cases hz : allZ r
            · refine (cnoughts_any A4 n4 c4 r false hz w8 s8).mono ?_
              rintro e w9 ⟨rfl, hb9⟩
              have R9 := R8.below hb9 R8.lt
              have W9 := W8.trans (hb9.mono W8.size)
              have hno := Lib.hid (hrd.out.trans (if_neg (fun h => by rw [hz] at h; exact absurd h.1 (by simp))))
              clear hz hrd
              go_wp2_with (first
                | (refine wp_store_nd rfl (.tmp 4) (.tmp 68) rfl w.heap.size rfl 0 none 0 0 none 0 0 rfl R9 ?_; intro wz Rz Tz)
                | fail)
              refine bodyPost_ret (res_c2 Tryz.results47 rfl (load_nd Rz)) rfl ?_
              exact cown_no hno.out (W9.trans (Tz.belowOne R9.lt))
            · refine (cnoughts_any A4 n4 c4 r true hz w8 s8).mono ?_
              rintro e w9 ⟨rfl, hb9⟩
              have N9 := N8.below hb9 N8.lt
              have R9 := R8.below hb9 R8.lt
              have row9 := row8.below hb9
              have W9 := W8.trans (hb9.mono W8.size)
              have q0 := N9.c0
              have q1 := N9.c1
              have q2 := N9.c2
              have Hz := Lib.hid hz
              clear hz N8 R8 row8 s8 W8 hb9
              go_wp2_with fail
              cases hm : (⟨0, xs, []⟩ : Nd).may
              · refine (cnmay_any ⟨0, xs, []⟩ false hm A1 cnt c1 none 0 0 w9 row9.itms (kidl_nil w9) (by omega) (by omega)).mono ?_
                rintro e wA ⟨rfl, hbA⟩
                have RA := R9.below hbA R9.lt
                have WA := W9.trans (hbA.mono W9.size)
                have hno := Lib.hid (hrd.out.trans (if_neg (fun h => by rw [hm] at h; exact absurd h.2 (by simp))))
                clear hm hrd q0 q1 q2
                go_wp2_with (first
                  | (refine wp_store_nd rfl (.tmp 4) (.tmp 68) rfl w.heap.size rfl 0 none 0 0 none 0 0 rfl RA ?_; intro wz Rz Tz)
                  | fail)
                refine bodyPost_ret (res_c2 Tryz.results47 rfl (load_nd Rz)) rfl ?_
                exact cown_no hno.out (WA.trans (Tz.belowOne RA.lt))
              · refine (cnmay_any ⟨0, xs, []⟩ true hm A1 cnt c1 none 0 0 w9 row9.itms (kidl_nil w9) (by omega) (by omega)).mono ?_
                rintro e wA ⟨rfl, hbA⟩
                have RA := R9.below hbA R9.lt
                have NA := N9.below hbA N9.lt
                have rowA := row9.below hbA
                have WA := W9.trans (hbA.mono W9.size)
                have hyes := Lib.hid (hrd.out.trans (if_pos (And.intro Hz.out hm)))
                have hsz := may_sizes hm
                have hc20 : cnt ≤ 20 := by have h1 := hsz.1; have h2 := rowA.itms.len; have h3 : xs.length ≤ 6 := h1; omega
                have q0 := NA.c0
                have q1 := NA.c1
                have q2 := NA.c2
                clear hm hrd hsz
                go_wp2_with (first
                  | (refine wp_store_nd rfl (.tmp 4) (.tmp 69) rfl w.heap.size rfl 0 A1 cnt c1 none 0 0 rfl RA ?_; intro wz Rz Tz)
                  | fail)
                refine bodyPost_ret (res_c2 Tryz.results47 rfl (load_nd Rz)) rfl ?_
                have rowz := rowA.low Tz (fun k hk => by have : k = w.heap.size := hk; omega)
                exact cown_yes hyes.out hc20 (by omega) (rowz.less (by omega)) (owns_none _ _ _ _) (WA.trans (Tz.belowOne RA.lt))
          · have hno := Lib.hid (show creadN b addr = none by
                rw [Hread.out]
                show cfin ⟨kd, ad, (cnt : Int), 0, gn⟩ addr (rnTo 0 R (cnt : Int).toNat) = none
                rw [Int.toNat_natCast, hrn]; rfl)
            have N7 := N6.below hb7 N6.lt
            have R7 := R6.below hb7 R6.lt
            have W7 := W6.trans (hb7.mono W6.size)
            have f1 := N7.fz 1
            have g1 := N7.c1
            have TS : Turn (fun g => g = nb) w7 (w7.setCell ⟨nb, 1, none⟩ (.slice none 0 0)) := turn_setCell (a := ⟨nb, 1, none⟩) _ rfl
            have R8 := R7.keep (TS.block w.heap.size R7.lt (by show ¬ w.heap.size = nb; omega))
            have W8 := W7.trans (TS.below (B := w.heap.size) (fun x hx => by have : x = nb := hx; omega) (by have := W7.size; omega))
            have hE1 : decide (E = 0) = false := decide_eq_false hE
            have hE2 : (E == 0) = false := by simp [hE]
            have hE3 : (E != 0) = true := by simp [hE]
            clear N6 R6 W6 s6 H6 hb7 N7 R7 W7 hrn y2 TS
            go_wp2_with (first
              | (refine wp_store_nd rfl (.tmp 4) (.tmp 68) rfl w.heap.size rfl 0 none 0 0 none 0 0 rfl R8 ?_; intro wz Rz Tz)
              | fail)
            refine bodyPost_ret (res_c2 Tryz.results47 rfl (load_nd Rz)) rfl ?_
            exact cown_no hno.out (W8.trans (Tz.belowOne R8.lt))
        · have hlvb : decide (lv = 0) = false := decide_eq_false hlv
          go_wp2_with fail
          have N5 : NB (w4.alloc (.cells #[.int .i64 lv, .slice none 0 0, .slice none 0 0] 56)) w4.heap.size lv none 0 0 none 0 0 := NB.new w4 _ _ _ _ _ _ _ _
          have b5 : Below w4.heap.size w4 (w4.alloc (.cells #[.int .i64 lv, .slice none 0 0, .slice none 0 0] 56)) := (Below.refl _ _).alloc (Nat.le_refl _) _
          have H5 := H4.below b5 H4lt
          have R5 := R4.below b5 R4.lt
          have W5 := W4.trans (b5.mono W4.size)
          have s5 := s4.below b5
          generalize w4.alloc (.cells #[.int .i64 lv, .slice none 0 0, .slice none 0 0] 56) = w5 at N5 b5 H5 R5 W5 s5 ⊢
          obtain ⟨nb, hnb⟩ : ∃ nb, w4.heap.size = nb := ⟨_, rfl⟩
          have hvn : v.heap.size < nb := by rw [← hnb]; exact H4lt
          rw [hnb] at N5 ⊢
          clear hnb b5 H4 R4 W4 s4 H4lt
          refine (cleaf_any lv false (decide_eq_false hlv) none 0 0 none 0 0 w5).mono ?_
          rintro e w6 ⟨rfl, hb6⟩
          have N6 := N5.below hb6 N5.lt
          have H6 := H5.below hb6 (by have := N5.lt; omega)
          have R6 := R5.below hb6 R5.lt
          have W6 := W5.trans (hb6.mono W5.size)
          have s6 := s5.below hb6
          have y2 := H6.at_ 3
          simp only [foff, Hd.fld] at y2
          clear N5 H5 R5 W5 s5 hb6
          go_wp2_with fail
          refine (ctakeK_any lv hlv R cnt A2 n2 c2 w6 s6 (by omega) (by omega)).mono ?_
          rintro e w7 (⟨xs, r, A1, c1, A4, n4, c4, hrn, rfl, hc1000, row, s7, hfar, hb7⟩ | ⟨E, hE, hrn, rfl, hb7⟩)
          · have hrd := Lib.hid (show creadN b addr = (if allZ r = true ∧ (⟨lv, [], xs⟩ : Nd).may = true then some (⟨lv, [], xs⟩ : Nd) else none) by
                rw [Hread.out]
                show cfin ⟨kd, ad, (cnt : Int), lv, gn⟩ addr (rnTo lv R (cnt : Int).toNat) = _
                rw [Int.toNat_natCast, hrn]
                show (if kd = (if (lv : Int) = 0 then 3 else 4) ∧ ad = addr ∧ allZ r = true ∧ (⟨lv, [], xs⟩ : Nd).may = true then some (⟨lv, [], xs⟩ : Nd) else none) = _
                rw [Hkb.out]
                by_cases hz : allZ r = true ∧ (⟨lv, [], xs⟩ : Nd).may = true
                · rw [if_pos hz, if_pos ⟨Hk.out, Ha.out, hz⟩]
                · rw [if_neg hz, if_neg (fun h => hz h.2.2)])
            have N7 := N6.below hb7 N6.lt
            have R7 := R6.below hb7 R6.lt
            have W7 := W6.trans (hb7.mono W6.size)
            have z6 : nb < w6.heap.size := N6.lt
            have f1 := N7.fz 2
            have g1 := N7.c2
            have TS : Turn (fun g => g = nb) w7 (w7.setCell ⟨nb, 2, none⟩ (.slice A1 cnt c1)) := turn_setCell (a := ⟨nb, 2, none⟩) _ rfl
            have N8 := N7.set2 A1 cnt c1
            have R8 := R7.keep (TS.block w.heap.size R7.lt (by show ¬ w.heap.size = nb; omega))
            have row8 := row.turned TS (fun k hk e => by have h1 := (row.blockLt k hk).1; have h2 : k = nb := e; omega)
            have s8 := s7.turned TS (fun g hg e => by
              have h2 : g = nb := e
              rcases hfar g hg with h1 | h1
              · have := hA2 g h1; omega
              · omega)
            have W8 := W7.trans (TS.below (B := w.heap.size) (fun x hx => by have : x = nb := hx; omega) (by have := W7.size; omega))
            clear N6 R6 W6 s6 H6 hb7 N7 R7 W7 row s7 hfar hrn y2
            go_wp2_with fail
            generalize w7.setCell ⟨nb, 2, none⟩ (.slice A1 cnt c1) = w8 at N8 R8 row8 s8 W8 TS ⊢
            clear TS f1 g1
            cases hz : allZ r
            · refine (cnoughts_any A4 n4 c4 r false hz w8 s8).mono ?_
              rintro e w9 ⟨rfl, hb9⟩
              have R9 := R8.below hb9 R8.lt
              have W9 := W8.trans (hb9.mono W8.size)
              have hno := Lib.hid (hrd.out.trans (if_neg (fun h => by rw [hz] at h; exact absurd h.1 (by simp))))
              clear hz hrd
              go_wp2_with (first
                | (refine wp_store_nd rfl (.tmp 4) (.tmp 68) rfl w.heap.size rfl 0 none 0 0 none 0 0 rfl R9 ?_; intro wz Rz Tz)
                | fail)
              refine bodyPost_ret (res_c2 Tryz.results47 rfl (load_nd Rz)) rfl ?_
              exact cown_no hno.out (W9.trans (Tz.belowOne R9.lt))
            · refine (cnoughts_any A4 n4 c4 r true hz w8 s8).mono ?_
              rintro e w9 ⟨rfl, hb9⟩
              have N9 := N8.below hb9 N8.lt
              have R9 := R8.below hb9 R8.lt
              have row9 := row8.below hb9
              have W9 := W8.trans (hb9.mono W8.size)
              have q0 := N9.c0
              have q1 := N9.c1
              have q2 := N9.c2
              have Hz := Lib.hid hz
              clear hz N8 R8 row8 s8 W8 hb9
              go_wp2_with fail
              cases hm : (⟨lv, [], xs⟩ : Nd).may
              · refine (cnmay_any ⟨lv, [], xs⟩ false hm none 0 0 A1 cnt c1 w9 (itms_nil w9) (show Kidl _ _ _ _ _ from row9.sls (by omega)) (by omega) (by omega)).mono ?_
                rintro e wA ⟨rfl, hbA⟩
                have RA := R9.below hbA R9.lt
                have WA := W9.trans (hbA.mono W9.size)
                have hno := Lib.hid (hrd.out.trans (if_neg (fun h => by rw [hm] at h; exact absurd h.2 (by simp))))
                clear hm hrd q0 q1 q2
                go_wp2_with (first
                  | (refine wp_store_nd rfl (.tmp 4) (.tmp 68) rfl w.heap.size rfl 0 none 0 0 none 0 0 rfl RA ?_; intro wz Rz Tz)
                  | fail)
                refine bodyPost_ret (res_c2 Tryz.results47 rfl (load_nd Rz)) rfl ?_
                exact cown_no hno.out (WA.trans (Tz.belowOne RA.lt))
              · refine (cnmay_any ⟨lv, [], xs⟩ true hm none 0 0 A1 cnt c1 w9 (itms_nil w9) (show Kidl _ _ _ _ _ from row9.sls (by omega)) (by omega) (by omega)).mono ?_
                rintro e wA ⟨rfl, hbA⟩
                have RA := R9.below hbA R9.lt
                have NA := N9.below hbA N9.lt
                have rowA := row9.below hbA
                have WA := W9.trans (hbA.mono W9.size)
                have hyes := Lib.hid (hrd.out.trans (if_pos (And.intro Hz.out hm)))
                have hsz := may_sizes hm
                have hc20 : cnt ≤ 20 := by have h1 := hsz.2.1; have h2 := (show Kidl _ _ _ _ xs from rowA.sls (by omega)).len; have h3 : xs.length ≤ 12 := h1; omega
                have q0 := NA.c0
                have q1 := NA.c1
                have q2 := NA.c2
                clear hm hrd hsz
                go_wp2_with (first
                  | (refine wp_store_nd rfl (.tmp 4) (.tmp 69) rfl w.heap.size rfl lv none 0 0 A1 cnt c1 rfl RA ?_; intro wz Rz Tz)
                  | fail)
                refine bodyPost_ret (res_c2 Tryz.results47 rfl (load_nd Rz)) rfl ?_
                have rowz := rowA.turned Tz (fun k hk e => by have h1 := (rowA.blockLt k hk).1; have h2 : k = w.heap.size := e; omega)
                exact cown_yes hyes.out (by omega) hc20 (irow_nil _ _) (OwnS.less rowz (by omega)) (WA.trans (Tz.belowOne RA.lt))
          · have hno := Lib.hid (show creadN b addr = none by
                rw [Hread.out]
                show cfin ⟨kd, ad, (cnt : Int), lv, gn⟩ addr (rnTo lv R (cnt : Int).toNat) = none
                rw [Int.toNat_natCast, hrn]; rfl)
            have N7 := N6.below hb7 N6.lt
            have R7 := R6.below hb7 R6.lt
            have W7 := W6.trans (hb7.mono W6.size)
            have f1 := N7.fz 2
            have g1 := N7.c2
            have TS : Turn (fun g => g = nb) w7 (w7.setCell ⟨nb, 2, none⟩ (.slice none 0 0)) := turn_setCell (a := ⟨nb, 2, none⟩) _ rfl
            have R8 := R7.keep (TS.block w.heap.size R7.lt (by show ¬ w.heap.size = nb; omega))
            have W8 := W7.trans (TS.below (B := w.heap.size) (fun x hx => by have : x = nb := hx; omega) (by have := W7.size; omega))
            have hE1 : decide (E = 0) = false := decide_eq_false hE
            have hE2 : (E == 0) = false := by simp [hE]
            have hE3 : (E != 0) = true := by simp [hE]
            clear N6 R6 W6 s6 H6 hb7 N7 R7 W7 hrn y2 TS
            go_wp2_with (first
              | (refine wp_store_nd rfl (.tmp 4) (.tmp 68) rfl w.heap.size rfl 0 none 0 0 none 0 0 rfl R8 ?_; intro wz Rz Tz)
              | fail)
            refine bodyPost_ret (res_c2 Tryz.results47 rfl (load_nd Rz)) rfl ?_
            exact cown_no hno.out (W8.trans (Tz.belowOne R8.lt))
      · have hno := Lib.hid (show creadN b addr = none by
          rw [Hread.out]
          cases rnTo lv R (cnt : Int).toNat with
          | none => rfl
          | some x => exact if_neg (fun h => ha h.2.1))
        have a1 : (ad == addr) = false := by simp [ha]
        have a2 : (ad != addr) = true := by simp [ha]
        clear ha
        refine wp_region_grown (by kernel_rfl) (by kernel_rfl) ?_
        repeat (go_big_quiet_step (first
          | (go_at_call 82; exact Calls.grown_same (cblock_says lv Kb Hkb.out _))
          | fail))
        refine wpQuiet_nil ?_
        rintro _ ⟨u, rfl⟩
        have R4 := R3.below u.ok R3.lt
        have W4 := W3.trans (u.ok.mono W3.size)
        clear p0 p1 p3
        go_wp2_with (first
          | (refine wp_store_nd rfl (.tmp 4) (.tmp 32) rfl w.heap.size rfl 0 none 0 0 none 0 0 rfl R4 ?_; intro wz Rz Tz)
          | fail)
        refine bodyPost_ret (res_c2 Tryz.results47 rfl (load_nd Rz)) rfl ?_
        exact cown_no hno.out (W4.trans (Tz.belowOne R4.lt))
    · have hno := Lib.hid (show creadN b addr = none by
        rw [Hread.out]
        cases rnTo lv R (cnt : Int).toNat with
        | none => rfl
        | some x => exact if_neg (fun h => hk (h.1.trans Hkb.out)))
      have k1 : (kd == Kb) = false := by simp [hk]
      have k2 : (kd != Kb) = true := by simp [hk]
      clear hk
      refine wp_region_grown (by kernel_rfl) (by kernel_rfl) ?_
      repeat (go_big_quiet_step (first
        | (go_at_call 82; exact Calls.grown_same (cblock_says lv Kb Hkb.out _))
        | fail))
      refine wpQuiet_nil ?_
      rintro _ ⟨u, rfl⟩
      have R4 := R3.below u.ok R3.lt
      have W4 := W3.trans (u.ok.mono W3.size)
      clear p0 p1 p3
      go_wp2_with (first
        | (refine wp_store_nd rfl (.tmp 4) (.tmp 32) rfl w.heap.size rfl 0 none 0 0 none 0 0 rfl R4 ?_; intro wz Rz Tz)
        | fail)
      refine bodyPost_ret (res_c2 Tryz.results47 rfl (load_nd Rz)) rfl ?_
      exact cown_no hno.out (W4.trans (Tz.belowOne R4.lt))
  · have hno := Lib.hid (show creadN b addr = none by unfold creadN; rw [hE, if_neg hE0])
    have hE1 : decide (E = 0) = false := decide_eq_false hE0
    have hE2 : (E == 0) = false := by simp [hE0]
    have hE3 : (E != 0) = true := by simp [hE0]
    clear hE0 hE hH hR Rv Wv
    go_wp2_with fail
    generalize v.alloc (.cells #[.int .i64 H.kind, .int .i64 H.addr, .int .i64 H.count, .int .i64 H.level, .int .i64 H.gen] 133) = w3 at H3 R3 W3 s3 zv3 ⊢
    refine wp_region_grown (by kernel_rfl) (by kernel_rfl) ?_
    repeat (go_big_quiet_step (fail))
    refine wpQuiet_nil ?_
    rintro _ ⟨u, rfl⟩
    have R4 := R3.below u.ok R3.lt
    have W4 := W3.trans (u.ok.mono W3.size)
    go_wp2_with (first
      | (refine wp_store_nd rfl (.tmp 4) (.tmp 32) rfl w.heap.size rfl 0 none 0 0 none 0 0 rfl R4 ?_; intro wz Rz Tz)
      | fail)
    refine bodyPost_ret (res_c2 Tryz.results47 rfl (load_nd Rz)) rfl ?_
    exact cown_no hno.out (W4.trans (Tz.belowOne R4.lt))
end Go.Proofs.YtgedmodnkiijkaaGreatDoor

namespace Go.Proofs.YtgedmodnkiijkaaGreatDoor
open Go Go.RowKit Go.Proofs

theorem tt_back (v l : List UInt8) (hv : v.length ≤ 255) : ttS (dig (v.length : Int) 1 ++ (v ++ l)) = v ∧ ttR (dig (v.length : Int) 1 ++ (v ++ l)) = l ∧ ttE (dig (v.length : Int) 1 ++ (v ++ l)) = 0 := by
  have e1 : (dig (v.length : Int) 1 ++ (v ++ l)).take 1 = dig (v.length : Int) 1 := List.take_left' (dig_len _ _)
  have e2 : (dig (v.length : Int) 1 ++ (v ++ l)).drop 1 = v ++ l := List.drop_left' (dig_len _ _)
  have e3 : numL (dig (v.length : Int) 1) = v.length := by rw [numL_dig', Nat.mod_eq_of_lt (by omega)]
  have hy : ttY (dig (v.length : Int) 1 ++ (v ++ l)) = true := by
    refine decide_eq_true ?_
    rw [e1, e3]
    simp [dig_len]
  unfold ttS ttR ttE bodyT restT
  rw [if_pos hy, if_pos hy, if_pos hy, e1, e3, e2, ← List.drop_drop, e2]
  exact ⟨List.take_left' rfl, List.drop_left' rfl, rfl⟩
theorem t2_back (a : Int) (l : List UInt8) (h0 : 0 ≤ a) (h1 : a < 65536) : t2V (dig a 2 ++ l) = a ∧ t2R (dig a 2 ++ l) = l ∧ t2E (dig a 2 ++ l) = 0 := by
  have hy : t2Y (dig a 2 ++ l) = true := decide_eq_true (by rw [List.length_append, dig_len]; omega)
  unfold t2V t2R t2E
  rw [if_pos hy, if_pos hy, if_pos hy, List.take_left' (dig_len _ _), List.drop_left' (dig_len _ _), numL_one a 2 h0 (by omega)]
  exact ⟨rfl, rfl, rfl⟩
theorem step_it_back (xs : List Itm) (x : Itm) (l : List UInt8) (hk : x.k.may = true) (hv : x.v.length ≤ 28) : rnStep ⟨0, xs, []⟩ (itBytes x ++ l) = some (⟨0, xs ++ [x], []⟩, l) := by
  have e : itBytes x ++ l = x.k.bytes ++ (dig (x.v.length : Int) 1 ++ (x.v ++ l)) := by unfold itBytes; simp
  obtain ⟨a1, a2, a3⟩ := kt_back x.k hk (dig (x.v.length : Int) 1 ++ (x.v ++ l))
  obtain ⟨b1, b2, b3⟩ := tt_back x.v l (by omega)
  rw [e]
  unfold rnStep
  rw [a1, a2, a3, b1, b2, b3, if_pos rfl, if_pos rfl, if_pos rfl]
theorem step_kid_back (lv : Int) (hl : lv ≠ 0) (xs : List Kidd) (x : Kidd) (l : List UInt8) (hk : x.k.may = true) (h0 : 0 ≤ x.a) (h1 : x.a < 65536) : rnStep ⟨lv, [], xs⟩ (kidBytes x ++ l) = some (⟨lv, [], xs ++ [x]⟩, l) := by
  have e : kidBytes x ++ l = x.k.bytes ++ (dig x.a 2 ++ l) := by unfold kidBytes; simp
  obtain ⟨a1, a2, a3⟩ := kt_back x.k hk (dig x.a 2 ++ l)
  obtain ⟨b1, b2, b3⟩ := t2_back x.a l h0 h1
  rw [e]
  unfold rnStep
  rw [a1, a2, a3, b1, b2, b3, if_pos rfl, if_neg hl, if_pos rfl]
theorem rn_items (xs : List Itm) (z : List UInt8) (hk : ∀ j, j < xs.length → (itAt xs j).k.may = true ∧ (itAt xs j).v.length ≤ 28) : ∀ j, j ≤ xs.length → rnTo 0 (xs.flatMap itBytes ++ z) j = some (⟨0, xs.take j, []⟩, (xs.drop j).flatMap itBytes ++ z)
  | 0, _ => rfl
  | j + 1, hj => by
    have ih := rn_items xs z hk j (by omega)
    rw [rnTo_next _ _ _ _ _ ih]
    have hx := itAt_get (show j < xs.length by omega)
    have hd : xs.drop j = itAt xs j :: xs.drop (j + 1) := by
      rw [← List.getElem_cons_drop (h := by omega)]
      rw [List.getElem?_eq_getElem (by omega)] at hx
      rw [Option.some.inj hx]
    obtain ⟨h1, h2⟩ := hk j (by omega)
    rw [hd, List.flatMap_cons, List.append_assoc, step_it_back _ _ _ h1 h2]
    have ht : xs.take (j + 1) = xs.take j ++ [itAt xs j] := by
      rw [List.take_succ_eq_append_getElem (by omega)]
      rw [List.getElem?_eq_getElem (by omega)] at hx
      rw [Option.some.inj hx]
    rw [ht]
theorem rn_kids (lv : Int) (hl : lv ≠ 0) (xs : List Kidd) (z : List UInt8) (hk : ∀ j, j < xs.length → (kidAt xs j).k.may = true ∧ 0 ≤ (kidAt xs j).a ∧ (kidAt xs j).a < 65536) : ∀ j, j ≤ xs.length → rnTo lv (xs.flatMap kidBytes ++ z) j = some (⟨lv, [], xs.take j⟩, (xs.drop j).flatMap kidBytes ++ z)
  | 0, _ => rfl
  | j + 1, hj => by
    have ih := rn_kids lv hl xs z hk j (by omega)
    rw [rnTo_next _ _ _ _ _ ih]
    have hx := kidAt_get (show j < xs.length by omega)
    have hd : xs.drop j = kidAt xs j :: xs.drop (j + 1) := by
      rw [← List.getElem_cons_drop (h := by omega)]
      rw [List.getElem?_eq_getElem (by omega)] at hx
      rw [Option.some.inj hx]
    obtain ⟨h1, h2, h3⟩ := hk j (by omega)
    rw [hd, List.flatMap_cons, List.append_assoc, step_kid_back lv hl _ _ _ h1 h2 h3]
    have ht : xs.take (j + 1) = xs.take j ++ [kidAt xs j] := by
      rw [List.take_succ_eq_append_getElem (by omega)]
      rw [List.getElem?_eq_getElem (by omega)] at hx
      rw [Option.some.inj hx]
    rw [ht]
/-- A node's body is read as the node. -/
theorem rn_back {N : Nd} (hm : N.may = true) (z : List UInt8) : rnTo N.lvl (N.body ++ z) (N.items.length + N.kids.length) = some (N, z) := by
  have hfit := may_fit hm
  obtain ⟨l, its, ks⟩ := N
  by_cases hl : l = 0
  · subst hl
    have hk : ks = [] := hfit.1 rfl
    subst hk
    have hmm := hm
    rw [may_leaf _ rfl rfl] at hm
    unfold mayI at hm
    rw [Bool.and_eq_true] at hm
    have h2 := all_iff.1 hm.2
    have := rn_items its z (fun j hj => by
      have h3 := h2 j hj
      unfold okI riseOk fitI at h3
      rw [Bool.and_eq_true, Bool.and_eq_true, keyAt_it] at h3
      exact ⟨h3.1.1, of_decide_eq_true h3.2⟩) its.length (Nat.le_refl _)
    unfold Nd.body
    simp only [List.flatMap_nil, List.append_nil, List.length_nil, Nat.add_zero]
    rw [this, List.take_length, List.drop_length]
    rfl
  · have hi : its = [] := hfit.2 hl
    subst hi
    have hx : 1 ≤ l ∧ l ≤ 7 := by
      unfold Nd.may at hm
      rw [if_neg hl, Bool.and_eq_true, Bool.and_eq_true] at hm
      have h := of_decide_eq_true hm.2.2
      exact ⟨h.1, Int.lt_add_one_iff.1 h.2.1⟩
    rw [may_inner _ hl hx rfl] at hm
    unfold mayK at hm
    rw [Bool.and_eq_true] at hm
    have h2 := all_iff.1 hm.2
    have := rn_kids l hl ks z (fun j hj => by
      have h3 := h2 j hj
      unfold okK riseOk fitK at h3
      rw [Bool.and_eq_true, Bool.and_eq_true, keyAt_kid] at h3
      have h4 : 1 ≤ (kidAt ks j).a ∧ (kidAt ks j).a ≤ 2047 := of_decide_eq_true h3.2
      exact ⟨h3.1.1, by omega, by omega⟩) ks.length (Nat.le_refl _)
    unfold Nd.body
    simp only [List.flatMap_nil, List.nil_append, List.length_nil, Nat.zero_add]
    rw [this, List.take_length, List.drop_length]
    rfl
theorem head_kind (N : Nd) (h0 : 0 ≤ N.lvl) : (if 0 < N.lvl then (4 : Int) else 3) = (if N.lvl = 0 then 3 else 4) := by
  by_cases h : N.lvl = 0
  · rw [if_pos h, if_neg (by omega)]
  · rw [if_neg h, if_pos (by omega)]
theorem blk_pad (h : Hd) (l r : List UInt8) (hr : allZ r = true) (hl : l.length + r.length = 236) : blkL h l = blkL h (l ++ r) := by
  have e : restL h l = restL h (l ++ r) := by
    unfold restL
    have z := allZ_rep hr
    rw [show 236 - (l ++ r).length = 0 by rw [List.length_append]; omega, show 236 - l.length = r.length by omega, ← z]
    simp
  unfold blkL
  rw [e]
theorem allZ_zeros (n : Nat) : allZ (List.replicate n 0) = true := by
  unfold allZ
  rw [List.all_eq_true]
  intro x hx
  rw [(List.mem_replicate.1 hx).2]
  rfl
/-- A block that was written is read as the node, at its address alone. -/
theorem cread_back {N : Nd} {addr gen : Int} (hm : N.may = true) (hE : writeE N addr gen = 0) (a2 : Int) : creadN (writeB N addr gen) a2 = if addr = a2 then some N else none := by
  unfold writeE at hE
  rw [if_pos hm] at hE
  obtain ⟨hok, hl, hB⟩ := run_take_seal _ _ hE
  unfold writeB
  rw [if_pos hm, hB]
  obtain ⟨o1, o2, o3⟩ := blk_open _ _ hok hl
  obtain ⟨_, _, _, h0⟩ := may_sizes hm
  unfold creadN
  rw [if_pos o3, o1, o2]
  have hc : (N.head addr gen).count.toNat = N.items.length + N.kids.length := by unfold Nd.head; dsimp only; omega
  have hlv : (N.head addr gen).level = N.lvl := rfl
  rw [hc, hlv, rn_back hm]
  unfold cfin
  dsimp only
  by_cases ha : addr = a2
  · have hk : (N.head addr gen).kind = (if (N.head addr gen).level = 0 then 3 else 4) := head_kind N h0
    rw [if_pos ha, if_pos ⟨hk, ha, allZ_zeros _, hm⟩]
  · rw [if_neg ha, if_neg (fun h => ha h.2.1)]
end Go.Proofs.YtgedmodnkiijkaaGreatDoor

namespace Go.Proofs.YtgedmodnkiijkaaGreatDoor
open Go Go.RowKit Go.Proofs

theorem body_le {N : Nd} (hm : N.may = true) : N.body.length ≤ 236 := by
  obtain ⟨h1, h2, h3, _⟩ := may_sizes hm
  have fI : ∀ xs : List Itm, (∀ j, j < xs.length → (itAt xs j).v.length ≤ 28) → (xs.flatMap itBytes).length ≤ 38 * xs.length := by
    intro xs
    induction xs with
    | nil => intro _; simp
    | cons x xs ih =>
      intro h
      have hx : x.v.length ≤ 28 := h 0 (by simp)
      have := ih (fun j hj => h (j + 1) (by simp; omega))
      rw [List.flatMap_cons, List.length_append, List.length_cons]
      have e : (itBytes x).length = 10 + x.v.length := by unfold itBytes; rw [List.length_append, List.length_append, Kd.bytes_len, dig_len]; omega
      omega
  have fK : ∀ xs : List Kidd, (xs.flatMap kidBytes).length = 11 * xs.length := by
    intro xs
    induction xs with
    | nil => simp
    | cons x xs ih =>
      rw [List.flatMap_cons, List.length_append, List.length_cons, ih]
      have e : (kidBytes x).length = 11 := by unfold kidBytes; rw [List.length_append, Kd.bytes_len, dig_len]
      omega
  have hfit := may_fit hm
  have a1 := fI N.items h3
  have a2 := fK N.kids
  unfold Nd.body
  rw [List.length_append]
  by_cases hl : N.lvl = 0
  · rw [hfit.1 hl]
    simp only [List.flatMap_nil, List.length_nil]
    omega
  · rw [hfit.2 hl]
    simp only [List.flatMap_nil, List.length_nil]
    omega
theorem back_err {N : Nd} {addr gen : Int} (hm : N.may = true) (hE : ¬ writeE N addr gen = 0) : writeE N addr gen = 1 ∧ (addr < 0 ∨ 2048 ≤ addr ∨ gen < 0 ∨ 1099511627775 < gen) := by
  unfold writeE at hE ⊢
  rw [if_pos hm] at hE ⊢
  have hb := body_le hm
  unfold sealE at hE ⊢
  by_cases hok : (N.head addr gen).ok = true
  · rw [if_pos hok, if_pos hb] at hE
    exact absurd rfl hE
  · rw [if_neg hok]
    refine ⟨rfl, ?_⟩
    obtain ⟨h1, h2, _, h4⟩ := may_sizes hm
    have h5 : N.lvl ≤ 7 := by
      unfold Nd.may at hm
      split at hm
      · omega
      · rw [Bool.and_eq_true, Bool.and_eq_true] at hm
        have := of_decide_eq_true hm.2.2
        omega
    refine Classical.byContradiction fun hno => hok (decide_eq_true ?_)
    unfold Nd.head
    dsimp only
    refine ⟨?_, ?_, ?_, ?_, ?_⟩
    all_goals first | omega | (split <;> omega)
end Go.Proofs.YtgedmodnkiijkaaGreatDoor

namespace Go.Proofs.YtgedmodnkiijkaaGreatDoor
open Go Go.RowKit Go.Proofs

theorem refleast_says (N : Nd) (z : Kd) (hz : N.least = z) (A : Option Addr) (n c : Nat) (B : Option Addr) (m d : Nat) (w : World) (hI : Itms w A n c N.items) (hK : Kidl w B m d N.kids) (hn : n ≤ 1000) (hm : m ≤ 1000) :
    Calls Tryz.prog 32 #[.agg #[.int .i64 N.lvl, .slice A n c, .slice B m d]] w fun e w' => e = .returned (.agg #[.int .i64 z.obj, .int .i64 z.kind, .int .i64 z.off]) ∧ Below w.heap.size w w' := by
  subst hz
  exact refleast_any N A n c B m d w hI hK hn hm
end Go.Proofs.YtgedmodnkiijkaaGreatDoor

namespace Go.Proofs.YtgedmodnkiijkaaGreatDoor
open Go Go.RowKit Go.Proofs

/-- Items that are appended: their values lie from base on, and not in the row's block. -/
def Brought (w : World) (base : Nat) (A B : Option Addr) (m d : Nat) (ys : List Itm) : Prop :=
  ∃ raw, Sls w 4 B m d raw ∧ raw.length = ys.length ∧ ∀ (j : Nat) r x, raw[j]? = some r → ys[j]? = some x → ∃ V p q, r = itvs x.k V p q ∧ Sl w V p q x.v ∧ (x.v ≠ [] → ∀ g, blockOf V = some g → base ≤ g ∧ blockOf A ≠ some g)
/-- What was made behind the row, and what was made ahead of it. -/
theorem brought_new {w : World} {base lim m d : Nat} {A B : Option Addr} {ys : List Itm} (h : IRow w lim B m d ys) (hb : base ≤ lim) (hA : ∀ k, blockOf A = some k → k < lim) : Brought w base A B m d ys := by
  obtain ⟨raw, h1, h2, h3⟩ := h
  refine ⟨raw, h1.sls (by omega), h2, fun j r x hr hx => ?_⟩
  obtain ⟨V, p, q, e, hs, hne⟩ := h3 j r x hr hx
  exact ⟨V, p, q, e, hs, fun hv g hg => ⟨Nat.le_trans hb (hne hv g hg).1, fun e => by have h1 := hA g e; have h2 := (hne hv g hg).1; omega⟩⟩
theorem brought_old {w0 w : World} {base lim m d : Nat} {A B : Option Addr} {ys : List Itm} (h : IRow w0 lim B m d ys) (hw : Below w0.heap.size w0 w) (hb : base ≤ lim) (hA : ∀ k, blockOf A = some k → w0.heap.size ≤ k) : Brought w base A B m d ys := by
  obtain ⟨raw, h1, h2, h3⟩ := h
  refine ⟨raw, (h1.below hw).sls (by omega), h2, fun j r x hr hx => ?_⟩
  obtain ⟨V, p, q, e, hs, hne⟩ := h3 j r x hr hx
  exact ⟨V, p, q, e, hs.below hw, fun hv g hg => ⟨Nat.le_trans hb (hne hv g hg).1, fun e => by have h1 := hA g e; have h2 := hs.blockLt hv g hg; omega⟩⟩
theorem run_append_zero {P : Program} {w : World} (base : Nat) (t ty e : TypeId) (i : TypeInfo) (size : Nat) (ht : P.underlying t = some (.slice e)) (hi : P.info? e = some i)
    (A : Option Addr) (n c : Nat) (xs : List Value) (hown : w.ownsRow base e size (.slice A n c) n xs) (B : Option Addr) (d : Nat) (_hs : size ≠ 0) (_hsz : i.size = size) :
    (Builtin.append_ #[t, t] ty #[.slice A n c, .slice B 0 d]).run P w = .ok (.slice A n c) w := by
  rcases hown.2 with ⟨hv, h0⟩ | ⟨g, cap, cur, hv, _, _, hnc, _⟩
  · injection hv with h1 h2 h3
    subst h1 h2 h3
    cases B <;> simp [Builtin.append_, run_underlying ht, sizeOf, typeInfo, hi, Builtin.lenOf, Builtin.firstCells, loadCells, loadCellsFrom]
  · injection hv with h1 h2 h3
    subst h1 h3
    cases B <;> simp [Builtin.append_, run_underlying ht, sizeOf, typeInfo, hi, Builtin.lenOf, Builtin.firstCells, hnc, storeCells, loadCells, loadCellsFrom]
theorem items_run {w : World} (ty : TypeId) (base : Nat) (A : Option Addr) (n c : Nat) (xs : List Itm) (hown : IRow w base A n c xs) (B : Option Addr) (m d : Nat) (ys : List Itm) (hy : Brought w base A B m d ys) (hn : n + m ≤ 100000) (hbase : base ≤ w.heap.size) :
    ∃ A' c' w', (Builtin.append_ #[22, 22] ty #[.slice A n c, .slice B m d]).run Tryz.prog w = .ok (.slice A' (n + m) c') w' ∧ IRow w' base A' (n + m) c' (xs ++ ys) ∧ Turn (fun k => blockOf A = some k) w w' ∧ (blockOf A' = blockOf A ∨ blockOf A' = some w.heap.size) := by
  by_cases hm : m = 0
  · subst hm
    obtain ⟨rawy, hr, hrl, _⟩ := hy
    have hl0 : ys = [] := List.length_eq_zero_iff.1 (by have := hr.len; omega)
    subst hl0
    obtain ⟨raw, h1, h2, h3⟩ := hown
    obtain ⟨i, hi, hz0, hz1, hz2⟩ := info_parts TItem.info
    refine ⟨A, c, w, run_append_zero (P := Tryz.prog) base 22 ty 41 i 4 TItem.sl hi A n c raw.flatten h1.1 B d (by omega) hz1, ?_, Turn.refl _ _, .inl rfl⟩
    rw [List.append_nil]
    exact ⟨raw, h1, h2, h3⟩
  · obtain ⟨raw, h1, h2, h3⟩ := hown
    obtain ⟨rawy, hr, hrl, hy3⟩ := hy
    have one : ∀ y ∈ rawy, ∀ u ∈ y, u.oneCell' = true := fun y hym u hu => by
      obtain ⟨j, hj⟩ := List.mem_iff_getElem?.1 hym
      have hjl := (List.getElem?_eq_some_iff.1 hj).1
      obtain ⟨V, p, q, e, _, _⟩ := hy3 j y _ hj (List.getElem?_eq_getElem (by omega))
      subst e
      exact itvs_one _ V p q _ (List.mem_singleton.2 rfl) u hu
    obtain ⟨A', c', w', hrun, own', T, hA', _⟩ := run_append_g (P := Tryz.prog) w TItem ty base A n c raw h1 B m d rawy hr (by omega) one (by omega) (by omega) hbase
    refine ⟨A', c', w', hrun, ⟨_, own', by rw [List.length_append, List.length_append, h2, hrl], fun j r x hr' hx => ?_⟩, T, hA'⟩
    have old : ∀ (V : Option Addr) (p q : Nat) (v : List UInt8), Sl w V p q v → (v ≠ [] → ∀ g, blockOf V = some g → base ≤ g ∧ blockOf A ≠ some g) → Sl w' V p q v ∧ (v ≠ [] → ∀ g, blockOf V = some g → base ≤ g ∧ blockOf A' ≠ some g) := by
      intro V p q v hs hne
      refine ⟨hs.turned' T (fun hl k hk e => (hne hl k hk).2 e), fun hl g hg => ⟨(hne hl g hg).1, fun e => ?_⟩⟩
      rcases hA' with h5 | h5
      · exact (hne hl g hg).2 (h5.symm.trans e)
      · have := hs.blockLt hl g hg
        rw [h5] at e
        have := Option.some.inj e
        omega
    by_cases hj : j < raw.length
    · rw [List.getElem?_append_left hj] at hr'
      rw [List.getElem?_append_left (by omega)] at hx
      obtain ⟨V', p', q', e, hs', hne⟩ := h3 j r x hr' hx
      obtain ⟨o1, o2⟩ := old V' p' q' x.v hs' hne
      exact ⟨V', p', q', e, o1, o2⟩
    · rw [List.getElem?_append_right (by omega)] at hr' hx
      rw [← h2] at hx
      obtain ⟨V', p', q', e, hs', hne⟩ := hy3 _ r x hr' hx
      obtain ⟨o1, o2⟩ := old V' p' q' x.v hs' hne
      exact ⟨V', p', q', e, o1, o2⟩
theorem wp_append_items {w : World} {ops : Array Oper} {rest : List Oper} {o : Oper} {a : Act} {Q : Exit → Act → World → Prop} (hgd : o.guard = none) (so x : Operand)
    (ho : o.op = .call { callee := .builtin .append, args := #[so, x], argTypes := #[22, 22] })
    (base : Nat) (A : Option Addr) (n c : Nat) (xs : List Itm) (hs : a.eval so = .slice A n c) (hown : IRow w base A n c xs)
    (B : Option Addr) (m d : Nat) (ys : List Itm) (hx : a.eval x = .slice B m d) (hy : Brought w base A B m d ys) (hn : n + m ≤ 100000) (hbase : base ≤ w.heap.size)
    (h : ∀ A' c' w', IRow w' base A' (n + m) c' (xs ++ ys) → Turn (fun k => blockOf A = some k) w w' → (blockOf A' = blockOf A ∨ blockOf A' = some w.heap.size) → wpList Tryz.prog ops Q rest (a.put o.dst (.slice A' (n + m) c')) w') : wpList Tryz.prog ops Q (o :: rest) a w :=
  wpList_plain hgd fun K hK => by
    obtain ⟨A', c', w', hrun, h2, h3, h4⟩ := items_run o.type base A n c xs hown B m d ys hy hn hbase
    unfold Oper.wp execOp
    simp only [ho, resolve, invoke, builtin, Sem.run_bind, Sem.run_pure, Result.andThen_ok, List.map_toArray, List.map_cons, List.map_nil, hs, hx, hrun]
    exact hK _ _ (h A' c' w' h2 h3 h4)
theorem irow_lit0 (w : World) : IRow (w.alloc (.cells #[] 41)) w.heap.size (some ⟨w.heap.size, 0, none⟩) 0 0 [] := ⟨[], owns_lit0 w _ 4, rfl, fun j r x hr => by simp at hr⟩
end Go.Proofs.YtgedmodnkiijkaaGreatDoor
