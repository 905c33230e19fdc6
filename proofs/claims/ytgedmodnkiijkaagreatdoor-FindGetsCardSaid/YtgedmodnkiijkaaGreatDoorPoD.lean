/- The code's pool: load. -/
import Derived.Test.YtgedmodnkiijkaaGreatDoorFn18
import Derived.Test.YtgedmodnkiijkaaGreatDoorFn24
namespace Go.Proofs.YtgedmodnkiijkaaGreatDoor
open Go Go.RowKit Go.Proofs

def Hd.same (a b : Hd) : Bool := a.kind == b.kind && (a.addr == b.addr && (a.count == b.count && (a.level == b.level && a.gen == b.gen)))
theorem Hd.same_iff (a b : Hd) : a.same b = true ↔ a = b := by
  unfold Hd.same
  simp only [Bool.and_eq_true, beq_iff_eq]
  constructor
  · rintro ⟨h1, h2, h3, h4, h5⟩
    cases a; cases b; simp_all
  · rintro rfl
    simp
theorem eqlIn_hd (d : Nat) (a b : Hd) (w : World) : (Op.equalIn (d + 2) 133 a.v b.v).run Tryz.prog w = .ok (a.same b) w := by
  unfold Hd.v
  rw [run_equalIn_agg w (d + 1) 133 _ _ (by kernel_rfl) (by kernel_rfl)]
  unfold Program.fieldsOf
  rw [Tryz.underlying133]
  simp [go_sem, Tryz.underlying3]
  unfold Hd.same
  by_cases h1 : a.kind = b.kind
  · by_cases h2 : a.addr = b.addr
    · by_cases h3 : a.count = b.count
      · by_cases h4 : a.level = b.level
        · by_cases h5 : a.gen = b.gen
          · simp [h1, h2, h3, h4, h5]
          · simp [h1, h2, h3, h4, h5]
        · simp [h1, h2, h3, h4]
      · simp [h1, h2, h3]
    · simp [h1, h2]
  · simp [h1]
theorem neq_hd (a b : Hd) (r : Bool) (h : a.same b = r) (w : World) : (binOp .neq 133 (.agg #[.int .i64 a.kind, .int .i64 a.addr, .int .i64 a.count, .int .i64 a.level, .int .i64 a.gen]) (.agg #[.int .i64 b.kind, .int .i64 b.addr, .int .i64 b.count, .int .i64 b.level, .int .i64 b.gen])).run Tryz.prog w = .ok (.bool (!r)) w := by
  rw [run_neq_struct]
  have := eqlIn_hd 9998 a b w
  unfold Hd.v at this
  rw [this, h]
  rfl
theorem grd_hd (op : BinOp) (x y : Operand) (xs ys : Array Value) (w : World) : (eqGuard op 133 x y (.agg xs) (.agg ys)).run Tryz.prog w = .ok () w :=
  run_eqGuard_agg w op 133 x y xs ys (by kernel_rfl)
theorem cnt_same {x : List UInt8} {a : Nat} {g : Int} : cntOk x a g = (okB x && (opH x).same ⟨2, (a : Int), 0, 0, g⟩) := by
  cases ho : okB x
  · unfold cntOk ckOk
    rw [ho]
    rfl
  · rw [Bool.true_and, Bool.eq_iff_iff, Hd.same_iff]
    unfold cntOk ckOk
    rw [ho, Bool.true_and, Bool.and_eq_true]
    constructor
    · rintro ⟨h1, h2⟩
      obtain ⟨h3, h4⟩ := of_decide_eq_true h1
      obtain ⟨h5, h6, h7⟩ := of_decide_eq_true h2
      cases hh : opH x
      rw [hh] at h3 h4 h5 h6 h7
      simp_all
    · intro h
      rw [h]
      exact ⟨decide_eq_true ⟨rfl, rfl⟩, decide_eq_true ⟨rfl, rfl, rfl⟩⟩

/-- make of slices of bytes, kept shut. -/
def mkP (a b : Value) : Sem Value := Instr.makeSlice 189 a b
theorem mkP_shut (a b : Value) : Instr.makeSlice 189 a b = mkP a b := rfl
def litP (n : Nat) (w : World) : World := w.alloc (.cells (madeCells #[.slice none 0 0] (n * 1)) 35)
theorem run_mkP (n : Nat) (hn : n ≤ 1000) (w : World) : (mkP (.int .i64 (n : Int)) (.int .i64 (n : Int))).run Tryz.prog w = .ok (.slice (some ⟨w.heap.size, 0, none⟩) n n) (litP n w) := by
  obtain ⟨i, hi, hz0, hz1, hz2⟩ := info_parts (show (Tryz.prog.info? 35).map (fun i => (i.zero, i.size, i.bytes)) = some (some (.slice none 0 0), 1, 24) by kernel_rfl)
  have h := run_makeSlice (P := Tryz.prog) w 189 35 i _ Tryz.underlying189 hi hz0 .i64 .i64 n n (by omega) (by omega) (by rw [hz1, Int.toNat_natCast]; omega) (by rw [hz2]; omega) (by omega)
  rw [hz1] at h
  exact h
theorem litP_row (n : Nat) (w : World) : (litP n w).heap[w.heap.size]? = some (.cells (madeCells #[.slice none 0 0] (n * 1)) 35 (0, 0)) := heap_alloc_new w _
/-- A row of slices, the first j of which are filled. -/
def BR (w : World) (b n j : Nat) (ls : Nat → List UInt8) : Prop := ∃ cur : Array Value, w.heap[b]? = some (.cells cur 35 (0, 0)) ∧ cur.size = n ∧ ∀ i, i < j → ∃ A m c, cur[i]? = some (.slice A m c) ∧ Sl w A m c (ls i) ∧ ∀ ad, A = some ad → ad.block ≠ b
theorem BR.lt {w : World} {b n j : Nat} {ls : Nat → List UInt8} (H : BR w b n j ls) : b < w.heap.size := by
  obtain ⟨cur, h, _⟩ := H
  exact lt_of_heap h
theorem BR.below {w w' : World} {b n j : Nat} {ls : Nat → List UInt8} (H : BR w b n j ls) (hb : Below w.heap.size w w') : BR w' b n j ls := by
  obtain ⟨cur, h, h2, h3⟩ := H
  refine ⟨cur, (hb.block b (lt_of_heap h)).trans h, h2, fun i hi => ?_⟩
  obtain ⟨A, m, c, e, hs, hne⟩ := h3 i hi
  exact ⟨A, m, c, e, hs.below hb, hne⟩
theorem BR.at_ {w : World} {b n j : Nat} {ls : Nat → List UInt8} (H : BR w b n j ls) {i : Nat} (hi : i < n) : (∃ v, w.cell? ⟨b, i, none⟩ = some v) ∧ w.frozen? ⟨b, i, none⟩ = false := by
  obtain ⟨cur, h, h2, _⟩ := H
  refine ⟨⟨cur[i], ?_⟩, by unfold World.frozen?; rw [h]; simp⟩
  rw [cell_of_row _ _ _ _ _ _ h, Array.getElem?_eq_getElem (by omega)]
theorem BR.set_ {w : World} {b n j : Nat} {ls : Nat → List UInt8} (H : BR w b n j ls) (hj : j < n) {A : Option Addr} {m c : Nat} (hs : Sl w A m c (ls j)) (hA : ∀ ad, A = some ad → ad.block ≠ b) : BR (w.setCell ⟨b, j, none⟩ (.slice A m c)) b n (j + 1) ls := by
  obtain ⟨cur, h, h2, h3⟩ := H
  have T : Turn (fun k => k = b) w (w.setCell ⟨b, j, none⟩ (.slice A m c)) := turn_setCell (a := ⟨b, j, none⟩) _ rfl
  refine ⟨_, heap_setCell_same w b j cur _ _ h, by simp [h2], fun i hi => ?_⟩
  by_cases e : i = j
  · subst e
    exact ⟨A, m, c, by simp [h2, hj], ct_turned hs T fun ad e => hA ad e, hA⟩
  · obtain ⟨A', m', c', e', hs', hne⟩ := h3 i (by omega)
    exact ⟨A', m', c', by rw [Array.getElem?_setIfInBounds_ne (Ne.symm e)]; exact e', ct_turned hs' T fun ad e => hne ad e, hne⟩
theorem BR.parts {w : World} {b n : Nat} {ls : Nat → List UInt8} (H : BR w b n n ls) (hn : n ≤ 1000) : Parts w (some ⟨b, 0, none⟩) n n ((List.range n).map ls) := by
  have hlt := H.lt
  obtain ⟨cur, h, h2, h3⟩ := H
  refine ⟨by simp, Nat.le_refl _, by unfold maxLen; omega, fun j l hl => ?_⟩
  have hj : j < n := by have := (List.getElem?_eq_some_iff.1 hl).1; simpa using this
  rw [List.getElem?_map, List.getElem?_range hj] at hl
  obtain rfl : ls j = l := by simpa using hl
  obtain ⟨A, m, c, e, hs, _⟩ := h3 j hj
  refine ⟨_, A, m, c, rfl, hlt, ?_, hs⟩
  rw [show (⟨b, 0, none⟩ : Addr).add j = ⟨b, j, none⟩ by simp [Addr.add]; exact fun h => h.symm, cell_of_row _ _ _ _ _ _ h]
  exact e
theorem readL_in {D : DM} (hon : D.off = false) {s : Nat} (hs : s < D.n) : D.readL (s : Int) = D.newest s ∧ D.readE (s : Int) = 0 := by
  unfold DM.readL DM.readE
  have h : 0 ≤ (s : Int) ∧ (s : Int) < (D.n : Int) := by omega
  rw [hon]
  simp only [Bool.false_eq_true, if_false]
  rw [if_pos h, if_pos h, Int.toNat_natCast]
  exact ⟨rfl, rfl⟩

attribute [local go_sem ↓] ldS_shut mkP_shut
set_option maxRecDepth 100000 in
set_option maxHeartbeats 8000000 in
theorem pload_any {w : World} {d : Nat} {S0 : Nat → Prop} {D : DM} (L : Drv w d S0 D) (hon : D.off = false) (S : Sp) (hmay : S.may = true) (hsec : S.sectors = (D.n : Int)) (ht : Tab w) :
    Calls Tryz.prog 91 #[.pointer (some ⟨d, 0, none⟩), .agg S.vs.toArray] w fun e w' =>
      ((((∀ i, i < areaN D.n → cntOk (D.newest (areaAt D.n S.gen + i)) (areaAt D.n S.gen + i) S.gen = true) ∧ loadE (D.n : Int) (mtB D.newest D.n S.gen) = 0) ∧ ∃ p, e = .returned (.tuple #[.pointer (some ⟨p, 0, none⟩), .int .i64 0]) ∧ CCo w' p 0 (fun k => w.heap.size ≤ k) (mtC D.newest D.n S.gen) ∧ w.heap.size ≤ p) ∨
        (¬ ((∀ i, i < areaN D.n → cntOk (D.newest (areaAt D.n S.gen + i)) (areaAt D.n S.gen + i) S.gen = true) ∧ loadE (D.n : Int) (mtB D.newest D.n S.gen) = 0) ∧ ∃ E, E ≠ 0 ∧ e = .returned (.tuple #[.pointer none, .int .i64 E]))) ∧ Below w.heap.size w w' := by
  have hok := L.sectors
  unfold sectors at hok
  have hgen := (may_parts hmay).1
  have hg : genOk S.gen := ⟨hgen.1, hgen.2.1⟩
  obtain ⟨g, hgg⟩ : ∃ g, S.gen = g := ⟨_, rfl⟩
  rw [hgg] at hg ⊢
  have hin := fun i hi => areaAt_in hok.1 hok.2 g (i := i) hi
  obtain ⟨ar, har⟩ : ∃ m, areaN D.n = m := ⟨_, rfl⟩
  have har2 : ar ≤ 18 := by unfold areaN at har; omega
  obtain ⟨a, ha⟩ : ∃ a, areaAt D.n g = a := ⟨_, rfl⟩
  have hA := parea_any S D.n hsec hok.2 ⟨by rw [hgg]; have := hg.1; omega, by rw [hgg]; have := hg.2; omega⟩
  rw [hgg, ha, har] at hA
  rw [ha, har] at hin
  have hB : mtB D.newest D.n g = (List.range ar).map fun i => (D.newest (a + i)).drop 20 := by unfold mtB; rw [har, ha]
  have hC : mtC D.newest D.n g = loadC D.n (mtB D.newest D.n g) := rfl
  rw [hC, hB, ha, har]
  generalize hG : ((∀ i, i < ar → cntOk (D.newest (a + i)) (a + i) g = true) ∧ loadE (D.n : Int) ((List.range ar).map fun i => (D.newest (a + i)).drop 20) = 0) = G
  have HG := Lib.hid hG
  have HA := Lib.hid hA
  have Hin := Lib.hid hin
  have hl1 := fun w' (H : SB w' w.heap.size S) => H.ld
  have q1 := fun w' (H : SB w' w.heap.size S) => H.c1
  have q0 := fun w' (H : SB w' w.heap.size S) => H.c0
  rw [hsec] at q1
  rw [hgg] at q0
  have Hl1 := Lib.hid hl1
  have Q0 := Lib.hid q0
  have Q1 := Lib.hid q1
  have X1 := SB.new w S 87
  have b1 : Below w.heap.size w (w.alloc (.cells S.vs.toArray 87)) := (Below.refl _ _).alloc (Nat.le_refl _) _
  have htl := ht.1
  have L1 := L.tight.below b1
  have t1 := ht.below b1 ht.1
  have hll := X1.ld
  have hmk := run_mkP ar (by omega)
  clear hG hA hin hgen hg hsec hmay har ha hl1 q0 q1 hgg L ht hB hC
  go_enter Tryz.func91, Tryz.ntmps91
  go_wp2_with fail
  generalize w.alloc (.cells S.vs.toArray 87) = w1 at b1 L1 t1 X1 hll ⊢
  refine (HA.out w1).mono ?_
  rintro e w2 ⟨rfl, b2⟩
  have L2 := L1.below b2
  have t2 := t1.below b2 t1.1
  have X2 := X1.below b2 X1.lt
  have B2 := b1.trans (b2.mono b1.size)
  clear hll L1 t1 X1 b1 b2
  have b3 : Below w2.heap.size w2 (litP ar w2) := (Below.refl _ _).alloc (Nat.le_refl _) _
  have R3 : BR (litP ar w2) w2.heap.size ar 0 (fun i => (D.newest (a + i)).drop 20) := ⟨_, litP_row ar w2, by rw [size_madeCells, Nat.mul_one], fun i hi => absurd hi (Nat.not_lt_zero _)⟩
  go_wp2_with fail
  have L3 := L2.below b3
  have t3 := t2.below b3 t2.1
  have X3 := X2.below b3 X2.lt
  have B3 := B2.trans (b3.mono B2.size)
  have hz3 : w.heap.size < w2.heap.size := X2.lt
  generalize litP ar w2 = w3 at R3 L3 t3 X3 B3 ⊢
  obtain ⟨bb, hbb⟩ : ∃ b, w2.heap.size = b := ⟨_, rfl⟩
  rw [hbb] at R3 hz3 ⊢
  clear L2 t2 X2 B2 b3 hbb hmk
  go_loopw [9, 10, 11, 12, 13, 14, 23] (fun _ _ _ _ _ _ i wr => ∃ j : Nat, j ≤ ar ∧ i = .int .i64 (j : Int) ∧ (∀ q, q < j → cntOk (D.newest (a + q)) (a + q) g = true) ∧ BR wr bb ar j (fun i => (D.newest (a + i)).drop 20) ∧ Drv wr d (fun k => S0 k ∧ k < w.heap.size) D ∧ Tab wr ∧ SB wr w.heap.size S ∧ Below w.heap.size w wr) (fun _ _ _ _ _ _ i _ => ar - (intOf i).toNat)
  case atStart => exact ⟨0, by omega, rfl, fun q hq => absurd hq (Nat.not_lt_zero _), R3, L3, t3, X3, B3⟩
  case round =>
    clear R3 L3 t3 X3 B3
    obtain ⟨j, hj, rfl, hall, R, L, t, X, B⟩ := hrel
    have Hall := Lib.hid hall
    clear hall
    by_cases hlt : j < ar
    · have e3 : (j : Int) < (ar : Int) := by omega
      obtain ⟨_, i2, _, i4⟩ := Hin.out j hlt
      obtain ⟨s, hs⟩ : ∃ s, a + j = s := ⟨_, rfl⟩
      rw [hs] at i2 i4
      have hs2 : (a : Int) + (j : Int) = (s : Int) := by omega
      obtain ⟨r1, r2⟩ := readL_in hon i4
      obtain ⟨x, hx⟩ : ∃ x, D.newest s = x := ⟨_, rfl⟩
      rw [hx] at r1
      obtain ⟨_, _, _, _, _, L'⟩ := L
      have hrd := read_any L' (s : Int)
      rw [r1, r2] at hrd
      have L : Drv wr d (fun k => S0 k ∧ k < w.heap.size) D := ⟨_, _, _, _, _, L'⟩
      have Hrd := Lib.hid hrd
      have Hs := Lib.hid hs
      have Hx := Lib.hid hx
      clear hrd r1 r2 hs hx L'
      cases hoe : okB x
      · have hno : cntOk (D.newest (a + j)) (a + j) g = false := by rw [Hs.out, Hx.out, cnt_same, hoe]; rfl
        have Hno := Lib.hid (show ¬ G by rw [← HG.out]; exact fun h => by have := h.1 j hlt; rw [hno] at this; cases this)
        obtain ⟨o1, o2, o3⟩ := op_no hoe
        clear hno
        go_wp2_with (first
          | (go_at_call 80; refine Hrd.out.mono ?_; rintro e w4 ⟨A4, n4, rfl, s4, _, b4, _⟩; have t4 := t.below b4 t.1)
          | (go_at_call 81; have hO := open_any A4 n4 n4 x w4 s4 t4; unfold OpenSays at hO; rw [o1, o2, o3] at hO; refine hO.mono ?_; rintro e w5 ⟨A5, n5, c5, rfl, own5, b5⟩)
          | (refine wp_store_hB rfl (.tmp 12) (.tmp 37) rfl w5.heap.size rfl Hd.zero _ rfl (HB.zero w5 _) (by simp) ?_; intro w6 H6 hb6 T6; have b56 : Below w5.heap.size w5 w6 := ((Below.refl _ _).alloc (Nat.le_refl _) _).trans (hb6 _ (Nat.le_refl _)); have b46 : Below wr.heap.size wr w6 := b4.trans ((b5.trans (b56.mono b5.size)).mono b4.size))
          | fail)
        have B6 := B.trans (b46.mono B.size)
        go_quiet (fail)
        generalize hw7 : World.drewN w6 _ = w7
        have B7 : Below w.heap.size w w7 := by rw [← hw7]; exact ⟨B6.os, B6.tape, B6.output, B6.size, B6.block⟩
        clear hw7
        go_wp2
        go_ret2
        exact ⟨.inr ⟨Hno.out, 5, by omega, rfl⟩, B7⟩
      · obtain ⟨o1, o2, o3⟩ := op_yes hoe
        obtain ⟨H, hH⟩ : ∃ H, opH x = H := ⟨_, rfl⟩
        have o1 : opH x = H := hH
        obtain ⟨r, hr⟩ : ∃ r, H.same ⟨2, (s : Int), 0, 0, g⟩ = r := ⟨_, rfl⟩
        have hcn : cntOk (D.newest (a + j)) (a + j) g = r := by rw [Hs.out, Hx.out, cnt_same, hoe, hH, hr]; rfl
        have hneq := neq_hd H ⟨2, (s : Int), 0, 0, g⟩ r hr
        have hgrd := grd_hd
        have q0 := Q0.out wr X
        have zX := X.lt
        have Hcn := Lib.hid hcn
        clear hcn hr hH
        cases r
        · have Hno := Lib.hid (show ¬ G by rw [← HG.out]; exact fun h => by have := h.1 j hlt; rw [Hcn.out] at this; cases this)
          go_wp2_with (first
            | (go_at_call 80; refine Hrd.out.mono ?_; rintro e w4 ⟨A4, n4, rfl, s4, _, b4, _⟩; have t4 := t.below b4 t.1)
            | (go_at_call 81; have hO := open_any A4 n4 n4 x w4 s4 t4; unfold OpenSays at hO; rw [o1, o2, o3] at hO; refine hO.mono ?_; rintro e w5 ⟨A5, n5, c5, rfl, own5, b5⟩)
            | (refine wp_store_hB rfl (.tmp 12) (.tmp 37) rfl w5.heap.size rfl H _ rfl (HB.zero w5 _) (by simp) ?_; intro w6 H6 hb6 T6; have b56 : Below w5.heap.size w5 w6 := ((Below.refl _ _).alloc (Nat.le_refl _) _).trans (hb6 _ (Nat.le_refl _)); have b46 : Below wr.heap.size wr w6 := b4.trans ((b5.trans (b56.mono b5.size)).mono b4.size))
            | fail)
          have q06 := (b46.cell (p := ⟨w.heap.size, 0, none⟩) zX).trans q0
          have zX6 : w.heap.size < w6.heap.size := Nat.lt_of_lt_of_le zX b46.size
          have zH : w5.heap.size < w6.heap.size := by obtain ⟨_, h⟩ := H6; exact lt_of_heap h
          have B6 := B.trans (b46.mono B.size)
          have hc0 := H6.at_ 0
          have hc1 := H6.at_ 1
          have hc2 := H6.at_ 2
          have hc3 := H6.at_ 3
          have hc4 := H6.at_ 4
          simp only [foff, Hd.fld] at hc0 hc1 hc2 hc3 hc4
          have g0 : ∀ u : Grown w6, u.to.cell? ⟨w.heap.size, 0, none⟩ = some (.int .i64 g) := Grown.cell q06 zX6
          have g1 : ∀ u : Grown w6, u.to.cell? ⟨w5.heap.size, 0, none⟩ = some (.int .i64 H.kind) := Grown.cell hc0 zH
          have g2 : ∀ u : Grown w6, u.to.cell? ⟨w5.heap.size, 3, none⟩ = some (.int .i64 H.level) := Grown.cell hc1 zH
          have g3 : ∀ u : Grown w6, u.to.cell? ⟨w5.heap.size, 1, none⟩ = some (.int .i64 H.addr) := Grown.cell hc2 zH
          have g4 : ∀ u : Grown w6, u.to.cell? ⟨w5.heap.size, 2, none⟩ = some (.int .i64 H.count) := Grown.cell hc3 zH
          have g5 : ∀ u : Grown w6, u.to.cell? ⟨w5.heap.size, 4, none⟩ = some (.int .i64 H.gen) := Grown.cell hc4 zH
          refine wp_region_grown (by kernel_rfl) (by kernel_rfl) ?_
          repeat (go_big_quiet_step (first
            | (go_at_call 67; exact Calls.grown (phead_any _ g _))
            | fail))
          refine wpQuiet_nil ?_
          rintro _ ⟨u, rfl⟩
          have B7 := B6.trans (u.ok.mono B6.size)
          go_wp2
          go_ret2
          exact ⟨.inr ⟨Hno.out, 5, by omega, rfl⟩, B7⟩
        · go_wp2_with (first
            | (go_at_call 80; refine Hrd.out.mono ?_; rintro e w4 ⟨A4, n4, rfl, s4, _, b4, _⟩; have t4 := t.below b4 t.1)
            | (go_at_call 81; have hO := open_any A4 n4 n4 x w4 s4 t4; unfold OpenSays at hO; rw [o1, o2, o3] at hO; refine hO.mono ?_; rintro e w5 ⟨A5, n5, c5, rfl, own5, b5⟩)
            | (refine wp_store_hB rfl (.tmp 12) (.tmp 37) rfl w5.heap.size rfl H _ rfl (HB.zero w5 _) (by simp) ?_; intro w6 H6 hb6 T6; have b56 : Below w5.heap.size w5 w6 := ((Below.refl _ _).alloc (Nat.le_refl _) _).trans (hb6 _ (Nat.le_refl _)); have b46 : Below wr.heap.size wr w6 := b4.trans ((b5.trans (b56.mono b5.size)).mono b4.size))
            | fail)
          have q06 := (b46.cell (p := ⟨w.heap.size, 0, none⟩) zX).trans q0
          have zX6 : w.heap.size < w6.heap.size := Nat.lt_of_lt_of_le zX b46.size
          have zH : w5.heap.size < w6.heap.size := by obtain ⟨_, h⟩ := H6; exact lt_of_heap h
          have hc0 := H6.at_ 0
          have hc1 := H6.at_ 1
          have hc2 := H6.at_ 2
          have hc3 := H6.at_ 3
          have hc4 := H6.at_ 4
          simp only [foff, Hd.fld] at hc0 hc1 hc2 hc3 hc4
          have g0 : ∀ u : Grown w6, u.to.cell? ⟨w.heap.size, 0, none⟩ = some (.int .i64 g) := Grown.cell q06 zX6
          have g1 : ∀ u : Grown w6, u.to.cell? ⟨w5.heap.size, 0, none⟩ = some (.int .i64 H.kind) := Grown.cell hc0 zH
          have g2 : ∀ u : Grown w6, u.to.cell? ⟨w5.heap.size, 3, none⟩ = some (.int .i64 H.level) := Grown.cell hc1 zH
          have g3 : ∀ u : Grown w6, u.to.cell? ⟨w5.heap.size, 1, none⟩ = some (.int .i64 H.addr) := Grown.cell hc2 zH
          have g4 : ∀ u : Grown w6, u.to.cell? ⟨w5.heap.size, 2, none⟩ = some (.int .i64 H.count) := Grown.cell hc3 zH
          have g5 : ∀ u : Grown w6, u.to.cell? ⟨w5.heap.size, 4, none⟩ = some (.int .i64 H.gen) := Grown.cell hc4 zH
          refine wp_region_grown (by kernel_rfl) (by kernel_rfl) ?_
          repeat (go_big_quiet_step (first
            | (go_at_call 67; exact Calls.grown (phead_any _ g _))
            | fail))
          refine wpQuiet_nil ?_
          rintro _ ⟨u, rfl⟩
          have b47 : Below wr.heap.size wr u.to := b46.trans (u.ok.mono b46.size)
          have B7 := B.trans (b47.mono B.size)
          have R7 := R.below b47
          have s7 : Sl u.to A5 n5 c5 ((D.newest (a + j)).drop 20) := by rw [Hs.out, Hx.out, ← o2]; exact (o2 ▸ own5.sl.below b56).below u.ok
          have hA7 : ∀ ad, A5 = some ad → ad.block ≠ bb := fun ad e => by have h1 := (own5.block ad e).1; have h2 := R.lt; have h3 := b4.size; omega
          obtain ⟨⟨v7, hv7⟩, f7⟩ := R7.at_ hlt
          have R8 := R7.set_ hlt s7 hA7
          have L7 := L.below b47
          have t7 := t.below b47 t.1
          have X7 := X.below b47 X.lt
          have hlb : bb < u.to.heap.size := R7.lt
          have T78 : Turn (fun k => k = bb) u.to (u.to.setCell ⟨bb, j, none⟩ (.slice A5 n5 c5)) := turn_setCell (a := ⟨bb, j, none⟩) _ rfl
          have B8 := B7.trans (T78.below (B := w.heap.size) (fun k hk => by omega) (by omega))
          have L8 := L7.keep fun k hk hs => T78.block k hk fun e => by have := hs.2; omega
          have t8 := t7.turned T78 (by omega)
          have X8 := X7.block (T78.block _ X7.lt (by omega))
          clear R L t X B R7 L7 t7 X7 B7 s7 hA7 g0 g1 g2 g3 g4 g5 hc0 hc1 hc2 hc3 hc4 q0 q06 b46 b47 T78
          go_wp2
          refine ⟨⟨j + 1, by omega, by go_num, fun q hq => ?_, R8, L8, t8, X8, B8⟩, by simp [intOf]; omega⟩
          by_cases e : q = j
          · rw [e]; exact Hcn.out
          · exact Hall.out q (by omega)
    · have hja : j = ar := by omega
      subst hja
      have q1 := Q1.out wr X
      have P := R.parts (by omega)
      have hld := cload_any (D.n : Int) _ _ _ _ P
      obtain ⟨LE, hLE⟩ : ∃ x, loadE (D.n : Int) ((List.range j).map fun i => (D.newest (a + i)).drop 20) = x := ⟨_, rfl⟩
      obtain ⟨LC, hLC⟩ : ∃ x, loadC D.n ((List.range j).map fun i => (D.newest (a + i)).drop 20) = x := ⟨_, rfl⟩
      rw [Int.toNat_natCast, hLE, hLC] at hld
      have HLE := Lib.hid hLE
      have HLC := Lib.hid hLC
      have e3 : ¬ (j : Int) < (j : Int) := by omega
      have Hld := Lib.hid hld
      clear hLE hLC hld
      go_wp2_with fail
      refine Hld.out.mono ?_
      rintro e w4 ⟨⟨h0, p, rfl, C4, hp⟩ | ⟨h0, rfl⟩, b4⟩
      · have hY := Lib.hid (show G by rw [← HG.out]; exact ⟨Hall.out, HLE.out.trans h0⟩)
        clear h0
        go_wp2
        go_ret2
        have := B.size
        exact ⟨.inl ⟨hY.out, p, rfl, by rw [HLC.out]; exact C4.mono fun k hk => by omega, by omega⟩, B.trans (b4.mono B.size)⟩
      · have hN := Lib.hid (show ¬ G by rw [← HG.out]; exact fun h => h0 (HLE.out.symm.trans h.2))
        have H0 := Lib.hid h0
        clear h0
        go_wp2
        go_ret2
        exact ⟨.inr ⟨hN.out, LE, H0.out, rfl⟩, B.trans (b4.mono B.size)⟩
end Go.Proofs.YtgedmodnkiijkaaGreatDoor
