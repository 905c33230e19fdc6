/- The code's node: Write. -/
import Derived.Test.YtmebdjafnefneaaDoorPkNL
import Derived.Test.YtmebdjafnefneaaDoorNodeP
import Derived.Test.YtmebdjafnefneaaDoorPkS
import Derived.Test.YtmebdjafnefneaaDoorRowG
namespace Go.Proofs.YtmebdjafnefneaaDoor
open Go Go.RowKit Go.Proofs

theorem head_leaf {N : Nd} (addr gen : Int) {n : Nat} {K : Int} (hl : N.lvl = 0) (hm : N.may = true) (hn : N.items.length = n) (hK : (if N.lvl = 0 then 3 else 4) = K) : N.head addr gen = ⟨K, addr, (n : Int), N.lvl, gen⟩ ∧ N.body = N.items.flatMap itBytes := by
  rw [if_pos hl] at hK
  have hk : N.kids = [] := by
    refine List.eq_nil_of_length_eq_zero ?_
    unfold Nd.may at hm
    rw [if_pos hl, Bool.and_eq_true, Bool.and_eq_true] at hm
    exact (of_decide_eq_true hm.2.2).1
  unfold Nd.head Nd.body
  rw [hk, hn, if_neg (by omega), hK]
  simp
theorem head_inner {N : Nd} (addr gen : Int) {m : Nat} {K : Int} (hl : ¬ N.lvl = 0) (hm : N.may = true) (hn : N.kids.length = m) (hK : (if N.lvl = 0 then 3 else 4) = K) : N.head addr gen = ⟨K, addr, (m : Int), N.lvl, gen⟩ ∧ N.body = N.kids.flatMap kidBytes := by
  rw [if_neg hl] at hK
  unfold Nd.may at hm
  rw [if_neg hl, Bool.and_eq_true, Bool.and_eq_true] at hm
  have h2 := of_decide_eq_true hm.2.2
  have hk : N.items = [] := List.eq_nil_of_length_eq_zero h2.2.2.1
  unfold Nd.head Nd.body
  rw [hk, hn, if_pos (by omega), hK]
  simp
theorem set_count {w : World} {b : Nat} {K addr lvl gen x y : Int} (H : HB w b ⟨K, addr, x, lvl, gen⟩) : HB (w.setCell ⟨b, 2, none⟩ (.int .i64 y)) b ⟨K, addr, y, lvl, gen⟩ := H.set_ 3 y

set_option maxRecDepth 100000 in
set_option maxHeartbeats 8000000 in
theorem cwrite_own (N : Nd) (addr gen : Int) (A : Option Addr) (n c : Nat) (B : Option Addr) (m d : Nat) (w : World) (hI : Itms w A n c N.items) (hK : Kidl w B m d N.kids) (hn : n ≤ 1000) (hm : m ≤ 1000) (ht : Tab w) :
    Calls Tryd.prog 13 #[.agg #[.int .i64 N.lvl, .slice A n c, .slice B m d], .int .i64 addr, .int .i64 gen] w fun e w' => ∃ A' n' c', e = .returned (.tuple #[.slice A' n' c', .int .i64 (writeE N addr gen)]) ∧ Own w' w.heap.size 5 A' n' c' (writeB N addr gen) ∧ (writeE N addr gen = 0 → ∃ g, A' = some ⟨g, 0, none⟩ ∧ n' = 256 ∧ c' = 256) ∧ Below w.heap.size w w' := by
  have HlI := Lib.hid hI.len
  have HlK := Lib.hid hK.len
  go_enter Tryd.func13, Tryd.ntmps13
  go_wp2_with fail
  have N1 : NB (w.alloc (.cells #[.int .i64 N.lvl, .slice A n c, .slice B m d] 25)) w.heap.size N.lvl A n c B m d := NB.new w _ _ _ _ _ _ _ _
  have b1 : Below w.heap.size w (w.alloc (.cells #[.int .i64 N.lvl, .slice A n c, .slice B m d] 25)) := (Below.refl _ _).alloc (Nat.le_refl _) _
  generalize w.alloc (.cells #[.int .i64 N.lvl, .slice A n c, .slice B m d] 25) = w1 at N1 b1 ⊢
  cases hmay : N.may
  · refine (cnmay_any N false hmay A n c B m d w1 (hI.below b1) (hK.below b1) hn hm).mono ?_
    rintro e w2 ⟨rfl, hb2⟩
    go_wp2
    go_ret2
    have h1 : writeE N addr gen = 1 := by unfold writeE; rw [hmay]; rfl
    have h2 : writeB N addr gen = [] := by unfold writeB; rw [hmay]; rfl
    rw [h1, h2]
    exact ⟨_, _, _, rfl, own_none _ _ _, (fun h => by cases h), b1.trans (hb2.mono b1.size)⟩
  · refine (cnmay_any N true hmay A n c B m d w1 (hI.below b1) (hK.below b1) hn hm).mono ?_
    rintro e w2 ⟨rfl, hb2⟩
    have N2 := N1.below hb2 N1.lt
    have B2 := b1.trans (hb2.mono b1.size)
    have n0 := N2.c0
    obtain ⟨_, _, hvals, _⟩ := may_sizes hmay
    have Hv := Lib.hid hvals
    have hmayH := Lib.hid hmay
    clear hvals
    obtain ⟨K, hK3'⟩ : ∃ K : Int, (if N.lvl = 0 then 3 else 4) = K := ⟨_, rfl⟩
    have hK3 := Lib.hid hK3'
    clear hK3'
    have zn := N2.lt
    have hS : ∀ w' : World, Below w2.heap.size w2 w' → w'.cell? ⟨w.heap.size, 0, none⟩ = some (.int .i64 N.lvl) ∧ Below w2.heap.size w2 w' :=
      fun w' hb => ⟨(hb.cell (p := ⟨w.heap.size, _, none⟩) zn).trans n0, hb⟩
    have BD : Below w2.heap.size w2 w2.drew := (Below.refl _ w2).drew
    go_wp2_with fail
    go_region_held3 (fun w' => w'.cell? ⟨w.heap.size, 0, none⟩ = some (.int .i64 N.lvl) ∧ Below w2.heap.size w2 w')
      (first | assumption | exact hS _ BD | exact hS _ (BD.alloc (Nat.le_refl _) _))
      (first
        | (go_at_call 35; refine (cblock_says N.lvl K hK3.out _).mono ?_; rintro e w3 ⟨rfl, rfl⟩)
        | fail)
    all_goals
      have H3 : HB (w2.alloc (.cells #[.int .i64 K, .int .i64 addr, .int .i64 0, .int .i64 N.lvl, .int .i64 gen] 65)).drew w2.heap.size ⟨K, addr, 0, N.lvl, gen⟩ := ⟨_, heap_alloc_new w2 _⟩
      have b3 : Below w2.heap.size w2 (w2.alloc (.cells #[.int .i64 K, .int .i64 addr, .int .i64 0, .int .i64 N.lvl, .int .i64 gen] 65)).drew := ((Below.refl _ w2).alloc (Nat.le_refl _) _).drew
      have h3lt : w2.heap.size < (w2.alloc (.cells #[.int .i64 K, .int .i64 addr, .int .i64 0, .int .i64 N.lvl, .int .i64 gen] 65)).drew.heap.size := by simp
      clear hS BD
      generalize (w2.alloc (.cells #[.int .i64 K, .int .i64 addr, .int .i64 0, .int .i64 N.lvl, .int .i64 gen] 65)).drew = w3 at *
      have N3 := N2.below b3 zn
      have B3 := B2.trans (b3.mono B2.size)
      clear N2 B2 b3 n0 N1 b1
      by_cases hl : N.lvl = 0
      · have hhb := head_leaf addr gen hl hmayH.out HlI.out hK3.out
        have Hhead := Lib.hid hhb.1
        have Hbody := Lib.hid hhb.2
        clear hhb
        have Hl := Lib.hid hl
        clear hl
        have q0 := N3.c0
        have q1 := N3.c1
        have q2 := N3.c2
        go_wp2_with fail
        refine (cleaf_any N.lvl true (decide_eq_true Hl.out) A n c B m d w3).mono ?_
        rintro e w4 ⟨rfl, hb4⟩
        have N4 := N3.below hb4 N3.lt
        have H4 := H3.below hb4 h3lt
        have B4 := B3.trans (hb4.mono B3.size)
        have z4 : w2.heap.size < w4.heap.size := Nat.lt_of_lt_of_le h3lt hb4.size
        clear hb4 N3 H3 B3 h3lt q0 q1 q2
        have nn := N4.c1
        have hw2 : w.heap.size < w2.heap.size := zn
        have hS : ∀ w' : World, Below w2.heap.size w4 w' → w'.cell? ⟨w.heap.size, 1, none⟩ = some (.slice A n c) ∧ Below w2.heap.size w4 w' :=
          fun w' hb => ⟨(hb.cell (p := ⟨w.heap.size, _, none⟩) hw2).trans nn, hb⟩
        have BD : Below w2.heap.size w4 w4.drew := (Below.refl _ w4).drew
        have hIW : ∀ w' : World, Below w2.heap.size w4 w' → Itms w' A n c N.items := fun w' hb => hI.below (B4.trans (hb.mono (Nat.le_of_lt hw2)))
        have h2 := H4.at_ 3
        have f2 := H4.fz 3
        have BS : Below w2.heap.size w4 ((w4.setCell ⟨w2.heap.size, 2, none⟩ (.int .i64 (n : Int))).drew) := ((Below.refl _ w4).setCell (p := ⟨w2.heap.size, 2, none⟩) (Nat.le_refl w2.heap.size) _).drew
        have zS : w4.heap.size ≤ (w4.setCell ⟨w2.heap.size, 2, none⟩ (.int .i64 (n : Int))).drew.heap.size := by simp
        have zD : w4.heap.size ≤ w4.drew.heap.size := Nat.le_refl _
        simp only [foff] at h2 f2
        go_wp2_with fail
        go_region_held3 (fun w' => w'.cell? ⟨w.heap.size, 1, none⟩ = some (.slice A n c) ∧ Below w2.heap.size w4 w')
          (first | assumption | exact hS _ BD | exact hS _ BS | exact hS _ bb5 | exact hS _ (bb5.setCell (p := ⟨w2.heap.size, 2, none⟩) (Nat.le_refl w2.heap.size) _))
          (first
            | (go_at_call 36; refine (cputI_any N.items A n c _ (hIW _ (by first | exact BD | exact BS)) (by omega) (fun j hj => Hv.out j (by rw [HlI.out]; exact hj))).mono ?_; rintro e w5 ⟨A5, n5, c5, rfl, hn5, s5, o5, hb5⟩; have bb5 : Below w2.heap.size w4 w5 := (by first | exact BD.trans (hb5.mono (Nat.le_trans (Nat.le_of_lt z4) zD)) | exact BS.trans (hb5.mono (Nat.le_trans (Nat.le_of_lt z4) zS))); have g5 := (show w5.cell? ⟨w2.heap.size, 2, none⟩ = _ from hb5.cell (p := ⟨w2.heap.size, 2, none⟩) (by first | exact Nat.lt_of_lt_of_le z4 zD | exact Nat.lt_of_lt_of_le z4 zS)); have k5 := (show w5.frozen? ⟨w2.heap.size, 2, none⟩ = _ from hb5.frozen (p := ⟨w2.heap.size, 2, none⟩) (by first | exact Nat.lt_of_lt_of_le z4 zD | exact Nat.lt_of_lt_of_le z4 zS)))
            | fail)
        all_goals
          simp only [Hd.fld] at h2
          have H5 : HB w5 w2.heap.size ⟨K, addr, 0, N.lvl, gen⟩ := (show HB w4.drew _ _ from H4).below hb5 z4
          have H6 := set_count (y := (n : Int)) H5
          have s6 := s5.turned (turn_setCell (S := fun k => k = w2.heap.size) (w := w5) (a := ⟨w2.heap.size, 2, none⟩) (.int .i64 (n : Int)) rfl) (fun k hk e => by
            cases A5 with
            | none => cases hk
            | some ad =>
              have e1 := o5 ad rfl
              have e2 : ad.block = k := Option.some.inj hk
              have e3 : w4.heap.size ≤ ad.block := e1
              omega)
          have B6 := B4.trans ((bb5.setCell (p := ⟨w2.heap.size, 2, none⟩) (Nat.le_refl w2.heap.size) (.int .i64 (n : Int))).mono (Nat.le_of_lt hw2))
          clear s5
          generalize w5.setCell ⟨w2.heap.size, 2, none⟩ (.int .i64 (n : Int)) = w6 at H6 s6 B6 ⊢
          clear hS BD BS hIW h2 f2 g5 k5 hb5 bb5 nn zS zD N4 H4
          go_wp2_with (first
            | (refine wp_load_hd rfl (.tmp 8) rfl w2.heap.size rfl _ H6 ?_)
            | fail)
          refine (seal_any _ A5 n5 c5 _ _ s6 (ht.below B6 ht.1)).mono ?_
          rintro e w7 ⟨A7, n7, c7, rfl, own7, hf7, hb7⟩
          rw [← Hbody.out, ← Hhead.out] at own7
          have s7 := own7.less B6.size
          have B7 := B6.trans (hb7.mono B6.size)
          have hE := Lib.hid (show writeE N addr gen = sealE (N.head addr gen) N.body by unfold writeE; rw [hmayH.out]; rfl)
          have hBy : sealB (N.head addr gen) N.body = writeB N addr gen := by unfold writeB; rw [hmayH.out]; rfl
          rw [hBy] at s7
          clear hBy
          go_wp2
          go_ret2
          rw [hE.out, Hhead.out, Hbody.out]
          exact ⟨_, _, _, rfl, s7, hf7, B7⟩
      · have hhb := head_inner addr gen hl hmayH.out HlK.out hK3.out
        have Hhead := Lib.hid hhb.1
        have Hbody := Lib.hid hhb.2
        clear hhb
        have Hl := Lib.hid hl
        clear hl
        have q0 := N3.c0
        have q1 := N3.c1
        have q2 := N3.c2
        go_wp2_with fail
        refine (cleaf_any N.lvl false (decide_eq_false Hl.out) A n c B m d w3).mono ?_
        rintro e w4 ⟨rfl, hb4⟩
        have N4 := N3.below hb4 N3.lt
        have H4 := H3.below hb4 h3lt
        have B4 := B3.trans (hb4.mono B3.size)
        have z4 : w2.heap.size < w4.heap.size := Nat.lt_of_lt_of_le h3lt hb4.size
        clear hb4 N3 H3 B3 h3lt q0 q1 q2
        have nn := N4.c2
        have hw2 : w.heap.size < w2.heap.size := zn
        have hS : ∀ w' : World, Below w2.heap.size w4 w' → w'.cell? ⟨w.heap.size, 2, none⟩ = some (.slice B m d) ∧ Below w2.heap.size w4 w' :=
          fun w' hb => ⟨(hb.cell (p := ⟨w.heap.size, _, none⟩) hw2).trans nn, hb⟩
        have BD : Below w2.heap.size w4 w4.drew := (Below.refl _ w4).drew
        have hIW : ∀ w' : World, Below w2.heap.size w4 w' → Kidl w' B m d N.kids := fun w' hb => hK.below (B4.trans (hb.mono (Nat.le_of_lt hw2)))
        have h2 := H4.at_ 3
        have f2 := H4.fz 3
        have BS : Below w2.heap.size w4 ((w4.setCell ⟨w2.heap.size, 2, none⟩ (.int .i64 (m : Int))).drew) := ((Below.refl _ w4).setCell (p := ⟨w2.heap.size, 2, none⟩) (Nat.le_refl w2.heap.size) _).drew
        have zS : w4.heap.size ≤ (w4.setCell ⟨w2.heap.size, 2, none⟩ (.int .i64 (m : Int))).drew.heap.size := by simp
        have zD : w4.heap.size ≤ w4.drew.heap.size := Nat.le_refl _
        simp only [foff] at h2 f2
        go_wp2_with fail
        go_region_held3 (fun w' => w'.cell? ⟨w.heap.size, 2, none⟩ = some (.slice B m d) ∧ Below w2.heap.size w4 w')
          (first | assumption | exact hS _ BD | exact hS _ BS | exact hS _ bb5 | exact hS _ (bb5.setCell (p := ⟨w2.heap.size, 2, none⟩) (Nat.le_refl w2.heap.size) _))
          (first
            | (go_at_call 38; refine (cputK_any N.kids B m d _ (hIW _ (by first | exact BD | exact BS)) (by omega)).mono ?_; rintro e w5 ⟨A5, n5, c5, rfl, hn5, s5, o5, hb5⟩; have bb5 : Below w2.heap.size w4 w5 := (by first | exact BD.trans (hb5.mono (Nat.le_trans (Nat.le_of_lt z4) zD)) | exact BS.trans (hb5.mono (Nat.le_trans (Nat.le_of_lt z4) zS))); have g5 := (show w5.cell? ⟨w2.heap.size, 2, none⟩ = _ from hb5.cell (p := ⟨w2.heap.size, 2, none⟩) (by first | exact Nat.lt_of_lt_of_le z4 zD | exact Nat.lt_of_lt_of_le z4 zS)); have k5 := (show w5.frozen? ⟨w2.heap.size, 2, none⟩ = _ from hb5.frozen (p := ⟨w2.heap.size, 2, none⟩) (by first | exact Nat.lt_of_lt_of_le z4 zD | exact Nat.lt_of_lt_of_le z4 zS)))
            | fail)
        all_goals
          simp only [Hd.fld] at h2
          have H5 : HB w5 w2.heap.size ⟨K, addr, 0, N.lvl, gen⟩ := (show HB w4.drew _ _ from H4).below hb5 z4
          have H6 := set_count (y := (m : Int)) H5
          have s6 := s5.turned (turn_setCell (S := fun k => k = w2.heap.size) (w := w5) (a := ⟨w2.heap.size, 2, none⟩) (.int .i64 (m : Int)) rfl) (fun k hk e => by
            cases A5 with
            | none => cases hk
            | some ad =>
              have e1 := o5 ad rfl
              have e2 : ad.block = k := Option.some.inj hk
              have e3 : w4.heap.size ≤ ad.block := e1
              omega)
          have B6 := B4.trans ((bb5.setCell (p := ⟨w2.heap.size, 2, none⟩) (Nat.le_refl w2.heap.size) (.int .i64 (m : Int))).mono (Nat.le_of_lt hw2))
          clear s5
          generalize w5.setCell ⟨w2.heap.size, 2, none⟩ (.int .i64 (m : Int)) = w6 at H6 s6 B6 ⊢
          clear hS BD BS hIW h2 f2 g5 k5 hb5 bb5 nn zS zD N4 H4
          go_wp2_with (first
            | (refine wp_load_hd rfl (.tmp 8) rfl w2.heap.size rfl _ H6 ?_)
            | fail)
          refine (seal_any _ A5 n5 c5 _ _ s6 (ht.below B6 ht.1)).mono ?_
          rintro e w7 ⟨A7, n7, c7, rfl, own7, hf7, hb7⟩
          rw [← Hbody.out, ← Hhead.out] at own7
          have s7 := own7.less B6.size
          have B7 := B6.trans (hb7.mono B6.size)
          have hE := Lib.hid (show writeE N addr gen = sealE (N.head addr gen) N.body by unfold writeE; rw [hmayH.out]; rfl)
          have hBy : sealB (N.head addr gen) N.body = writeB N addr gen := by unfold writeB; rw [hmayH.out]; rfl
          rw [hBy] at s7
          clear hBy
          go_wp2
          go_ret2
          rw [hE.out, Hhead.out, Hbody.out]
          exact ⟨_, _, _, rfl, s7, hf7, B7⟩
theorem cwrite_any (N : Nd) (addr gen : Int) (A : Option Addr) (n c : Nat) (B : Option Addr) (m d : Nat) (w : World) (hI : Itms w A n c N.items) (hK : Kidl w B m d N.kids) (hn : n ≤ 1000) (hm : m ≤ 1000) (ht : Tab w) :
    Calls Tryd.prog 13 #[.agg #[.int .i64 N.lvl, .slice A n c, .slice B m d], .int .i64 addr, .int .i64 gen] w fun e w' => ∃ A' n' c', e = .returned (.tuple #[.slice A' n' c', .int .i64 (writeE N addr gen)]) ∧ Sl w' A' n' c' (writeB N addr gen) ∧ Below w.heap.size w w' := by
  refine (cwrite_own N addr gen A n c B m d w hI hK hn hm ht).mono ?_
  rintro e w' ⟨A', n', c', rfl, own, _, hb⟩
  exact ⟨A', n', c', rfl, own.sl, hb⟩
end Go.Proofs.YtmebdjafnefneaaDoor
