/- The reference's inode: PutExtent and TakeExtent. -/
import Derived.Test.YtimlhhemfipooaaInI
namespace Go.Proofs.Ytimlhhemfipooaa
open Go Go.RowKit Go.Proofs

set_option maxRecDepth 10000 in
set_option maxHeartbeats 4000000 in
theorem rPutExtent_any (A : Option Addr) (n c : Nat) (l : List UInt8) (a : Int) (w : World) (hs : Sl w A n c l) (hn : n ≤ 1000000) :
    Calls Try.prog 15 #[.agg #[.slice A n c, .int .i64 a]] w fun e w' => ∃ A n c, e = .returned (.tuple #[.slice A n c, .int .i64 (extPE l a)]) ∧ Sl w' A n c (extPB l a) ∧ Below w.heap.size w w' := by
  have H1 : IB (w.alloc (.cells #[.slice A n c, .int .i64 a] 28)) w.heap.size [.slice A n c, .int .i64 a] := IB.new w _ _
  have b1 : Below w.heap.size w (w.alloc (.cells #[.slice A n c, .int .i64 a] 28)) := blA
  have hl := hs.len
  have q0 := H1.cell 0 rfl
  have q1 := H1.cell 1 rfl
  cases h : extMay l a
  · obtain ⟨e1, e2⟩ := extPE_no h
    rw [e1, e2]
    have hm := of_decide_eq_false h
    rw [hl] at hm
    have hc : (a = 0 ∧ ((n : Int) < 1 ∨ 24 < (n : Int))) ∨ (a ≠ 0 ∧ ((a < 1 ∨ 2048 ≤ a) ∨ (1 ≤ a ∧ a < 2048) ∧ (n : Int) ≠ 0)) := by omega
    clear hm h e1 e2 hl
    rcases hc with ⟨rfl, hc⟩ | ⟨ha, hc⟩
    · go_enter Try.func15, Try.ntmps15
      go_wp2_with fail
      all_goals
        go_ret2
        exact ⟨_, _, _, rfl, sl_nil _, b1⟩
    · have a0 : (a == 0) = false := by simpa using ha
      have a1 : decide (a = 0) = false := decide_eq_false ha
      rcases hc with hc | ⟨hc, hn0⟩
      · go_enter Try.func15, Try.ntmps15
        go_wp2_with fail
        all_goals
          go_ret2
          exact ⟨_, _, _, rfl, sl_nil _, b1⟩
      · have n0 : ((n : Int) == 0) = false := by simpa using hn0
        have n1 : decide ((n : Int) = 0) = false := decide_eq_false hn0
        have n2 : ((n : Int) != 0) = true := by simpa using hn0
        go_enter Try.func15, Try.ntmps15
        go_wp2_with fail
        all_goals
          go_ret2
          exact ⟨_, _, _, rfl, sl_nil _, b1⟩
  · obtain ⟨e1, e2⟩ := extPE_yes h
    rw [e1, e2]
    have hm := of_decide_eq_true h
    rw [hl] at hm
    rcases hm with ⟨h0, h1, h2⟩ | ⟨h0, h1, h2⟩
    · subst h0
      have hb := Lib.hid (show extBytes l a = [1] ++ dig a (2 : Int).toNat by unfold extBytes; rw [if_pos hl]; rfl)
      have ow := (own_one (w.alloc (.cells #[.slice A 0 c, .int .i64 a] 28)) 5 1 (.int .u8 1) rfl).sl
      rw [World.size_alloc] at ow
      have bl : Below (w.heap.size + 1) (w.alloc (.cells #[.slice A 0 c, .int .i64 a] 28)) ((w.alloc (.cells #[.slice A 0 c, .int .i64 a] 28)).alloc (.cells #[.int .u8 1] 5)) := (Below.refl _ _).alloc (by simp) _
      have q1' := (bl.cell (p := ⟨w.heap.size, 1, none⟩) (by show w.heap.size < _; omega)).trans q1
      have a0 : (a == 0) = false := by simp; omega
      have a1 : decide (a = 0) = false := decide_eq_false (by omega)
      clear h e1 e2 hl
      go_enter Try.func15, Try.ntmps15
      go_wp2_with (go_at_call 28; refine (irefputin _ 1 1 [1] a 2 _ ow (by omega) (by omega) (by omega)).mono ?_; rintro e w2 ⟨A2, n2, c2, rfl, own2, hn2, hb2⟩)
      go_ret2
      exact ⟨_, _, _, rfl, by rw [hb.out]; exact own2.sl, btr (btr b1 blA) hb2⟩
    · subst h0
      have hb := Lib.hid (show extBytes l 0 = [0] ++ l by unfold extBytes; rw [if_neg (by omega)]; rfl)
      have ow := own_one (w.alloc (.cells #[.slice A n c, .int .i64 0] 28)) 5 0 (.int .u8 0) rfl
      rw [World.size_alloc] at ow
      have s1 := hs.below (btr b1 (blA (o := .cells #[.int .u8 0] 5)))
      have bl : Below (w.heap.size + 1) (w.alloc (.cells #[.slice A n c, .int .i64 0] 28)) ((w.alloc (.cells #[.slice A n c, .int .i64 0] 28)).alloc (.cells #[.int .u8 0] 5)) := (Below.refl _ _).alloc (by simp) _
      have q0' := (bl.cell (p := ⟨w.heap.size, 0, none⟩) (by show w.heap.size < _; omega)).trans q0
      clear h e1 e2 hl
      go_enter Try.func15, Try.ntmps15
      go_wp2_with (at_builtin; refine wp_append_b _ T22 rfl _ _ rfl _ _ _ _ [0] rfl ow _ _ _ l rfl s1 (by omega) (by simp) ?_; intro A4 c4 w4 own4 hb4)
      go_ret2
      exact ⟨_, _, _, rfl, by rw [hb.out]; exact own4.sl, b1.trans (((Below.refl _ _).alloc (by simp) _).trans (hb4.mono (by simp)))⟩
theorem byt_head (l : List UInt8) (h : 1 ≤ l.length) (h0 : byt l 0 = 0) : l = 0 :: l.drop 1 := by
  match l, h with
  | b :: r, _ => exact congrArg (· :: r) (UInt8.toNat_inj.1 h0)
def rA (l : List UInt8) : Int := rtN (l.drop 1) 2
theorem rExt_no1 (l : List UInt8) (hb : byt l 0 ≠ 0) (h : extMay [] (rA l) = false) : extOk l = false := by
  have h1 := of_decide_eq_false h
  refine decide_eq_false ?_
  rintro (⟨_, h3, h4, h5⟩ | ⟨h2, _⟩)
  · have e : rA l = (numL (l.drop 1) : Int) := by unfold rA rtN; rw [if_pos (by simp; omega), List.take_of_length_le (by simp; omega)]
    rw [e] at h1
    exact h1 (.inl ⟨rfl, by omega, by omega⟩)
  · exact hb h2
theorem rExt_no2 (l : List UInt8) (hb : byt l 0 ≠ 0) (h : extBytes [] (rA l) ≠ l) : extOk l = false := by
  cases hk : extOk l
  · rfl
  · obtain ⟨h1, h2⟩ := ext_ok_form l hk
    rcases of_decide_eq_true hk with ⟨h3, h4, _⟩ | ⟨h3, _⟩
    · have e : rA l = extA l := by
        unfold rA rtN extA
        rw [if_pos (by simp; omega), List.take_of_length_le (by simp; omega), if_pos h3]
      have e2 : extL l = [] := by unfold extL; rw [if_pos h3]
      rw [e, ← e2] at h
      exact absurd h2 h
    · exact absurd h3 hb
theorem rExt_yes (l : List UInt8) (hm : extMay [] (rA l) = true) (h : extBytes [] (rA l) = l) : extOk l = true ∧ extA l = rA l ∧ extL l = [] := by
  have := ext_back [] (rA l) hm
  rw [h] at this
  exact this

set_option maxRecDepth 10000 in
set_option maxHeartbeats 4000000 in
theorem rTakeExtent_any (B : Option Addr) (m d : Nat) (l : List UInt8) (w : World) (hs : Sl w B m d l) (hm : m ≤ 100000) :
    Calls Try.prog 21 #[.slice B m d] w fun e w' => ∃ A n c, e = .returned (.tuple #[.agg #[.slice A n c, .int .i64 (extTA l)], .int .i64 (extTE l)]) ∧ Sl w' A n c (extTL l) ∧ Below w.heap.size w w' := by
  obtain ⟨R1, H1, b1, z1⟩ := two_new w xz xz 28 28
  have hl := hs.len
  by_cases h0 : m = 0
  · have hno : extOk l = false := decide_eq_false (by omega)
    obtain ⟨f1, f2, f3⟩ := extT_no hno
    rw [f1, f2, f3]
    have hle : l = [] := List.eq_nil_of_length_eq_zero (by omega)
    have s1 := hs.below b1
    subst h0
    clear hno f1 f2 f3 hl
    go_enter Try.func21, Try.ntmps21
    go_wp2_with fail
    change Calls _ _ _ ((w.alloc (.cells xz.toArray 28)).alloc (.cells xz.toArray 28)) _
    generalize (w.alloc (.cells xz.toArray 28)).alloc (.cells xz.toArray 28) = w1 at R1 H1 b1 z1 s1 ⊢
    refine (rPutExtent_any none 0 0 [] 0 w1 (sl_nil _) (by omega)).mono ?_
    rw [show extPE [] 0 = 1 from rfl, show extPB [] 0 = [] from rfl]
    rintro e w2 ⟨A2, n2, c2, rfl, s2, hb2⟩
    have R2 := R1.below hb2 R1.lt
    have B2 := btr b1 hb2
    go_wp2_with (refine wp_store_ib rfl _ _ _ rfl w.heap.size rfl xz rfl R2 rfl (by kernel_rfl) rfl ?_; intro w3 R3 T3)
    refine bodyPost_ret (res_i2 Try.results21 rfl (load_ext R3)) rfl ⟨_, _, _, rfl, sl_nil _, ?_⟩
    exact B2.trans (T3.below (fun x hx => by omega) B2.size)
  · obtain ⟨ad, hB, hadl, v0⟩ := hs.cell (k := 0) (by omega)
    subst hB
    have v1 : ∀ o p, ((w.alloc o).alloc p).cell? ad = some (.int .u8 (byt l 0 : Int)) := fun o p => (((blA (w := w) (o := o)).alloc (by simp) p).cell (p := ad) hadl).trans v0
    have hc1 := hs.cap
    have hcm := hs.max
    unfold maxLen at hcm
    have hi1 : (1 : Int) ≤ (m : Int) := by omega
    have hi2 : (m : Int) ≤ (d : Int) := by omega
    have hi3 : 1 ≤ m := by omega
    obtain ⟨f, hf⟩ : ∃ f, byt l 0 = f := ⟨_, rfl⟩
    have hgt : decide ((0 : Int) < (m : Int)) = true := decide_eq_true (by omega)
    rw [hf] at v1
    have Hl := Lib.hid hl
    have Hf := Lib.hid hf
    have hd := hs.drop (k := 1) (by omega)
    have bx : ∀ o p, Below w.heap.size w ((w.alloc o).alloc p) := fun o p => (blA (w := w) (o := o)).alloc (by simp) p
    have fin : ∀ (W : World) (A : Option Addr) (n c : Nat) (x : Int) (L : List UInt8), (extOk l = false → L = [] ∧ x = 0) → (extOk l = true → L = extL l ∧ x = extA l) → L = extTL l ∧ x = extTA l := fun W A n c x L h1 h2 => by
      cases hk : extOk l
      · obtain ⟨f1, f2, _⟩ := extT_no hk
        rw [f1, f2]; exact h1 hk
      · obtain ⟨f1, f2, _⟩ := extT_yes hk
        rw [f1, f2]; exact h2 hk
    clear fin
    by_cases hf0 : f = 0
    · subst hf0
      have hsplit : (d = 1 ∧ m = 1) ∨ d ≠ 1 := by omega
      clear hl hf
      have ow : ∀ o p, Own (((w.alloc o).alloc p).alloc (.cells #[] 5)) (w.heap.size + 1 + 1) 5 (some ⟨w.heap.size + 1 + 1, 0, none⟩) 0 0 [] := fun o p => by
        have := own_empty ((w.alloc o).alloc p) 5
        simpa using this
      have b3 : ∀ o p, Below (w.heap.size + 1 + 1) ((w.alloc o).alloc p) (((w.alloc o).alloc p).alloc (.cells #[] 5)) := fun o p => (Below.refl _ _).alloc (by simp) _
      rcases hsplit with ⟨hd1, hm1⟩ | hd1
      · subst hd1 hm1
        have hno : extOk l = false := decide_eq_false (by have := Hl.out; have := Hf.out; omega)
        obtain ⟨f1, f2, f3⟩ := extT_no hno
        rw [f1, f2, f3]
        have hl0 : l.drop 1 = [] := List.eq_nil_of_length_eq_zero (by rw [List.length_drop, Hl.out])
        rw [if_pos rfl, hl0] at hd
        clear hno f1 f2 f3 hl0
        go_enter Try.func21, Try.ntmps21
        go_wp2_with (at_builtin; refine wp_append_lit _ T22 rfl _ _ rfl (w.heap.size + 1 + 1) (w.heap.size + 1 + 1) rfl (ow _ _) (some ad) 0 0 [] rfl ((hd.below (bx _ _)).alloc _) (by omega) (by simp) ?_; intro A4 c4 w4 own4 hb4; have B4 := hb4.mono (show w.heap.size + 1 + 1 ≤ _ by simp); have H4 := (H1.below (b3 _ _) (by omega)).below B4 (by omega); have R4 := (R1.below (b3 _ _) (by omega)).below B4 (by omega); have q4 := H4.cell 0 rfl; have z4 := H4.fz 0; have H5 := H4.set 0 (.slice A4 0 c4); have q5 := H5.cell 0 rfl; have q6 := H5.cell 1 rfl)
        have s5 := (own_turnI own4 (w' := w4.setCell ⟨w.heap.size + 1, 0, none⟩ (.slice A4 0 c4)) fun g hg _ => Below.heap_setCell _ _ _ _ (by show g ≠ w.heap.size + 1; omega)).sl
        have R5 := R4.keep (w' := w4.setCell ⟨w.heap.size + 1, 0, none⟩ (.slice A4 0 c4)) (Below.heap_setCell _ _ _ _ (by show w.heap.size ≠ w.heap.size + 1; omega))
        have B5 : Below w.heap.size w (w4.setCell ⟨w.heap.size + 1, 0, none⟩ (.slice A4 0 c4)) := ((b1.trans ((b3 _ _).mono (by omega))).trans (B4.mono (by omega))).setCell (by show w.heap.size ≤ w.heap.size + 1; omega) _
        clear q4 z4 q5 q6 H4 own4 hb4 B4 R4
        generalize w4.setCell ⟨w.heap.size + 1, 0, none⟩ (.slice A4 0 c4) = w5 at H5 s5 R5 B5 ⊢
        refine (rPutExtent_any A4 0 c4 [] 0 w5 s5 (by omega)).mono ?_
        rw [show extPE [] 0 = 1 from rfl, show extPB [] 0 = [] from rfl]
        rintro e w6 ⟨A6, n6, c6, rfl, s6, hb6⟩
        have R6 := R5.below hb6 R5.lt
        have B6 := btr B5 hb6
        go_wp2_with (refine wp_store_ib rfl _ _ _ rfl w.heap.size rfl xz rfl R6 rfl (by kernel_rfl) rfl ?_; intro w7 R7 T7)
        refine bodyPost_ret (res_i2 Try.results21 rfl (load_ext R7)) rfl ⟨_, _, _, rfl, sl_nil _, ?_⟩
        exact B6.trans (T7.below (fun x hx => by omega) B6.size)
      · rw [if_neg hd1] at hd
        have d1f : decide (d = 1) = false := decide_eq_false hd1
        have hmm : m - 1 ≤ 100000 := by omega
        have s0 := fun o p => hs.below (bx o p)
        go_enter Try.func21, Try.ntmps21
        go_wp2_with (at_builtin; refine wp_append_lit _ T22 rfl _ _ rfl (w.heap.size + 1 + 1) (w.heap.size + 1 + 1) rfl (ow _ _) _ (m - 1) (d - 1) (l.drop 1) rfl ((hd.below (bx _ _)).alloc _) (by omega) (by simp) ?_; intro A4 c4 w4 own4 hb4; have B4 := hb4.mono (show w.heap.size + 1 + 1 ≤ _ by simp); have H4 := (H1.below (b3 _ _) (by omega)).below B4 (by omega); have R4 := (R1.below (b3 _ _) (by omega)).below B4 (by omega); have s4 := ((s0 _ _).alloc _).below (hb4.mono (by simp)); have q4 := H4.cell 0 rfl; have z4 := H4.fz 0; have H5 := H4.set 0 (.slice A4 (m - 1) c4); have q5 := H5.cell 0 rfl; have q6 := H5.cell 1 rfl)
        have own5 := (own_turnI own4 (w' := w4.setCell ⟨w.heap.size + 1, 0, none⟩ (.slice A4 (m - 1) c4)) fun g hg _ => Below.heap_setCell _ _ _ _ (by show g ≠ w.heap.size + 1; omega))
        have s5 := own5.sl
        have B5a : Below (w.heap.size + 1) w4 (w4.setCell ⟨w.heap.size + 1, 0, none⟩ (.slice A4 (m - 1) c4)) := (Below.refl _ _).setCell (p := ⟨w.heap.size + 1, 0, none⟩) (by show w.heap.size + 1 ≤ w.heap.size + 1; omega) _
        have R5 := R4.below B5a (by omega)
        have B0 : Below w.heap.size w w4 := (b1.trans ((b3 _ _).mono (by omega))).trans (B4.mono (by omega))
        have B5 := B0.trans (B5a.mono (by omega))
        have o5 := Sl.below hs B5
        clear q4 z4 q5 q6 H4 own4 hb4 B4 R4 B0 s4 B5a
        generalize w4.setCell ⟨w.heap.size + 1, 0, none⟩ (.slice A4 (m - 1) c4) = w5 at H5 own5 s5 R5 B5 o5 ⊢
        obtain ⟨r, hr⟩ : ∃ r, l.drop 1 = r := ⟨_, rfl⟩
        rw [hr] at s5 own5
        have hf' := Hf.out
        have hl' := Hl.out
        have hrl : r.length = m - 1 := by rw [← hr, List.length_drop, hl']
        have hlr : l = 0 :: r := by
          rw [← hr]
          exact byt_head l (by omega) hf'
        have hxl : extL l = r := by unfold extL; rw [if_neg (by omega), hr]
        have hxa : extA l = 0 := by unfold extA; rw [if_neg (by omega)]
        have hb0 : 0 < r.length → extBytes r 0 = l := fun h => by unfold extBytes; rw [if_neg (by omega), hlr]
        have hok : extOk l = extMay r 0 := by
          unfold extOk extMay
          exact decide_eq_decide.2 (by omega)
        refine (rPutExtent_any A4 (m - 1) c4 r 0 w5 s5 (by omega)).mono ?_
        cases hmay : extMay r 0
        · obtain ⟨e1, e2⟩ := extPE_no hmay
          obtain ⟨f1, f2, f3⟩ := extT_no (hok.trans hmay)
          rw [e1, e2]
          have F := Lib.hid (And.intro f1 (And.intro f2 f3))
          clear e1 e2 f1 f2 f3 hok hmay hb0 hxl hxa hlr hrl hf' hl' hr
          rintro e w6 ⟨A6, n6, c6, rfl, s6, hb6⟩
          have R6 := R5.below hb6 R5.lt
          have B6 := btr B5 hb6
          go_wp2_with (refine wp_store_ib rfl _ _ _ rfl w.heap.size rfl xz rfl R6 rfl (by kernel_rfl) rfl ?_; intro w7 R7 T7)
          refine bodyPost_ret (res_i2 Try.results21 rfl (load_ext R7)) rfl ⟨none, 0, 0, by rw [F.out.1, F.out.2.2]; rfl, by rw [F.out.2.1]; exact sl_nil _, ?_⟩
          exact B6.trans (T7.below (fun x hx => by omega) B6.size)
        · obtain ⟨e1, e2⟩ := extPE_yes hmay
          obtain ⟨f1, f2, f3⟩ := extT_yes (hok.trans hmay)
          have hpos : 0 < r.length := by
            rcases of_decide_eq_true hmay with h | h
            · omega
            · omega
          rw [e1, e2, hb0 hpos]
          have F := Lib.hid (And.intro (f1.trans hxa) (And.intro (f2.trans hxl) f3))
          clear e1 e2 f1 f2 f3 hok hmay hb0 hxl hxa hlr hrl hf' hl' hr hpos
          rintro e w6 ⟨A6, n6, c6, rfl, s6, hb6⟩
          have R6 := R5.below hb6 R5.lt
          have H6 := H5.below hb6 H5.lt
          have B6 := btr B5 hb6
          have k6 := iconv s6
          have k5 := iconv (o5.below hb6)
          have own7 := own5.below hb6
          go_wp2_with (first
            | (refine wp_load_ib rfl _ _ rfl (w.heap.size + 1) rfl [.slice A4 (m - 1) c4, .int .i64 0] H6 Try.underlying28 rfl (by kernel_rfl) ?_)
            | (refine wp_store_ib rfl _ _ _ rfl w.heap.size rfl [.slice A4 (m - 1) c4, .int .i64 0] rfl R6 rfl (by kernel_rfl) rfl ?_; intro w7 R7 T7))
          refine bodyPost_ret (res_i2 Try.results21 rfl (load_ext R7)) rfl ⟨A4, m - 1, c4, by rw [F.out.1, F.out.2.2]; rfl, ?_, ?_⟩
          · rw [F.out.2.1]
            exact (own_turnI own7 fun g hg hg2 => T7.block g hg2 (by show ¬ (g = w.heap.size); omega)).sl
          · exact B6.trans (T7.below (fun x hx => by omega) B6.size)
    · have f1 : ((f : Int) == 0) = false := by simp; omega
      have f2 : decide ((f : Int) = 0) = false := decide_eq_false (by omega)
      have s0 := fun o p => hs.below (bx o p)
      have hsplit : (d = 1 ∧ m = 1) ∨ d ≠ 1 := by omega
      clear hl hf
      rcases hsplit with hd1 | hd1
      all_goals
        first
          | (obtain ⟨rfl, rfl⟩ := hd1
             rw [if_pos rfl] at hd)
          | (rw [if_neg hd1] at hd
             have d1f : decide (d = 1) = false := decide_eq_false hd1)
        go_enter Try.func21, Try.ntmps21
        go_wp2_with fail
        refine (rt_any _ _ _ (l.drop 1) 2 _ (hd.below (bx _ _)) (by omega) (by omega) (by omega)).mono ?_
        rw [show (2 : Int).toNat = 2 from rfl]
        rintro e w5 ⟨A5, n5, c5, x5, rfl, -, -, hb5⟩
        have e5 : rtN (l.drop 1) 2 = rA l := rfl
        obtain ⟨a, ha⟩ : ∃ a, rA l = a := ⟨_, rfl⟩
        rw [e5, ha]
        have H5 := H1.below hb5 H1.lt
        have R5 := R1.below hb5 R1.lt
        have B5 := btr b1 hb5
        have o5 := (s0 _ _).below hb5
        have q4 := H5.cell 1 rfl
        have z4 := H5.fz 1
        have H6 := H5.set 1 (.int .i64 a)
        have q5 := H6.cell 0 rfl
        have q6 := H6.cell 1 rfl
        have B6a : Below (w.heap.size + 1) w5 (w5.setCell ⟨w.heap.size + 1, 1, none⟩ (.int .i64 a)) := (Below.refl _ _).setCell (p := ⟨w.heap.size + 1, 1, none⟩) (by show w.heap.size + 1 ≤ w.heap.size + 1; omega) _
        have R6 := R5.below B6a (by omega)
        have B6 := B5.trans (B6a.mono (by omega))
        have o6 := Sl.below hs B6
        go_wp2_with fail
        clear q4 z4 q5 q6 R5 B5 o5 B6a H5
        generalize w5.setCell ⟨w.heap.size + 1, 1, none⟩ (.int .i64 a) = w6 at H6 R6 B6 o6 ⊢
        have hf0' : byt l 0 ≠ 0 := by rw [Hf.out]; exact hf0
        refine (rPutExtent_any none 0 0 [] a w6 (sl_nil _) (by omega)).mono ?_
        cases hmay : extMay [] a
        · obtain ⟨e1, e2⟩ := extPE_no hmay
          obtain ⟨f1, f2, f3⟩ := extT_no (rExt_no1 l hf0' (by rw [ha]; exact hmay))
          rw [e1, e2]
          have F := Lib.hid (And.intro f1 (And.intro f2 f3))
          clear e1 e2 e5 f1 f2 f3 hmay ha
          rintro e w7 ⟨A7, n7, c7, rfl, s7, hb7⟩
          have R7 := R6.below hb7 R6.lt
          have B7 := btr B6 hb7
          go_wp2_with (refine wp_store_ib rfl _ _ _ rfl w.heap.size rfl xz rfl R7 rfl (by kernel_rfl) rfl ?_; intro w8 R8 T8)
          refine bodyPost_ret (res_i2 Try.results21 rfl (load_ext R8)) rfl ⟨none, 0, 0, by rw [F.out.1, F.out.2.2]; rfl, by rw [F.out.2.1]; exact sl_nil _, ?_⟩
          exact B7.trans (T8.below (fun x hx => by omega) B7.size)
        · obtain ⟨e1, e2⟩ := extPE_yes hmay
          rw [e1, e2]
          rintro e w7 ⟨A7, n7, c7, rfl, s7, hb7⟩
          have R7 := R6.below hb7 R6.lt
          have H7 := H6.below hb7 H6.lt
          have B7 := btr B6 hb7
          have k7 := iconv s7
          have k5 := iconv (o6.below hb7)
          obtain ⟨bs, hbs⟩ : ∃ bs, extBytes [] a = bs := ⟨_, rfl⟩
          rw [hbs] at k7
          by_cases hbl : bs = l
          · obtain ⟨g1, g2, g3⟩ := rExt_yes l (by rw [ha]; exact hmay) (by rw [ha, hbs]; exact hbl)
            obtain ⟨f1, f2, f3⟩ := extT_yes g1
            have F := Lib.hid (And.intro (f1.trans (g2.trans ha)) (And.intro (f2.trans g3) f3))
            rw [hbl] at k7
            clear e1 e2 e5 f1 f2 f3 hmay ha hbl hbs g1 g2 g3
            go_wp2_with (first
              | (refine wp_load_ib rfl _ _ rfl (w.heap.size + 1) rfl [.slice none 0 0, .int .i64 a] H7 Try.underlying28 rfl (by kernel_rfl) ?_)
              | (refine wp_store_ib rfl _ _ _ rfl w.heap.size rfl [.slice none 0 0, .int .i64 a] rfl R7 rfl (by kernel_rfl) rfl ?_; intro w8 R8 T8))
            refine bodyPost_ret (res_i2 Try.results21 rfl (load_ext R8)) rfl ⟨none, 0, 0, by rw [F.out.1, F.out.2.2]; rfl, by rw [F.out.2.1]; exact sl_nil _, ?_⟩
            exact B7.trans (T8.below (fun x hx => by omega) B7.size)
          · obtain ⟨f1, f2, f3⟩ := extT_no (rExt_no2 l hf0' (by rw [ha, hbs]; exact hbl))
            have F := Lib.hid (And.intro f1 (And.intro f2 f3))
            have hne : (bs == l) = false := by simpa using hbl
            clear e1 e2 e5 f1 f2 f3 hmay ha hbl hbs
            go_wp2_with (refine wp_store_ib rfl _ _ _ rfl w.heap.size rfl xz rfl R7 rfl (by kernel_rfl) rfl ?_; intro w8 R8 T8)
            refine bodyPost_ret (res_i2 Try.results21 rfl (load_ext R8)) rfl ⟨none, 0, 0, by rw [F.out.1, F.out.2.2]; rfl, by rw [F.out.2.1]; exact sl_nil _, ?_⟩
            exact B7.trans (T8.below (fun x hx => by omega) B7.size)
end Go.Proofs.Ytimlhhemfipooaa
