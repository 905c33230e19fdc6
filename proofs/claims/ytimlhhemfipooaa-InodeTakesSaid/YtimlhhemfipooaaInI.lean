/- The reference's inode: PutEntry and TakeEntry. -/
import Derived.Test.YtimlhhemfipooaaInH
namespace Go.Proofs.Ytimlhhemfipooaa
open Go Go.RowKit Go.Proofs

set_option maxHeartbeats 400000 in
theorem irefpt_yes (A B : Option Addr) (k c n d : Nat) (l y : List UInt8) (m x : Int) (w : World) (h : Sl w A k c l) (h' : Sl w B n d y) (hk : k ≤ 17592186044416) (hn : n ≤ 17592186044416) (hs : (n : Int) ≤ x) (h1 : 1 ≤ m) (h8 : m ≤ 8) :
    Calls Try.prog 46 #[.slice A k c, .slice B n d, .int .i64 m, .int .i64 x] w fun e w' => ∃ A' n' c', e = .returned (.tuple #[.slice A' n' c', .int .i64 0]) ∧ Own w' w.heap.size 5 A' n' c' (l ++ (dig n m.toNat ++ y)) ∧ Below w.heap.size w w' := by
  have Hl := Lib.hid h.len
  go_enter Try.func46, Try.ntmps46
  go_wp2_with fail
  refine (refput_any A k c l n m w h hk).mono ?_
  rintro e w1 ⟨A1, n1, c1, rfl, hown1, hb1⟩
  rw [show putS l n m = l ++ dig n m.toNat from if_pos ⟨h1, h8⟩] at hown1
  have hn1 : n1 ≤ 17592186044424 := by have h2 := hown1.len; rw [List.length_append, dig_len, Hl.out] at h2; omega
  have hy := h'.below hb1
  go_wp2_with (at_builtin; refine wp_append_b _ T22 rfl _ _ rfl w.heap.size A1 n1 c1 _ rfl hown1 B n d y rfl hy (by omega) hb1.size ?_)
  intro A2 c2 w2 hown2 hb2
  go_wp2
  go_ret2
  exact ⟨_, _, _, rfl, hown2, hb1.trans hb2⟩
set_option maxHeartbeats 400000 in
theorem irefputtext_yes (A : Option Addr) (k c : Nat) (l : List UInt8) (s : ByteArray) (w : World) (h : Sl w A k c l) (hk : k ≤ 17592186044416) (hs : s.size ≤ 255) :
    Calls Try.prog 32 #[.slice A k c, .string s] w fun e w' => ∃ A' n' c', e = .returned (.tuple #[.slice A' n' c', .int .i64 0]) ∧ Own w' w.heap.size 5 A' n' c' (l ++ (dig s.size 1 ++ s.data.toList)) ∧ Below w.heap.size w w' := by
  have hconv := tconv_sb s
  have hd := below_conv_sb w 5 s
  have hx := sl_conv_sb w 5 s (by unfold maxLen; omega)
  go_enter Try.func32, Try.ntmps32
  go_wp2_with (go_at_call 46; refine (irefpt_yes A _ k c _ _ l s.data.toList 1 255 _ (h.below hd) hx hk (by omega) (by omega) (by omega) (by omega)).mono ?_; rintro e w1 ⟨A1, n1, c1, rfl, hown1, hb1⟩)
  go_ret2
  exact ⟨_, _, _, rfl, hown1.less hd.size, hd.trans (hb1.mono hd.size)⟩

set_option maxRecDepth 10000 in
set_option maxHeartbeats 4000000 in
theorem rPutEntry_any (i : Ent) (w : World) :
    Calls Try.prog 13 #[.agg #[.string i.name, .int .i64 i.ino, .int .i64 i.kind]] w fun e w' => ∃ A n c, e = .returned (.tuple #[.slice A n c, .int .i64 (entPE i)]) ∧ Sl w' A n c (entPB i) ∧ Below w.heap.size w w' := by
  obtain ⟨s, x, y⟩ := i
  have H1 : IB (w.alloc (.cells #[.string s, .int .i64 x, .int .i64 y] 25)) w.heap.size [.string s, .int .i64 x, .int .i64 y] := IB.new w _ _
  have b1 : Below w.heap.size w (w.alloc (.cells #[.string s, .int .i64 x, .int .i64 y] 25)) := blA
  cases h : (Ent.mk s x y).may
  · obtain ⟨e1, e2⟩ := entPE_no h
    rw [e1, e2]
    have hm : ¬ ((1 ≤ s.size ∧ s.size ≤ 20) ∧ (1 ≤ x ∧ x ≤ 2147483647) ∧ 1 ≤ y ∧ y ≤ 2) := by
      rintro ⟨h1, h2, h3⟩
      have : (Ent.mk s x y).may = true := by
        unfold Ent.may nameMay entMay
        rw [decide_eq_true h1, decide_eq_true ⟨h2, h3⟩]; rfl
      rw [h] at this
      cases this
    have q0 := H1.cell 0 rfl
    have q1 := H1.cell 1 rfl
    have q2 := H1.cell 2 rfl
    generalize hsz : s.size = sz at hm
    have hc : ((sz : Int) < 1 ∨ 20 < (sz : Int)) ∨ (1 ≤ (sz : Int) ∧ (sz : Int) ≤ 20) ∧ ((x < 1 ∨ 2147483647 < x) ∨ (1 ≤ x ∧ x ≤ 2147483647) ∧ (y < 1 ∨ 2 < y)) := by omega
    rw [← hsz] at hc
    clear hm h e1 e2 hsz
    dsimp only
    go_enter Try.func13, Try.ntmps13
    go_wp2_with fail
    all_goals
      go_ret2
      exact ⟨_, _, _, rfl, sl_nil _, b1⟩
  · obtain ⟨e1, e2⟩ := entPE_yes h
    rw [e1, e2]
    obtain ⟨hn, hr⟩ := Bool.and_eq_true_iff.1 h
    obtain ⟨m1, m2⟩ : 1 ≤ s.size ∧ s.size ≤ 20 := of_decide_eq_true hn
    obtain ⟨⟨m3, m4⟩, m5, m6⟩ : (1 ≤ x ∧ x ≤ 2147483647) ∧ 1 ≤ y ∧ y ≤ 2 := of_decide_eq_true hr
    have hby := Lib.hid (show ([] ++ (dig (s.size : Int) 1 ++ s.data.toList)) ++ dig x (4 : Int).toNat ++ dig y (1 : Int).toNat = (Ent.mk s x y).bytes by simp [Ent.bytes])
    generalize (Ent.mk s x y).bytes = bs at hby
    dsimp only
    have q0 := H1.cell 0 rfl
    have q1 := H1.cell 1 rfl
    have q2 := H1.cell 2 rfl
    clear h e1 e2 hn hr
    go_enter Try.func13, Try.ntmps13
    go_wp2_with fail
    generalize w.alloc (.cells #[.string s, .int .i64 x, .int .i64 y] 25) = w0 at H1 b1 q0 q1 q2 ⊢
    refine (irefputtext_yes none 0 0 [] s w0 (sl_nil _) (by omega) (by omega)).mono ?_
    rintro e w1 ⟨A1, n1, c1, rfl, own1, hb1⟩
    have hn1 : n1 ≤ 21 := by
      have := own1.len
      have e2 : s.data.size = s.size := rfl
      simp [dig_len] at this
      omega
    have H2 := H1.below hb1 H1.lt
    have b2 := btr b1 hb1
    clear H1 b1 q0 q1 q2 hb1
    go_wp2_with fail
    have z1 := H2.lt
    have hS : ∀ w' : World, Below (w.heap.size + 1) w1 w' → w'.cell? ⟨w.heap.size, 1, none⟩ = some (.int .i64 x) ∧ w'.cell? ⟨w.heap.size, 2, none⟩ = some (.int .i64 y) ∧ Below (w.heap.size + 1) w1 w' :=
      fun w' hb => ⟨(H2.below hb (by omega)).cell 1 rfl, (H2.below hb (by omega)).cell 2 rfl, hb⟩
    have h11 : (1 : Int) ≤ 1 := by omega
    have h14 : (1 : Int) ≤ 4 := by omega
    have h18 : (1 : Int) ≤ 8 := by omega
    have h48 : (4 : Int) ≤ 8 := by omega
    have h0 : n1 ≤ 17592186044416 := by omega
    have s1' : w.heap.size + 1 ≤ w1.drew.heap.size := z1
    have BD : Below (w.heap.size + 1) w1 w1.drew := (Below.refl _ w1).drew
    go_region_held3 (fun w' => w'.cell? ⟨w.heap.size, 1, none⟩ = some (.int .i64 x) ∧ w'.cell? ⟨w.heap.size, 2, none⟩ = some (.int .i64 y) ∧ Below (w.heap.size + 1) w1 w')
      (first | assumption | exact hS _ BD | exact hS _ ‹Below (w.heap.size + 1) w1 _›)
      (first
        | (go_at_call 28; refine (irefputin A2 n2 c2 _ y 1 _ own2.sl h2 h11 h18).mono ?_; rintro e w3 ⟨A3, n3, c3, rfl, own3, hn3, hb3⟩; have bb3 : Below (w.heap.size + 1) w1 w3 := bb2.trans (hb3.mono (Nat.le_trans s1' bb2.size)))
        | (go_at_call 28; refine (irefputin A1 n1 c1 _ x 4 _ own1.drew.sl h0 h14 h48).mono ?_; rintro e w2 ⟨A2, n2, c2, rfl, own2, hn2, hb2⟩; have bb2 : Below (w.heap.size + 1) w1 w2 := BD.trans (hb2.mono s1'); have h2 : n2 ≤ 17592186044416 := Nat.le_trans hn2 (by omega))
        | fail)
    all_goals
      rw [hby.out] at own3
      go_wp2
      go_ret2
      exact ⟨A3, n3, c3, rfl, own3.sl, b2.trans (bb3.mono (Nat.le_succ w.heap.size))⟩

/-- The entry that the reference reads. -/
def rtS (l : List UInt8) : ByteArray := if wholeB l = true then ⟨(bodyT l 1).toArray⟩ else ⟨#[]⟩
def rtT (l : List UInt8) : List UInt8 := if wholeB l = true then restT l 1 else []
def rEnt (l : List UInt8) : Ent := ⟨rtS l, rtN (rtT l) 4, rtN (rtR (rtT l) 4) 1⟩
theorem rts_any (A : Option Addr) (k c : Nat) (l : List UInt8) (w : World) (h : Sl w A k c l) (hk : k ≤ 1000000) :
    Calls Try.prog 38 #[.slice A k c] w fun e w' => ∃ A' n' c' x, e = .returned (.tuple #[.string (rtS l), .slice A' n' c', .int .i64 x]) ∧ Sl w' A' n' c' (rtT l) ∧ n' ≤ 1000000 ∧ Below w.heap.size w w' := by
  unfold rtS rtT
  cases hw : wholeB l
  · refine (treftaketext_no A k c l w h (by omega) (fun h => absurd ((wholeB_iff l).2 h) (by rw [hw]; exact Bool.false_ne_true))).mono ?_
    rintro e w' ⟨rfl, hb⟩
    exact ⟨_, _, _, _, rfl, sl_nil w', by omega, hb⟩
  · refine (treftaketext_yes A k c l w h (by omega) ((wholeB_iff l).1 hw)).mono ?_
    rintro e w' ⟨A', n', c', rfl, hs, _, hb⟩
    have h1 := hs.len
    have h2 := restT_le l 1
    have h3 := h.len
    exact ⟨_, _, _, _, rfl, hs, by omega, hb⟩
theorem rEnt_eq (l : List UInt8) (hw : wholeB l = true) (h5 : (restT l 1).length = 5) : rEnt l = entOf l := by
  have e1 : rtT l = restT l 1 := if_pos hw
  have e2 : rtS l = ⟨(bodyT l 1).toArray⟩ := if_pos hw
  have e3 : rtR (restT l 1) 4 = (restT l 1).drop 4 := if_pos (by omega)
  unfold rEnt
  rw [e1, e2, e3]
  unfold rtN entOf
  rw [if_pos (by omega), if_pos (by simp; omega)]
theorem ent_ok_parts (l : List UInt8) (h : entOk l = true) : wholeB l = true ∧ (restT l 1).length = 5 := by
  obtain ⟨h1, h2⟩ := Bool.and_eq_true_iff.1 h
  obtain ⟨_, h4⟩ := Bool.and_eq_true_iff.1 h2
  exact ⟨h1, of_decide_eq_true (Bool.and_eq_true_iff.1 h4).1⟩
theorem rEnt_no1 (l : List UInt8) (h : (rEnt l).may = false) : entOk l = false := by
  cases hk : entOk l
  · rfl
  · obtain ⟨h1, h2⟩ := ent_ok_parts l hk
    rw [rEnt_eq l h1 h2, (ent_ok_form l hk).1] at h
    cases h
theorem rEnt_no2 (l : List UInt8) (h : (rEnt l).bytes ≠ l) : entOk l = false := by
  cases hk : entOk l
  · rfl
  · obtain ⟨h1, h2⟩ := ent_ok_parts l hk
    rw [rEnt_eq l h1 h2] at h
    exact absurd (ent_ok_form l hk).2 h
theorem rEnt_yes (l : List UInt8) (hm : (rEnt l).may = true) (h : (rEnt l).bytes = l) : entOk l = true ∧ rEnt l = entOf l := by
  obtain ⟨h1, h2⟩ := ent_back (rEnt l) hm
  rw [h] at h1 h2
  exact ⟨h2, h1.symm⟩

set_option maxRecDepth 10000 in
set_option maxHeartbeats 4000000 in
theorem rTakeEntry_any (B : Option Addr) (m d : Nat) (l : List UInt8) (w : World) (hs : Sl w B m d l) (hm : m ≤ 1000000) :
    Calls Try.prog 19 #[.slice B m d] w fun e w' => e = .returned (.tuple #[.agg #[.string (entT l).name, .int .i64 (entT l).ino, .int .i64 (entT l).kind], .int .i64 (entTE l)]) ∧ Below w.heap.size w w' := by
  have R1 : IB (w.alloc (.cells Ent.zero.vs.toArray 25)) w.heap.size Ent.zero.vs := IB.new w _ _
  have b1 : Below w.heap.size w (w.alloc (.cells Ent.zero.vs.toArray 25)) := blA
  have hri : rEnt l = ⟨rtS l, rtN (rtT l) 4, rtN (rtR (rtT l) 4) 1⟩ := rfl
  obtain ⟨s, hx⟩ : ∃ s, rtS l = s := ⟨_, rfl⟩
  obtain ⟨y, hy⟩ : ∃ y, rtN (rtT l) 4 = y := ⟨_, rfl⟩
  obtain ⟨z, hz⟩ : ∃ z, rtN (rtR (rtT l) 4) 1 = z := ⟨_, rfl⟩
  rw [hx, hy, hz] at hri
  have Hri := Lib.hid hri
  have Hx := Lib.hid hx
  have Hy := Lib.hid hy
  have Hz := Lib.hid hz
  clear hri hx hy hz
  go_enter Try.func19, Try.ntmps19
  go_wp2_with fail
  change Calls _ _ _ (w.alloc (.cells Ent.zero.vs.toArray 25)) _
  generalize w.alloc (.cells Ent.zero.vs.toArray 25) = w1 at R1 b1 ⊢
  have s1 := hs.below b1
  refine (rts_any B m d l w1 s1 hm).mono ?_
  rw [Hx.out]
  rintro e w2 ⟨A2, n2, c2, x2, rfl, t2, hn2, hb2⟩
  have R2 := R1.below hb2 R1.lt
  have s2 := s1.below hb2
  have B2 := btr b1 hb2
  go_wp2_with fail
  refine (rt_any A2 n2 c2 _ 4 w2 t2 hn2 (by omega) (by omega)).mono ?_
  rw [show (4 : Int).toNat = 4 from rfl, Hy.out]
  rintro e w3 ⟨A3, n3, c3, x3, rfl, t3, hn3, hb3⟩
  have R3 := R2.below hb3 R2.lt
  have s3 := s2.below hb3
  have B3 := btr B2 hb3
  go_wp2_with fail
  refine (rt_any A3 n3 c3 _ 1 w3 t3 hn3 (by omega) (by omega)).mono ?_
  rw [show (1 : Int).toNat = 1 from rfl, Hz.out]
  rintro e w4 ⟨A4, n4, c4, x4, rfl, t4, hn4, hb4⟩
  have R4 := R3.below hb4 R3.lt
  have s4 := s3.below hb4
  have B4 := btr B3 hb4
  clear R1 R2 R3 s1 s2 s3 t2 t3 t4 b1 B2 B3 hb2 hb3 hb4
  have H5 : IB (w4.alloc (.cells #[.string s, .int .i64 y, .int .i64 z] 25)) w4.heap.size (Ent.mk s y z).vs := IB.new w4 _ _
  have b5 : Below w4.heap.size w4 (w4.alloc (.cells #[.string s, .int .i64 y, .int .i64 z] 25)) := blA
  have hlt := R4.lt
  go_wp2_with fail
  generalize w4.alloc (.cells #[.string s, .int .i64 y, .int .i64 z] 25) = w5 at H5 b5 ⊢
  have R5 := R4.below b5 R4.lt
  have s5 := s4.below b5
  have B5 := btr B4 b5
  clear R4 s4 B4 b5
  refine (rPutEntry_any (Ent.mk s y z) w5).mono ?_
  cases hmay : (Ent.mk s y z).may
  · obtain ⟨e1, e2⟩ := entPE_no hmay
    rw [e1, e2]
    rintro e w6 ⟨A6, n6, c6, rfl, s6, hb6⟩
    have R6 := R5.below hb6 R5.lt
    have B6 := btr B5 hb6
    obtain ⟨f1, f2⟩ := entT_no (rEnt_no1 l (by rw [Hri.out]; exact hmay))
    have F1 := Lib.hid f1
    have F2 := Lib.hid f2
    clear f1 f2 e1 e2 hmay
    go_wp2_with (refine wp_store_ib rfl _ _ _ rfl w.heap.size rfl Ent.zero.vs rfl R6 rfl (by kernel_rfl) rfl ?_; intro w7 R7 T7)
    refine bodyPost_ret (res_i2 Try.results19 rfl (load_ent R7)) rfl ⟨by rw [F1.out, F2.out]; rfl, ?_⟩
    exact B6.trans (T7.below (fun x hx => by omega) B6.size)
  · obtain ⟨e1, e2⟩ := entPE_yes hmay
    rw [e1, e2]
    rintro e w6 ⟨A6, n6, c6, rfl, s6, hb6⟩
    have R6 := R5.below hb6 R5.lt
    have H6 := H5.below hb6 H5.lt
    have B6 := btr B5 hb6
    have k6 := iconv s6
    have k5 := iconv (s5.below hb6)
    obtain ⟨bs, hbs⟩ : ∃ bs, (Ent.mk s y z).bytes = bs := ⟨_, rfl⟩
    rw [hbs] at k6
    by_cases hbl : bs = l
    · obtain ⟨g1, g2⟩ := rEnt_yes l (by rw [Hri.out]; exact hmay) (by rw [Hri.out, hbs]; exact hbl)
      obtain ⟨f1, f2⟩ := entT_yes g1
      have F1 := Lib.hid (f1.trans (g2.symm.trans Hri.out))
      have F2 := Lib.hid f2
      rw [hbl] at k6
      clear f1 f2 e1 e2 hmay g1 g2 hbs hbl
      go_wp2_with (first
        | (refine wp_load_ib rfl _ _ rfl w4.heap.size rfl _ H6 Try.underlying25 rfl (by kernel_rfl) ?_)
        | (refine wp_store_ib rfl _ _ _ rfl w.heap.size rfl (Ent.mk s y z).vs rfl R6 rfl (by kernel_rfl) rfl ?_; intro w7 R7 T7))
      refine bodyPost_ret (res_i2 Try.results19 rfl (load_ent R7)) rfl ⟨by rw [F1.out, F2.out]; rfl, ?_⟩
      exact B6.trans (T7.below (fun x hx => by omega) B6.size)
    · obtain ⟨f1, f2⟩ := entT_no (rEnt_no2 l (by rw [Hri.out, hbs]; exact hbl))
      have F1 := Lib.hid f1
      have F2 := Lib.hid f2
      have hne : (bs == l) = false := by simpa using hbl
      clear f1 f2 e1 e2 hmay hbs hbl
      go_wp2_with (refine wp_store_ib rfl _ _ _ rfl w.heap.size rfl Ent.zero.vs rfl R6 rfl (by kernel_rfl) rfl ?_; intro w7 R7 T7)
      refine bodyPost_ret (res_i2 Try.results19 rfl (load_ent R7)) rfl ⟨by rw [F1.out, F2.out]; rfl, ?_⟩
      exact B6.trans (T7.below (fun x hx => by omega) B6.size)
end Go.Proofs.Ytimlhhemfipooaa
