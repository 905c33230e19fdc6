/- The reference's inode: Put and Take, of inodes, entries and chunks. -/
import Derived.Test.YtimlhhemfipooaaInG
import Derived.Test.YtimlhhemfipooaaE14
namespace Go.Proofs.Ytimlhhemfipooaa
open Go Go.RowKit Go.Proofs

theorem irefputin (A : Option Addr) (k c : Nat) (l : List UInt8) (x n : Int) (w : World) (h : Sl w A k c l) (hk : k ≤ 17592186044416) (h1 : 1 ≤ n) (h2 : n ≤ 8) :
    Calls Try.prog 28 #[.slice A k c, .int .i64 x, .int .i64 n] w fun e w' => ∃ A' n' c', e = .returned (.slice A' n' c') ∧ Own w' w.heap.size 5 A' n' c' (l ++ dig x n.toNat) ∧ n' ≤ k + 8 ∧ Below w.heap.size w w' := by
  have h := refput_any A k c l x n w h hk
  rw [show putS l x n = l ++ dig x n.toNat from if_pos ⟨h1, h2⟩] at h
  refine h.mono ?_
  rintro e w' ⟨A', n', c', rfl, own, hb⟩
  refine ⟨A', n', c', rfl, own, ?_, hb⟩
  have h3 := own.len
  rw [List.length_append, dig_len, (show l.length = k from (by assumption : Sl w A k c l).len)] at h3
  omega

set_option maxHeartbeats 4000000 in
theorem rPut_any (i : Ino) (w : World) :
    Calls Try.prog 11 #[.agg #[.int .i64 i.kind, .int .i64 i.links, .int .i64 i.size]] w fun e w' => ∃ A n c, e = .returned (.tuple #[.slice A n c, .int .i64 (inoPE i)]) ∧ Sl w' A n c (inoPB i) ∧ Below w.heap.size w w' := by
  have H1 : IB (w.alloc (.cells i.vs.toArray 23)) w.heap.size i.vs := IB.new w _ _
  have b1 : Below w.heap.size w (w.alloc (.cells i.vs.toArray 23)) := blA
  cases h : i.may
  · obtain ⟨e1, e2⟩ := inoPE_no h
    rw [e1, e2]
    have hm := of_decide_eq_false h
    have q0 := H1.cell 0 rfl
    have q1 := H1.cell 1 rfl
    have q2 := H1.cell 2 rfl
    obtain ⟨x, y, z⟩ := i
    dsimp only at hm q0 q1 q2 ⊢
    have hc : (x < 1 ∨ 2 < x) ∨ (1 ≤ x ∧ x ≤ 2) ∧ ((y < 0 ∨ 65535 < y) ∨ (0 ≤ y ∧ y ≤ 65535) ∧ (z < 0 ∨ 2147483647 < z)) := by omega
    clear hm h e1 e2
    go_enter Try.func11, Try.ntmps11
    go_wp2_with fail
    all_goals
      go_ret2
      exact ⟨_, _, _, rfl, sl_nil _, b1⟩
  · obtain ⟨e1, e2⟩ := inoPE_yes h
    rw [e1, e2]
    have hm := of_decide_eq_true h
    have hby := Lib.hid (show ([] ++ dig i.kind (1 : Int).toNat) ++ dig i.links (2 : Int).toNat ++ dig i.size (4 : Int).toNat = i.bytes by simp [Ino.bytes])
    generalize i.bytes = bs at hby
    obtain ⟨x, y, z⟩ := i
    have H2 : IB (w.alloc (.cells #[.int .i64 x, .int .i64 y, .int .i64 z] 23)) w.heap.size [.int .i64 x, .int .i64 y, .int .i64 z] := H1
    have b2 : Below w.heap.size w (w.alloc (.cells #[.int .i64 x, .int .i64 y, .int .i64 z] 23)) := b1
    clear H1 b1
    dsimp only at hm hby ⊢
    have q0 := H2.cell 0 rfl
    have q1 := H2.cell 1 rfl
    have q2 := H2.cell 2 rfl
    obtain ⟨⟨m1, m2⟩, ⟨m3, m4⟩, m5, m6⟩ := hm
    clear h e1 e2
    go_enter Try.func11, Try.ntmps11
    go_wp2_with fail
    clear q0 q1 q2
    generalize w.alloc (.cells #[.int .i64 x, .int .i64 y, .int .i64 z] 23) = w1 at H2 b2 ⊢
    have z1 := H2.lt
    have s1 := b2.size
    have hS : ∀ w' : World, Below (w.heap.size + 1) w1 w' → w'.cell? ⟨w.heap.size, 0, none⟩ = some (.int .i64 x) ∧ w'.cell? ⟨w.heap.size, 1, none⟩ = some (.int .i64 y) ∧ w'.cell? ⟨w.heap.size, 2, none⟩ = some (.int .i64 z) ∧ Below (w.heap.size + 1) w1 w' :=
      fun w' hb => ⟨(H2.below hb (by omega)).cell 0 rfl, (H2.below hb (by omega)).cell 1 rfl, (H2.below hb (by omega)).cell 2 rfl, hb⟩
    have h11 : (1 : Int) ≤ 1 := by omega
    have h12 : (1 : Int) ≤ 2 := by omega
    have h14 : (1 : Int) ≤ 4 := by omega
    have h18 : (1 : Int) ≤ 8 := by omega
    have h28 : (2 : Int) ≤ 8 := by omega
    have h48 : (4 : Int) ≤ 8 := by omega
    have h0 : 0 ≤ 17592186044416 := by omega
    have s1' : w.heap.size + 1 ≤ w1.drew.heap.size := z1
    have BD : Below (w.heap.size + 1) w1 w1.drew := (Below.refl _ w1).drew
    go_region_held3 (fun w' => w'.cell? ⟨w.heap.size, 0, none⟩ = some (.int .i64 x) ∧ w'.cell? ⟨w.heap.size, 1, none⟩ = some (.int .i64 y) ∧ w'.cell? ⟨w.heap.size, 2, none⟩ = some (.int .i64 z) ∧ Below (w.heap.size + 1) w1 w')
      (first | assumption | exact hS _ BD | exact hS _ ‹Below (w.heap.size + 1) w1 _›)
      (first
        | (go_at_call 28; refine (irefputin A3 n3 c3 _ z 4 _ own3.sl h3 h14 h48).mono ?_; rintro e w4 ⟨A4, n4, c4, rfl, own4, hn4, hb4⟩; have bb4 : Below (w.heap.size + 1) w1 w4 := bb3.trans (hb4.mono (Nat.le_trans s1' bb3.size)))
        | (go_at_call 28; refine (irefputin A2 n2 c2 _ y 2 _ own2.sl h2 h12 h28).mono ?_; rintro e w3 ⟨A3, n3, c3, rfl, own3, hn3, hb3⟩; have bb3 : Below (w.heap.size + 1) w1 w3 := bb2.trans (hb3.mono (Nat.le_trans s1' bb2.size)); have h3 : n3 ≤ 17592186044416 := Nat.le_trans hn3 (by omega))
        | (go_at_call 28; refine (irefputin none 0 0 [] x 1 _ (sl_nil _) h0 h11 h18).mono ?_; rintro e w2 ⟨A2, n2, c2, rfl, own2, hn2, hb2⟩; have bb2 : Below (w.heap.size + 1) w1 w2 := BD.trans (hb2.mono s1'); have h2 : n2 ≤ 17592186044416 := Nat.le_trans hn2 (by omega))
        | fail)
    all_goals
      rw [hby.out] at own4
      go_wp2
      go_ret2
      exact ⟨A4, n4, c4, rfl, own4.sl, b2.trans (bb4.mono (Nat.le_succ w.heap.size))⟩

/-- What the reference takes off bytes. -/
def rtN (l : List UInt8) (n : Nat) : Int := if n ≤ l.length then numL (l.take n) else 0
def rtR (l : List UInt8) (n : Nat) : List UInt8 := if n ≤ l.length then l.drop n else []
theorem rtR_le (l : List UInt8) (n : Nat) : (rtR l n).length ≤ l.length := by unfold rtR; split <;> simp
theorem rt_any (A : Option Addr) (k c : Nat) (l : List UInt8) (n : Int) (w : World) (h : Sl w A k c l) (hk : k ≤ 1000000) (h1 : 1 ≤ n) (h7 : n ≤ 7) :
    Calls Try.prog 36 #[.slice A k c, .int .i64 n] w fun e w' => ∃ A' n' c' x, e = .returned (.tuple #[.int .i64 (rtN l n.toNat), .slice A' n' c', .int .i64 x]) ∧ Sl w' A' n' c' (rtR l n.toNat) ∧ n' ≤ 1000000 ∧ Below w.heap.size w w' := by
  have hl := h.len
  by_cases hs : (k : Int) < n
  · unfold rtN rtR
    rw [if_neg (by omega), if_neg (by omega)]
    refine (reftake_short A k c n w (by omega) (by omega) hs).mono ?_
    rintro e w' ⟨rfl, rfl⟩
    exact ⟨_, _, _, _, rfl, sl_nil w, by omega, Below.refl _ _⟩
  · unfold rtN rtR
    rw [if_pos (by omega), if_pos (by omega)]
    refine (reftake_yes A k c l n w h (by omega) (by omega) (by omega) (by omega)).mono ?_
    rintro e w' ⟨A', n', c', rfl, ho, hb⟩
    have := ho.len
    rw [List.length_drop] at this
    exact ⟨_, _, _, _, rfl, ho.sl, by omega, hb⟩
/-- The inode that the reference reads. -/
def rIno (l : List UInt8) : Ino := ⟨rtN l 1, rtN (rtR l 1) 2, rtN (rtR (rtR l 1) 2) 4⟩
theorem rIno_eq (l : List UInt8) (h : l.length = 7) : rIno l = inoOf l := by
  have h1 : rtR l 1 = l.drop 1 := if_pos (by omega)
  have h2 : rtR (l.drop 1) 2 = l.drop 3 := by unfold rtR; rw [if_pos (by simp; omega), List.drop_drop]
  unfold rIno
  rw [h1, h2]
  unfold rtN inoOf
  rw [if_pos (by omega), if_pos (by simp; omega), if_pos (by simp; omega)]
theorem rIno_no1 (l : List UInt8) (h : (rIno l).may = false) : inoOk l = false := by
  cases hk : inoOk l
  · rfl
  · obtain ⟨h7, hm, _⟩ := ino_ok_form l hk
    rw [rIno_eq l h7, hm] at h
    cases h
theorem rIno_no2 (l : List UInt8) (h : (rIno l).bytes ≠ l) : inoOk l = false := by
  cases hk : inoOk l
  · rfl
  · obtain ⟨h7, _, hb⟩ := ino_ok_form l hk
    rw [rIno_eq l h7] at h
    exact absurd hb h
theorem rIno_yes (l : List UInt8) (hm : (rIno l).may = true) (h : (rIno l).bytes = l) : inoOk l = true ∧ rIno l = inoOf l := by
  have h7 : l.length = 7 := by rw [← h, ino_len]
  have e := rIno_eq l h7
  exact ⟨by unfold inoOk; rw [← e, hm, decide_eq_true h7]; rfl, e⟩
theorem iconv {w : World} {A : Option Addr} {n c : Nat} {l : List UInt8} (h : Sl w A n c l) : (convert 26 9 (.slice A n c)).run Try.prog w = .ok (.string ⟨l.toArray⟩) w :=
  run_conv_bs 26 9 5 T22 Try.underlying5 Try.underlying9 h

set_option maxRecDepth 10000 in
set_option maxHeartbeats 4000000 in
theorem rTake_any (B : Option Addr) (m d : Nat) (l : List UInt8) (w : World) (hs : Sl w B m d l) (hm : m ≤ 1000000) :
    Calls Try.prog 17 #[.slice B m d] w fun e w' => e = .returned (.tuple #[.agg #[.int .i64 (inoT l).kind, .int .i64 (inoT l).links, .int .i64 (inoT l).size], .int .i64 (inoTE l)]) ∧ Below w.heap.size w w' := by
  have R1 : IB (w.alloc (.cells Ino.zero.vs.toArray 23)) w.heap.size Ino.zero.vs := IB.new w _ _
  have b1 : Below w.heap.size w (w.alloc (.cells Ino.zero.vs.toArray 23)) := blA
  have hri : rIno l = ⟨rtN l 1, rtN (rtR l 1) 2, rtN (rtR (rtR l 1) 2) 4⟩ := rfl
  obtain ⟨x, hx⟩ : ∃ x, rtN l 1 = x := ⟨_, rfl⟩
  obtain ⟨y, hy⟩ : ∃ y, rtN (rtR l 1) 2 = y := ⟨_, rfl⟩
  obtain ⟨z, hz⟩ : ∃ z, rtN (rtR (rtR l 1) 2) 4 = z := ⟨_, rfl⟩
  rw [hx, hy, hz] at hri
  have Hri := Lib.hid hri
  have Hx := Lib.hid hx
  have Hy := Lib.hid hy
  have Hz := Lib.hid hz
  clear hri hx hy hz
  go_enter Try.func17, Try.ntmps17
  go_wp2_with fail
  change Calls _ _ _ (w.alloc (.cells Ino.zero.vs.toArray 23)) _
  generalize w.alloc (.cells Ino.zero.vs.toArray 23) = w1 at R1 b1 ⊢
  have s1 := hs.below b1
  refine (rt_any B m d l 1 w1 s1 hm (by omega) (by omega)).mono ?_
  rw [show (1 : Int).toNat = 1 from rfl, Hx.out]
  rintro e w2 ⟨A2, n2, c2, x2, rfl, t2, hn2, hb2⟩
  have R2 := R1.below hb2 R1.lt
  have s2 := s1.below hb2
  have B2 := btr b1 hb2
  go_wp2_with fail
  refine (rt_any A2 n2 c2 _ 2 w2 t2 hn2 (by omega) (by omega)).mono ?_
  rw [show (2 : Int).toNat = 2 from rfl, Hy.out]
  rintro e w3 ⟨A3, n3, c3, x3, rfl, t3, hn3, hb3⟩
  have R3 := R2.below hb3 R2.lt
  have s3 := s2.below hb3
  have B3 := btr B2 hb3
  go_wp2_with fail
  refine (rt_any A3 n3 c3 _ 4 w3 t3 hn3 (by omega) (by omega)).mono ?_
  rw [show (4 : Int).toNat = 4 from rfl, Hz.out]
  rintro e w4 ⟨A4, n4, c4, x4, rfl, t4, hn4, hb4⟩
  have R4 := R3.below hb4 R3.lt
  have s4 := s3.below hb4
  have B4 := btr B3 hb4
  clear R1 R2 R3 s1 s2 s3 t2 t3 t4 b1 B2 B3 hb2 hb3 hb4
  have H5 : IB (w4.alloc (.cells #[.int .i64 x, .int .i64 y, .int .i64 z] 23)) w4.heap.size (Ino.mk x y z).vs := IB.new w4 _ _
  have b5 : Below w4.heap.size w4 (w4.alloc (.cells #[.int .i64 x, .int .i64 y, .int .i64 z] 23)) := blA
  have hlt := R4.lt
  go_wp2_with fail
  generalize w4.alloc (.cells #[.int .i64 x, .int .i64 y, .int .i64 z] 23) = w5 at H5 b5 ⊢
  have R5 := R4.below b5 R4.lt
  have s5 := s4.below b5
  have B5 := btr B4 b5
  clear R4 s4 B4 b5
  refine (rPut_any (Ino.mk x y z) w5).mono ?_
  cases hmay : (Ino.mk x y z).may
  · obtain ⟨e1, e2⟩ := inoPE_no hmay
    rw [e1, e2]
    rintro e w6 ⟨A6, n6, c6, rfl, s6, hb6⟩
    have R6 := R5.below hb6 R5.lt
    have B6 := btr B5 hb6
    obtain ⟨f1, f2⟩ := inoT_no (rIno_no1 l (by rw [Hri.out]; exact hmay))
    have F1 := Lib.hid f1
    have F2 := Lib.hid f2
    clear f1 f2 e1 e2 hmay
    go_wp2_with (refine wp_store_ib rfl _ _ _ rfl w.heap.size rfl Ino.zero.vs rfl R6 rfl (by kernel_rfl) rfl ?_; intro w7 R7 T7)
    refine bodyPost_ret (res_i2 Try.results17 rfl (load_ino R7)) rfl ⟨by rw [F1.out, F2.out]; rfl, ?_⟩
    exact B6.trans (T7.below (fun x hx => by omega) B6.size)
  · obtain ⟨e1, e2⟩ := inoPE_yes hmay
    rw [e1, e2]
    rintro e w6 ⟨A6, n6, c6, rfl, s6, hb6⟩
    have R6 := R5.below hb6 R5.lt
    have H6 := H5.below hb6 H5.lt
    have B6 := btr B5 hb6
    have k6 := iconv s6
    have k5 := iconv (s5.below hb6)
    obtain ⟨bs, hbs⟩ : ∃ bs, (Ino.mk x y z).bytes = bs := ⟨_, rfl⟩
    rw [hbs] at k6
    by_cases hbl : bs = l
    · obtain ⟨g1, g2⟩ := rIno_yes l (by rw [Hri.out]; exact hmay) (by rw [Hri.out, hbs]; exact hbl)
      obtain ⟨f1, f2⟩ := inoT_yes g1
      have F1 := Lib.hid (f1.trans (g2.symm.trans Hri.out))
      have F2 := Lib.hid f2
      rw [hbl] at k6
      clear f1 f2 e1 e2 hmay g1 g2 hbs hbl
      go_wp2_with (first
        | (refine wp_load_ib rfl _ _ rfl w4.heap.size rfl _ H6 Try.underlying23 rfl (by kernel_rfl) ?_)
        | (refine wp_store_ib rfl _ _ _ rfl w.heap.size rfl (Ino.mk x y z).vs rfl R6 rfl (by kernel_rfl) rfl ?_; intro w7 R7 T7))
      refine bodyPost_ret (res_i2 Try.results17 rfl (load_ino R7)) rfl ⟨by rw [F1.out, F2.out]; rfl, ?_⟩
      exact B6.trans (T7.below (fun x hx => by omega) B6.size)
    · obtain ⟨f1, f2⟩ := inoT_no (rIno_no2 l (by rw [Hri.out, hbs]; exact hbl))
      have F1 := Lib.hid f1
      have F2 := Lib.hid f2
      have hne : (bs == l) = false := by simpa using hbl
      clear f1 f2 e1 e2 hmay hbs hbl
      go_wp2_with (refine wp_store_ib rfl _ _ _ rfl w.heap.size rfl Ino.zero.vs rfl R6 rfl (by kernel_rfl) rfl ?_; intro w7 R7 T7)
      refine bodyPost_ret (res_i2 Try.results17 rfl (load_ino R7)) rfl ⟨by rw [F1.out, F2.out]; rfl, ?_⟩
      exact B6.trans (T7.below (fun x hx => by omega) B6.size)
end Go.Proofs.Ytimlhhemfipooaa
