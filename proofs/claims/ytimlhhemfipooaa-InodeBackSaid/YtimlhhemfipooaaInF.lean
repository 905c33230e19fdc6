/- Inode's PutExtent and TakeExtent. -/
import Derived.Test.YtimlhhemfipooaaInE
namespace Go.Proofs.Ytimlhhemfipooaa
open Go Go.RowKit Go.Proofs

/-- What is put of a chunk, and whether it may be. -/
def extMay (l : List UInt8) (a : Int) : Bool := decide ((l.length = 0 ∧ 1 ≤ a ∧ a ≤ 2047) ∨ (a = 0 ∧ 1 ≤ l.length ∧ l.length ≤ 24))
def extBytes (l : List UInt8) (a : Int) : List UInt8 := if l.length = 0 then 1 :: dig a 2 else 0 :: l
/-- What bytes say of a chunk: its kind, its address, whether they are one's. -/
def extA (l : List UInt8) : Int := if byt l 0 = 1 then numL (l.drop 1) else 0
def extL (l : List UInt8) : List UInt8 := if byt l 0 = 1 then [] else l.drop 1
def extOk (l : List UInt8) : Bool := decide ((byt l 0 = 1 ∧ l.length = 3 ∧ 1 ≤ numL (l.drop 1) ∧ numL (l.drop 1) ≤ 2047) ∨ (byt l 0 = 0 ∧ 2 ≤ l.length ∧ l.length ≤ 25))

theorem adr_tk (b : Nat) (l : List UInt8) : tkF (addrFs b) l = decide (l.length = 2 ∧ 1 ≤ numL l ∧ numL l ≤ 2047) := by
  have h1 : posF (addrFs b) (addrFs b).length = 2 := rfl
  have h2 : rdI (addrFs b) l 0 = (numL (l.take 2) : Int) := rfl
  unfold tkF
  rw [h1]
  by_cases h : l.length = 2
  · rw [decide_eq_true h, Bool.true_and]
    unfold addrFs at h2 ⊢
    rw [mayF1, h2, List.take_of_length_le (by omega)]
    unfold inF
    dsimp only
    exact decide_eq_decide.2 (by omega)
  · rw [decide_eq_false h, Bool.false_and]
    exact (decide_eq_false (fun h' => h h'.1)).symm
theorem adr_wid (b j : Nat) (hj : j < 1) : 1 ≤ (flAt (addrFs b) j).wid ∧ (flAt (addrFs b) j).wid ≤ 7 := by
  obtain rfl : j = 0 := by omega
  simp [flAt, addrFs]
theorem adr_off (b j : Nat) (r : List Value) (hr : r.length = 2) (hj : j < 1) : (flAt (addrFs b) j).b = b ∧ (flAt (addrFs b) j).o < r.length := by
  obtain rfl : j = 0 := by omega
  rw [hr]
  simp [flAt, addrFs]
theorem adr_set (b : Nat) (l : List UInt8) (x y : Value) : setF (addrFs b) (rdI (addrFs b) l) [x, y] 1 = [x, .int .i64 (rdI (addrFs b) l 0)] := rfl
theorem adr_rdset (b : Nat) (l : List UInt8) (x y : Value) (j : Nat) (hj : j < 1) : (setF (addrFs b) (rdI (addrFs b) l) [x, y] 1)[(flAt (addrFs b) j).o]? = some (.int .i64 (rdI (addrFs b) l j)) := by
  obtain rfl : j = 0 := by omega
  rfl
theorem adr_nums {w : World} {b : Nat} {x : Value} {a : Int} (H : IB w b [x, .int .i64 a]) : Nums w (addrFs b) (fun _ => a) := fun j hj => by
  obtain rfl : j = 0 := by simp [addrFs] at hj; omega
  exact ⟨H.lt, H.cell 1 rfl⟩
theorem adr_may (b : Nat) (a : Int) (l : List UInt8) (h : l.length = 0) : mayF (addrFs b) (fun _ => a) = extMay l a := by
  unfold addrFs
  rw [mayF1]
  unfold inF extMay
  dsimp only
  exact decide_eq_decide.2 (by omega)
theorem load_ext {w : World} {b : Nat} {A : Option Addr} {n c : Nat} {a : Int} (H : IB w b [.slice A n c, .int .i64 a]) : (loadVar 28 ⟨b, 0, none⟩).run Try.prog w = .ok (.agg #[.slice A n c, .int .i64 a]) w :=
  run_loadVar_mid w b 0 28 _ _ H.range Try.underlying28 rfl (by kernel_rfl)

/-- What PutExtent answers. -/
def ExtPuts (w : World) (l : List UInt8) (a : Int) (e : Ending) (w' : World) : Prop :=
  (extMay l a = false → e = .returned (.tuple #[.slice none 0 0, .int .i64 1])) ∧ (extMay l a = true → ∃ A n c, e = .returned (.tuple #[.slice A n c, .int .i64 0]) ∧ Sl w' A n c (extBytes l a)) ∧ Below w.heap.size w w'
theorem ExtPuts.no {w w' : World} {l : List UInt8} {a : Int} (h : extMay l a = false) (hb : Below w.heap.size w w') : ExtPuts w l a (.returned (.tuple #[.slice none 0 0, .int .i64 1])) w' :=
  ⟨fun _ => rfl, fun h2 => absurd (h.symm.trans h2) Bool.false_ne_true, hb⟩
theorem ExtPuts.yes {w w' : World} {l : List UInt8} {a : Int} {A : Option Addr} {n c : Nat} (h : extMay l a = true) (hs : Sl w' A n c (extBytes l a)) (hb : Below w.heap.size w w') : ExtPuts w l a (.returned (.tuple #[.slice A n c, .int .i64 0])) w' :=
  ⟨fun h2 => absurd (h2.symm.trans h) Bool.false_ne_true, fun _ => ⟨A, n, c, rfl, hs⟩, hb⟩

theorem btr {a b c : World} (h : Below a.heap.size a b) (k : Below b.heap.size b c) : Below a.heap.size a c := h.trans (k.mono h.size)

set_option maxRecDepth 10000 in
set_option maxHeartbeats 4000000 in
theorem iPutExtent_any (A : Option Addr) (n c : Nat) (l : List UInt8) (a : Int) (w : World) (hs : Sl w A n c l) (hn : n ≤ 1000000) :
    Calls Try.prog 14 #[.agg #[.slice A n c, .int .i64 a]] w fun e w' => ExtPuts w l a e w' := by
  have H1 : IB (w.alloc (.cells [Value.slice A n c, .int .i64 a].toArray 28)) w.heap.size [.slice A n c, .int .i64 a] := IB.new w _ _
  have b1 : Below w.heap.size w (w.alloc (.cells [Value.slice A n c, .int .i64 a].toArray 28)) := blA
  have hl := hs.len
  have Hl := Lib.hid hl
  by_cases h0 : n = 0
  · subst h0
    have ad := adr_may w.heap.size a l hl
    have hb : extBytes l a = putF (addrFs w.heap.size) (fun _ => a) [1] 1 := by unfold extBytes; rw [if_pos hl]; rfl
    have Hb := Lib.hid hb
    have ow := (own_one (w.alloc (.cells [Value.slice A 0 c, .int .i64 a].toArray 28)) 5 1 (.int .u8 1) rfl).sl
    rw [World.size_alloc] at ow
    clear hl hb
    cases hm : extMay l a
    · rw [hm] at ad
      have Hm := Lib.hid hm
      clear hm
      go_enter Try.func14, Try.ntmps14
      go_wp2_with (first
        | (go_at_call 33; refine (addrField_any w.heap.size 1 _).mono ?_; rintro e w2 ⟨rfl, hb2⟩; have H2 := (H1.below ((Below.refl _ _).alloc (Nat.le_refl _) _) H1.lt).below hb2 (by simp; omega); have H3 := H2.below ((Below.refl _ _).alloc (Nat.le_refl _) (.cells (addrFl w.heap.size 1).vs.toArray 60)) H2.lt)
        | (go_at_call 26; refine (iput_no (addrFs w.heap.size) (fun _ => a) _ _ _ _ _ _ _ (flds_new w2 _ _ (addrFs w.heap.size) 1 rfl rfl (by omega)) (adr_nums H3) ad).mono ?_; rintro e w4 ⟨rfl, hb4⟩))
      go_ret2
      exact ExtPuts.no Hm.out (btr (btr (btr b1 blA) hb2) (btr blA hb4))
    · rw [hm] at ad
      have Hm := Lib.hid hm
      clear hm
      go_enter Try.func14, Try.ntmps14
      go_wp2_with (first
        | (go_at_call 33; refine (addrField_any w.heap.size 1 _).mono ?_; rintro e w2 ⟨rfl, hb2⟩; have H2 := (H1.below ((Below.refl _ _).alloc (Nat.le_refl _) _) H1.lt).below hb2 (by simp; omega); have H3 := H2.below ((Below.refl _ _).alloc (Nat.le_refl _) (.cells (addrFl w.heap.size 1).vs.toArray 60)) H2.lt; have s3 := (ow.below hb2).alloc (.cells (addrFl w.heap.size 1).vs.toArray 60))
        | (go_at_call 26; refine (iput_yes (addrFs w.heap.size) (fun _ => a) _ _ _ _ _ _ [1] _ (flds_new w2 _ _ (addrFs w.heap.size) 1 rfl rfl (by omega)) (adr_nums H3) ad s3 (by omega) (by omega) (adr_wid _)).mono ?_; rintro e w4 ⟨A4, n4, c4, rfl, hs4, hb4⟩))
      go_ret2
      exact ExtPuts.yes Hm.out (by rw [Hb.out]; exact hs4) (btr (btr (btr b1 blA) hb2) (btr blA hb4))
  · have n0 : ((n : Int) == 0) = false := by simp; omega
    have n1 : decide ((n : Int) = 0) = false := decide_eq_false (by omega)
    by_cases ha : a = 0
    · subst ha
      cases hm : decide (1 ≤ n ∧ n ≤ 24)
      · have hno : extMay l 0 = false := by
          have := of_decide_eq_false hm
          exact decide_eq_false (by omega)
        have Hno := Lib.hid hno
        clear hno hl
        go_enter Try.func14, Try.ntmps14
        go_wp2_with (go_at_call 34; refine (imayInline_any A n c false hm _).mono ?_; rintro e w2 ⟨rfl, rfl⟩)
        go_ret2
        exact ExtPuts.no Hno.out b1
      · have hyes : extMay l 0 = true := by
          have := of_decide_eq_true hm
          exact decide_eq_true (by omega)
        have hb : extBytes l 0 = [0] ++ l := by unfold extBytes; rw [if_neg (by omega)]; rfl
        have Hb := Lib.hid hb
        have Hyes := Lib.hid hyes
        have ow := own_one (w.alloc (.cells [Value.slice A n c, .int .i64 0].toArray 28)) 5 0 (.int .u8 0) rfl
        rw [World.size_alloc] at ow
        have s1 := hs.below (btr b1 (blA (o := .cells #[.int .u8 0] 5)))
        clear hyes hl hb
        go_enter Try.func14, Try.ntmps14
        go_wp2_with (first
          | (go_at_call 34; refine (imayInline_any A n c true hm _).mono ?_; rintro e w2 ⟨rfl, rfl⟩)
          | (at_builtin; refine wp_append_b _ T22 rfl _ _ rfl _ _ _ _ [0] rfl ow _ _ _ l rfl s1 (by omega) (by simp) ?_; intro A4 c4 w4 own4 hb4))
        go_ret2
        exact ExtPuts.yes Hyes.out (by rw [Hb.out]; exact own4.sl) (b1.trans (((Below.refl _ _).alloc (by simp) _).trans (hb4.mono (by simp))))
    · have hno : extMay l a = false := decide_eq_false (by omega)
      have Hno := Lib.hid hno
      have a0 : (a == 0) = false := by simp; omega
      have a1 : decide (a = 0) = false := decide_eq_false ha
      clear hno hl
      go_enter Try.func14, Try.ntmps14
      go_wp2
      go_ret2
      exact ExtPuts.no Hno.out b1

/-- What TakeExtent answers. -/
def ExtTakes (w : World) (l : List UInt8) (e : Ending) (w' : World) : Prop :=
  (extOk l = false → e = .returned (.tuple #[.agg #[.slice none 0 0, .int .i64 0], .int .i64 3])) ∧ (extOk l = true → ∃ A n c, e = .returned (.tuple #[.agg #[.slice A n c, .int .i64 (extA l)], .int .i64 0]) ∧ Sl w' A n c (extL l)) ∧ Below w.heap.size w w'
theorem ExtTakes.no {w w' : World} {l : List UInt8} (h : extOk l = false) (hb : Below w.heap.size w w') : ExtTakes w l (.returned (.tuple #[.agg #[.slice none 0 0, .int .i64 0], .int .i64 3])) w' :=
  ⟨fun _ => rfl, fun h2 => absurd (h.symm.trans h2) Bool.false_ne_true, hb⟩
theorem ExtTakes.yes {w w' : World} {l : List UInt8} {a : Int} {A : Option Addr} {n c : Nat} (h : extOk l = true) (ha : extA l = a) (hs : Sl w' A n c (extL l)) (hb : Below w.heap.size w w') : ExtTakes w l (.returned (.tuple #[.agg #[.slice A n c, .int .i64 a], .int .i64 0])) w' :=
  ⟨fun h2 => absurd (h2.symm.trans h) Bool.false_ne_true, fun _ => ⟨A, n, c, by rw [ha], hs⟩, hb⟩
def xz : List Value := [.slice none 0 0, .int .i64 0]
theorem num_one (l : List UInt8) (h : 1 ≤ l.length) : numL (l.take 1) = byt l 0 := by
  match l, h with
  | x :: l, _ => simp [numL, byt]

set_option maxRecDepth 10000 in
set_option maxHeartbeats 4000000 in
theorem iTakeExtent_any (B : Option Addr) (m d : Nat) (l : List UInt8) (w : World) (hs : Sl w B m d l) (hm : m ≤ 1000000) :
    Calls Try.prog 20 #[.slice B m d] w fun e w' => ExtTakes w l e w' := by
  have R1 : IB (w.alloc (.cells xz.toArray 28)) w.heap.size xz := IB.new w _ _
  have b1 : Below w.heap.size w (w.alloc (.cells xz.toArray 28)) := blA
  have hl := hs.len
  go_enter Try.func20, Try.ntmps20
  go_wp2_with fail
  change Calls _ _ _ (w.alloc (.cells xz.toArray 28)) _
  generalize w.alloc (.cells xz.toArray 28) = w1 at R1 b1 ⊢
  have s1 := hs.below b1
  by_cases h0 : m = 0
  · have hno : extOk l = false := decide_eq_false (by omega)
    have Hno := Lib.hid hno
    subst h0
    clear hno hl
    refine (take_short B 0 d 1 w1 (by omega) (by omega) (by omega)).mono ?_
    rintro e w2 ⟨rfl, rfl⟩
    go_wp2_with (refine wp_store_ib rfl _ _ _ rfl w.heap.size rfl xz rfl R1 rfl (by kernel_rfl) rfl ?_; intro w4 R4 T4)
    refine bodyPost_ret (res_i2 Try.results20 rfl (load_ext R4)) rfl (ExtTakes.no Hno.out ?_)
    exact b1.trans (T4.below (fun x hx => by omega) b1.size)
  · have hn1 := num_one l (by omega)
    refine (take_yes B m d l 1 w1 s1 (by omega) (by omega) (by omega) (by omega)).mono ?_
    rw [show (1 : Int).toNat = 1 from rfl, hn1]
    rintro e w2 ⟨A2, n2, c2, rfl, own2, hb2⟩
    have hn2 : n2 = m - 1 := by have := own2.len; rw [List.length_drop] at this; omega
    have R2 := R1.below hb2 R1.lt
    have B2 := btr b1 hb2
    have H2 : IB (w2.alloc (.cells xz.toArray 28)) w2.heap.size xz := IB.new w2 _ _
    have b3 : Below w2.heap.size w2 (w2.alloc (.cells xz.toArray 28)) := blA
    have hlt := R2.lt
    have s2 := own2.sl
    have Hl := Lib.hid hl
    have Hn2 := Lib.hid hn2
    have hn3 : n2 ≤ 1000000 := by omega
    have hlt1 := R1.lt
    clear R1 b1 hb2 hn1
    have hcase : byt l 0 = 1 ∨ byt l 0 ≠ 1 := by omega
    rcases hcase with hf | hf
    · rw [hf]
      have hA := Lib.hid (show extA l = (numL (l.drop 1) : Int) by unfold extA; rw [if_pos hf])
      have hL := Lib.hid (show extL l = [] by unfold extL; rw [if_pos hf])
      have hok : extOk l = tkF (addrFs w2.heap.size) (l.drop 1) := by
        rw [adr_tk]
        unfold extOk
        exact decide_eq_decide.2 (by rw [List.length_drop]; omega)
      clear hn2 hl
      go_wp2_with fail
      change Calls _ _ _ (w2.alloc (.cells xz.toArray 28)) _
      generalize w2.alloc (.cells xz.toArray 28) = w3 at H2 b3 ⊢
      refine (addrField_any w2.heap.size 1 w3).mono ?_
      rintro e w4 ⟨rfl, hb4⟩
      have R4 := (R2.below b3 hlt).below hb4 (Nat.lt_of_lt_of_le hlt b3.size)
      have H4 := H2.below hb4 H2.lt
      have s4 := (s2.below b3).below hb4
      have B4 := btr (btr B2 b3) hb4
      have z4 := hb4.size
      have z3 := b3.size
      have b5 : Below w4.heap.size w4 (w4.alloc (.cells (addrFl w2.heap.size 1).vs.toArray 60)) := blA
      have R5 := R4.below b5 R4.lt
      have H5 := H4.below b5 H4.lt
      have s5 := s4.below b5
      have B5 := btr B4 b5
      have hF : Flds (w4.alloc (.cells (addrFl w2.heap.size 1).vs.toArray 60)) (some ⟨w4.heap.size, 0, none⟩) 1 1 (addrFs w2.heap.size) := flds_new w4 _ _ (addrFs w2.heap.size) 1 rfl rfl (by omega)
      have hgt : w2.heap.size < w4.heap.size := by have := H2.lt; omega
      go_wp2_with fail
      change Calls _ _ _ (w4.alloc (.cells (addrFl w2.heap.size 1).vs.toArray 60)) _
      generalize w4.alloc (.cells (addrFl w2.heap.size 1).vs.toArray 60) = w5 at b5 R5 H5 s5 B5 hF ⊢
      have HT := itake_any (addrFs w2.heap.size) (some ⟨w4.heap.size, 0, none⟩) 1 1 w2.heap.size xz A2 n2 c2 (l.drop 1) w5 hF (fun g' o e => by injection e with e; injection e with e1; omega) H5 s5 hn3 (by omega) (adr_wid _) (fun j hj => adr_off _ j _ rfl hj) (fun _ j hj => adr_rdset _ _ _ _ j hj)
      rw [xz, adr_set, ← hok] at HT
      have ne1 : ¬ (w.heap.size = w2.heap.size) := by omega
      have Hlt := Lib.hid hlt
      have Hf := Lib.hid hf
      clear R4 H4 s4 B4 hb4 hF z3 z4 hgt hlt hf b5 H5 s5
      cases hr : extOk l
      · rw [hr] at HT
        have Hno := Lib.hid hr
        clear hok hr
        refine HT.mono ?_
        rintro e w6 ⟨rfl, -, T5⟩
        have R6 := R5.keep (T5.block _ R5.lt ne1)
        go_wp2_with (first
          | (refine wp_store_ib rfl _ _ _ rfl w.heap.size rfl xz rfl R6 rfl (by kernel_rfl) rfl ?_; intro w7 R7 T6))
        refine bodyPost_ret (res_i2 Try.results20 rfl (load_ext R7)) rfl (ExtTakes.no Hno.out ?_)
        exact B5.trans ((T5.below (B := w.heap.size) (fun x hx => by have := Hlt.out; omega) B5.size).trans (T6.below (fun x hx => by omega) (Nat.le_trans B5.size T5.size)))
      · rw [hr] at HT
        have Hyes := Lib.hid hr
        have e3 : (l.drop 1).length = 2 := by
          have := of_decide_eq_true hr
          rw [List.length_drop]
          have := Hl.out
          have := Hf.out
          omega
        have ex : rdI (addrFs w2.heap.size) (l.drop 1) 0 = extA l := by
          rw [hA.out]
          show (numL ((l.drop 1).take 2) : Int) = _
          rw [List.take_of_length_le (by omega)]
        rw [ex] at HT
        obtain ⟨x, hx⟩ : ∃ x, extA l = x := ⟨_, rfl⟩
        rw [hx] at HT
        have Hx := Lib.hid hx
        clear hok hr ex hx e3
        refine HT.mono ?_
        rintro e w6 ⟨rfl, ⟨r', H6, hr'⟩, T5⟩
        obtain rfl := hr' rfl
        have R6 := R5.keep (T5.block _ R5.lt ne1)
        go_wp2_with (first
          | (refine wp_load_ib rfl _ _ rfl w2.heap.size rfl _ H6 Try.underlying28 rfl (by kernel_rfl) ?_)
          | (refine wp_store_ib rfl _ _ _ rfl w.heap.size rfl [.slice none 0 0, .int .i64 x] rfl R6 rfl (by kernel_rfl) rfl ?_; intro w7 R7 T6))
        refine bodyPost_ret (res_i2 Try.results20 rfl (load_ext R7)) rfl (ExtTakes.yes Hyes.out Hx.out (by rw [hL.out]; exact sl_nil _) ?_)
        exact B5.trans ((T5.below (B := w.heap.size) (fun x hx => by have := Hlt.out; omega) B5.size).trans (T6.below (fun x hx => by omega) (Nat.le_trans B5.size T5.size)))
    · obtain ⟨f, hfb⟩ : ∃ f, byt l 0 = f := ⟨_, rfl⟩
      have hA := Lib.hid (show extA l = 0 by unfold extA; rw [if_neg hf])
      have hL := Lib.hid (show extL l = l.drop 1 by unfold extL; rw [if_neg hf])
      have Hfb := Lib.hid hfb
      rw [hfb] at hf ⊢
      have f1 : ((f : Int) == 1) = false := by simp; omega
      have f2 : decide ((f : Int) = 1) = false := decide_eq_false (by omega)
      by_cases hf0 : f = 0
      · subst hf0
        have hok : extOk l = decide (1 ≤ n2 ∧ n2 ≤ 24) := by
          unfold extOk
          exact decide_eq_decide.2 (by omega)
        have b4 := btr B2 b3
        have R3 := R2.below b3 hlt
        have own3 := own2.below b3
        clear hfb hf f1 f2 hn2 hl
        cases hr : decide (1 ≤ n2 ∧ n2 ≤ 24)
        · have Hno := Lib.hid (hok.trans hr)
          clear hok
          go_wp2_with (first
            | (go_at_call 34; refine (imayInline_any A2 n2 c2 false hr _).mono ?_; rintro e w5 ⟨rfl, rfl⟩)
            | (refine wp_store_ib rfl _ _ _ rfl w.heap.size rfl xz rfl R3 rfl (by kernel_rfl) rfl ?_; intro w7 R7 T6))
          refine bodyPost_ret (res_i2 Try.results20 rfl (load_ext R7)) rfl (ExtTakes.no Hno.out ?_)
          exact b4.trans (T6.below (fun x hx => by omega) b4.size)
        · have Hyes := Lib.hid (hok.trans hr)
          clear hok
          go_wp2_with (first
            | (go_at_call 34; refine (imayInline_any A2 n2 c2 true hr _).mono ?_; rintro e w5 ⟨rfl, rfl⟩)
            | (refine wp_store_ib rfl _ _ _ rfl w.heap.size rfl [.slice A2 n2 c2, .int .i64 0] rfl R3 rfl (by kernel_rfl) rfl ?_; intro w7 R7 T6))
          refine bodyPost_ret (res_i2 Try.results20 rfl (load_ext R7)) rfl (ExtTakes.yes Hyes.out hA.out ?_ ?_)
          · rw [hL.out]
            exact (own_turnI own3 fun g hg hg2 => T6.block g hg2 (by show ¬ (g = w.heap.size); omega)).sl
          · exact b4.trans (T6.below (fun x hx => by omega) b4.size)
      · have hno : extOk l = false := decide_eq_false (by omega)
        have Hno := Lib.hid hno
        have f3 : ((f : Int) == 0) = false := by simp; omega
        have f4 : decide ((f : Int) = 0) = false := decide_eq_false (by omega)
        have b4 := btr B2 b3
        have R3 := R2.below b3 hlt
        clear hno hfb hf hn2 hl
        go_wp2_with (refine wp_store_ib rfl _ _ _ rfl w.heap.size rfl xz rfl R3 rfl (by kernel_rfl) rfl ?_; intro w7 R7 T6)
        refine bodyPost_ret (res_i2 Try.results20 rfl (load_ext R7)) rfl (ExtTakes.no Hno.out ?_)
        exact b4.trans (T6.below (fun x hx => by omega) b4.size)
end Go.Proofs.Ytimlhhemfipooaa
