/- The law NodeBack: for every input it returns true, and what came in reads as it did. -/
import Derived.Test.YtmebdjafnefneaaDoorNodeZ
import Derived.Test.YtmebdjafnefneaaDoorNodeFw
import Derived.Laws.BitsAllLaws
namespace Go.Proofs.YtmebdjafnefneaaDoor
open Go Go.RowKit Go.Proofs

/-- The block that holds two numbers. -/
def AB (w : World) (b : Nat) (x y : Int) : Prop := ∃ t, w.heap[b]? = some (.cells #[.int .i64 x, .int .i64 y] t (0, 0))
theorem AB.below {w w' : World} {b : Nat} {x y : Int} (H : AB w b x y) {E : Nat} (hb : Below E w w') (hB : b < E) : AB w' b x y := by
  obtain ⟨t, H⟩ := H
  exact ⟨t, (hb.block b hB).trans H⟩
theorem AB.keep {w w' : World} {b : Nat} {x y : Int} (H : AB w b x y) (h : w'.heap[b]? = w.heap[b]?) : AB w' b x y := by
  obtain ⟨t, H⟩ := H
  exact ⟨t, h.trans H⟩
theorem AB.lt {w : World} {b : Nat} {x y : Int} (H : AB w b x y) : b < w.heap.size := by
  obtain ⟨t, H⟩ := H
  exact (Array.getElem?_eq_some_iff.1 H).1
theorem AB.c0 {w : World} {b : Nat} {x y : Int} (H : AB w b x y) : w.cell? ⟨b, 0, none⟩ = some (.int .i64 x) := by
  obtain ⟨t, H⟩ := H
  rw [cell_of_row _ _ _ _ _ _ H]; rfl
theorem AB.c1 {w : World} {b : Nat} {x y : Int} (H : AB w b x y) : w.cell? ⟨b, 1, none⟩ = some (.int .i64 y) := by
  obtain ⟨t, H⟩ := H
  rw [cell_of_row _ _ _ _ _ _ H]; rfl
theorem i64_xor1 (a : Nat) (ha : a < 2048) : bits .xor .i64 (a : Int) 1 = ((a ^^^ 1 : Nat) : Int) := by
  have h1 : a ^^^ 1 < 2 ^ 11 := Nat.xor_lt_two_pow (by omega) (by omega)
  show IntKind.i64.wrap ((BitVec.ofInt 64 (a : Int) ^^^ BitVec.ofInt 64 1).toNat : Int) = _
  rw [BitVec.toNat_xor, ofInt_u64 a (by omega), show (BitVec.ofInt 64 1).toNat = 1 by decide]
  simp [IntKind.wrap, IntKind.bits, IntKind.signed]
  omega
theorem xor1_ne (a : Nat) : a ^^^ 1 ≠ a := by
  intro h
  have h2 : a ^^^ (a ^^^ 1) = a ^^^ a := by rw [h]
  rw [← Nat.xor_assoc, Nat.xor_self, Nat.zero_xor] at h2
  cases h2
theorem back_yes {N : Nd} {addr gen : Int} (hm : N.may = true) (hE : writeE N addr gen = 0) : readN (writeB N addr gen) addr = some N := by
  rw [← cread_read, cread_back hm hE, if_pos rfl]
theorem back_no {N : Nd} {addr gen a2 : Int} (hm : N.may = true) (hE : writeE N addr gen = 0) (h : a2 ≠ addr) : readN (writeB N addr gen) a2 = none := by
  rw [← cread_read, cread_back hm hE, if_neg (fun e => h e.symm)]
theorem turned_no {b : List UInt8} (h : okB b = false) (a : Int) : readN b a = none := by
  unfold readN
  rw [(op_no h).2.2, if_neg (by decide)]
theorem back_ok {N : Nd} {addr gen : Int} (hm : N.may = true) (hE : writeE N addr gen = 0) : okB (writeB N addr gen) = true ∧ (0 ≤ addr ∧ addr ≤ 2047) ∧ (writeB N addr gen).length = 256 := by
  unfold writeE at hE
  rw [if_pos hm] at hE
  obtain ⟨hok, hl, hB⟩ := run_take_seal _ _ hE
  unfold writeB
  rw [if_pos hm, hB]
  refine ⟨blk_okB _ _ hok hl, ?_, blkL_len _ _ hl⟩
  exact (of_decide_eq_true hok).2.2.1
theorem body_le {N : Nd} (hm : N.may = true) : N.body.length ≤ 236 := by
  obtain ⟨h1, h2, h3, _⟩ := may_sizes hm
  have fI : ∀ xs : List Itm, (∀ j, j < xs.length → (itAt xs j).v.length ≤ 28) → (xs.flatMap itBytes).length ≤ 38 * xs.length := by
    intro xs
    induction xs with
    | nil => intro _; simp
    | cons x xs ih =>
      intro h
      have hx : x.v.length ≤ 28 := h 0 (by simp)
      have := ih (fun j hj => h (j + 1) (by simp; omega))
      rw [List.flatMap_cons, List.length_append, List.length_cons]
      have e : (itBytes x).length = 10 + x.v.length := by unfold itBytes; rw [List.length_append, List.length_append, Kd.bytes_len, dig_len]; omega
      omega
  have fK : ∀ xs : List Kidd, (xs.flatMap kidBytes).length = 11 * xs.length := by
    intro xs
    induction xs with
    | nil => simp
    | cons x xs ih =>
      rw [List.flatMap_cons, List.length_append, List.length_cons, ih]
      have e : (kidBytes x).length = 11 := by unfold kidBytes; rw [List.length_append, Kd.bytes_len, dig_len]
      omega
  have hfit := may_fit hm
  have a1 := fI N.items h3
  have a2 := fK N.kids
  unfold Nd.body
  rw [List.length_append]
  by_cases hl : N.lvl = 0
  · rw [hfit.1 hl]
    simp only [List.flatMap_nil, List.length_nil]
    omega
  · rw [hfit.2 hl]
    simp only [List.flatMap_nil, List.length_nil]
    omega
theorem back_err {N : Nd} {addr gen : Int} (hm : N.may = true) (hE : ¬ writeE N addr gen = 0) : writeE N addr gen = 1 ∧ (addr < 0 ∨ 2048 ≤ addr ∨ gen < 0 ∨ 1099511627775 < gen) := by
  unfold writeE at hE ⊢
  rw [if_pos hm] at hE ⊢
  have hb := body_le hm
  unfold sealE at hE ⊢
  by_cases hok : (N.head addr gen).ok = true
  · rw [if_pos hok, if_pos hb] at hE
    exact absurd rfl hE
  · rw [if_neg hok]
    refine ⟨rfl, ?_⟩
    obtain ⟨h1, h2, _, h4⟩ := may_sizes hm
    have h5 : N.lvl ≤ 7 := by
      unfold Nd.may at hm
      split at hm
      · omega
      · rw [Bool.and_eq_true, Bool.and_eq_true] at hm
        have := of_decide_eq_true hm.2.2
        omega
    refine Classical.byContradiction fun hno => hok (decide_eq_true ?_)
    unfold Nd.head
    dsimp only
    refine ⟨?_, ?_, ?_, ?_, ?_⟩
    all_goals first | omega | (split <;> omega)

set_option maxRecDepth 100000 in
set_option maxHeartbeats 16000000 in
theorem nodeBack_walk (N : Nd) (A : Option Addr) (n c : Nat) (B : Option Addr) (m d : Nat) (x0 x1 y0 y1 : Int) (w : World) (hI : Itms w A n c N.items) (hK : Kidl w B m d N.kids) (ht : Tab w) :
    Calls Tryd.prog 7 #[.agg #[.int .i64 N.lvl, .slice A n c, .slice B m d], .agg #[.int .i64 x0, .int .i64 x1], .agg #[.int .i64 y0, .int .i64 y1]] w fun e w' => e = .returned (.bool true) ∧ Below w.heap.size w w' := by
  go_enter Tryd.func7, Tryd.ntmps7
  go_wp2_with fail
  have N1 : NB (((w.alloc (.cells #[.int .i64 N.lvl, .slice A n c, .slice B m d] 25)).alloc (.cells #[.int .i64 x0, .int .i64 x1] 46)).alloc (.cells #[.int .i64 y0, .int .i64 y1] 46)) w.heap.size N.lvl A n c B m d := (NB.new w _ _ _ _ _ _ _ _).below (((Below.refl _ _).alloc (Nat.le_refl _) _).alloc (by simp) _) (by simp)
  have P1 : AB (((w.alloc (.cells #[.int .i64 N.lvl, .slice A n c, .slice B m d] 25)).alloc (.cells #[.int .i64 x0, .int .i64 x1] 46)).alloc (.cells #[.int .i64 y0, .int .i64 y1] 46)) (w.heap.size + 1) x0 x1 := by
    have h : AB ((w.alloc (.cells #[.int .i64 N.lvl, .slice A n c, .slice B m d] 25)).alloc (.cells #[.int .i64 x0, .int .i64 x1] 46)) (w.heap.size + 1) x0 x1 := by
      have := heap_alloc_new (w.alloc (.cells #[.int .i64 N.lvl, .slice A n c, .slice B m d] 25)) (.cells #[.int .i64 x0, .int .i64 x1] 46)
      rw [World.size_alloc] at this
      exact ⟨_, this⟩
    exact h.below ((Below.refl _ _).alloc (Nat.le_refl _) _) h.lt
  have S1 : AB (((w.alloc (.cells #[.int .i64 N.lvl, .slice A n c, .slice B m d] 25)).alloc (.cells #[.int .i64 x0, .int .i64 x1] 46)).alloc (.cells #[.int .i64 y0, .int .i64 y1] 46)) (w.heap.size + 2) y0 y1 := by
    have := heap_alloc_new ((w.alloc (.cells #[.int .i64 N.lvl, .slice A n c, .slice B m d] 25)).alloc (.cells #[.int .i64 x0, .int .i64 x1] 46)) (.cells #[.int .i64 y0, .int .i64 y1] 46)
    rw [World.size_alloc, World.size_alloc] at this
    exact ⟨_, this⟩
  have W1 : Below w.heap.size w (((w.alloc (.cells #[.int .i64 N.lvl, .slice A n c, .slice B m d] 25)).alloc (.cells #[.int .i64 x0, .int .i64 x1] 46)).alloc (.cells #[.int .i64 y0, .int .i64 y1] 46)) := (((Below.refl _ _).alloc (Nat.le_refl _) _).alloc (by simp) _).alloc (by simp; omega) _
  generalize ((w.alloc (.cells #[.int .i64 N.lvl, .slice A n c, .slice B m d] 25)).alloc (.cells #[.int .i64 x0, .int .i64 x1] 46)).alloc (.cells #[.int .i64 y0, .int .i64 y1] 46) = w1 at N1 P1 S1 W1 ⊢
  refine (nshown_any w1 (ht.below W1 ht.1)).mono ?_
  rintro e w2 ⟨rfl, hb2⟩
  have N2 := N1.below hb2 N1.lt
  have P2 := P1.below hb2 P1.lt
  have S2 := S1.below hb2 S1.lt
  have W2 := W1.trans (hb2.mono W1.size)
  have q0 := N2.c0
  have q1 := N2.c1
  have q2 := N2.c2
  clear N1 W1 hb2 P1 S1
  go_wp2_with fail
  refine (nfew_any N A n c B m d w2 (hI.below W2) (hK.below W2)).mono ?_
  rintro e w3 ⟨n1, m1, rfl, hn1, hm1, hI3, hK3, hb3⟩
  have hIf := fewI hI hI3
  have hKf := fewK hK hK3
  have N3 := N2.below hb3 N2.lt
  have P3 := P2.below hb3 P2.lt
  have S3 := S2.below hb3 S2.lt
  have W3 := W2.trans (hb3.mono W2.size)
  obtain ⟨M, hM⟩ : ∃ M, N.few = M := ⟨_, rfl⟩
  have hMl : M.lvl = N.lvl := by rw [← hM]; rfl
  rw [hM] at hIf hKf
  obtain ⟨l, hl⟩ : ∃ l, N.lvl = l := ⟨_, rfl⟩
  rw [hl] at N3 hMl ⊢
  clear q0 q1 q2 N2 W2 hb3 hI3 hK3 hM hl P2 S2
  obtain rfl : M.lvl = l := hMl
  go_wp2_with (first
    | (refine wp_store_nd rfl (.tmp 3) (.tmp 21) rfl w.heap.size rfl M.lvl A n1 c B m1 d rfl N3 ?_; intro w4 N4 T4; have q0 := N4.c0; have q1 := N4.c1; have q2 := N4.c2; have P4 := P3.keep (T4.block _ P3.lt (fun e => by have e : _ = w.heap.size := e; omega)); have p0 := P4.c0; have p1 := P4.c1; have S4 := S3.keep (T4.block _ S3.lt (fun e => by have e : _ = w.heap.size := e; omega)); have s0 := S4.c0; have s1 := S4.c1)
    | fail)
  have W4 := W3.trans (T4.belowOne N3.lt)
  have hI4 : ∀ w' : World, Below w.heap.size w w' → Itms w' A n1 c M.items := fun w' hb => hIf.below hb
  have hK4 : ∀ w' : World, Below w.heap.size w w' → Kidl w' B m1 d M.kids := fun w' hb => hKf.below hb
  clear N3 W3 T4 hIf hKf hI hK P3 S3
  cases hmay : M.may
  · refine (cnmay_any M false hmay A n1 c B m1 d w4 (hI4 _ W4) (hK4 _ W4) (by omega) (by omega)).mono ?_
    rintro e w5 ⟨rfl, hb5⟩
    have W5 := W4.trans (hb5.mono W4.size)
    go_wp2
    go_ret
    exact ⟨rfl, W5⟩
  · have HM := Lib.hid hmay
    have HI := Lib.hid hI4
    have HK := Lib.hid hK4
    clear hmay hI4 hK4
    refine (cnmay_any M true HM.out A n1 c B m1 d w4 (HI.out _ W4) (HK.out _ W4) (by omega) (by omega)).mono ?_
    rintro e w5 ⟨rfl, hb5⟩
    have N5 := N4.below hb5 N4.lt
    have P5 := P4.below hb5 P4.lt
    have S5 := S4.below hb5 S4.lt
    have W5 := W4.trans (hb5.mono W4.size)
    clear q0 q1 q2 p0 p1 s0 s1 N4 P4 S4 W4 hb5
    have q0 := N5.c0
    have q1 := N5.c1
    have q2 := N5.c2
    have p0 := P5.c0
    have p1 := P5.c1
    go_wp2_with fail
    refine (cwrite_own M x0 x1 A n1 c B m1 d w5 (HI.out _ W5) (HK.out _ W5) (by omega) (by omega) (ht.below W5 ht.1)).mono ?_
    rintro e w6 ⟨A6, n6, c6, rfl, own6, hf, hb6⟩
    have N6 := N5.below hb6 N5.lt
    have P6 := P5.below hb6 P5.lt
    have S6 := S5.below hb6 S5.lt
    have W6 := W5.trans (hb6.mono W5.size)
    have hwz : w.heap.size + 2 < w5.heap.size := S5.lt
    clear q0 q1 q2 p0 p1 N5 P5 S5 hb6
    have p0 := P6.c0
    have p1 := P6.c1
    obtain ⟨E, hE⟩ : ∃ E, writeE M x0 x1 = E := ⟨_, rfl⟩
    rw [hE] at hf ⊢
    by_cases h0 : E = 0
    · subst h0
      obtain ⟨g, rfl, rfl, rfl⟩ := hf rfl
      obtain ⟨hokB, ⟨hx0, hx1⟩, hbl⟩ := back_ok HM.out hE
      obtain ⟨xn, rfl⟩ := Int.eq_ofNat_of_zero_le hx0
      have hxor := i64_xor1 xn (by omega)
      obtain ⟨x2, hx2⟩ : ∃ x2 : Int, ((xn ^^^ 1 : Nat) : Int) = x2 := ⟨_, rfl⟩
      have hxne : x2 ≠ (xn : Int) := by rw [← hx2]; have := xor1_ne xn; omega
      rw [hx2] at hxor
      have Ryes := Lib.hid (back_yes HM.out hE)
      have Rno := Lib.hid (back_no HM.out hE hxne)
      obtain ⟨L, hL⟩ : ∃ L, writeB M (xn : Int) x1 = L := ⟨_, rfl⟩
      rw [hL] at own6 hokB hbl Ryes Rno
      have hgb := (own6.block _ rfl).1
      clear hL hE hf hx2 hxne hx0 hx1
      go_wp2_with fail
      refine (cread_says (some ⟨g, 0, none⟩) 256 256 L (xn : Int) w6 own6.sl (ht.below W6 ht.1)).mono ?_
      unfold ReadSays
      rw [(read_yes Ryes.out).1, (read_yes Ryes.out).2]
      rintro e w7 ⟨A7, n7, c7, B7, m7, d7, rfl, hn7, hm7, I7, K7, hb7⟩
      have N7 := N6.below hb7 N6.lt
      have P7 := P6.below hb7 P6.lt
      have S7 := S6.below hb7 S6.lt
      have W7 := W6.trans (hb7.mono W6.size)
      have own7 := own6.below hb7
      clear p0 p1 N6 P6 S6 W6 own6 hb7
      have b8 : Below w7.heap.size w7 (w7.alloc (.cells #[.int .i64 M.lvl, .slice A7 n7 c7, .slice B7 m7 d7] 25)) := (Below.refl _ _).alloc (Nat.le_refl _) _
      have R8 : NB (w7.alloc (.cells #[.int .i64 M.lvl, .slice A7 n7 c7, .slice B7 m7 d7] 25)) w7.heap.size M.lvl A7 n7 c7 B7 m7 d7 := NB.new w7 _ _ _ _ _ _ _ _
      have P8 := P7.below b8 P7.lt
      have p0 := P8.c0
      have p1 := P8.c1
      go_wp2_with fail
      generalize w7.alloc (.cells #[.int .i64 M.lvl, .slice A7 n7 c7, .slice B7 m7 d7] 25) = w8 at b8 R8 P8 p0 p1 ⊢
      obtain ⟨rb, hrb⟩ : ∃ rb, w7.heap.size = rb := ⟨_, rfl⟩
      have hrbz : w5.heap.size ≤ rb := by rw [← hrb]; exact Nat.le_trans (Nat.le_of_lt (Nat.lt_of_le_of_lt hgb (own7.block _ rfl).2)) (Nat.le_refl _)
      have N8 := N7.below b8 N7.lt
      have S8 := S7.below b8 S7.lt
      have W8 := W7.trans (b8.mono W7.size)
      have own8 := own7.below b8
      have I8 := I7.below b8
      have K8 := K7.below b8
      rw [hrb] at R8 ⊢
      clear N7 P7 S7 W7 own7 I7 K7 b8 hrb
      refine (cread_says (some ⟨g, 0, none⟩) 256 256 L x2 w8 own8.sl (ht.below W8 ht.1)).mono ?_
      unfold ReadSays
      rw [(read_no Rno.out).1, (read_no Rno.out).2]
      rintro e w9 ⟨A9, n9, c9, B9, m9, d9, rfl, _, _, _, _, hb9⟩
      have b10 : Below w9.heap.size w9 (w9.alloc (.cells #[.int .i64 0, .slice A9 n9 c9, .slice B9 m9 d9] 25)) := (Below.refl _ _).alloc (Nat.le_refl _) _
      have b810 := hb9.trans (b10.mono hb9.size)
      have N10 := N8.below b810 N8.lt
      have R10 := R8.below b810 R8.lt
      have P10 := P8.below b810 P8.lt
      have S10 := S8.below b810 S8.lt
      have W10 := W8.trans (b810.mono W8.size)
      have own10 := own8.below b810
      have I10 := I8.below b810
      have K10 := K8.below b810
      clear p0 p1
      have q0 := N10.c0
      have q1 := N10.c1
      have q2 := N10.c2
      have r0 := R10.c0
      have r1 := R10.c1
      have r2 := R10.c2
      clear N8 R8 P8 S8 W8 own8 I8 K8
      go_wp2_with fail
      generalize w9.alloc (.cells #[.int .i64 0, .slice A9 n9 c9, .slice B9 m9 d9] 25) = w10 at *
      have In := HI.out _ W10
      have Kn := HK.out _ W10
      obtain rfl : n1 = n7 := by rw [← In.len, ← I10.len]
      obtain rfl : m1 = m7 := by rw [← Kn.len, ← K10.len]
      refine (refsame_yes M A n1 c B m1 d A7 c7 B7 d7 w10 In Kn I10 K10).mono ?_
      rintro e w11 ⟨rfl, hb11⟩
      have P11 := P10.below hb11 P10.lt
      have S11 := S10.below hb11 S10.lt
      have W11 := W10.trans (hb11.mono W10.size)
      have own11 := own10.below hb11
      clear q0 q1 q2 r0 r1 r2 N10 R10 P10 S10 W10 own10 I10 K10 In Kn hb11 hb9 b10 b810 hxor Ryes Rno
      obtain ⟨a, ha, hr⟩ := rem_nat y0
      obtain ⟨bb, hbb⟩ := Int.eq_ofNat_of_zero_le (show 0 ≤ y1 % 256 by omega)
      have hb255 : bb ≤ 255 := by omega
      have hX : ∀ (w9 : World) (o9 : Own w9 w5.heap.size 5 (some ⟨g, 0, none⟩) 256 256 L) (y : Nat) (Y : Int), Y = (y : Int) → y ≤ 255 → y ≠ 0 → ∃ L', okB L' = false ∧ Own (w9.setCell ⟨g, a, none⟩ (.int .u8 (bits .xor .u8 (byt L a : Int) Y))) w5.heap.size 5 (some ⟨g, 0, none⟩) 256 256 L' := by
        intro w9 o9 y Y hY hy hy0
        subst hY
        have hxa := byt_le L a
        have o := o9.set_ a (UInt8.ofNat (byt L a) ^^^ UInt8.ofNat y)
        rw [bv_xor _ _ hxa hy] at o
        have hal : a < L.length := by omega
        have e : UInt8.ofNat (byt L a) = L[a] := by unfold byt; rw [List.getD_eq_getElem?_getD, List.getElem?_eq_getElem hal]; simp
        refine ⟨_, block_turned L a _ hal ?_ hokB, o⟩
        rw [e]
        refine turn_byte _ _ fun e2 => hy0 ?_
        have e3 := congrArg UInt8.toNat e2
        rw [UInt8.toNat_ofNat', Nat.mod_eq_of_lt (by omega)] at e3
        exact e3
      have HX := Lib.hid hX
      clear hX
      obtain ⟨hcx, hfx⟩ := own11.at_ a ha
      have hai : (a : Int) < 256 := by omega
      have hai0 : (0 : Int) ≤ (a : Int) := by omega
      have p0 := P11.c0
      have s0 := S11.c0
      have s1 := S11.c1
      have hgw : w.heap.size + 2 < g := Nat.lt_of_lt_of_le hwz hgb
      have p0S : ∀ v : Value, (w11.setCell ⟨g, a, none⟩ v).cell? ⟨w.heap.size + 1, 0, none⟩ = some (.int .i64 (xn : Int)) := fun v => (((Below.refl g w11).setCell (p := ⟨g, a, none⟩) (Nat.le_refl g) v).cell (p := ⟨w.heap.size + 1, 0, none⟩) (by show w.heap.size + 1 < g; omega)).trans p0
      have Hbb := Lib.hid hbb
      rcases hr with hr | ⟨hr, ha0⟩
      all_goals
        by_cases hb0 : bb = 0
        · have hbz : y1 % 256 = 0 := by rw [hbb, hb0]; rfl
          clear hbb
          go_wp2_with fail
          obtain ⟨L', hno, o12⟩ := HX.out w11 own11 1 1 rfl (by omega) (by omega)
          have W12 : Below w.heap.size w (w11.setCell ⟨g, a, none⟩ (.int .u8 (bits .xor .u8 (byt L a : Int) 1))) := W11.trans ((Below.refl _ w11).setCell (p := ⟨g, a, none⟩) (by show w.heap.size ≤ g; omega) _)
          refine (cread_says (some ⟨g, 0, none⟩) 256 256 L' (xn : Int) _ o12.sl (ht.below W12 ht.1)).mono ?_
          unfold ReadSays
          rw [(read_no (turned_no hno (xn : Int))).1, (read_no (turned_no hno (xn : Int))).2]
          rintro e w13 ⟨A13, n13, c13, B13, m13, d13, rfl, _, _, _, _, hb13⟩
          have W13 := W12.trans (hb13.mono W12.size)
          have W14 : Below w.heap.size w (w13.alloc (.cells #[.int .i64 0, .slice A13 n13 c13, .slice B13 m13 d13] 25)) := W13.alloc W13.size _
          clear p0S hcx hfx p0 s0 s1
          go_wp2
          go_ret
          exact ⟨by first | rfl | simp, W14⟩
        · have hbi : ((bb : Int) == 0) = false := by simpa using hb0
          have hbd : decide ((bb : Int) = 0) = false := by simpa using hb0
          have hbn : ¬ (bb : Int) = 0 := by omega
          go_wp2_with fail
          obtain ⟨L', hno, o12⟩ := HX.out w11 own11 bb (bb : Int) rfl hb255 hb0
          have W12 : Below w.heap.size w (w11.setCell ⟨g, a, none⟩ (.int .u8 (bits .xor .u8 (byt L a : Int) (bb : Int)))) := W11.trans ((Below.refl _ w11).setCell (p := ⟨g, a, none⟩) (by show w.heap.size ≤ g; omega) _)
          refine (cread_says (some ⟨g, 0, none⟩) 256 256 L' (xn : Int) _ o12.sl (ht.below W12 ht.1)).mono ?_
          unfold ReadSays
          rw [(read_no (turned_no hno (xn : Int))).1, (read_no (turned_no hno (xn : Int))).2]
          rintro e w13 ⟨A13, n13, c13, B13, m13, d13, rfl, _, _, _, _, hb13⟩
          have W13 := W12.trans (hb13.mono W12.size)
          have W14 : Below w.heap.size w (w13.alloc (.cells #[.int .i64 0, .slice A13 n13 c13, .slice B13 m13 d13] 25)) := W13.alloc W13.size _
          clear p0S hcx hfx p0 s0 s1
          go_wp2
          go_ret
          exact ⟨by first | rfl | simp, W14⟩
    · obtain ⟨he1, hout⟩ := back_err HM.out (by rw [hE]; exact h0)
      rw [hE] at he1
      subst he1
      have Hout := Lib.hid hout
      clear hout hE hf own6 h0
      by_cases c1 : x0 < 0
      · go_wp2
        go_ret
        exact ⟨by first | rfl | simp, W6⟩
      · by_cases c2 : 2048 ≤ x0
        · go_wp2
          go_ret
          exact ⟨by first | rfl | simp, W6⟩
        · by_cases c3 : x1 < 0
          · go_wp2
            go_ret
            exact ⟨by first | rfl | simp, W6⟩
          · have c4 : 1099511627775 < x1 := by rcases Hout.out with h | h | h | h <;> omega
            go_wp2
            go_ret
            exact ⟨by first | rfl | simp, W6⟩
end Go.Proofs.YtmebdjafnefneaaDoor
