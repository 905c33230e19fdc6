/- The code's node: takeItem and takeKid. The code's node: take, for items and for kids. -/
import Derived.Test.YtgedmodnkiijkaaGreatDoorFn4
import Derived.Test.YtgedmodnkiijkaaGreatDoorFn5
import Derived.Test.YtgedmodnkiijkaaGreatDoorFn6
import Derived.Test.YtgedmodnkiijkaaGreatDoorFn13
namespace Go.Proofs.YtgedmodnkiijkaaGreatDoor
open Go Go.RowKit Go.Proofs

/-- The block that holds one row of cells. -/
def RB (w : World) (b : Nat) (r : List Value) : Prop := ∃ t, w.heap[b]? = some (.cells r.toArray t (0, 0))
section
variable {w w' : World} {b : Nat} {r : List Value}
theorem RB.new (w : World) (r : List Value) (t : TypeId) : RB (w.alloc (.cells r.toArray t)) w.heap.size r := ⟨t, heap_alloc_new w _⟩
theorem RB.below (H : RB w b r) {B : Nat} (hb : Below B w w') (hB : b < B) : RB w' b r := by
  obtain ⟨t, H⟩ := H
  exact ⟨t, (hb.block b hB).trans H⟩
theorem RB.keep (H : RB w b r) (h : w'.heap[b]? = w.heap[b]?) : RB w' b r := by
  obtain ⟨t, H⟩ := H
  exact ⟨t, h.trans H⟩
theorem RB.lt (H : RB w b r) : b < w.heap.size := by
  obtain ⟨t, H⟩ := H
  exact (Array.getElem?_eq_some_iff.1 H).1
theorem RB.range (H : RB w b r) : w.rangeAt b 0 r := fun j v hv => by
  obtain ⟨t, H⟩ := H
  rw [cell_of_row _ _ _ _ _ _ H, Nat.zero_add]
  simpa using hv
theorem RB.there (H : RB w b r) : w.there b 0 r.length := fun j hj => by
  obtain ⟨t, H⟩ := H
  refine ⟨?_, by unfold World.frozen?; rw [H]; simp⟩
  rw [cell_of_row _ _ _ _ _ _ H, Nat.zero_add, Array.getElem?_eq_getElem (by simpa using hj)]; rfl
theorem RB.stored4 {x0 x1 x2 x3 : Value} (H : RB w b r) (h4 : r.length = 4) : RB (w.setCells b 0 [x0, x1, x2, x3]) b [x0, x1, x2, x3] := by
  obtain ⟨t, H⟩ := H
  match r, h4 with
  | [a0, a1, a2, a3], _ => exact ⟨t, setCell_at _ (setCell_at _ (setCell_at _ (setCell_at _ H)))⟩
end
def zit : List Value := [.int .i64 0, .int .i64 0, .int .i64 0, .slice none 0 0]
def zkid : List Value := [.int .i64 0, .int .i64 0, .int .i64 0, .int .i64 0]
theorem load_it {w : World} {b : Nat} {k : Kd} {V : Option Addr} {p q : Nat} (H : RB w b (itvs k V p q)) : (loadVar 41 ⟨b, 0, none⟩).run Tryz.prog w = .ok (.agg #[.int .i64 k.obj, .int .i64 k.kind, .int .i64 k.off, .slice V p q]) w :=
  run_loadVar_mid w b 0 41 _ _ H.range Tryz.underlying41 rfl (by kernel_rfl)
theorem load_kid {w : World} {b : Nat} {x : Kidd} (H : RB w b x.vs) : (loadVar 62 ⟨b, 0, none⟩).run Tryz.prog w = .ok (.agg #[.int .i64 x.k.obj, .int .i64 x.k.kind, .int .i64 x.k.off, .int .i64 x.a]) w :=
  run_loadVar_mid w b 0 62 _ _ H.range Tryz.underlying62 rfl (by kernel_rfl)
theorem wp_store_it {ops : Array Oper} {rest : List Oper} {o : Oper} {a : Act} {w : World} {Q : Exit → Act → World → Prop} (hg : o.guard = none) (x y : Operand) (hop : o.op = Op.store 41 x y)
    (b : Nat) (hx : a.eval x = .pointer (some ⟨b, 0, none⟩)) (k : Kd) (V : Option Addr) (p q : Nat) (hy : a.eval y = .agg #[.int .i64 k.obj, .int .i64 k.kind, .int .i64 k.off, .slice V p q]) {r : List Value} (H : RB w b r) (h4 : r.length = 4)
    (hK : ∀ w', RB w' b (itvs k V p q) → Turn (fun g => g = b) w w' → wpList Tryz.prog ops Q rest (a.put o.dst undef) w') : wpList Tryz.prog ops Q (o :: rest) a w :=
  wpList_store_mid hg _ x y hop b 0 #[.int .i64 k.obj, .int .i64 k.kind, .int .i64 k.off, .slice V p q] hx hy (by have := H.there; rw [h4] at this; exact this) (by kernel_rfl) (by simp [Value.oneCell'])
    (hK _ (H.stored4 h4) (turn_setCells (S := fun g => g = b) rfl _ 0 w))
theorem wp_store_kid {ops : Array Oper} {rest : List Oper} {o : Oper} {a : Act} {w : World} {Q : Exit → Act → World → Prop} (hg : o.guard = none) (x y : Operand) (hop : o.op = Op.store 62 x y)
    (b : Nat) (hx : a.eval x = .pointer (some ⟨b, 0, none⟩)) (z : Kidd) (hy : a.eval y = .agg #[.int .i64 z.k.obj, .int .i64 z.k.kind, .int .i64 z.k.off, .int .i64 z.a]) {r : List Value} (H : RB w b r) (h4 : r.length = 4)
    (hK : ∀ w', RB w' b z.vs → Turn (fun g => g = b) w w' → wpList Tryz.prog ops Q rest (a.put o.dst undef) w') : wpList Tryz.prog ops Q (o :: rest) a w :=
  wpList_store_mid hg _ x y hop b 0 #[.int .i64 z.k.obj, .int .i64 z.k.kind, .int .i64 z.k.off, .int .i64 z.a] hx hy (by have := H.there; rw [h4] at this; exact this) (by kernel_rfl) (by simp [Value.oneCell'])
    (hK _ (H.stored4 h4) (turn_setCells (S := fun g => g = b) rfl _ 0 w))

theorem ctt_any (A : Option Addr) (k c : Nat) (l : List UInt8) (S R : List UInt8) (E : Int) (hS : ttS l = S) (hR : ttR l = R) (hE : ttE l = E) (w : World) (h : Sl w A k c l) (hk : k ≤ 17592186044416) :
    Calls Tryz.prog 118 #[.slice A k c] w fun e w' => ∃ A2 n2 c2, e = .returned (.tuple #[.string ⟨S.toArray⟩, .slice A2 n2 c2, .int .i64 E]) ∧ Sl w' A2 n2 c2 R ∧ (∀ ad, A2 = some ad → w.heap.size ≤ ad.block) ∧ Below w.heap.size w w' := by
  subst hS hR hE
  by_cases hw : WholeT l 1
  · have hy : ttY l = true := decide_eq_true hw
    unfold ttS ttR ttE
    rw [hy, if_pos rfl, if_pos rfl, if_pos rfl]
    refine (ttaketext_yes A k c l w h hk hw).mono ?_
    rintro e w' ⟨A2, n2, c2, rfl, own, hb⟩
    exact ⟨_, _, _, rfl, own.sl, fun ad h => (own.block ad h).1, hb⟩
  · have hy : ttY l = false := decide_eq_false hw
    unfold ttS ttR ttE
    rw [hy, if_neg (by simp), if_neg (by simp), if_neg (by simp)]
    refine (ttaketext_no A k c l w h hw).mono ?_
    rintro e w' ⟨rfl, rfl⟩
    exact ⟨_, _, _, rfl, sl_nil _, fun ad h => (by cases h), Below.refl _ _⟩
theorem ct2_any (A : Option Addr) (k c : Nat) (l : List UInt8) (V : Int) (R : List UInt8) (E : Int) (hV : t2V l = V) (hR : t2R l = R) (hE : t2E l = E) (w : World) (h : Sl w A k c l) (hk : k ≤ 17592186044416) :
    Calls Tryz.prog 119 #[.slice A k c, .int .i64 2] w fun e w' => ∃ A2 n2 c2, e = .returned (.tuple #[.int .i64 V, .slice A2 n2 c2, .int .i64 E]) ∧ Sl w' A2 n2 c2 R ∧ (∀ ad, A2 = some ad → w.heap.size ≤ ad.block) ∧ Below w.heap.size w w' := by
  subst hV hR hE
  have hl := h.len
  by_cases hw : 2 ≤ k
  · have hy : t2Y l = true := decide_eq_true (by omega)
    unfold t2V t2R t2E
    rw [hy, if_pos rfl, if_pos rfl, if_pos rfl]
    refine (take_yes A k c l 2 w h hk (by omega) (by omega) (by omega)).mono ?_
    rintro e w' ⟨A', n', c', rfl, own, hb⟩
    exact ⟨_, _, _, rfl, own.sl, fun ad h => (own.block ad h).1, hb⟩
  · have hy : t2Y l = false := decide_eq_false (by omega)
    unfold t2V t2R t2E
    rw [hy, if_neg (by simp), if_neg (by simp), if_neg (by simp)]
    refine (take_short A k c 2 w (by omega) (by omega) (by omega)).mono ?_
    rintro e w' ⟨rfl, rfl⟩
    exact ⟨_, _, _, rfl, sl_nil _, fun ad h => (by cases h), Below.refl _ _⟩

/-- What takeItem says of a row that has an item, and of one that has none. -/
def TiYes (l : List UInt8) (w : World) (e : Ending) (w' : World) : Prop :=
  ∃ V p q A2 n2 c2, e = .returned (.tuple #[.agg #[.int .i64 (ktK l).obj, .int .i64 (ktK l).kind, .int .i64 (ktK l).off, .slice V p q], .slice A2 n2 c2, .int .i64 0]) ∧ Sl w' V p q (ttS (ktR l)) ∧ Sl w' A2 n2 c2 (ttR (ktR l)) ∧
    (∀ ad, V = some ad → w.heap.size ≤ ad.block) ∧ (∀ ad, A2 = some ad → w.heap.size ≤ ad.block) ∧ Below w.heap.size w w'
def TiNo (zero : Value) (w : World) (e : Ending) (w' : World) : Prop :=
  ∃ E : Int, E ≠ 0 ∧ e = .returned (.tuple #[zero, .slice none 0 0, .int .i64 E]) ∧ Below w.heap.size w w'
def zitV : Value := .agg #[.int .i64 0, .int .i64 0, .int .i64 0, .slice none 0 0]
def zkidV : Value := .agg #[.int .i64 0, .int .i64 0, .int .i64 0, .int .i64 0]

/-- What takeItem says; kept shut. -/
def TiSays (l : List UInt8) (w : World) (e : Ending) (w' : World) : Prop := (ktE l = 0 ∧ ttE (ktR l) = 0 ∧ TiYes l w e w') ∨ (¬ (ktE l = 0 ∧ ttE (ktR l) = 0) ∧ TiNo zitV w e w')
theorem ti_ok {l M S2 R2 : List UInt8} {K : Kd} {w w' : World} (hK : ktK l = K) (hM : ktR l = M) (hE1 : ktE l = 0) (hS2 : ttS M = S2) (hR2 : ttR M = R2) (hE2 : ttE M = 0) {V : Option Addr} {p q : Nat} {A2 : Option Addr} {n2 c2 : Nat} (s1 : Sl w' V p q S2) (s2 : Sl w' A2 n2 c2 R2)
    (f1 : ∀ ad, V = some ad → w.heap.size ≤ ad.block) (f2 : ∀ ad, A2 = some ad → w.heap.size ≤ ad.block) (hb : Below w.heap.size w w') :
    TiSays l w (.returned (.tuple #[.agg #[.int .i64 K.obj, .int .i64 K.kind, .int .i64 K.off, .slice V p q], .slice A2 n2 c2, .int .i64 0])) w' := by
  subst hK hM hS2 hR2
  exact .inl ⟨hE1, hE2, V, p, q, A2, n2, c2, rfl, s1, s2, f1, f2, hb⟩
theorem ti_no {l M : List UInt8} {w w' : World} {E1 E2 E : Int} (hM : ktR l = M) (hE1 : ktE l = E1) (hE2 : ttE M = E2) (h : ¬ (E1 = 0 ∧ E2 = 0)) (hE : E ≠ 0) (hb : Below w.heap.size w w') :
    TiSays l w (.returned (.tuple #[.agg #[.int .i64 0, .int .i64 0, .int .i64 0, .slice none 0 0], .slice none 0 0, .int .i64 E])) w' := by
  subst hM hE1 hE2
  exact .inr ⟨h, E, hE, rfl, hb⟩
set_option maxRecDepth 100000 in
set_option maxHeartbeats 8000000 in
theorem ctakeitem_any (A : Option Addr) (n c : Nat) (l : List UInt8) (w : World) (h : Sl w A n c l) (hn : n ≤ 100000) :
    Calls Tryz.prog 84 #[.slice A n c] w fun e w' => TiSays l w e w' := by
  have hlen := h.len
  obtain ⟨K, hK⟩ : ∃ x, ktK l = x := ⟨_, rfl⟩
  obtain ⟨M, hM⟩ : ∃ x, ktR l = x := ⟨_, rfl⟩
  obtain ⟨E1, hE1⟩ : ∃ x, ktE l = x := ⟨_, rfl⟩
  obtain ⟨S2, hS2⟩ : ∃ x, ttS M = x := ⟨_, rfl⟩
  obtain ⟨R2, hR2⟩ : ∃ x, ttR M = x := ⟨_, rfl⟩
  obtain ⟨E2, hE2⟩ : ∃ x, ttE M = x := ⟨_, rfl⟩
  have hMl : M.length ≤ 100000 := by have := ktR_le l; rw [hM] at this; omega
  have hSl : S2.length ≤ 100000 := by have := ttS_le M; rw [hS2] at this; omega
  have HK := Lib.hid hK
  have HM := Lib.hid hM
  have HE1 := Lib.hid hE1
  have HS2 := Lib.hid hS2
  have HR2 := Lib.hid hR2
  have HE2 := Lib.hid hE2
  clear hK hM hE1 hS2 hR2 hE2 hlen
  have R1 : RB (w.alloc (.cells #[.int .i64 0, .int .i64 0, .int .i64 0, .slice none 0 0] 41)) w.heap.size zit := RB.new w zit _
  have b1 : Below w.heap.size w (w.alloc (.cells #[.int .i64 0, .int .i64 0, .int .i64 0, .slice none 0 0] 41)) := (Below.refl _ _).alloc (Nat.le_refl _) _
  go_enter Tryz.func84, Tryz.ntmps84
  go_wp2_with fail
  generalize w.alloc (.cells #[.int .i64 0, .int .i64 0, .int .i64 0, .slice none 0 0] 41) = w1 at R1 b1 ⊢
  refine (ktake_txt A n c l K M E1 HK.out HM.out HE1.out w1 (h.below b1) (by omega)).mono ?_
  rintro e v ⟨A2, n2, c2, rfl, own2, hb2⟩
  have hn2 : n2 ≤ 100000 := by have := own2.len; omega
  have bk : Below v.heap.size v (v.alloc (.cells #[.int .i64 K.obj, .int .i64 K.kind, .int .i64 K.off] 39)) := (Below.refl _ _).alloc (Nat.le_refl _) _
  have K2 := KB.new v K.obj K.kind K.off 39
  have R2' := R1.below hb2 R1.lt
  have B2 := b1.trans (hb2.mono b1.size)
  have R3 := R2'.below bk R2'.lt
  have B3 := B2.trans (bk.mono B2.size)
  have s3 := own2.sl.below bk
  have hvw : w.heap.size < v.heap.size := R2'.lt
  clear R2' B2 R1 b1 hb2 own2
  by_cases hE10 : E1 = 0
  · subst hE10
    go_wp2_with fail
    generalize v.alloc (.cells #[.int .i64 K.obj, .int .i64 K.kind, .int .i64 K.off] 39) = w3 at K2 R3 B3 s3 bk ⊢
    refine (ctt_any A2 n2 c2 M S2 R2 E2 HS2.out HR2.out HE2.out w3 s3 (by omega)).mono ?_
    rintro e w4 ⟨A4, n4, c4, rfl, s4, hfr, hb4⟩
    have R4 := R3.below hb4 R3.lt
    have K4 := K2.below hb4 K2.lt
    have B4 := B3.trans (hb4.mono B3.size)
    have hww3 : w.heap.size ≤ w3.heap.size := B3.size
    have hw3 : w.heap.size < w3.heap.size := R3.lt
    clear K2 R3 s3 bk
    by_cases hE20 : E2 = 0
    · subst hE20
      obtain ⟨X, hX⟩ : ∃ X, (⟨S2.toArray⟩ : ByteArray) = X := ⟨_, rfl⟩
      have hXl : X.data.toList = S2 := by rw [← hX]
      have hXs : X.size ≤ 100000 := by rw [← hX]; show S2.toArray.size ≤ _; simpa using hSl
      have hconv := convSB X
      have slX := sl_conv_sb w4 5 X (by unfold maxLen; omega)
      have beX := below_conv_sb w4 5 X
      rw [hXl] at slX
      rw [hX]
      have k0 := K4.c0
      have k1 := K4.c1
      have k2 := K4.c2
      have R5 := R4.below beX R4.lt
      have B5 := B4.trans (beX.mono B4.size)
      have s5 := s4.below beX
      have zX : w.heap.size < w4.heap.size := R4.lt
      clear hX hXl R4 s4
      go_wp2_with (first
        | (refine wp_store_it rfl (.tmp 2) (.tmp 31) rfl w.heap.size rfl K (some ⟨w4.heap.size, 0, none⟩) X.size (grownCap w4 X.size 0 5) rfl R5 rfl ?_; intro w6 R6 T6)
        | fail)
      have hA4 : ∀ g, blockOf A4 = some g → w3.heap.size ≤ g := fun g hg => by
        cases A4 with
        | none => cases hg
        | some ad => have := hfr ad rfl; have e : ad.block = g := Option.some.inj hg; omega
      have slX6 := slX.turned T6 (fun g hg e => by have e1 : w4.heap.size = g := Option.some.inj hg; omega)
      have s6 := s5.turned T6 (fun g hg e => by have := hA4 g hg; omega)
      have B6 := B5.trans (T6.belowOne R5.lt)
      refine bodyPost_ret (res_c3 Tryz.results84 rfl (load_it R6)) rfl ?_
      exact ti_ok HK.out HM.out HE1.out HS2.out HR2.out HE2.out slX6 s6 (fun ad h => by injection h with h; rw [← h]; exact Nat.le_of_lt zX) (fun ad h => Nat.le_trans hww3 (hfr ad h)) B6
    · have hb1 : decide (E2 = 0) = false := decide_eq_false hE20
      have hb3 : (E2 == 0) = false := by simp [hE20]
      go_wp2_with (first
        | (refine wp_store_it rfl (.tmp 2) (.tmp 26) rfl w.heap.size rfl ⟨0, 0, 0⟩ none 0 0 rfl R4 rfl ?_; intro w6 R6 T6)
        | fail)
      refine bodyPost_ret (res_c3 Tryz.results84 rfl (load_it R6)) rfl ?_
      exact ti_no HM.out HE1.out HE2.out (fun h => hE20 h.2) hE20 (B4.trans (T6.belowOne R4.lt))
  · have hb1 : decide (E1 = 0) = false := decide_eq_false hE10
    have hb3 : (E1 == 0) = false := by simp [hE10]
    go_wp2_with (first
      | (refine wp_store_it rfl (.tmp 2) (.tmp 16) rfl w.heap.size rfl ⟨0, 0, 0⟩ none 0 0 rfl R3 rfl ?_; intro w6 R6 T6)
      | fail)
    refine bodyPost_ret (res_c3 Tryz.results84 rfl (load_it R6)) rfl ?_
    exact ti_no HM.out HE1.out HE2.out (fun h => hE10 h.1) hE10 (B3.trans (T6.belowOne R3.lt))

def TkYes (l : List UInt8) (w : World) (e : Ending) (w' : World) : Prop :=
  ∃ A2 n2 c2, e = .returned (.tuple #[.agg #[.int .i64 (ktK l).obj, .int .i64 (ktK l).kind, .int .i64 (ktK l).off, .int .i64 (t2V (ktR l))], .slice A2 n2 c2, .int .i64 0]) ∧ Sl w' A2 n2 c2 (t2R (ktR l)) ∧
    (∀ ad, A2 = some ad → w.heap.size ≤ ad.block) ∧ Below w.heap.size w w'
/-- What takeKid says; kept shut. -/
def TkSays (l : List UInt8) (w : World) (e : Ending) (w' : World) : Prop := (ktE l = 0 ∧ t2E (ktR l) = 0 ∧ TkYes l w e w') ∨ (¬ (ktE l = 0 ∧ t2E (ktR l) = 0) ∧ TiNo zkidV w e w')
theorem tk_ok {l M R2 : List UInt8} {K : Kd} {S2 : Int} {w w' : World} (hK : ktK l = K) (hM : ktR l = M) (hE1 : ktE l = 0) (hS2 : t2V M = S2) (hR2 : t2R M = R2) (hE2 : t2E M = 0) {A2 : Option Addr} {n2 c2 : Nat} (s2 : Sl w' A2 n2 c2 R2)
    (f2 : ∀ ad, A2 = some ad → w.heap.size ≤ ad.block) (hb : Below w.heap.size w w') :
    TkSays l w (.returned (.tuple #[.agg #[.int .i64 K.obj, .int .i64 K.kind, .int .i64 K.off, .int .i64 S2], .slice A2 n2 c2, .int .i64 0])) w' := by
  subst hK hM hS2 hR2
  exact .inl ⟨hE1, hE2, A2, n2, c2, rfl, s2, f2, hb⟩
theorem tk_no {l M : List UInt8} {w w' : World} {E1 E2 E : Int} (hM : ktR l = M) (hE1 : ktE l = E1) (hE2 : t2E M = E2) (h : ¬ (E1 = 0 ∧ E2 = 0)) (hE : E ≠ 0) (hb : Below w.heap.size w w') :
    TkSays l w (.returned (.tuple #[.agg #[.int .i64 0, .int .i64 0, .int .i64 0, .int .i64 0], .slice none 0 0, .int .i64 E])) w' := by
  subst hM hE1 hE2
  exact .inr ⟨h, E, hE, rfl, hb⟩
set_option maxRecDepth 100000 in
set_option maxHeartbeats 8000000 in
theorem ctakekid_any (A : Option Addr) (n c : Nat) (l : List UInt8) (w : World) (h : Sl w A n c l) (hn : n ≤ 100000) :
    Calls Tryz.prog 86 #[.slice A n c] w fun e w' => TkSays l w e w' := by
  have hlen := h.len
  obtain ⟨K, hK⟩ : ∃ x, ktK l = x := ⟨_, rfl⟩
  obtain ⟨M, hM⟩ : ∃ x, ktR l = x := ⟨_, rfl⟩
  obtain ⟨E1, hE1⟩ : ∃ x, ktE l = x := ⟨_, rfl⟩
  obtain ⟨S2, hS2⟩ : ∃ x, t2V M = x := ⟨_, rfl⟩
  obtain ⟨R2, hR2⟩ : ∃ x, t2R M = x := ⟨_, rfl⟩
  obtain ⟨E2, hE2⟩ : ∃ x, t2E M = x := ⟨_, rfl⟩
  have hMl : M.length ≤ 100000 := by have := ktR_le l; rw [hM] at this; omega
  have HK := Lib.hid hK
  have HM := Lib.hid hM
  have HE1 := Lib.hid hE1
  have HS2 := Lib.hid hS2
  have HR2 := Lib.hid hR2
  have HE2 := Lib.hid hE2
  clear hK hM hE1 hS2 hR2 hE2 hlen
  have R1 : RB (w.alloc (.cells #[.int .i64 0, .int .i64 0, .int .i64 0, .int .i64 0] 62)) w.heap.size zkid := RB.new w zkid _
  have b1 : Below w.heap.size w (w.alloc (.cells #[.int .i64 0, .int .i64 0, .int .i64 0, .int .i64 0] 62)) := (Below.refl _ _).alloc (Nat.le_refl _) _
  go_enter Tryz.func86, Tryz.ntmps86
  go_wp2_with fail
  generalize w.alloc (.cells #[.int .i64 0, .int .i64 0, .int .i64 0, .int .i64 0] 62) = w1 at R1 b1 ⊢
  refine (ktake_txt A n c l K M E1 HK.out HM.out HE1.out w1 (h.below b1) (by omega)).mono ?_
  rintro e v ⟨A2, n2, c2, rfl, own2, hb2⟩
  have hn2 : n2 ≤ 100000 := by have := own2.len; omega
  have bk : Below v.heap.size v (v.alloc (.cells #[.int .i64 K.obj, .int .i64 K.kind, .int .i64 K.off] 39)) := (Below.refl _ _).alloc (Nat.le_refl _) _
  have K2 := KB.new v K.obj K.kind K.off 39
  have R2' := R1.below hb2 R1.lt
  have B2 := b1.trans (hb2.mono b1.size)
  have R3 := R2'.below bk R2'.lt
  have B3 := B2.trans (bk.mono B2.size)
  have s3 := own2.sl.below bk
  have hvw : w.heap.size < v.heap.size := R2'.lt
  clear R2' B2 R1 b1 hb2 own2
  by_cases hE10 : E1 = 0
  · subst hE10
    go_wp2_with fail
    generalize v.alloc (.cells #[.int .i64 K.obj, .int .i64 K.kind, .int .i64 K.off] 39) = w3 at K2 R3 B3 s3 bk ⊢
    refine (ct2_any A2 n2 c2 M S2 R2 E2 HS2.out HR2.out HE2.out w3 s3 (by omega)).mono ?_
    rintro e w4 ⟨A4, n4, c4, rfl, s4, hfr, hb4⟩
    have R4 := R3.below hb4 R3.lt
    have K4 := K2.below hb4 K2.lt
    have B4 := B3.trans (hb4.mono B3.size)
    have hww3 : w.heap.size ≤ w3.heap.size := B3.size
    have hw3 : w.heap.size < w3.heap.size := R3.lt
    clear K2 R3 s3 bk
    by_cases hE20 : E2 = 0
    · subst hE20
      have k0 := K4.c0
      have k1 := K4.c1
      have k2 := K4.c2
      go_wp2_with (first
        | (refine wp_store_kid rfl (.tmp 2) (.tmp 30) rfl w.heap.size rfl ⟨K, S2⟩ rfl R4 rfl ?_; intro w6 R6 T6)
        | fail)
      have hA4 : ∀ g, blockOf A4 = some g → w3.heap.size ≤ g := fun g hg => by
        cases A4 with
        | none => cases hg
        | some ad => have := hfr ad rfl; have e : ad.block = g := Option.some.inj hg; omega
      have s6 := s4.turned T6 (fun g hg e => by have := hA4 g hg; omega)
      have B6 := B4.trans (T6.belowOne R4.lt)
      refine bodyPost_ret (res_c3 Tryz.results86 rfl (load_kid R6)) rfl ?_
      exact tk_ok HK.out HM.out HE1.out HS2.out HR2.out HE2.out s6 (fun ad h => Nat.le_trans hww3 (hfr ad h)) B6
    · have hb1 : decide (E2 = 0) = false := decide_eq_false hE20
      have hb3 : (E2 == 0) = false := by simp [hE20]
      go_wp2_with (first
        | (refine wp_store_kid rfl (.tmp 2) (.tmp 26) rfl w.heap.size rfl ⟨⟨0, 0, 0⟩, 0⟩ rfl R4 rfl ?_; intro w6 R6 T6)
        | fail)
      refine bodyPost_ret (res_c3 Tryz.results86 rfl (load_kid R6)) rfl ?_
      exact tk_no HM.out HE1.out HE2.out (fun h => hE20 h.2) hE20 (B4.trans (T6.belowOne R4.lt))
  · have hb1 : decide (E1 = 0) = false := decide_eq_false hE10
    have hb3 : (E1 == 0) = false := by simp [hE10]
    go_wp2_with (first
      | (refine wp_store_kid rfl (.tmp 2) (.tmp 16) rfl w.heap.size rfl ⟨⟨0, 0, 0⟩, 0⟩ rfl R3 rfl ?_; intro w6 R6 T6)
      | fail)
    refine bodyPost_ret (res_c3 Tryz.results86 rfl (load_kid R6)) rfl ?_
    exact tk_no HM.out HE1.out HE2.out (fun h => hE10 h.1) hE10 (B3.trans (T6.belowOne R3.lt))
end Go.Proofs.YtgedmodnkiijkaaGreatDoor

namespace Go.Proofs.YtgedmodnkiijkaaGreatDoor
open Go Go.RowKit Go.Proofs

theorem kt_len {r : List UInt8} (h : ktE r = 0) : (ktR r).length + 9 ≤ r.length := by
  unfold ktE at h
  split at h
  · rename_i hy
    have := (of_decide_eq_true (Bool.and_eq_true .. ▸ hy).1)
    unfold ktR
    rw [if_pos hy, List.length_drop]
    omega
  · split at h <;> omega
theorem tt_len {r : List UInt8} (h : ttE r = 0) : (ttR r).length + 1 ≤ r.length := by
  unfold ttE at h
  split at h
  · rename_i hy
    have := (of_decide_eq_true hy).1
    unfold ttR restT
    rw [if_pos hy, List.length_drop]
    omega
  · omega
theorem t2_len {r : List UInt8} (h : t2E r = 0) : (t2R r).length + 1 ≤ r.length := by
  unfold t2E at h
  split at h
  · rename_i hy
    have := of_decide_eq_true hy
    unfold t2R
    rw [if_pos hy, List.length_drop]
    omega
  · omega
theorem step_it {xs : List Itm} {r : List UInt8} (h1 : ktE r = 0) (h2 : ttE (ktR r) = 0) : rnStep ⟨0, xs, []⟩ r = some (⟨0, xs ++ [⟨ktK r, ttS (ktR r)⟩], []⟩, ttR (ktR r)) := by
  unfold rnStep
  rw [if_pos h1, if_pos rfl, if_pos h2]
theorem step_it_no {xs : List Itm} {r : List UInt8} (h : ¬ (ktE r = 0 ∧ ttE (ktR r) = 0)) : rnStep ⟨0, xs, []⟩ r = none := by
  unfold rnStep
  by_cases h1 : ktE r = 0
  · rw [if_pos h1, if_pos rfl, if_neg (fun h2 => h ⟨h1, h2⟩)]
  · rw [if_neg h1]
theorem step_kid {l : Int} (hl : l ≠ 0) {xs : List Kidd} {r : List UInt8} (h1 : ktE r = 0) (h2 : t2E (ktR r) = 0) : rnStep ⟨l, [], xs⟩ r = some (⟨l, [], xs ++ [⟨ktK r, t2V (ktR r)⟩]⟩, t2R (ktR r)) := by
  unfold rnStep
  rw [if_pos h1, if_neg hl, if_pos h2]
theorem step_kid_no {l : Int} (hl : l ≠ 0) {xs : List Kidd} {r : List UInt8} (h : ¬ (ktE r = 0 ∧ t2E (ktR r) = 0)) : rnStep ⟨l, [], xs⟩ r = none := by
  unfold rnStep
  by_cases h1 : ktE r = 0
  · rw [if_pos h1, if_neg hl, if_neg (fun h2 => h ⟨h1, h2⟩)]
  · rw [if_neg h1]
/-- What take says; kept shut. -/
def TakesI (A : Option Addr) (body : List UInt8) (cnt : Nat) (w : World) (e : Ending) (w' : World) : Prop :=
  (∃ xs r A1 c1 A2 n2 c2, rnTo 0 body cnt = some (⟨0, xs, []⟩, r) ∧ e = .returned (.tuple #[.slice A1 cnt c1, .slice A2 n2 c2, .int .i64 0]) ∧ cnt ≤ 1000 ∧ IRow w' w.heap.size A1 cnt c1 xs ∧ Sl w' A2 n2 c2 r ∧ (∀ g, blockOf A2 = some g → blockOf A = some g ∨ w.heap.size ≤ g) ∧ Below w.heap.size w w') ∨
  (∃ E : Int, E ≠ 0 ∧ rnTo 0 body cnt = none ∧ e = .returned (.tuple #[.slice none 0 0, .slice none 0 0, .int .i64 E]) ∧ Below w.heap.size w w')
def TakesK (l : Int) (A : Option Addr) (body : List UInt8) (cnt : Nat) (w : World) (e : Ending) (w' : World) : Prop :=
  (∃ xs r A1 c1 A2 n2 c2, rnTo l body cnt = some (⟨l, [], xs⟩, r) ∧ e = .returned (.tuple #[.slice A1 cnt c1, .slice A2 n2 c2, .int .i64 0]) ∧ cnt ≤ 1000 ∧ OwnS w' w.heap.size 62 4 A1 cnt c1 (xs.map Kidd.vs) ∧ Sl w' A2 n2 c2 r ∧ (∀ g, blockOf A2 = some g → blockOf A = some g ∨ w.heap.size ≤ g) ∧ Below w.heap.size w w') ∨
  (∃ E : Int, E ≠ 0 ∧ rnTo l body cnt = none ∧ e = .returned (.tuple #[.slice none 0 0, .slice none 0 0, .int .i64 E]) ∧ Below w.heap.size w w')
theorem takesI_ok {A : Option Addr} {body : List UInt8} {cnt : Nat} {w w' : World} {xs : List Itm} {r : List UInt8} {A1 : Option Addr} {c1 : Nat} {A2 : Option Addr} {n2 c2 : Nat} (h1 : rnTo 0 body cnt = some (⟨0, xs, []⟩, r)) (h0 : cnt ≤ 1000) (h2 : IRow w' w.heap.size A1 cnt c1 xs) (h3 : Sl w' A2 n2 c2 r) (h4 : ∀ g, blockOf A2 = some g → blockOf A = some g ∨ w.heap.size ≤ g) (hb : Below w.heap.size w w') :
    TakesI A body cnt w (.returned (.tuple #[.slice A1 cnt c1, .slice A2 n2 c2, .int .i64 0])) w' := .inl ⟨xs, r, A1, c1, A2, n2, c2, h1, rfl, h0, h2, h3, h4, hb⟩
theorem takesI_no {A : Option Addr} {body : List UInt8} {cnt : Nat} {w w' : World} {E : Int} (hE : E ≠ 0) (h1 : rnTo 0 body cnt = none) (hb : Below w.heap.size w w') :
    TakesI A body cnt w (.returned (.tuple #[.slice none 0 0, .slice none 0 0, .int .i64 E])) w' := .inr ⟨E, hE, h1, rfl, hb⟩
theorem takesK_ok {l : Int} {A : Option Addr} {body : List UInt8} {cnt : Nat} {w w' : World} {xs : List Kidd} {r : List UInt8} {A1 : Option Addr} {c1 : Nat} {A2 : Option Addr} {n2 c2 : Nat} (h1 : rnTo l body cnt = some (⟨l, [], xs⟩, r)) (h0 : cnt ≤ 1000) (h2 : OwnS w' w.heap.size 62 4 A1 cnt c1 (xs.map Kidd.vs)) (h3 : Sl w' A2 n2 c2 r) (h4 : ∀ g, blockOf A2 = some g → blockOf A = some g ∨ w.heap.size ≤ g) (hb : Below w.heap.size w w') :
    TakesK l A body cnt w (.returned (.tuple #[.slice A1 cnt c1, .slice A2 n2 c2, .int .i64 0])) w' := .inl ⟨xs, r, A1, c1, A2, n2, c2, h1, rfl, h0, h2, h3, h4, hb⟩
theorem takesK_no {l : Int} {A : Option Addr} {body : List UInt8} {cnt : Nat} {w w' : World} {E : Int} (hE : E ≠ 0) (h1 : rnTo l body cnt = none) (hb : Below w.heap.size w w') :
    TakesK l A body cnt w (.returned (.tuple #[.slice none 0 0, .slice none 0 0, .int .i64 E])) w' := .inr ⟨E, hE, h1, rfl, hb⟩


set_option maxRecDepth 100000 in
set_option maxHeartbeats 8000000 in
theorem ctakeI_any (body : List UInt8) (cnt : Nat) (A : Option Addr) (k c : Nat) (w : World) (h : Sl w A k c body) (hk : k ≤ 1000) (hcnt : cnt ≤ 100000) :
    Calls Tryz.prog 83 #[.slice A k c, .int .i64 (cnt : Int), .func (.func 84) #[] #[]] w fun e w' => TakesI A body cnt w e w' := by
  go_enter Tryz.func83, Tryz.ntmps83
  go_wp2_with fail
  go_loopw [0, 9, 14] (fun t0 t9 t14 wr => ∃ (j : Nat) (xs : List Itm) (r : List UInt8) (Rr : Option Addr) (p q : Nat) (A' : Option Addr) (c' : Nat), j ≤ cnt ∧ t14 = .int .i64 (j : Int) ∧ t0 = .slice Rr p q ∧ t9 = .slice A' j c' ∧
    rnTo 0 body j = some (⟨0, xs, []⟩, r) ∧ Sl wr Rr p q r ∧ p + 10 * j ≤ k ∧ (r ≠ [] → ∀ g, blockOf Rr = some g → blockOf A' ≠ some g) ∧ (∀ g, blockOf Rr = some g → blockOf A = some g ∨ w.heap.size ≤ g) ∧ IRow wr w.heap.size A' j c' xs ∧ Below w.heap.size w wr) (fun _ _ t14 _ => cnt - (intOf t14).toNat)
  case atStart => exact ⟨0, [], body, A, k, c, none, 0, Nat.zero_le _, rfl, rfl, rfl, rfl, h, by omega, (fun _ _ _ h => by cases h), (fun g hg => .inl hg), irow_nil _ _, Below.refl _ _⟩
  case round =>
    obtain ⟨j, xs, r, Rr, p, q, A', c', hj, rfl, rfl, rfl, hrn, hsl, hp, hne, hfar, hrow, hB⟩ := hrel
    by_cases hlt : j < cnt
    · have hstep := Lib.hid (rnTo_next 0 body j _ r hrn)
      have hnone : ∀ x, rnTo 0 body (j + 1) = x → x = none → rnTo 0 body cnt = none := fun x h1 h2 => rnTo_none _ _ _ _ (h1.trans h2) hlt
      have Hnone := Lib.hid hnone
      clear hnone hrn
      have hltA : ∀ g, blockOf A' = some g → g < wr.heap.size := fun g hg => (hrow.blockLt g hg).2
      have hlowA : ∀ g, blockOf A' = some g → w.heap.size ≤ g := fun g hg => (hrow.blockLt g hg).1
      have hpl := hsl.len
      go_wp2_with fail
      refine (ctakeitem_any Rr p q r wr hsl (by omega)).mono ?_
      rintro e v (⟨h1, h2, hyes⟩ | ⟨hno, E, hE, rfl, hb1⟩)
      · have hlen1 := kt_len h1
        have hlen2 := tt_len h2
        have Hst := Lib.hid (step_it (xs := xs) h1 h2)
        have hs1 := Lib.hid (hstep.out.trans Hst.out)
        clear hstep Hst Hnone h1 h2
        obtain ⟨V, vp, vq, A2, n2, c2, rfl, slV, s2, fV, f2, hb1⟩ := hyes
        obtain ⟨S, hS⟩ : ∃ S, ttS (ktR r) = S := ⟨_, rfl⟩
        obtain ⟨R2, hR2⟩ : ∃ S, ttR (ktR r) = S := ⟨_, rfl⟩
        rw [hS] at slV
        obtain ⟨K, hK⟩ : ∃ K, ktK r = K := ⟨_, rfl⟩
        have hl2 := s2.len
        have hp2 : n2 + 10 * (j + 1) ≤ k := by omega
        rw [hR2] at s2
        have hs2 : rnTo 0 body (j + 1) = some (⟨0, xs ++ [⟨K, S⟩], []⟩, R2) := by rw [hs1.out, hK, hS, hR2]
        have Hs2 := Lib.hid hs2
        clear hs2 hs1
        rw [hK]
        clear hK hS hR2 hl2 hlen1 hlen2 hpl hp
        have bY : Below v.heap.size v ((v.alloc (.cells #[.int .i64 K.obj, .int .i64 K.kind, .int .i64 K.off, .slice V vp vq] 41)).alloc (.cells #[.int .i64 K.obj, .int .i64 K.kind, .int .i64 K.off, .slice V vp vq] 41)) := ((Below.refl _ _).alloc (Nat.le_refl _) _).alloc (by simp) _
        have rowY : Sls ((v.alloc (.cells #[.int .i64 K.obj, .int .i64 K.kind, .int .i64 K.off, .slice V vp vq] 41)).alloc (.cells #[.int .i64 K.obj, .int .i64 K.kind, .int .i64 K.off, .slice V vp vq] 41)) 4 (some ⟨v.heap.size + 1, 0, none⟩) 1 1 [itvs K V vp vq] := by
          have := (owns_lit1 (v.alloc (.cells #[.int .i64 K.obj, .int .i64 K.kind, .int .i64 K.off, .slice V vp vq] 41)) 41 4 (itvs K V vp vq) _ rfl rfl).sls (by omega)
          rwa [World.size_alloc] at this
        have hzv : wr.heap.size ≤ v.heap.size := hb1.size
        have hwz : w.heap.size ≤ wr.heap.size := hB.size
        have row1 := (hrow.below hb1).below bY
        have s3 := s2.below bY
        have W3 := hB.trans ((hb1.trans (bY.mono hb1.size)).mono hB.size)
        have zY : w.heap.size ≤ ((v.alloc (.cells #[.int .i64 K.obj, .int .i64 K.kind, .int .i64 K.off, .slice V vp vq] 41)).alloc (.cells #[.int .i64 K.obj, .int .i64 K.kind, .int .i64 K.off, .slice V vp vq] 41)).heap.size := Nat.le_trans (Nat.le_trans hwz hzv) bY.size
        have ezY : ((v.alloc (.cells #[.int .i64 K.obj, .int .i64 K.kind, .int .i64 K.off, .slice V vp vq] 41)).alloc (.cells #[.int .i64 K.obj, .int .i64 K.kind, .int .i64 K.off, .slice V vp vq] 41)).heap.size = v.heap.size + 2 := by simp
        have h5lt : R2 ≠ [] → ∀ g, blockOf A2 = some g → g < v.heap.size := fun hl g hg => s2.blockLt hl g hg
        have hf2 : ∀ g, blockOf A2 = some g → wr.heap.size ≤ g := fun g hg => by
          cases A2 with
          | none => cases hg
          | some ad => have := f2 ad rfl; have e : ad.block = g := Option.some.inj hg; omega
        have slY := slV.below bY
        have neY : S ≠ [] → ∀ g, blockOf V = some g → w.heap.size ≤ g ∧ blockOf A' ≠ some g := fun _ g hg => by
          cases V with
          | none => cases hg
          | some ad =>
            have h1 := fV ad rfl
            have h2 : ad.block = g := Option.some.inj hg
            exact ⟨by omega, fun e => by have := hltA g e; omega⟩
        have hj3 : j ≤ 1000 := by omega
        clear hfar hrow hsl s2 hB hb1 hne slV fV f2
        go_wp2_with (first
          | (at_builtin; refine wp_append_item rfl _ _ rfl w.heap.size A' j c' xs rfl row1 (some ⟨v.heap.size + 1, 0, none⟩) 1 ⟨K, S⟩ V vp vq rfl rowY slY neY (Nat.le_trans hj3 (by decide)) zY ?_)
          | fail)
        intro A6 c6 v6 row6 T7 hA7
        have s7 := s3.turned' T7 (fun _ g hg e => by have h1 := hltA g e; have h2 := hf2 g hg; omega)
        have W7 := W3.trans (T7.below (B := w.heap.size) (fun x hx => hlowA x hx) zY)
        have hne8 : R2 ≠ [] → ∀ g, blockOf A2 = some g → blockOf A6 ≠ some g := fun hl g hg e => by
          have h1 := h5lt hl g hg
          have h2 := hf2 g hg
          rcases hA7 with h3 | h3
          · have := hltA g (h3.symm.trans e); omega
          · rw [h3] at e
            have := Option.some.inj e
            omega
        have hfar8 : ∀ g, blockOf A2 = some g → blockOf A = some g ∨ w.heap.size ≤ g := fun g hg => .inr (Nat.le_trans hwz (hf2 g hg))
        clear row1 s3 W3 rowY bY slY neY hltA hlowA hf2 h5lt hA7
        go_wp2
        exact ⟨⟨j + 1, xs ++ [⟨K, S⟩], R2, A2, n2, c2, A6, c6, by omega, by go_num, rfl, rfl, Hs2.out, s7, hp2, hne8, hfar8, row6, W7⟩, by simp [intOf]; omega⟩
      · have hfin := Lib.hid (Hnone.out _ hstep.out (step_it_no hno))
        have hB1 := hB.trans (hb1.mono hB.size)
        have hE1 : decide (E = 0) = false := decide_eq_false hE
        have hE2 : (E == 0) = false := by simp [hE]
        have hB2 : Below w.heap.size w (v.alloc (.cells #[.int .i64 0, .int .i64 0, .int .i64 0, .slice none 0 0] 41)) := hB1.alloc hB1.size _
        clear hfar hstep Hnone hno hrow hsl hne hltA hlowA
        unfold zitV
        go_wp2
        go_ret3
        exact takesI_no hE hfin.out hB2
    · obtain rfl : j = cnt := by omega
      have Hrn := Lib.hid hrn
      clear hrn
      go_wp2
      go_ret3
      exact takesI_ok Hrn.out (by omega) hrow hsl hfar hB

set_option maxRecDepth 100000 in
set_option maxHeartbeats 8000000 in
theorem ctakeK_any (l : Int) (hl : l ≠ 0) (body : List UInt8) (cnt : Nat) (A : Option Addr) (k c : Nat) (w : World) (h : Sl w A k c body) (hk : k ≤ 1000) (hcnt : cnt ≤ 100000) :
    Calls Tryz.prog 85 #[.slice A k c, .int .i64 (cnt : Int), .func (.func 86) #[] #[]] w fun e w' => TakesK l A body cnt w e w' := by
  go_enter Tryz.func85, Tryz.ntmps85
  go_wp2_with fail
  go_loopw [0, 9, 14] (fun t0 t9 t14 wr => ∃ (j : Nat) (xs : List Kidd) (r : List UInt8) (Rr : Option Addr) (p q : Nat) (A' : Option Addr) (c' : Nat), j ≤ cnt ∧ t14 = .int .i64 (j : Int) ∧ t0 = .slice Rr p q ∧ t9 = .slice A' j c' ∧
    rnTo l body j = some (⟨l, [], xs⟩, r) ∧ Sl wr Rr p q r ∧ p + 10 * j ≤ k ∧ (r ≠ [] → ∀ g, blockOf Rr = some g → blockOf A' ≠ some g) ∧ (∀ g, blockOf Rr = some g → blockOf A = some g ∨ w.heap.size ≤ g) ∧ OwnS wr w.heap.size 62 4 A' j c' (xs.map Kidd.vs) ∧ Below w.heap.size w wr) (fun _ _ t14 _ => cnt - (intOf t14).toNat)
  case atStart => exact ⟨0, [], body, A, k, c, none, 0, Nat.zero_le _, rfl, rfl, rfl, rfl, h, by omega, (fun _ _ _ h => by cases h), (fun g hg => .inl hg), owns_none _ _ _ _, Below.refl _ _⟩
  case round =>
    obtain ⟨j, xs, r, Rr, p, q, A', c', hj, rfl, rfl, rfl, hrn, hsl, hp, hne, hfar, hrow, hB⟩ := hrel
    by_cases hlt : j < cnt
    · have hstep := Lib.hid (rnTo_next l body j _ r hrn)
      have hnone : ∀ x, rnTo l body (j + 1) = x → x = none → rnTo l body cnt = none := fun x h1 h2 => rnTo_none _ _ _ _ (h1.trans h2) hlt
      have Hnone := Lib.hid hnone
      clear hnone hrn
      have hltA : ∀ g, blockOf A' = some g → g < wr.heap.size := fun g hg => (hrow.blockLt g hg).2
      have hlowA : ∀ g, blockOf A' = some g → w.heap.size ≤ g := fun g hg => (hrow.blockLt g hg).1
      have hpl := hsl.len
      go_wp2_with fail
      refine (ctakekid_any Rr p q r wr hsl (by omega)).mono ?_
      rintro e v (⟨h1, h2, hyes⟩ | ⟨hno, E, hE, rfl, hb1⟩)
      · have hlen1 := kt_len h1
        have hlen2 := t2_len h2
        have Hst := Lib.hid (step_kid hl (xs := xs) h1 h2)
        have hs1 := Lib.hid (hstep.out.trans Hst.out)
        clear hstep Hst Hnone h1 h2
        obtain ⟨A2, n2, c2, rfl, s2, f2, hb1⟩ := hyes
        obtain ⟨V, hS⟩ : ∃ S, t2V (ktR r) = S := ⟨_, rfl⟩
        obtain ⟨R2, hR2⟩ : ∃ S, t2R (ktR r) = S := ⟨_, rfl⟩
        obtain ⟨K, hK⟩ : ∃ K, ktK r = K := ⟨_, rfl⟩
        have hl2 := s2.len
        have hp2 : n2 + 10 * (j + 1) ≤ k := by omega
        rw [hR2] at s2
        have hs2 : rnTo l body (j + 1) = some (⟨l, [], xs ++ [⟨K, V⟩]⟩, R2) := by rw [hs1.out, hK, hS, hR2]
        have Hs2 := Lib.hid hs2
        clear hs2 hs1
        rw [hK, hS]
        clear hK hS hR2 hl2 hlen1 hlen2 hpl hp
        have bY : Below v.heap.size v ((v.alloc (.cells #[.int .i64 K.obj, .int .i64 K.kind, .int .i64 K.off, .int .i64 V] 62)).alloc (.cells #[.int .i64 K.obj, .int .i64 K.kind, .int .i64 K.off, .int .i64 V] 62)) := ((Below.refl _ _).alloc (Nat.le_refl _) _).alloc (by simp) _
        have rowY : Sls ((v.alloc (.cells #[.int .i64 K.obj, .int .i64 K.kind, .int .i64 K.off, .int .i64 V] 62)).alloc (.cells #[.int .i64 K.obj, .int .i64 K.kind, .int .i64 K.off, .int .i64 V] 62)) 4 (some ⟨v.heap.size + 1, 0, none⟩) 1 1 [(⟨K, V⟩ : Kidd).vs] := by
          have := (owns_lit1 (v.alloc (.cells #[.int .i64 K.obj, .int .i64 K.kind, .int .i64 K.off, .int .i64 V] 62)) 62 4 ((⟨K, V⟩ : Kidd).vs) _ rfl rfl).sls (by omega)
          rwa [World.size_alloc] at this
        have hzv : wr.heap.size ≤ v.heap.size := hb1.size
        have hwz : w.heap.size ≤ wr.heap.size := hB.size
        have row1 := (hrow.below hb1).below bY
        have s3 := s2.below bY
        have W3 := hB.trans ((hb1.trans (bY.mono hb1.size)).mono hB.size)
        have zY : w.heap.size ≤ ((v.alloc (.cells #[.int .i64 K.obj, .int .i64 K.kind, .int .i64 K.off, .int .i64 V] 62)).alloc (.cells #[.int .i64 K.obj, .int .i64 K.kind, .int .i64 K.off, .int .i64 V] 62)).heap.size := Nat.le_trans (Nat.le_trans hwz hzv) bY.size
        have ezY : ((v.alloc (.cells #[.int .i64 K.obj, .int .i64 K.kind, .int .i64 K.off, .int .i64 V] 62)).alloc (.cells #[.int .i64 K.obj, .int .i64 K.kind, .int .i64 K.off, .int .i64 V] 62)).heap.size = v.heap.size + 2 := by simp
        have h5lt : R2 ≠ [] → ∀ g, blockOf A2 = some g → g < v.heap.size := fun hl g hg => s2.blockLt hl g hg
        have hf2 : ∀ g, blockOf A2 = some g → wr.heap.size ≤ g := fun g hg => by
          cases A2 with
          | none => cases hg
          | some ad => have := f2 ad rfl; have e : ad.block = g := Option.some.inj hg; omega
        have hj3 : j + 1 ≤ 1000000 := by omega
        have one : ∀ y ∈ [(⟨K, V⟩ : Kidd).vs], ∀ u ∈ y, u.oneCell' = true := by
          intro y hy u hu
          obtain rfl : y = (⟨K, V⟩ : Kidd).vs := by simpa using hy
          simp [Kidd.vs] at hu
          rcases hu with rfl | rfl | rfl | rfl <;> rfl
        clear hfar hrow hsl s2 hB hb1 hne f2
        go_wp2_with (first
          | (at_builtin; refine wp_append_g _ TKid rfl _ _ rfl w.heap.size A' j c' (xs.map Kidd.vs) rfl row1 (some ⟨v.heap.size + 1, 0, none⟩) 1 1 [(⟨K, V⟩ : Kidd).vs] rfl rowY (by omega) one hj3 (by omega) zY ?_)
          | fail)
        intro A6 c6 v6 row6 T7 hA7 _
        have row6 : OwnS v6 w.heap.size 62 4 A6 (j + 1) c6 ((xs ++ [(⟨K, V⟩ : Kidd)]).map Kidd.vs) := by rw [List.map_append]; exact row6
        have s7 := s3.turned' T7 (fun _ g hg e => by have h1 := hltA g e; have h2 := hf2 g hg; omega)
        have W7 := W3.trans (T7.below (B := w.heap.size) (fun x hx => hlowA x hx) zY)
        have hne8 : R2 ≠ [] → ∀ g, blockOf A2 = some g → blockOf A6 ≠ some g := fun hl g hg e => by
          have h1 := h5lt hl g hg
          have h2 := hf2 g hg
          rcases hA7 with h3 | h3
          · have := hltA g (h3.symm.trans e); omega
          · rw [h3] at e
            have := Option.some.inj e
            omega
        have hfar8 : ∀ g, blockOf A2 = some g → blockOf A = some g ∨ w.heap.size ≤ g := fun g hg => .inr (Nat.le_trans hwz (hf2 g hg))
        clear row1 s3 W3 rowY bY one hltA hlowA hf2 h5lt hA7
        go_wp2
        exact ⟨⟨j + 1, xs ++ [⟨K, V⟩], R2, A2, n2, c2, A6, c6, by omega, by go_num, rfl, rfl, Hs2.out, s7, hp2, hne8, hfar8, row6, W7⟩, by simp [intOf]; omega⟩
      · have hfin := Lib.hid (Hnone.out _ hstep.out (step_kid_no hl hno))
        have hB1 := hB.trans (hb1.mono hB.size)
        have hE1 : decide (E = 0) = false := decide_eq_false hE
        have hE2 : (E == 0) = false := by simp [hE]
        have hB2 : Below w.heap.size w (v.alloc (.cells #[.int .i64 0, .int .i64 0, .int .i64 0, .int .i64 0] 62)) := hB1.alloc hB1.size _
        clear hfar hstep Hnone hno hrow hsl hne hltA hlowA
        unfold zkidV
        go_wp2
        go_ret3
        exact takesK_no hE hfin.out hB2
    · obtain rfl : j = cnt := by omega
      have Hrn := Lib.hid hrn
      clear hrn
      go_wp2
      go_ret3
      exact takesK_ok Hrn.out (by omega) hrow hsl hfar hB
end Go.Proofs.YtgedmodnkiijkaaGreatDoor
