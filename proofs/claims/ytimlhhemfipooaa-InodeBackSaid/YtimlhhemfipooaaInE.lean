/- Inode's PutEntry and TakeEntry. -/
import Derived.Test.YtimlhhemfipooaaInD
import Derived.Test.YtimlhhemfipooaaTxC
namespace Go.Proofs.Ytimlhhemfipooaa
open Go Go.RowKit Go.Proofs

/-- An entry as plain data. -/
structure Ent where
  name : ByteArray
  ino : Int
  kind : Int
def Ent.x (e : Ent) : Nat → Int
  | 0 => e.ino
  | _ => e.kind
def entMay (x y : Int) : Bool := decide ((1 ≤ x ∧ x ≤ 2147483647) ∧ 1 ≤ y ∧ y ≤ 2)
def nameMay (s : ByteArray) : Bool := decide (1 ≤ s.size ∧ s.size ≤ 20)
def Ent.may (e : Ent) : Bool := nameMay e.name && entMay e.ino e.kind
def Ent.bytes (e : Ent) : List UInt8 := (dig e.name.size 1 ++ e.name.data.toList) ++ (dig e.ino 4 ++ dig e.kind 1)
def Ent.vs (e : Ent) : List Value := [.string e.name, .int .i64 e.ino, .int .i64 e.kind]
def wholeB (l : List UInt8) : Bool := decide (1 ≤ l.length ∧ 1 + numL (l.take 1) ≤ l.length)
theorem wholeB_iff (l : List UInt8) : wholeB l = true ↔ WholeT l 1 := decide_eq_true_iff
/-- What bytes say, and whether they are an entry's. -/
def entOf (l : List UInt8) : Ent := ⟨⟨(bodyT l 1).toArray⟩, numL ((restT l 1).take 4), numL (((restT l 1).drop 4).take 1)⟩
def entRest (l : List UInt8) : Bool := decide ((restT l 1).length = 5) && entMay (entOf l).ino (entOf l).kind
def entOk (l : List UInt8) : Bool := wholeB l && (nameMay (entOf l).name && entRest l)

theorem ent_may (b : Nat) (i : Ent) (x : Nat → Int) (h0 : x 0 = i.ino) (h1 : x 1 = i.kind) : mayF (entFs b) x = entMay i.ino i.kind := by
  unfold entFs
  rw [mayF2, h0, h1]
  unfold inF entMay
  simp only [Bool.decide_and]
theorem ent_wid (b j : Nat) (hj : j < 2) : 1 ≤ (flAt (entFs b) j).wid ∧ (flAt (entFs b) j).wid ≤ 7 := by
  match j, hj with
  | 0, _ => simp [flAt, entFs]
  | 1, _ => simp [flAt, entFs]
theorem ent_off (b j : Nat) (r : List Value) (hr : r.length = 3) (hj : j < 2) : (flAt (entFs b) j).b = b ∧ (flAt (entFs b) j).o < r.length := by
  rw [hr]
  match j, hj with
  | 0, _ => simp [flAt, entFs]
  | 1, _ => simp [flAt, entFs]
theorem ent_tk (b : Nat) (l : List UInt8) : tkF (entFs b) (restT l 1) = entRest l := by
  unfold tkF entRest
  rw [ent_may b (entOf l) _ rfl rfl]
  rfl
theorem ent_set (b : Nat) (l : List UInt8) (s : ByteArray) (x y : Value) : setF (entFs b) (rdI (entFs b) l) [.string s, x, y] 2 = [.string s, .int .i64 (rdI (entFs b) l 0), .int .i64 (rdI (entFs b) l 1)] := rfl
theorem ent_rdset (b : Nat) (l : List UInt8) (s : ByteArray) (x y : Value) (j : Nat) (hj : j < 2) : (setF (entFs b) (rdI (entFs b) l) [.string s, x, y] 2)[(flAt (entFs b) j).o]? = some (.int .i64 (rdI (entFs b) l j)) := by
  rw [ent_set b l s]
  match j, hj with
  | 0, _ => rfl
  | 1, _ => rfl
theorem ent_put (b : Nat) (i : Ent) : putF (entFs b) i.x (dig i.name.size 1 ++ i.name.data.toList) 2 = i.bytes := by
  simp [putF, entFs, flAt, Ent.x, Ent.bytes]
theorem ent_nums {w : World} {b : Nat} {i : Ent} (H : IB w b i.vs) : Nums w (entFs b) i.x := fun j hj => by
  match j, hj with
  | 0, _ => exact ⟨H.lt, H.cell 1 rfl⟩
  | 1, _ => exact ⟨H.lt, H.cell 2 rfl⟩
theorem load_ent {w : World} {b : Nat} {i : Ent} (H : IB w b i.vs) : (loadVar 25 ⟨b, 0, none⟩).run Try.prog w = .ok (.agg #[.string i.name, .int .i64 i.ino, .int .i64 i.kind]) w :=
  run_loadVar_mid w b 0 25 _ _ H.range Try.underlying25 rfl (by kernel_rfl)

set_option maxHeartbeats 1000000 in
theorem iPutEntry_no (i : Ent) (h : i.may = false) (w : World) :
    Calls Try.prog 12 #[.agg #[.string i.name, .int .i64 i.ino, .int .i64 i.kind]] w fun e w' => e = .returned (.tuple #[.slice none 0 0, .int .i64 1]) ∧ Below w.heap.size w w' := by
  have H1 : IB (w.alloc (.cells i.vs.toArray 25)) w.heap.size i.vs := IB.new w _ _
  have b1 : Below w.heap.size w (w.alloc (.cells i.vs.toArray 25)) := blA
  go_enter Try.func12, Try.ntmps12
  go_wp2_with fail
  change Calls _ _ _ (w.alloc (.cells i.vs.toArray 25)) _
  generalize w.alloc (.cells i.vs.toArray 25) = w1 at H1 b1 ⊢
  cases hn : nameMay i.name
  · refine (imayName_any i.name false hn w1).mono ?_
    rintro e w2 ⟨rfl, rfl⟩
    go_wp2
    go_ret2
    exact ⟨rfl, b1⟩
  · refine (imayName_any i.name true hn w1).mono ?_
    rintro e w2 ⟨rfl, rfl⟩
    have hr : entMay i.ino i.kind = false := by unfold Ent.may at h; rw [hn, Bool.true_and] at h; exact h
    have hz : i.name.size ≤ 20 := (of_decide_eq_true hn).2
    have q0 := H1.cell 0 rfl
    clear h hn
    go_wp2_with (first
      | (go_at_call 30; refine (tputtext_yes none 0 0 [] i.name w1 (sl_nil _) (by omega) (by omega)).mono ?_; rintro e w2 ⟨A2, n2, c2, rfl, own2, hb2⟩; have H2 := H1.below hb2 H1.lt)
      | (go_at_call 31; refine (entFs_any w.heap.size _).mono ?_; rintro e w3 ⟨g, rfl, hF, hg, hb3⟩)
      | (go_at_call 26; refine (iput_no (entFs w.heap.size) i.x _ _ _ _ _ _ w3 hF (ent_nums (H2.below hb3 H2.lt)) (by rw [ent_may _ i _ rfl rfl]; exact hr)).mono ?_; rintro e w4 ⟨rfl, hb4⟩))
    go_ret2
    have B2 := b1.trans (hb2.mono b1.size)
    have B3 := B2.trans (hb3.mono B2.size)
    exact ⟨rfl, B3.trans (hb4.mono B3.size)⟩
set_option maxHeartbeats 1000000 in
theorem iPutEntry_yes (i : Ent) (h : i.may = true) (w : World) :
    Calls Try.prog 12 #[.agg #[.string i.name, .int .i64 i.ino, .int .i64 i.kind]] w fun e w' => ∃ A n c, e = .returned (.tuple #[.slice A n c, .int .i64 0]) ∧ Sl w' A n c i.bytes ∧ Below w.heap.size w w' := by
  have H1 : IB (w.alloc (.cells i.vs.toArray 25)) w.heap.size i.vs := IB.new w _ _
  have b1 : Below w.heap.size w (w.alloc (.cells i.vs.toArray 25)) := blA
  go_enter Try.func12, Try.ntmps12
  go_wp2_with fail
  change Calls _ _ _ (w.alloc (.cells i.vs.toArray 25)) _
  generalize w.alloc (.cells i.vs.toArray 25) = w1 at H1 b1 ⊢
  obtain ⟨hn, hr⟩ := Bool.and_eq_true_iff.1 h
  refine (imayName_any i.name true hn w1).mono ?_
  rintro e w2 ⟨rfl, rfl⟩
  have hz : i.name.size ≤ 20 := (of_decide_eq_true hn).2
  have q0 := H1.cell 0 rfl
  clear h hn
  go_wp2_with (first
    | (go_at_call 30; refine (tputtext_yes none 0 0 [] i.name w1 (sl_nil _) (by omega) (by omega)).mono ?_; rw [List.nil_append]; rintro e w2 ⟨A2, n2, c2, rfl, own2, hb2⟩; have H2 := H1.below hb2 H1.lt; have hn2 : n2 ≤ 21 := (by have := own2.len; rw [List.length_append, dig_len, Array.length_toList] at this; have e2 : i.name.data.size = i.name.size := rfl; omega))
    | (go_at_call 31; refine (entFs_any w.heap.size _).mono ?_; rintro e w3 ⟨g, rfl, hF, hg, hb3⟩)
    | (go_at_call 26; refine (iput_yes (entFs w.heap.size) i.x _ _ _ _ _ _ _ w3 hF (ent_nums (H2.below hb3 H2.lt)) (by rw [ent_may _ i _ rfl rfl]; exact hr) (own2.sl.below hb3) (by omega) (by omega) (ent_wid _)).mono ?_; rw [ent_put]; rintro e w4 ⟨A4, n4, c4, rfl, hs4, hb4⟩))
  go_ret2
  have B2 := b1.trans (hb2.mono b1.size)
  have B3 := B2.trans (hb3.mono B2.size)
  exact ⟨A4, n4, c4, rfl, hs4, B3.trans (hb4.mono B3.size)⟩

def Ent.zero : Ent := ⟨⟨#[]⟩, 0, 0⟩
/-- What TakeEntry answers. -/
def EntSays (w : World) (l : List UInt8) (e : Ending) (w' : World) : Prop :=
  (entOk l = false → e = .returned (.tuple #[.agg #[.string ⟨#[]⟩, .int .i64 0, .int .i64 0], .int .i64 3])) ∧ (entOk l = true → e = .returned (.tuple #[.agg #[.string (entOf l).name, .int .i64 (entOf l).ino, .int .i64 (entOf l).kind], .int .i64 0])) ∧ Below w.heap.size w w'
theorem EntSays.no {w w' : World} {l : List UInt8} (h : entOk l = false) (hb : Below w.heap.size w w') : EntSays w l (.returned (.tuple #[.agg #[.string ⟨#[]⟩, .int .i64 0, .int .i64 0], .int .i64 3])) w' :=
  ⟨fun _ => rfl, fun h2 => absurd (h.symm.trans h2) Bool.false_ne_true, hb⟩
theorem EntSays.yes {w w' : World} {l : List UInt8} {i : Ent} (h : entOk l = true) (hi : entOf l = i) (hb : Below w.heap.size w w') : EntSays w l (.returned (.tuple #[.agg #[.string i.name, .int .i64 i.ino, .int .i64 i.kind], .int .i64 0])) w' :=
  ⟨fun h2 => absurd (h2.symm.trans h) Bool.false_ne_true, fun _ => by rw [hi], hb⟩

set_option maxRecDepth 10000 in
set_option maxHeartbeats 4000000 in
theorem iTakeEntry_any (B : Option Addr) (m d : Nat) (l : List UInt8) (w : World) (hs : Sl w B m d l) (hm : m ≤ 1000000) :
    Calls Try.prog 18 #[.slice B m d] w fun e w' => EntSays w l e w' := by
  have R1 : IB (w.alloc (.cells Ent.zero.vs.toArray 25)) w.heap.size Ent.zero.vs := IB.new w _ _
  have b1 : Below w.heap.size w (w.alloc (.cells Ent.zero.vs.toArray 25)) := blA
  go_enter Try.func18, Try.ntmps18
  go_wp2_with fail
  change Calls _ _ _ (w.alloc (.cells Ent.zero.vs.toArray 25)) _
  generalize w.alloc (.cells Ent.zero.vs.toArray 25) = w1 at R1 b1 ⊢
  have s1 := hs.below b1
  cases hw : wholeB l
  · have hno : entOk l = false := by unfold entOk; rw [hw, Bool.false_and]
    refine (ttaketext_no B m d l w1 s1 (fun h => absurd ((wholeB_iff l).2 h) (by rw [hw]; exact Bool.false_ne_true))).mono ?_
    rintro e w2 ⟨rfl, rfl⟩
    have b3 : Below w1.heap.size w1 (w1.alloc (.cells Ent.zero.vs.toArray 25)) := blA
    have R3 := R1.below b3 R1.lt
    have Hno := Lib.hid hno
    clear hno hw
    go_wp2_with (refine wp_store_ib rfl _ _ _ rfl w.heap.size rfl Ent.zero.vs rfl (by exact R3) rfl (by kernel_rfl) rfl ?_; intro w4 R4 T4)
    refine bodyPost_ret (res_i2 Try.results18 rfl (load_ent R4)) rfl (EntSays.no Hno.out ?_)
    have B3 := b1.trans (b3.mono b1.size)
    exact B3.trans (T4.below (fun x hx => by omega) B3.size)
  · refine (ttaketext_yes B m d l w1 s1 (by omega) ((wholeB_iff l).1 hw)).mono ?_
    rintro e w2 ⟨A2, n2, c2, rfl, own2, hb2⟩
    have hn2 : n2 ≤ 1000000 := by have := own2.len; have := restT_le l 1; have := hs.len; omega
    have R2 := R1.below hb2 R1.lt
    have B2 := b1.trans (hb2.mono b1.size)
    have hz := b1.size
    have h0 : w.heap.size < w2.heap.size := R2.lt
    obtain ⟨s, hsn⟩ : ∃ s, (entOf l).name = s := ⟨_, rfl⟩
    have es : (⟨(bodyT l 1).toArray⟩ : ByteArray) = s := hsn
    have H3 : IB (w2.alloc (.cells [Value.string s, .int .i64 0, .int .i64 0].toArray 25)) w2.heap.size [.string s, .int .i64 0, .int .i64 0] := IB.new w2 _ _
    have b3 : Below w2.heap.size w2 (w2.alloc (.cells [Value.string s, .int .i64 0, .int .i64 0].toArray 25)) := blA
    have z3 : (w2.alloc (.cells [Value.string s, .int .i64 0, .int .i64 0].toArray 25)).heap.size = w2.heap.size + 1 := by simp
    rw [es]
    go_wp2_with fail
    change Calls _ _ _ (w2.alloc (.cells [Value.string s, .int .i64 0, .int .i64 0].toArray 25)) _
    generalize w2.alloc (.cells [Value.string s, .int .i64 0, .int .i64 0].toArray 25) = w3 at H3 b3 z3 ⊢
    have R3 := R2.below b3 h0
    have s3 := own2.sl.below b3
    have B3 := B2.trans (b3.mono B2.size)
    clear R1 b1 s1 own2 hb2 R2 B2 b3
    cases hnm : nameMay s
    · have hno : entOk l = false := by unfold entOk; rw [hsn, hnm, Bool.false_and, Bool.and_false]
      have Hno := Lib.hid hno
      clear hno hw
      refine (imayName_any s false hnm w3).mono ?_
      rintro e w' ⟨rfl, rfl⟩
      go_wp2_with (refine wp_store_ib rfl _ _ _ rfl w.heap.size rfl Ent.zero.vs rfl (by exact R3) rfl (by kernel_rfl) rfl ?_; intro w4 R4 T4)
      refine bodyPost_ret (res_i2 Try.results18 rfl (load_ent R4)) rfl (EntSays.no Hno.out ?_)
      exact B3.trans (T4.below (fun x hx => by omega) B3.size)
    · have hok : entOk l = entRest l := by unfold entOk; rw [hsn, hw, hnm, Bool.true_and, Bool.true_and]
      refine (imayName_any s true hnm w3).mono ?_
      rintro e w' ⟨rfl, rfl⟩
      go_wp2_with fail
      refine (entFs_any w2.heap.size w3).mono ?_
      rintro e w4 ⟨g, rfl, hF, hg, hb4⟩
      have R4 := R3.below hb4 R3.lt
      have H4 := H3.below hb4 H3.lt
      have s4 := s3.below hb4
      have B4 := B3.trans (hb4.mono B3.size)
      have HT := itake_any (entFs w2.heap.size) (some ⟨g, 0, none⟩) 2 2 w2.heap.size _ A2 n2 c2 (restT l 1) w4 hF (fun g' o e => by injection e with e; injection e with e1; omega) H4 s4 hn2 (by omega) (ent_wid _) (fun j hj => ent_off _ j _ rfl hj) (fun _ j hj => ent_rdset _ _ _ _ _ j hj)
      rw [ent_tk, ent_set] at HT
      have ne1 : ¬ (w.heap.size = w2.heap.size) := by omega
      have Hz0 := Lib.hid h0
      clear R3 H3 s3 B3 hb4 hz z3
      cases hr : entRest l
      · rw [hr] at HT
        have Hno := Lib.hid (hok.trans hr)
        clear hok hr hw
        go_wp2_with (first
          | (go_at_call 35; refine HT.mono ?_; rintro e w5 ⟨rfl, -, T5⟩; have R5 := R4.keep (T5.block _ R4.lt ne1))
          | (refine wp_store_ib rfl _ _ _ rfl w.heap.size rfl Ent.zero.vs rfl R5 rfl (by kernel_rfl) rfl ?_; intro w6 R6 T6))
        refine bodyPost_ret (res_i2 Try.results18 rfl (load_ent R6)) rfl (EntSays.no Hno.out ?_)
        exact B4.trans ((T5.below (B := w.heap.size) (fun x hx => by have := Hz0.out; omega) B4.size).trans (T6.below (fun x hx => by omega) (Nat.le_trans B4.size T5.size)))
      · rw [hr] at HT
        have Hyes := Lib.hid (hok.trans hr)
        obtain ⟨x, hx⟩ : ∃ x, (entOf l).ino = x := ⟨_, rfl⟩
        obtain ⟨y, hy⟩ : ∃ y, (entOf l).kind = y := ⟨_, rfl⟩
        have ex : rdI (entFs w2.heap.size) (restT l 1) 0 = x := hx
        have ey : rdI (entFs w2.heap.size) (restT l 1) 1 = y := hy
        rw [ex, ey] at HT
        have Hi := Lib.hid (show entOf l = ⟨s, x, y⟩ by rw [← hsn, ← hx, ← hy])
        clear hok hr hw ex ey hx hy hsn es
        go_wp2_with (first
          | (go_at_call 35; refine HT.mono ?_; rintro e w5 ⟨rfl, ⟨r', H5, hr'⟩, T5⟩; obtain rfl := hr' trivial; have R5 := R4.keep (T5.block _ R4.lt ne1))
          | (refine wp_load_ib rfl _ _ rfl w2.heap.size rfl _ H5 Try.underlying25 rfl (by kernel_rfl) ?_)
          | (refine wp_store_ib rfl _ _ _ rfl w.heap.size rfl (Ent.mk s x y).vs rfl R5 rfl (by kernel_rfl) rfl ?_; intro w6 R6 T6))
        refine bodyPost_ret (res_i2 Try.results18 rfl (load_ent R6)) rfl (EntSays.yes Hyes.out Hi.out ?_)
        exact B4.trans ((T5.below (B := w.heap.size) (fun x hx => by have := Hz0.out; omega) B4.size).trans (T6.below (fun x hx => by omega) (Nat.le_trans B4.size T5.size)))
end Go.Proofs.Ytimlhhemfipooaa
