/- The code's node: put, for items and for kids. -/
import Derived.Test.YtmebdjafnefneaaDoorPkNL
import Derived.Test.YtmebdjafnefneaaDoorNodeD
import Derived.Test.YtmebdjafnefneaaDoorTxC
import Derived.Deep.RegionHeld3
namespace Go.Proofs.YtmebdjafnefneaaDoor
open Go Go.RowKit Go.Proofs

set_option maxRecDepth 100000 in
set_option maxHeartbeats 8000000 in
theorem cputitem_any (A : Option Addr) (n c : Nat) (l : List UInt8) (x : Itm) (B : Option Addr) (m d : Nat) (w : World) (h : Sl w A n c l) (hv : Sl w B m d x.v) (hm : m ≤ 28) (hn : n ≤ 100000) :
    Calls Tryd.prog 37 #[.slice A n c, .agg #[.int .i64 x.k.obj, .int .i64 x.k.kind, .int .i64 x.k.off, .slice B m d]] w fun e w' => ∃ A' n' c', e = .returned (.slice A' n' c') ∧ n' = n + 10 + m ∧ Own w' w.heap.size 5 A' n' c' (l ++ itBytes x) ∧ Below w.heap.size w w' := by
  have Hlen := Lib.hid h.len
  have Hvl := Lib.hid hv.len
  obtain ⟨X, hX⟩ : ∃ X : ByteArray, (⟨x.v.toArray⟩ : ByteArray) = X := ⟨_, rfl⟩
  have Xs : X.size = m := by rw [← hX, ← Hvl.out]; rfl
  have Xd := Lib.hid (show X.data.toList = x.v by rw [← hX])
  have hconv : ∀ w' : World, Below w.heap.size w w' → (convert 29 9 (.slice B m d)).run Tryd.prog w' = .ok (.string X) w' := fun w' hb => by
    have := convT (hv.below hb)
    rw [hX] at this
    exact this
  clear hX
  obtain ⟨k, hk⟩ : ∃ k, x.k = k := ⟨_, rfl⟩
  have Hk := Lib.hid hk
  rw [hk]
  clear hk
  go_enter Tryd.func37, Tryd.ntmps37
  go_wp2_with fail
  have b1 : Below w.heap.size w (w.alloc (.cells #[.int .i64 k.obj, .int .i64 k.kind, .int .i64 k.off, .slice B m d] 52)) := (Below.refl _ _).alloc (Nat.le_refl _) _
  have x0 : (w.alloc (.cells #[.int .i64 k.obj, .int .i64 k.kind, .int .i64 k.off, .slice B m d] 52)).heap[w.heap.size]? = some (.cells #[.int .i64 k.obj, .int .i64 k.kind, .int .i64 k.off, .slice B m d] 52 (0, 0)) := heap_alloc_new w _
  have z1 : w.heap.size < (w.alloc (.cells #[.int .i64 k.obj, .int .i64 k.kind, .int .i64 k.off, .slice B m d] 52)).heap.size := by simp
  generalize w.alloc (.cells #[.int .i64 k.obj, .int .i64 k.kind, .int .i64 k.off, .slice B m d] 52) = w1 at b1 x0 z1 ⊢
  have q0 : w1.cell? ⟨w.heap.size, 0, none⟩ = some (.int .i64 k.obj) := by rw [cell_of_row _ _ _ _ _ _ x0]; rfl
  have q1 : w1.cell? ⟨w.heap.size, 1, none⟩ = some (.int .i64 k.kind) := by rw [cell_of_row _ _ _ _ _ _ x0]; rfl
  have q2 : w1.cell? ⟨w.heap.size, 2, none⟩ = some (.int .i64 k.off) := by rw [cell_of_row _ _ _ _ _ _ x0]; rfl
  have q3 : w1.cell? ⟨w.heap.size, 3, none⟩ = some (.slice B m d) := by rw [cell_of_row _ _ _ _ _ _ x0]; rfl
  clear x0
  have hs1 := h.below b1
  have hS : ∀ w' : World, Below w1.heap.size w1 w' → w'.cell? ⟨w.heap.size, 0, none⟩ = some (.int .i64 k.obj) ∧ w'.cell? ⟨w.heap.size, 1, none⟩ = some (.int .i64 k.kind) ∧ w'.cell? ⟨w.heap.size, 2, none⟩ = some (.int .i64 k.off) ∧ w'.cell? ⟨w.heap.size, 3, none⟩ = some (.slice B m d) ∧ (convert 29 9 (.slice B m d)).run Tryd.prog w' = .ok (.string X) w' ∧ Below w1.heap.size w1 w' :=
    fun w' hb => ⟨(hb.cell (p := ⟨w.heap.size, _, none⟩) z1).trans q0, (hb.cell (p := ⟨w.heap.size, _, none⟩) z1).trans q1, (hb.cell (p := ⟨w.heap.size, _, none⟩) z1).trans q2, (hb.cell (p := ⟨w.heap.size, _, none⟩) z1).trans q3, hconv w' (b1.trans (hb.mono b1.size)), hb⟩
  have BD : Below w1.heap.size w1 w1.drew := (Below.refl _ w1).drew
  have zr : w1.heap.size ≤ w1.drew.heap.size := Nat.le_refl _
  have p0 : n ≤ 4398046511104 := by omega
  have pX : X.size ≤ 255 := by omega
  clear q0 q1 q2 q3
  have HconvC := Lib.hid hconv
  clear hconv
  go_region_held3 (fun w' => w'.cell? ⟨w.heap.size, 0, none⟩ = some (.int .i64 k.obj) ∧ w'.cell? ⟨w.heap.size, 1, none⟩ = some (.int .i64 k.kind) ∧ w'.cell? ⟨w.heap.size, 2, none⟩ = some (.int .i64 k.off) ∧ w'.cell? ⟨w.heap.size, 3, none⟩ = some (.slice B m d) ∧ (convert 29 9 (.slice B m d)).run Tryd.prog w' = .ok (.string X) w' ∧ Below w1.heap.size w1 w')
    (first | assumption | exact hS _ BD | exact hS _ bb5 | exact hS _ bb6)
    (first
      | (go_at_call 65; have hh := bb5; refine (tputtext_yes A5 n5 c5 _ X _ own5.sl p5 pX).mono ?_; rintro e w6 ⟨A6, n6, c6, rfl, own6, hb6⟩; have bb6 : Below w1.heap.size w1 w6 := bb5.trans (hb6.mono bb5.size))
      | (go_at_call 66; refine (kput_any A n c l k _ hs1.drew p0).mono ?_; rintro e w5 ⟨A5, n5, c5, rfl, own5, hb5⟩; have bb5 : Below w1.heap.size w1 w5 := BD.trans (hb5.mono zr); have l5 : n5 = n + 9 := (by have := own5.len; rw [List.length_append, Hlen.out, Kd.bytes_len] at this; omega); have p5 : n5 ≤ 17592186044416 := (by omega); have Hl5 := Lib.hid l5; clear l5)
      | fail)
  all_goals
    have e6 : l ++ k.bytes ++ (dig (X.size : Int) 1 ++ X.data.toList) = l ++ itBytes x := by
      unfold itBytes
      rw [Xd.out, Xs, Hvl.out, Hk.out, List.append_assoc]
    have l6 := Lib.hid (show n6 = n + 10 + m by have := own6.len; rw [List.length_append, List.length_append, List.length_append, Hlen.out, Kd.bytes_len, dig_len, Xd.out, Hvl.out] at this; omega)
    rw [e6] at own6
    have B6 := b1.trans (bb6.mono b1.size)
    have o6 := own6.less (show w.heap.size ≤ w5.heap.size from Nat.le_trans b1.size bb5.size)
    clear hS BD
    go_wp2
    go_ret
    exact ⟨_, _, _, rfl, l6.out, o6, B6⟩

set_option maxRecDepth 100000 in
set_option maxHeartbeats 8000000 in
theorem cputkid_any (A : Option Addr) (n c : Nat) (l : List UInt8) (x : Kidd) (w : World) (h : Sl w A n c l) (hn : n ≤ 100000) :
    Calls Tryd.prog 39 #[.slice A n c, .agg #[.int .i64 x.k.obj, .int .i64 x.k.kind, .int .i64 x.k.off, .int .i64 x.a]] w fun e w' => ∃ A' n' c', e = .returned (.slice A' n' c') ∧ n' = n + 11 ∧ Own w' w.heap.size 5 A' n' c' (l ++ kidBytes x) ∧ Below w.heap.size w w' := by
  have Hlen := Lib.hid h.len
  have hb0 : kidBytes x = x.k.bytes ++ dig x.a 2 := rfl
  obtain ⟨k, hk⟩ : ∃ k, x.k = k := ⟨_, rfl⟩
  obtain ⟨a, ha⟩ : ∃ a, x.a = a := ⟨_, rfl⟩
  rw [hk, ha] at hb0
  have Hb0 := Lib.hid hb0
  rw [hk, ha]
  clear hk ha hb0
  go_enter Tryd.func39, Tryd.ntmps39
  go_wp2_with fail
  have b1 : Below w.heap.size w (w.alloc (.cells #[.int .i64 k.obj, .int .i64 k.kind, .int .i64 k.off, .int .i64 a] 59)) := (Below.refl _ _).alloc (Nat.le_refl _) _
  have x0 : (w.alloc (.cells #[.int .i64 k.obj, .int .i64 k.kind, .int .i64 k.off, .int .i64 a] 59)).heap[w.heap.size]? = some (.cells #[.int .i64 k.obj, .int .i64 k.kind, .int .i64 k.off, .int .i64 a] 59 (0, 0)) := heap_alloc_new w _
  have z1 : w.heap.size < (w.alloc (.cells #[.int .i64 k.obj, .int .i64 k.kind, .int .i64 k.off, .int .i64 a] 59)).heap.size := by simp
  generalize w.alloc (.cells #[.int .i64 k.obj, .int .i64 k.kind, .int .i64 k.off, .int .i64 a] 59) = w1 at b1 x0 z1 ⊢
  have q0 : w1.cell? ⟨w.heap.size, 0, none⟩ = some (.int .i64 k.obj) := by rw [cell_of_row _ _ _ _ _ _ x0]; rfl
  have q1 : w1.cell? ⟨w.heap.size, 1, none⟩ = some (.int .i64 k.kind) := by rw [cell_of_row _ _ _ _ _ _ x0]; rfl
  have q2 : w1.cell? ⟨w.heap.size, 2, none⟩ = some (.int .i64 k.off) := by rw [cell_of_row _ _ _ _ _ _ x0]; rfl
  have q3 : w1.cell? ⟨w.heap.size, 3, none⟩ = some (.int .i64 a) := by rw [cell_of_row _ _ _ _ _ _ x0]; rfl
  clear x0
  have hs1 := h.below b1
  have hS : ∀ w' : World, Below w1.heap.size w1 w' → w'.cell? ⟨w.heap.size, 0, none⟩ = some (.int .i64 k.obj) ∧ w'.cell? ⟨w.heap.size, 1, none⟩ = some (.int .i64 k.kind) ∧ w'.cell? ⟨w.heap.size, 2, none⟩ = some (.int .i64 k.off) ∧ w'.cell? ⟨w.heap.size, 3, none⟩ = some (.int .i64 a) ∧ Below w1.heap.size w1 w' :=
    fun w' hb => ⟨(hb.cell (p := ⟨w.heap.size, _, none⟩) z1).trans q0, (hb.cell (p := ⟨w.heap.size, _, none⟩) z1).trans q1, (hb.cell (p := ⟨w.heap.size, _, none⟩) z1).trans q2, (hb.cell (p := ⟨w.heap.size, _, none⟩) z1).trans q3, hb⟩
  have BD : Below w1.heap.size w1 w1.drew := (Below.refl _ w1).drew
  have zr : w1.heap.size ≤ w1.drew.heap.size := Nat.le_refl _
  have p0 : n ≤ 4398046511104 := by omega
  have r1 : (1 : Int) ≤ 2 := by omega
  have r2 : (2 : Int) ≤ 8 := by omega
  clear q0 q1 q2 q3
  go_region_held3 (fun w' => w'.cell? ⟨w.heap.size, 0, none⟩ = some (.int .i64 k.obj) ∧ w'.cell? ⟨w.heap.size, 1, none⟩ = some (.int .i64 k.kind) ∧ w'.cell? ⟨w.heap.size, 2, none⟩ = some (.int .i64 k.off) ∧ w'.cell? ⟨w.heap.size, 3, none⟩ = some (.int .i64 a) ∧ Below w1.heap.size w1 w')
    (first | assumption | exact hS _ BD | exact hS _ bb5 | exact hS _ bb6)
    (first
      | (go_at_call 67; have hh := bb5; refine (putin_any A5 n5 c5 _ a 2 _ own5.sl p5 r1 r2).mono ?_; rintro e w6 ⟨A6, n6, c6, rfl, own6, hn6, hb6⟩; have bb6 : Below w1.heap.size w1 w6 := bb5.trans (hb6.mono bb5.size))
      | (go_at_call 66; refine (kput_any A n c l k _ hs1.drew p0).mono ?_; rintro e w5 ⟨A5, n5, c5, rfl, own5, hb5⟩; have bb5 : Below w1.heap.size w1 w5 := BD.trans (hb5.mono zr); have l5 : n5 = n + 9 := (by have := own5.len; rw [List.length_append, Hlen.out, Kd.bytes_len] at this; omega); have p5 : n5 ≤ 17592186044416 := (by omega); have Hl5 := Lib.hid l5; clear l5)
      | fail)
  all_goals
    have e6 : l ++ k.bytes ++ dig a (2 : Int).toNat = l ++ kidBytes x := by
      rw [Hb0.out, List.append_assoc]
      rfl
    have l6 := Lib.hid (show n6 = n + 11 by have := own6.len; rw [List.length_append, List.length_append, Hlen.out, Kd.bytes_len, dig_len] at this; rw [← this]; rfl)
    rw [e6] at own6
    have B6 := b1.trans (bb6.mono b1.size)
    have o6 := own6.less (show w.heap.size ≤ w5.heap.size from Nat.le_trans b1.size bb5.size)
    clear hS BD
    go_wp2
    go_ret
    exact ⟨_, _, _, rfl, l6.out, o6, B6⟩

/-- The bytes of the first j; kept shut. -/
def bI (xs : List Itm) (j : Nat) : List UInt8 := (xs.take j).flatMap itBytes
def bK (xs : List Kidd) (j : Nat) : List UInt8 := (xs.take j).flatMap kidBytes
theorem bI_next (xs : List Itm) (j : Nat) (h : j < xs.length) : bI xs (j + 1) = bI xs j ++ itBytes (itAt xs j) := by
  unfold bI
  have := itAt_get h
  rw [List.getElem?_eq_getElem h] at this
  rw [List.take_succ_eq_append_getElem h, List.flatMap_append, Option.some.inj this]
  simp
theorem bK_next (xs : List Kidd) (j : Nat) (h : j < xs.length) : bK xs (j + 1) = bK xs j ++ kidBytes (kidAt xs j) := by
  unfold bK
  have := kidAt_get h
  rw [List.getElem?_eq_getElem h] at this
  rw [List.take_succ_eq_append_getElem h, List.flatMap_append, Option.some.inj this]
  simp
theorem bI_all (xs : List Itm) : bI xs xs.length = xs.flatMap itBytes := by unfold bI; rw [List.take_length]
theorem bK_all (xs : List Kidd) : bK xs xs.length = xs.flatMap kidBytes := by unfold bK; rw [List.take_length]


set_option maxRecDepth 100000 in
set_option maxHeartbeats 8000000 in
theorem cputI_any (xs : List Itm) (A : Option Addr) (n c : Nat) (w : World) (hI : Itms w A n c xs) (hn : n ≤ 1000) (hv : ∀ j, j < n → (itAt xs j).v.length ≤ 28) :
    Calls Tryd.prog 36 #[.slice A n c, .func (.func 37) #[] #[]] w fun e w' => ∃ A' n' c', e = .returned (.slice A' n' c') ∧ n' ≤ 38 * n ∧ Sl w' A' n' c' (xs.flatMap itBytes) ∧ (∀ ad, A' = some ad → w.heap.size ≤ ad.block) ∧ Below w.heap.size w w' := by
  have Hlen := Lib.hid hI.len
  have Hv := Lib.hid hv
  clear hv
  obtain ⟨hb1, hb2⟩ := hI.bounds
  unfold maxLen at hb2
  go_enter Tryd.func36, Tryd.ntmps36
  go_wp2_with fail
  go_loopw [5, 10] (fun b i wr => ∃ (j q : Nat) (A' : Option Addr) (c' : Nat), j ≤ n ∧ q ≤ 38 * j ∧ i = .int .i64 (j : Int) ∧ b = .slice A' q c' ∧ Sl wr A' q c' (bI xs j) ∧ (∀ ad, A' = some ad → w.heap.size ≤ ad.block) ∧ Below w.heap.size w wr) (fun _ i _ => n - (intOf i).toNat)
  case atStart => exact ⟨0, 0, _, _, Nat.zero_le _, by omega, rfl, rfl, sl_nil _, (fun ad h => by cases h), Below.refl _ _⟩
  case round =>
    obtain ⟨j, q, A', c', hj, hq, rfl, rfl, hs, hO, hB⟩ := hrel
    by_cases hlt : j < n
    · have hIr := hI.below hB
      obtain ⟨g, o, B', m', d', hA, hg, c0, c1, c2, c3, hsl⟩ := hIr.cell hlt
      have hv28 := Hv.out j hlt
      rw [hsl.len] at hv28
      subst hA
      have Hnext := Lib.hid (bI_next xs j (by rw [Hlen.out]; exact hlt))
      obtain ⟨x, hx⟩ : ∃ x, itAt xs j = x := ⟨_, rfl⟩
      rw [hx] at c0 c1 c2 hsl Hnext
      clear hx
      go_wp2_with fail
      have bx : Below wr.heap.size wr (wr.alloc (.cells #[.int .i64 x.k.obj, .int .i64 x.k.kind, .int .i64 x.k.off, .slice B' m' d'] 52)) := (Below.refl _ _).alloc (Nat.le_refl _) _
      refine (cputitem_any A' q c' _ x B' m' d' _ (hs.below bx) (hsl.below bx) hv28 (by omega)).mono ?_
      rintro e w2 ⟨A2, n2, c2', rfl, hn2, own2, hb2'⟩
      have hB2 := hB.trans ((bx.trans (hb2'.mono bx.size)).mono hB.size)
      have hn3 : n2 ≤ 38 * (j + 1) := by omega
      have Hn2 := Lib.hid hn2
      clear hn2
      rw [← Hnext.out] at own2
      have hs2 := own2.sl
      have hO2 : ∀ ad, A2 = some ad → w.heap.size ≤ ad.block := fun ad h => by have h1 := (own2.block ad h).1; have h2 := hB.size; have h3 := bx.size; omega
      clear hO
      clear own2 bx
      go_wp2
      exact ⟨⟨j + 1, n2, A2, c2', by omega, hn3, by go_num, rfl, hs2, hO2, hB2⟩, by simp [intOf]; omega⟩
    · obtain rfl : j = n := by omega
      have e : bI xs j = xs.flatMap itBytes := by rw [← Hlen.out]; exact bI_all xs
      rw [e] at hs
      go_wp2
      go_ret
      exact ⟨_, _, _, rfl, hq, hs, hO, hB⟩

set_option maxRecDepth 100000 in
set_option maxHeartbeats 8000000 in
theorem cputK_any (xs : List Kidd) (A : Option Addr) (n c : Nat) (w : World) (hI : Kidl w A n c xs) (hn : n ≤ 1000) :
    Calls Tryd.prog 38 #[.slice A n c, .func (.func 39) #[] #[]] w fun e w' => ∃ A' n' c', e = .returned (.slice A' n' c') ∧ n' ≤ 11 * n ∧ Sl w' A' n' c' (xs.flatMap kidBytes) ∧ (∀ ad, A' = some ad → w.heap.size ≤ ad.block) ∧ Below w.heap.size w w' := by
  have Hlen := Lib.hid hI.len
  skip
  skip
  obtain ⟨hb1, hb2⟩ := hI.bounds
  unfold maxLen at hb2
  go_enter Tryd.func38, Tryd.ntmps38
  go_wp2_with fail
  go_loopw [5, 10] (fun b i wr => ∃ (j q : Nat) (A' : Option Addr) (c' : Nat), j ≤ n ∧ q ≤ 11 * j ∧ i = .int .i64 (j : Int) ∧ b = .slice A' q c' ∧ Sl wr A' q c' (bK xs j) ∧ (∀ ad, A' = some ad → w.heap.size ≤ ad.block) ∧ Below w.heap.size w wr) (fun _ i _ => n - (intOf i).toNat)
  case atStart => exact ⟨0, 0, _, _, Nat.zero_le _, by omega, rfl, rfl, sl_nil _, (fun ad h => by cases h), Below.refl _ _⟩
  case round =>
    obtain ⟨j, q, A', c', hj, hq, rfl, rfl, hs, hO, hB⟩ := hrel
    by_cases hlt : j < n
    · have hIr := hI.below hB
      obtain ⟨g, o, hA, hg, c0, c1, c2, c3⟩ := hIr.cell hlt
      subst hA
      have Hnext := Lib.hid (bK_next xs j (by rw [Hlen.out]; exact hlt))
      obtain ⟨x, hx⟩ : ∃ x, kidAt xs j = x := ⟨_, rfl⟩
      rw [hx] at c0 c1 c2 c3 Hnext
      clear hx
      go_wp2_with fail
      have bx : Below wr.heap.size wr (wr.alloc (.cells #[.int .i64 x.k.obj, .int .i64 x.k.kind, .int .i64 x.k.off, .int .i64 x.a] 59)) := (Below.refl _ _).alloc (Nat.le_refl _) _
      refine (cputkid_any A' q c' _ x _ (hs.below bx) (by omega)).mono ?_
      rintro e w2 ⟨A2, n2, c2', rfl, hn2, own2, hb2'⟩
      have hB2 := hB.trans ((bx.trans (hb2'.mono bx.size)).mono hB.size)
      have hn3 : n2 ≤ 11 * (j + 1) := by omega
      have Hn2 := Lib.hid hn2
      clear hn2
      rw [← Hnext.out] at own2
      have hs2 := own2.sl
      have hO2 : ∀ ad, A2 = some ad → w.heap.size ≤ ad.block := fun ad h => by have h1 := (own2.block ad h).1; have h2 := hB.size; have h3 := bx.size; omega
      clear hO
      clear own2 bx
      go_wp2
      exact ⟨⟨j + 1, n2, A2, c2', by omega, hn3, by go_num, rfl, hs2, hO2, hB2⟩, by simp [intOf]; omega⟩
    · obtain rfl : j = n := by omega
      have e : bK xs j = xs.flatMap kidBytes := by rw [← Hlen.out]; exact bK_all xs
      rw [e] at hs
      go_wp2
      go_ret
      exact ⟨_, _, _, rfl, hq, hs, hO, hB⟩
end Go.Proofs.YtmebdjafnefneaaDoor
