/- copy into the call's own row of bytes; summed and noughts of layer 4. The program's Seal makes the block of P4.1, or refuses. The program's Open reads a block as P4.2 says, or refuses. -/
import Derived.Test.YtgedmodnkiijkaaGreatDoorFn6
import Derived.Laws.CopyOwn
import Derived.Deep.RegionHeld3
import Derived.Deep.RegionWith
namespace Go.Proofs.YtgedmodnkiijkaaGreatDoor
open Go Go.RowKit Go.Proofs

theorem splice_map {α β : Type} (f : α → β) (L : List α) (o : Nat) (cs : List α) : splice (L.map f) o (cs.map f) = (splice L o cs).map f := by simp [splice]
theorem Own.whole {w : World} {base n g : Nat} {e : TypeId} {l : List UInt8} (h : Own w base e (some ⟨g, 0, none⟩) n n l) : base ≤ g ∧ w.heap[g]? = some (.cells (l.map bv).toArray e (0, 0)) ∧ n ≤ maxLen := by
  rcases h.2 with ⟨hv, _⟩ | ⟨g', cap, cur, hv, hb, hg, h1, h2, h3, h4⟩
  · injection hv with e1; cases e1
  · injection hv with e1 e2 e3
    injection e1 with e1
    injection e1 with e1
    subst e1; subst e3
    refine ⟨hb, ?_, h2⟩
    rw [← h4, List.take_of_length_le (by simp [h3])]
    exact hg
theorem Own.of_whole {w : World} {base n g : Nat} {e : TypeId} {l : List UInt8} (hb : base ≤ g) (hg : w.heap[g]? = some (.cells (l.map bv).toArray e (0, 0))) (hl : l.length = n) (hm : n ≤ maxLen) : Own w base e (some ⟨g, 0, none⟩) n n l :=
  ⟨by simpa using hl, .inr ⟨g, n, _, rfl, hb, hg, Nat.le_refl _, hm, by simpa using hl, by rw [List.take_of_length_le (by simp [hl])]⟩⟩

/-- copy(b[off:..], s) -/
theorem wp_copy_b {P : Program} {t e : TypeId} (T : ByteT P t e) {w : World} {ops : Array Oper} {rest : List Oper} {o : Oper} {a : Act} {Q : Exit → Act → World → Prop} (hgd : o.guard = none) (d s : Operand)
    (ho : o.op = .call { callee := .builtin .copy, args := #[d, s], argTypes := #[t, t] })
    (base g n : Nat) (l : List UInt8) (hown : Own w base e (some ⟨g, 0, none⟩) n n l) (off dLen dCap : Nat) (hd : a.eval d = .slice (some ⟨g, off, none⟩) dLen dCap)
    (B : Option Addr) (m c : Nat) (l2 : List UInt8) (hs : a.eval s = .slice B m c) (hr : Sl w B m c l2) (hmd : m ≤ dLen) (hfit : off + m ≤ n)
    (hK : ∀ w', Own w' base e (some ⟨g, 0, none⟩) n n (splice l off l2) → Below base w w' → wpList P ops Q rest (a.put o.dst (goInt m)) w') : wpList P ops Q (o :: rest) a w := by
  obtain ⟨i, hi, hz0, hz1, hz2⟩ := info_parts T.info
  obtain ⟨hb, hg, hm⟩ := hown.whole
  have hl := hown.len
  have hl2 := hr.len
  refine wpList_copy_splice hgd d s t t ho e T.sl (by rw [hi]; simp [hz1]) _ _ _ _ _ _ hd hs g off (l.map bv) e hg (l2.map bv) (by rw [List.length_map, hl2]; exact (Nat.min_eq_left hmd).symm) (fun h0 => ?_) (by simp; omega) (bv_one _) base w (Below.refl _ _) hb ?_
  · rw [List.length_map] at h0
    obtain ⟨ad, rfl, _⟩ := hr.cell (k := 0) (by omega)
    refine ⟨rfl, ad, rfl, fun j v hv => ?_⟩
    obtain ⟨ad', e1, _, hc⟩ := hr.2.2.2 j v hv
    injection e1 with e1
    subst e1
    exact hc
  · intro w' hg' hb'
    have hg' := hg'.out
    rw [splice_map] at hg'
    have := hK w' (Own.of_whole hb hg' (by rw [length_splice _ _ _ (by omega), hl]) hm) hb'
    rw [List.length_map, hl2]
    exact this

/-- The same as a step of a region that draws its order. -/
theorem step_copy_b {P : Program} {t e : TypeId} (T : ByteT P t e) {w : World} {ops : Array Oper} {o : Oper} {a : Act} {K : Act → World → Prop} {Q : Exit → Act → World → Prop} {E : Prop} (hgd : o.guard = none) (d s : Operand)
    (ho : o.op = .call { callee := .builtin .copy, args := #[d, s], argTypes := #[t, t] })
    (base g n : Nat) (l : List UInt8) (hown : Own w base e (some ⟨g, 0, none⟩) n n l) (off dLen dCap : Nat) (hd : a.eval d = .slice (some ⟨g, off, none⟩) dLen dCap)
    (B : Option Addr) (m c : Nat) (l2 : List UInt8) (hs : a.eval s = .slice B m c) (hr : Sl w B m c l2) (hmd : m ≤ dLen) (hfit : off + m ≤ n)
    (hK : ∀ w', Own w' base e (some ⟨g, 0, none⟩) n n (splice l off l2) → Below g w w' → K (a.put o.dst (goInt m)) w') : if Region.wanted o (yielded ops a.tmps) = true then Oper.wp P o a w K Q else E := by
  obtain ⟨i, hi, hz0, hz1, hz2⟩ := info_parts T.info
  obtain ⟨hb, hg, hm⟩ := hown.whole
  have hl := hown.len
  have hl2 := hr.len
  refine step_copy_splice hgd d s t t ho e T.sl (by rw [hi]; simp [hz1]) _ _ _ _ _ _ hd hs g off (l.map bv) e hg (l2.map bv) (by rw [List.length_map, hl2]; exact (Nat.min_eq_left hmd).symm) (fun h0 => ?_) (by simp; omega) (bv_one _) g w (Below.refl _ _) (Nat.le_refl _) ?_
  · rw [List.length_map] at h0
    obtain ⟨ad, rfl, _⟩ := hr.cell (k := 0) (by omega)
    refine ⟨rfl, ad, rfl, fun j v hv => ?_⟩
    obtain ⟨ad', e1, _, hc⟩ := hr.2.2.2 j v hv
    injection e1 with e1
    subst e1
    exact hc
  · intro w' hg' hb'
    have hg' := hg'.out
    rw [splice_map] at hg'
    have := hK w' (Own.of_whole hb hg' (by rw [length_splice _ _ _ (by omega), hl]) hm) hb'
    rw [List.length_map, hl2]
    exact this

/-- The four bytes that a block's sum should have. -/
def sumB (l : List UInt8) : List UInt8 := dig (more 0 (l.drop 4) : Nat) 4
set_option maxRecDepth 10000 in
set_option maxHeartbeats 1000000 in
theorem summed_any (A : Option Addr) (n c : Nat) (l : List UInt8) (w : World) (hs : Sl w A n c l) (hn : 5 ≤ n) (ht : Tab w) :
    Calls Tryz.prog 109 #[.slice A n c] w fun e w' => ∃ A' n' c', e = .returned (.slice A' n' c') ∧ Own w' w.heap.size 5 A' n' c' (sumB l) ∧ Below w.heap.size w w' := by
  have hc := hs.cap
  have hm := hs.max
  unfold maxLen at hm
  have h3 := hs.drop (k := 4) (by omega)
  have hc4 : ¬ c = 4 := by omega
  rw [if_neg hc4] at h3
  have hlt := more_lt 0 (l.drop 4)
  generalize hS : more 0 (l.drop 4) = s at hlt
  have hput : putS [] (s : Int) 4 = sumB l := by unfold putS sumB; rw [hS]; simp
  go_enter Tryz.func109, Tryz.ntmps109
  go_wp2_with (first
    | (go_at_call 131; refine (sum_any _ (n - 4) (c - 4) (l.drop 4) _ h3 ht).mono ?_; rw [hS]; rintro e w3 ⟨rfl, rfl⟩)
    | (go_at_call 110; refine (put_any none 0 0 [] (s : Int) 4 _ (sl_nil _) (by omega)).mono ?_; rw [hput]; rintro e w3 ⟨A3, n3, c3, rfl, hown3, hb3⟩))
  go_ret
  exact ⟨_, _, _, rfl, hown3, hb3⟩

/-- Whether all are noughts. -/
def allZ (l : List UInt8) : Bool := l.all (· == 0)
set_option maxRecDepth 10000 in
set_option maxHeartbeats 1000000 in
theorem noughts_any (A : Option Addr) (n c : Nat) (l : List UInt8) (w : World) (hs : Sl w A n c l) :
    Calls Tryz.prog 116 #[.slice A n c] w fun e w' => e = .returned (.bool (allZ l)) ∧ w = w' := by
  have hc := hs.cap
  have hm := hs.max
  have hlen := hs.len
  unfold maxLen at hm
  go_enter Tryz.func116, Tryz.ntmps116
  go_wp2
  go_loop [7] (fun i => ∃ k : Nat, k ≤ n ∧ i = .int .i64 (k : Int) ∧ ∀ j < k, byt l j = 0) (fun i => n - (intOf i).toNat)
  case atStart => exact ⟨0, Nat.zero_le _, rfl, fun j hj => by omega⟩
  case round =>
    obtain ⟨k, hk, rfl, hin⟩ := hrel
    by_cases hlt : k < n
    · obtain ⟨ad, rfl, hb, hcell⟩ := hs.cell hlt
      have hb1 := byt_le l k
      by_cases h0 : byt l k = 0
      · have h0' : (byt l k : Int) = 0 := by omega
        go_wp2
        exact ⟨⟨k + 1, by omega, by go_num, fun j hj => by by_cases hjk : j = k; (rw [hjk]; exact h0); exact hin j (by omega)⟩, by simp [intOf]; omega⟩
      · have h0' : ¬ (byt l k : Int) = 0 := by omega
        have hz : allZ l = false := by
          cases hq : allZ l
          · rfl
          · have := List.all_eq_true.1 hq (l.getD k 0) (by rw [List.getD_eq_getElem?_getD, List.getElem?_eq_getElem (by omega)]; simp)
            simp at this
            unfold byt at h0
            rw [List.getD_eq_getElem?_getD, this] at h0
            exact absurd rfl h0
        go_wp2
        go_ret
        exact ⟨by first | rfl | (rw [hz]; rfl), rfl⟩
    · have hkn : k = n := by omega
      have hz : allZ l = true := by
        refine List.all_eq_true.2 fun x hx => ?_
        obtain ⟨j, hj, rfl⟩ := List.getElem_of_mem hx
        have := hin j (by omega)
        unfold byt at this
        rw [List.getD_eq_getElem?_getD, List.getElem?_eq_getElem hj] at this
        simpa using UInt8.toNat_inj.1 this
      go_wp2
      go_ret
      exact ⟨by first | rfl | (rw [hz]; rfl), rfl⟩
end Go.Proofs.YtgedmodnkiijkaaGreatDoor

namespace Go.Proofs.YtgedmodnkiijkaaGreatDoor
open Go Go.RowKit Go.Proofs

/-- What stands behind a block's sum. -/
def restL (h : Hd) (l : List UInt8) : List UInt8 := hdB h ++ (List.replicate 5 0 ++ (l ++ List.replicate (236 - l.length) 0))
def blkL (h : Hd) (l : List UInt8) : List UInt8 := dig (more 0 (restL h l) : Nat) 4 ++ restL h l
/-- P4.1's answer. -/
def sealE (h : Hd) (l : List UInt8) : Int := if h.ok = true then if l.length ≤ 236 then 0 else 7 else 1
def sealB (h : Hd) (l : List UInt8) : List UInt8 := if h.ok = true then if l.length ≤ 236 then blkL h l else [] else []
theorem hdB_len (h : Hd) : (hdB h).length = 11 := by simp [hdB, dig_len]
theorem restL_len (h : Hd) (l : List UInt8) (hl : l.length ≤ 236) : (restL h l).length = 252 := by simp [restL, hdB_len]; omega
theorem blkL_len (h : Hd) (l : List UInt8) (hl : l.length ≤ 236) : (blkL h l).length = 256 := by simp [blkL, restL_len h l hl, dig_len]

/-- The block while it is laid: noughts, the header, the body, the sum. -/
def zrs (n : Nat) : List UInt8 := List.replicate n 0
theorem wp_make_r {P : Program} {t e : TypeId} (w : World) (T : ByteT P t e) {ops : Array Oper} {rest : List Oper} {o : Oper} {a : Act} {Q : Exit → Act → World → Prop}
    (hg : o.guard = none) (l c : Operand) (hop : o.op = Op.makeSlice t l c) (kl kc : IntKind) (n : Nat) (hl : a.eval l = .int kl (n : Int)) (hc : a.eval c = .int kc (n : Int)) (b2 : n ≤ 281474976710656)
    (hK : ∀ w', Own w' w.heap.size e (some ⟨w.heap.size, 0, none⟩) n n (zrs n) → Below w.heap.size w w' → wpList P ops Q rest (a.put o.dst (.slice (some ⟨w.heap.size, 0, none⟩) n n)) w') :
    wpList P ops Q (o :: rest) a w := wp_make_b w T hg l c hop kl kc n hl hc b2 hK
theorem splice_mid {α : Type} (X Y Z C : List α) (k : Nat) (hk : X.length = k) (h : Y.length = C.length) : splice (X ++ (Y ++ Z)) k C = X ++ (C ++ Z) := by
  subst hk
  unfold splice
  have e : (X ++ (Y ++ Z)).drop (X.length + Y.length) = Z := by rw [← List.append_assoc]; exact List.drop_left' (by simp)
  rw [List.take_left' rfl, ← h, e]
theorem lay2 (h : Hd) (l : List UInt8) (hl : l.length ≤ 236) : splice (splice (zrs 256) 4 (hdB h)) 20 l = List.replicate 4 0 ++ restL h l := by
  have e : (zrs 256) = List.replicate 4 0 ++ (List.replicate 11 0 ++ List.replicate 241 0) := by
    unfold zrs
    simp only [List.replicate_append_replicate]
  have e2 : List.replicate 241 (0 : UInt8) = List.replicate 5 0 ++ (List.replicate l.length 0 ++ List.replicate (236 - l.length) 0) := by
    simp only [List.replicate_append_replicate]
    congr 1; omega
  rw [e, splice_mid _ _ _ _ 4 (by simp) (by simp [hdB_len]), e2]
  have e3 : List.replicate 4 (0 : UInt8) ++ (hdB h ++ (List.replicate 5 0 ++ (List.replicate l.length 0 ++ List.replicate (236 - l.length) 0))) = (List.replicate 4 0 ++ (hdB h ++ List.replicate 5 0)) ++ (List.replicate l.length 0 ++ List.replicate (236 - l.length) 0) := by simp
  rw [e3, splice_mid _ _ _ _ 20 (by simp [hdB_len]) (by simp)]
  unfold restL
  simp
theorem lay3 (h : Hd) (l : List UInt8) (hl : l.length ≤ 236) : splice (splice (splice (zrs 256) 4 (hdB h)) 20 l) 0 (sumB (splice (splice (zrs 256) 4 (hdB h)) 20 l)) = blkL h l := by
  rw [lay2 h l hl]
  unfold sumB blkL splice
  have e : (List.replicate 4 (0 : UInt8) ++ restL h l).drop 4 = restL h l := List.drop_left' (by simp)
  rw [e, dig_len]
  simp

theorem sumB_len (l : List UInt8) : (sumB l).length = 4 := by simp [sumB, dig_len]
theorem own_nil (w : World) (base : Nat) (e : TypeId) : Own w base e none 0 0 [] := ⟨by simp, .inl ⟨rfl, rfl⟩⟩

set_option maxRecDepth 10000 in
set_option maxHeartbeats 2000000 in
theorem seal_any (h : Hd) (A : Option Addr) (n c : Nat) (l : List UInt8) (w : World) (hs : Sl w A n c l) (ht : Tab w) :
    Calls Tryz.prog 66 #[.agg #[.int .i64 h.kind, .int .i64 h.addr, .int .i64 h.count, .int .i64 h.level, .int .i64 h.gen], .slice A n c] w fun e w' =>
      ∃ A' n' c', e = .returned (.tuple #[.slice A' n' c', .int .i64 (sealE h l)]) ∧ Own w' w.heap.size 5 A' n' c' (sealB h l) ∧ (sealE h l = 0 → ∃ g, A' = some ⟨g, 0, none⟩ ∧ n' = 256 ∧ c' = 256) ∧ Below w.heap.size w w' := by
  have hlen := hs.len
  have hcap := hs.cap
  have hm := hs.max
  unfold maxLen at hm
  by_cases hok : h.ok = true
  · by_cases hl : l.length ≤ 236
    · have hE : sealE h l = 0 := by unfold sealE; rw [if_pos hok, if_pos hl]
      have hB : sealB h l = blkL h l := by unfold sealB; rw [if_pos hok, if_pos hl]
      rw [hE, hB]
      have hn : ¬ (236 : Int) < (n : Int) := by omega
      go_enter Tryz.func66, Tryz.ntmps66
      go_wp2_with (first
        | (go_at_call 107; refine (valid_any h _).mono ?_; rw [hok]; rintro e w2 ⟨rfl, hb2⟩)
        | (at_make; refine wp_make_r _ T22 rfl _ _ rfl _ _ 256 rfl rfl (by omega) ?_)
        | fail)
      intro w3 hown3 hb3
      have H3 : HB w3 w.heap.size h := (HB.below ⟨_, heap_alloc_new w _⟩ hb2 (by simp)).below hb3 (by have := hb2.size; rw [World.size_alloc] at this; omega)
      have hz2 := hb2.size
      have hz3 := hb3.size
      rw [World.size_alloc] at hz2
      have hB3 : Below w.heap.size w w3 := ((Below.refl _ _).alloc (Nat.le_refl _) _).trans ((hb2.mono (by simp)).trans (hb3.mono (by omega)))
      have hs3 := hs.below hB3
      have ht3 := ht.below hB3 ht.1
      have hown3 := hown3.less (show w.heap.size ≤ w2.heap.size by omega)
      have L2 := lay2 h l hl
      have L3 := lay3 h l hl
      have hh := hdB_len h
      have r0 : w3.cell? ⟨w.heap.size, 0, none⟩ = some (.int .i64 h.kind) := H3.at_ 0
      have r1 : w3.cell? ⟨w.heap.size, 1, none⟩ = some (.int .i64 h.addr) := H3.at_ 2
      have r2 : w3.cell? ⟨w.heap.size, 2, none⟩ = some (.int .i64 h.count) := H3.at_ 3
      have r3 : w3.cell? ⟨w.heap.size, 3, none⟩ = some (.int .i64 h.level) := H3.at_ 1
      have r4 : w3.cell? ⟨w.heap.size, 4, none⟩ = some (.int .i64 h.gen) := H3.at_ 4
      clear hb2 hb3 H3
      go_wp2_with fail
      have hS : ∀ w' : World, Below (w.heap.size + 1) w3 w' → w'.cell? ⟨w.heap.size, 0, none⟩ = some (.int .i64 h.kind) ∧ w'.cell? ⟨w.heap.size, 1, none⟩ = some (.int .i64 h.addr) ∧ w'.cell? ⟨w.heap.size, 2, none⟩ = some (.int .i64 h.count) ∧
        w'.cell? ⟨w.heap.size, 3, none⟩ = some (.int .i64 h.level) ∧ w'.cell? ⟨w.heap.size, 4, none⟩ = some (.int .i64 h.gen) ∧ Below (w.heap.size + 1) w3 w' := fun w' b =>
        ⟨(b.cell (by show w.heap.size < _; omega)).trans r0, (b.cell (by show w.heap.size < _; omega)).trans r1, (b.cell (by show w.heap.size < _; omega)).trans r2, (b.cell (by show w.heap.size < _; omega)).trans r3, (b.cell (by show w.heap.size < _; omega)).trans r4, b⟩
      have BD : Below (w.heap.size + 1) w3 w3.drew := (Below.refl _ _).drew
      go_region_held3 (fun w' => w'.cell? ⟨w.heap.size, 0, none⟩ = some (.int .i64 h.kind) ∧ w'.cell? ⟨w.heap.size, 1, none⟩ = some (.int .i64 h.addr) ∧ w'.cell? ⟨w.heap.size, 2, none⟩ = some (.int .i64 h.count) ∧
        w'.cell? ⟨w.heap.size, 3, none⟩ = some (.int .i64 h.level) ∧ w'.cell? ⟨w.heap.size, 4, none⟩ = some (.int .i64 h.gen) ∧ Below (w.heap.size + 1) w3 w')
        (first | assumption | exact hS _ BD | exact hS _ ‹Below (w.heap.size + 1) w3 _›)
        (first
          | (go_at_call 108; refine (packed_any h _).mono ?_; rintro e w4 ⟨A4, n4, c4, rfl, hs4, hb4⟩; have hn4 := hs4.len; have bb4 : Below (w.heap.size + 1) w3 w4 := BD.trans (hb4.mono (by show _ ≤ w3.heap.size; omega)); have own4 := hown3.drew.below hb4)
          | (refine step_copy_b T22 rfl (.tmp 15) (.tmp 17) rfl w.heap.size w2.heap.size 256 (zrs 256) (by assumption) 4 252 252 rfl _ _ _ (hdB h) rfl (by assumption) (by omega) (by omega) ?_; intro w5 own5 hb5; have bb5 : Below (w.heap.size + 1) w3 w5 := bb4.trans (hb5.mono (by omega)))
          | fail)
      have hB5 : Below w.heap.size w w5 := hB3.trans (bb5.mono (by omega))
      have hs5 := hs.below hB5
      clear hs3 ht3 hs4 own4 hown3 r0 r1 r2 r3 r4 hS BD
      go_wp2_with (first
        | ((with_reducible show wpList _ _ _ _ _ _); refine wp_copy_b T22 rfl (.tmp 20) (.tmp 21) rfl w.heap.size w2.heap.size 256 _ own5 20 236 236 rfl A n c l rfl hs5 (by omega) (by omega) ?_; intro w6 own6 hb6; have hB6 := hB5.trans hb6; have ht6 := ht.below hB6 ht.1)
        | (go_at_call 109; refine (summed_any _ 256 256 _ _ own6.sl (by omega) ht6).mono ?_; rintro e w7 ⟨A7, n7, c7, rfl, own7, hb7⟩; have hs7 : n7 ≤ 4 := (by have h7 := own7.len; rw [sumB_len] at h7; omega); have own7b := own6.below hb7)
        | ((with_reducible show wpList _ _ _ _ _ _); refine wp_copy_b T22 rfl (.tmp 23) (.tmp 25) rfl w.heap.size w2.heap.size 256 _ own7b 0 256 256 rfl A7 n7 c7 _ rfl own7.sl (by omega) (by omega) ?_; intro w8 own8 hb8; have hB8 := hB6.trans ((hb7.mono (Below.size hB6)).trans hb8))
        | fail)
      go_ret2
      rw [L3] at own8
      exact ⟨_, _, _, rfl, own8, fun _ => ⟨_, rfl, rfl, rfl⟩, hB8⟩
    · have hE : sealE h l = 7 := by unfold sealE; rw [if_pos hok, if_neg hl]
      have hB : sealB h l = [] := by unfold sealB; rw [if_pos hok, if_neg hl]
      rw [hE, hB]
      have hn : (236 : Int) < (n : Int) := by omega
      go_enter Tryz.func66, Tryz.ntmps66
      go_wp2_with (first
        | (go_at_call 107; refine (valid_any h _).mono ?_; rw [hok]; rintro e w2 ⟨rfl, hb2⟩))
      go_ret2
      exact ⟨_, _, _, rfl, own_nil _ _ _, fun h => by omega, ((Below.refl _ _).alloc (Nat.le_refl _) _).trans (hb2.mono (by simp))⟩
  · have hok' : h.ok = false := by simpa using hok
    have hE : sealE h l = 1 := by unfold sealE; rw [if_neg hok]
    have hB : sealB h l = [] := by unfold sealB; rw [if_neg hok]
    rw [hE, hB]
    go_enter Tryz.func66, Tryz.ntmps66
    go_wp2_with (first
      | (go_at_call 107; refine (valid_any h _).mono ?_; rw [hok']; rintro e w2 ⟨rfl, hb2⟩))
    go_ret2
    exact ⟨_, _, _, rfl, own_nil _ _ _, fun h => by omega, ((Below.refl _ _).alloc (Nat.le_refl _) _).trans (hb2.mono (by simp))⟩
end Go.Proofs.YtgedmodnkiijkaaGreatDoor

namespace Go.Proofs.YtgedmodnkiijkaaGreatDoor
open Go Go.RowKit Go.Proofs

theorem results_cell3 {fn : Func} {p a b : Tmp} {ty : TypeId} {ad : Addr} {v : Value} {P : Program} {w : World} {tmps : Array Value} (h : fn.results = #[.cell p ty, .tmp a, .tmp b]) (hp : tmps.getD p undef = .pointer (some ad)) (hl : (loadVar ty ad).run P w = .ok v w) :
    (results fn tmps).run P w = .ok (.tuple #[v, tmps.getD a undef, tmps.getD b undef]) w := by
  have e : (results fn tmps).run P w = ((asAddr (tmps.getD p undef)).run P w).andThen fun ad w₁ => ((loadVar ty ad).run P w₁).andThen fun v w₂ => .ok (.tuple #[v, tmps.getD a undef, tmps.getD b undef]) w₂ := by
    simp only [results, h]
    simp [Sem.run_bind, Result.andThen]
  rw [e, hp]
  simp [asAddr, hl]
theorem load_hd {w : World} {b : Nat} {h : Hd} (hr : w.rangeAt b 0 h.vs) : (loadVar 133 ⟨b, 0, none⟩).run Tryz.prog w = .ok h.v w :=
  run_loadVar_mid w b 0 133 h.vs _ hr Tryz.underlying133 rfl (by kernel_rfl)
theorem str_bs {w : World} {A : Option Addr} {n c : Nat} {l : List UInt8} (h : Sl w A n c l) : (convert 35 9 (.slice A n c)).run Tryz.prog w = .ok (.string ⟨l.toArray⟩) w :=
  run_conv_bs _ _ _ T22 Tryz.underlying5 Tryz.underlying9 h

/-- What a block's bytes must be. -/
def okB (l : List UInt8) : Bool := decide (l.length = 256 ∧ l.take 4 = sumB l ∧ (hdOf ((l.drop 4).take 11)).ok = true ∧ allZ ((l.drop 15).take 5) = true)
/-- P4.2's answer. -/
def opH (l : List UInt8) : Hd := if okB l = true then hdOf ((l.drop 4).take 11) else Hd.zero
def opB (l : List UInt8) : List UInt8 := if okB l = true then l.drop 20 else []
def opE (l : List UInt8) : Int := if okB l = true then 0 else 3

theorem wp_load_hr {ops : Array Oper} {rest : List Oper} {o : Oper} {a : Act} {w : World} {Q : Exit → Act → World → Prop} (hg : o.guard = none) (x : Operand) (hop : o.op = Op.load 133 x)
    (b : Nat) (hx : a.eval x = .pointer (some ⟨b, 0, none⟩)) (h : Hd) (H : w.rangeAt b 0 h.vs) (hK : wpList Tryz.prog ops Q rest (a.put o.dst h.v) w) : wpList Tryz.prog ops Q (o :: rest) a w :=
  wpList_load_mid hg _ x hop b 0 hx h.vs _ H Tryz.underlying133 rfl (by kernel_rfl) hK
theorem range_below {w w' : World} {b : Nat} {vs : List Value} (h : w.rangeAt b 0 vs) {B : Nat} (hb : Below B w w') (hB : b < B) : w'.rangeAt b 0 vs := fun j v hv => (hb.cell (p := ⟨b, 0 + j, none⟩) hB).trans (h j v hv)
theorem zrs_len (n : Nat) : (zrs n).length = n := List.length_replicate
theorem splice_all (L C : List UInt8) (h : L.length = C.length) : splice L 0 C = C := by
  unfold splice
  rw [List.take_zero, List.nil_append, List.drop_of_length_le (by omega), List.append_nil]
theorem after6 {w w5 w6 : World} {H : Hd} {o : Obj} (hr : w6.rangeAt w5.heap.size 0 H.vs) (hb : ∀ B, B ≤ w5.heap.size → Below B (w5.alloc o) w6) (HZ : HB w5 w.heap.size Hd.zero) (hB : Below w.heap.size w w5) (hz : w.heap.size < w5.heap.size) :
    w6.rangeAt w5.heap.size 0 H.vs ∧ Below w.heap.size w w6 ∧ HB w6 w.heap.size Hd.zero ∧ w5.heap.size < w6.heap.size := by
  have h1 : Below w5.heap.size w5 w6 := ((Below.refl _ _).alloc (Nat.le_refl _) o).trans (hb _ (Nat.le_refl _))
  have h2 := (hb _ (Nat.le_refl _)).size
  rw [World.size_alloc] at h2
  exact ⟨hr, hB.trans (h1.mono (by omega)), HZ.below h1 hz, by omega⟩
theorem cuts {w : World} {ad : Addr} {c : Nat} {l : List UInt8} (hs : Sl w (some ad) 256 c l) : Sl w (some (ad.add 15)) 5 (c - 15) ((l.drop 15).take 5) ∧ Sl w (some (ad.add 20)) 236 (c - 20) (l.drop 20) := by
  have hc := hs.cap
  have h1 := (hs.drop (k := 15) (by omega)).take (k := 5) (by omega)
  have h2 := hs.drop (k := 20) (by omega)
  rw [if_neg (by omega)] at h1 h2
  exact ⟨h1, h2⟩
/-- What Open answers. -/
def OpenSays (A : Option Addr) (n c : Nat) (l : List UInt8) (w : World) : Prop :=
    Calls Tryz.prog 81 #[.slice A n c] w fun e w' =>
      ∃ A' n' c', e = .returned (.tuple #[(opH l).v, .slice A' n' c', .int .i64 (opE l)]) ∧ Own w' w.heap.size 5 A' n' c' (opB l) ∧ Below w.heap.size w w'
theorem op_no {l : List UInt8} (h : okB l = false) : opH l = Hd.zero ∧ opB l = [] ∧ opE l = 3 := by
  unfold opH opB opE
  rw [h]
  exact ⟨rfl, rfl, rfl⟩
theorem op_yes {l : List UInt8} (h : okB l = true) : opH l = hdOf ((l.drop 4).take 11) ∧ opB l = l.drop 20 ∧ opE l = 0 := by
  unfold opH opB opE
  rw [h]
  exact ⟨rfl, rfl, rfl⟩

set_option maxRecDepth 10000 in
set_option maxHeartbeats 4000000 in
theorem open_eq (ad : Addr) (c : Nat) (l : List UInt8) (w : World) (hs : Sl w (some ad) 256 c l) (ht : Tab w) (heq : l.take 4 = sumB l) : OpenSays (some ad) 256 c l w := by
  unfold OpenSays
  have hlen := hs.len
  have hcap := hs.cap
  have hm := hs.max
  unfold maxLen at hm
  have HZ := HB.zero w 133
  have hb0 : Below w.heap.size w (w.alloc (.cells #[.int .i64 0, .int .i64 0, .int .i64 0, .int .i64 0, .int .i64 0] 133)) := (Below.refl _ _).alloc (Nat.le_refl _) _
  have hz0 : w.heap.size < (w.alloc (.cells #[.int .i64 0, .int .i64 0, .int .i64 0, .int .i64 0, .int .i64 0] 133)).heap.size := by simp
  obtain ⟨H, hH⟩ : ∃ H, hdOf ((l.drop 4).take 11) = H := ⟨_, rfl⟩
  have hS0 := congrArg (fun x : List UInt8 => (⟨x.toArray⟩ : ByteArray)) heq
  obtain ⟨S1, hS⟩ : ∃ S1, (⟨(sumB l).toArray⟩ : ByteArray) = S1 := ⟨_, rfl⟩
  have hS2 : (⟨(l.take 4).toArray⟩ : ByteArray) = S1 := hS0.trans hS
  clear hS0
  go_enter Tryz.func81, Tryz.ntmps81
  go_wp2
  generalize (w.alloc (.cells #[.int .i64 0, .int .i64 0, .int .i64 0, .int .i64 0, .int .i64 0] 133)) = w1 at HZ hb0 hz0 ⊢
  have hs1 := hs.below hb0
  have ht1 := ht.below hb0 ht.1
  have k1 := str_bs (hs1.take (k := 4) (by omega)).drew
  rw [hS2] at k1
  go_region_with (first
    | (go_at_call 109; refine (summed_any _ 256 c l _ hs1.drew (by omega) ht1).mono ?_; rintro e w3 ⟨A3, n3, c3, rfl, own3, hb3⟩; have hb3' : Below w1.heap.size w1 w3 := Below.trans (Below.refl _ w1).drew hb3; have k2 := str_bs ((hs1.below hb3').take (k := 4) (by omega)); have k3 := str_bs own3.sl; rw [hS2] at k2; rw [hS] at k3)
    | fail)
  all_goals
    have HZ3 := HZ.below hb3' hz0
    have hz3 := hb3'.size
    have hs3 := hs1.below hb3'
    have hB3 := hb0.trans (hb3'.mono hb0.size)
    have hs4 := (hs3.drop (k := 4) (by omega)).take (k := 11) (by omega)
    rw [if_neg (show ¬ c = 4 by omega)] at hs4
    clear k1 k2 k3 own3 hb3 hs1 HZ
    cases hok : H.ok
    · have hno : okB l = false := decide_eq_false (fun h => by have := h.2.2.1; rw [hH, hok] at this; cases this)
      go_wp2_with (first
        | (go_at_call 115; refine (unpacked_any _ (c - 4) _ _ hs4).mono ?_; rw [hH]; rintro e w5 ⟨rfl, hb5⟩; have HZ5 := HZ3.below hb5 (by omega); have hz5 := hb5.size)
        | (refine wp_store_hd rfl (.tmp 5) (.tmp 22) rfl w5.heap.size rfl H _ rfl (HB.zero w5 _) (by simp) ?_; intro w6 hr6 hb6 _; obtain ⟨hr6', hB6, HZ6, hz6⟩ := after6 hr6 hb6 HZ5 (hB3.trans (hb5.mono hB3.size)) (by omega))
        | (refine wp_load_hr rfl (.tmp 5) rfl w5.heap.size rfl H (by first | exact hr6' | assumption) ?_)
        | (go_at_call 107; refine (valid_any H _).mono ?_; rw [hok]; rintro e w7 ⟨rfl, hb7⟩; have HZ7 := HZ6.below hb7 (by omega); have hB7 := hB6.trans (hb7.mono hB6.size); have hr7 := range_below hr6' hb7 hz6; have hz7 := hb7.size; have hs7 := hs.below hB7; obtain ⟨hs15, hs20⟩ := cuts hs7)
        | (refine wp_store_hd rfl (.tmp 2) (.tmp 32) rfl w.heap.size rfl Hd.zero _ rfl HZ7 (by omega) ?_; intro wz hrz hbz Tz)
        | fail)
      refine bodyPost_ret (results_cell3 Tryz.results81 rfl (load_hd hrz)) rfl ?_
      obtain ⟨h1, h2, h3⟩ := op_no (l := l) hno
      rw [h1, h2, h3]
      exact ⟨_, _, _, rfl, own_nil _ _ _, hB7.trans (hbz _ (Nat.le_refl _))⟩
    · cases hzz : allZ ((l.drop 15).take 5)
      · have hno : okB l = false := decide_eq_false (fun h => by have := h.2.2.2; rw [hzz] at this; cases this)
        go_wp2_with (first
          | (go_at_call 115; refine (unpacked_any _ (c - 4) _ _ hs4).mono ?_; rw [hH]; rintro e w5 ⟨rfl, hb5⟩; have HZ5 := HZ3.below hb5 (by omega); have hz5 := hb5.size)
          | (refine wp_store_hd rfl (.tmp 5) (.tmp 22) rfl w5.heap.size rfl H _ rfl (HB.zero w5 _) (by simp) ?_; intro w6 hr6 hb6 _; obtain ⟨hr6', hB6, HZ6, hz6⟩ := after6 hr6 hb6 HZ5 (hB3.trans (hb5.mono hB3.size)) (by omega))
          | (refine wp_load_hr rfl (.tmp 5) rfl w5.heap.size rfl H (by first | exact hr6' | assumption) ?_)
          | (go_at_call 107; refine (valid_any H _).mono ?_; rw [hok]; rintro e w7 ⟨rfl, hb7⟩; have HZ7 := HZ6.below hb7 (by omega); have hB7 := hB6.trans (hb7.mono hB6.size); have hr7 := range_below hr6' hb7 hz6; have hz7 := hb7.size; have hs7 := hs.below hB7; obtain ⟨hs15, hs20⟩ := cuts hs7)
          | (go_at_call 116; refine (noughts_any _ 5 (c - 15) _ w7 hs15).mono ?_; rw [hzz]; rintro e w8 ⟨rfl, rfl⟩)
          | (refine wp_store_hd rfl (.tmp 2) (.tmp 32) rfl w.heap.size rfl Hd.zero _ rfl HZ7 (by omega) ?_; intro wz hrz hbz Tz)
          | fail)
        refine bodyPost_ret (results_cell3 Tryz.results81 rfl (load_hd hrz)) rfl ?_
        obtain ⟨h1, h2, h3⟩ := op_no (l := l) hno
        rw [h1, h2, h3]
        exact ⟨_, _, _, rfl, own_nil _ _ _, hB7.trans (hbz _ (Nat.le_refl _))⟩
      · have hyes : okB l = true := decide_eq_true ⟨hlen, heq, by rw [hH]; exact hok, hzz⟩
        go_wp2_with (first
          | (go_at_call 115; refine (unpacked_any _ (c - 4) _ _ hs4).mono ?_; rw [hH]; rintro e w5 ⟨rfl, hb5⟩; have HZ5 := HZ3.below hb5 (by omega); have hz5 := hb5.size)
          | (refine wp_store_hd rfl (.tmp 5) (.tmp 22) rfl w5.heap.size rfl H _ rfl (HB.zero w5 _) (by simp) ?_; intro w6 hr6 hb6 _; obtain ⟨hr6', hB6, HZ6, hz6⟩ := after6 hr6 hb6 HZ5 (hB3.trans (hb5.mono hB3.size)) (by omega))
          | (refine wp_load_hr rfl (.tmp 5) rfl w5.heap.size rfl H (by first | exact hr6' | assumption) ?_)
          | (go_at_call 107; refine (valid_any H _).mono ?_; rw [hok]; rintro e w7 ⟨rfl, hb7⟩; have HZ7 := HZ6.below hb7 (by omega); have hB7 := hB6.trans (hb7.mono hB6.size); have hr7 := range_below hr6' hb7 hz6; have hz7 := hb7.size; have hs7 := hs.below hB7; obtain ⟨hs15, hs20⟩ := cuts hs7)
          | (go_at_call 116; refine (noughts_any _ 5 (c - 15) _ w7 hs15).mono ?_; rw [hzz]; rintro e w8 ⟨rfl, rfl⟩)
          | (at_make; refine wp_make_r _ T22 rfl _ _ rfl _ _ 236 rfl rfl (by omega) ?_; intro w9 own9 hb9; have hs9 := Sl.below hs20 hb9)
          | ((with_reducible show wpList _ _ _ _ _ _); refine wp_copy_b T22 rfl (.tmp 34) (.tmp 36) rfl w7.heap.size w7.heap.size 236 _ own9 0 236 236 rfl _ 236 (c - 20) _ rfl hs9 (by omega) (by omega) ?_; intro w10 own10 hb10; have hb710 := hb9.trans hb10; have HZ10 := HZ7.below hb710 (by omega); have hr10 := range_below hr7 hb710 (by omega); have hz10 := hb710.size)
          | (refine wp_store_hd rfl (.tmp 2) (.tmp 38) rfl w.heap.size rfl H _ rfl HZ10 (by omega) ?_; intro wz hrz hbz Tz)
          | fail)
        refine bodyPost_ret (results_cell3 Tryz.results81 rfl (load_hd hrz)) rfl ?_
        obtain ⟨h1, h2, h3⟩ := op_yes (l := l) hyes
        rw [h1, h2, h3, hH]
        rw [splice_all _ _ (by rw [zrs_len, List.length_drop, hlen])] at own10
        exact ⟨_, _, _, rfl, (own10.turn fun g hg hl => Tz.block g hl (by show ¬ g = w.heap.size; omega)).less hB7.size, hB7.trans ((hb710.mono hB7.size).trans (hbz _ (Nat.le_refl _)))⟩
end Go.Proofs.YtgedmodnkiijkaaGreatDoor
