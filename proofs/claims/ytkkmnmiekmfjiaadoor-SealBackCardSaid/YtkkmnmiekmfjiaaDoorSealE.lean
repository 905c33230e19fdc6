/- The program's Seal makes the block of P4.1, or refuses. -/
import Derived.Test.YtkkmnmiekmfjiaaDoorSealD
import Derived.Deep.RegionHeld3
namespace Go.Proofs.YtkkmnmiekmfjiaaDoor
open Go Go.RowKit Go.Proofs

/-- What stands behind a block's sum. -/
def restL (h : Hd) (l : List UInt8) : List UInt8 := hdB h ++ (List.replicate 5 0 ++ (l ++ List.replicate (236 - l.length) 0))
def blkL (h : Hd) (l : List UInt8) : List UInt8 := dig (more 0 (restL h l) : Nat) 4 ++ restL h l
/-- P4.1's answer. -/
def sealE (h : Hd) (l : List UInt8) : Int := if h.ok = true then if l.length ≤ 236 then 0 else 7 else 1
def sealB (h : Hd) (l : List UInt8) : List UInt8 := if h.ok = true then if l.length ≤ 236 then blkL h l else [] else []
theorem hdB_len (h : Hd) : (hdB h).length = 11 := by simp [hdB, dig_len]
theorem restL_len (h : Hd) (l : List UInt8) (hl : l.length ≤ 236) : (restL h l).length = 252 := by simp [restL, hdB_len]; omega
theorem blkL_len (h : Hd) (l : List UInt8) (hl : l.length ≤ 236) : (blkL h l).length = 256 := by simp [blkL, restL_len h l hl, dig_len]

/-- The block while it is laid: noughts, the header, the body, the sum. -/
def zrs (n : Nat) : List UInt8 := List.replicate n 0
theorem wp_make_r {P : Program} {t e : TypeId} (w : World) (T : ByteT P t e) {ops : Array Oper} {rest : List Oper} {o : Oper} {a : Act} {Q : Exit → Act → World → Prop}
    (hg : o.guard = none) (l c : Operand) (hop : o.op = Op.makeSlice t l c) (kl kc : IntKind) (n : Nat) (hl : a.eval l = .int kl (n : Int)) (hc : a.eval c = .int kc (n : Int)) (b2 : n ≤ 281474976710656)
    (hK : ∀ w', Own w' w.heap.size e (some ⟨w.heap.size, 0, none⟩) n n (zrs n) → Below w.heap.size w w' → wpList P ops Q rest (a.put o.dst (.slice (some ⟨w.heap.size, 0, none⟩) n n)) w') :
    wpList P ops Q (o :: rest) a w := wp_make_b w T hg l c hop kl kc n hl hc b2 hK
theorem splice_mid {α : Type} (X Y Z C : List α) (k : Nat) (hk : X.length = k) (h : Y.length = C.length) : splice (X ++ (Y ++ Z)) k C = X ++ (C ++ Z) := by
  subst hk
  unfold splice
  have e : (X ++ (Y ++ Z)).drop (X.length + Y.length) = Z := by rw [← List.append_assoc]; exact List.drop_left' (by simp)
  rw [List.take_left' rfl, ← h, e]
theorem lay2 (h : Hd) (l : List UInt8) (hl : l.length ≤ 236) : splice (splice (zrs 256) 4 (hdB h)) 20 l = List.replicate 4 0 ++ restL h l := by
  have e : (zrs 256) = List.replicate 4 0 ++ (List.replicate 11 0 ++ List.replicate 241 0) := by
    unfold zrs
    simp only [List.replicate_append_replicate]
  have e2 : List.replicate 241 (0 : UInt8) = List.replicate 5 0 ++ (List.replicate l.length 0 ++ List.replicate (236 - l.length) 0) := by
    simp only [List.replicate_append_replicate]
    congr 1; omega
  rw [e, splice_mid _ _ _ _ 4 (by simp) (by simp [hdB_len]), e2]
  have e3 : List.replicate 4 (0 : UInt8) ++ (hdB h ++ (List.replicate 5 0 ++ (List.replicate l.length 0 ++ List.replicate (236 - l.length) 0))) = (List.replicate 4 0 ++ (hdB h ++ List.replicate 5 0)) ++ (List.replicate l.length 0 ++ List.replicate (236 - l.length) 0) := by simp
  rw [e3, splice_mid _ _ _ _ 20 (by simp [hdB_len]) (by simp)]
  unfold restL
  simp
theorem lay3 (h : Hd) (l : List UInt8) (hl : l.length ≤ 236) : splice (splice (splice (zrs 256) 4 (hdB h)) 20 l) 0 (sumB (splice (splice (zrs 256) 4 (hdB h)) 20 l)) = blkL h l := by
  rw [lay2 h l hl]
  unfold sumB blkL splice
  have e : (List.replicate 4 (0 : UInt8) ++ restL h l).drop 4 = restL h l := List.drop_left' (by simp)
  rw [e, dig_len]
  simp [e]

theorem sumB_len (l : List UInt8) : (sumB l).length = 4 := by simp [sumB, dig_len]
theorem own_nil (w : World) (base : Nat) (e : TypeId) : Own w base e none 0 0 [] := ⟨by simp, .inl ⟨rfl, rfl⟩⟩

set_option maxHeartbeats 2000000 in
theorem seal_any (h : Hd) (A : Option Addr) (n c : Nat) (l : List UInt8) (w : World) (hs : Sl w A n c l) (ht : Tab w) :
    Calls Tryd.prog 9 #[.agg #[.int .i64 h.kind, .int .i64 h.addr, .int .i64 h.count, .int .i64 h.level, .int .i64 h.gen], .slice A n c] w fun e w' =>
      ∃ A' n' c', e = .returned (.tuple #[.slice A' n' c', .int .i64 (sealE h l)]) ∧ Own w' w.heap.size 5 A' n' c' (sealB h l) ∧ (sealE h l = 0 → ∃ g, A' = some ⟨g, 0, none⟩ ∧ n' = 256 ∧ c' = 256) ∧ Below w.heap.size w w' := by
  have hlen := hs.len
  have hcap := hs.cap
  have hm := hs.max
  unfold maxLen at hm
  by_cases hok : h.ok = true
  · by_cases hl : l.length ≤ 236
    · have hE : sealE h l = 0 := by unfold sealE; rw [if_pos hok, if_pos hl]
      have hB : sealB h l = blkL h l := by unfold sealB; rw [if_pos hok, if_pos hl]
      rw [hE, hB]
      have hn : ¬ (236 : Int) < (n : Int) := by omega
      go_enter Tryd.func9, Tryd.ntmps9
      go_wp2_with (first
        | (go_at_call 15; refine (valid_any h _).mono ?_; rw [hok]; rintro e w2 ⟨rfl, hb2⟩)
        | (at_make; refine wp_make_r _ T22 rfl _ _ rfl _ _ 256 rfl rfl (by omega) ?_)
        | fail)
      intro w3 hown3 hb3
      have H3 : HB w3 w.heap.size h := (HB.below ⟨_, heap_alloc_new w _⟩ hb2 (by simp)).below hb3 (by have := hb2.size; rw [World.size_alloc] at this; omega)
      have hz2 := hb2.size
      have hz3 := hb3.size
      rw [World.size_alloc] at hz2
      have hB3 : Below w.heap.size w w3 := ((Below.refl _ _).alloc (Nat.le_refl _) _).trans ((hb2.mono (by simp)).trans (hb3.mono (by omega)))
      have hs3 := hs.below hB3
      have ht3 := ht.below hB3 ht.1
      have hown3 := hown3.less (show w.heap.size ≤ w2.heap.size by omega)
      have L2 := lay2 h l hl
      have L3 := lay3 h l hl
      have hh := hdB_len h
      have r0 : w3.cell? ⟨w.heap.size, 0, none⟩ = some (.int .i64 h.kind) := H3.at_ 0
      have r1 : w3.cell? ⟨w.heap.size, 1, none⟩ = some (.int .i64 h.addr) := H3.at_ 2
      have r2 : w3.cell? ⟨w.heap.size, 2, none⟩ = some (.int .i64 h.count) := H3.at_ 3
      have r3 : w3.cell? ⟨w.heap.size, 3, none⟩ = some (.int .i64 h.level) := H3.at_ 1
      have r4 : w3.cell? ⟨w.heap.size, 4, none⟩ = some (.int .i64 h.gen) := H3.at_ 4
      clear hb2 hb3 H3
      go_wp2_with fail
      have hS : ∀ w' : World, Below (w.heap.size + 1) w3 w' → w'.cell? ⟨w.heap.size, 0, none⟩ = some (.int .i64 h.kind) ∧ w'.cell? ⟨w.heap.size, 1, none⟩ = some (.int .i64 h.addr) ∧ w'.cell? ⟨w.heap.size, 2, none⟩ = some (.int .i64 h.count) ∧
        w'.cell? ⟨w.heap.size, 3, none⟩ = some (.int .i64 h.level) ∧ w'.cell? ⟨w.heap.size, 4, none⟩ = some (.int .i64 h.gen) ∧ Below (w.heap.size + 1) w3 w' := fun w' b =>
        ⟨(b.cell (by show w.heap.size < _; omega)).trans r0, (b.cell (by show w.heap.size < _; omega)).trans r1, (b.cell (by show w.heap.size < _; omega)).trans r2, (b.cell (by show w.heap.size < _; omega)).trans r3, (b.cell (by show w.heap.size < _; omega)).trans r4, b⟩
      have BD : Below (w.heap.size + 1) w3 w3.drew := (Below.refl _ _).drew
      go_region_held3 (fun w' => w'.cell? ⟨w.heap.size, 0, none⟩ = some (.int .i64 h.kind) ∧ w'.cell? ⟨w.heap.size, 1, none⟩ = some (.int .i64 h.addr) ∧ w'.cell? ⟨w.heap.size, 2, none⟩ = some (.int .i64 h.count) ∧
        w'.cell? ⟨w.heap.size, 3, none⟩ = some (.int .i64 h.level) ∧ w'.cell? ⟨w.heap.size, 4, none⟩ = some (.int .i64 h.gen) ∧ Below (w.heap.size + 1) w3 w')
        (first | assumption | exact hS _ BD | exact hS _ ‹Below (w.heap.size + 1) w3 _›)
        (first
          | (go_at_call 16; refine (packed_any h _).mono ?_; rintro e w4 ⟨A4, n4, c4, rfl, hs4, hb4⟩; have hn4 := hs4.len; have bb4 : Below (w.heap.size + 1) w3 w4 := BD.trans (hb4.mono (by show _ ≤ w3.heap.size; omega)); have own4 := hown3.drew.below hb4)
          | (refine step_copy_b T22 rfl (.tmp 15) (.tmp 17) rfl w.heap.size w2.heap.size 256 (zrs 256) (by assumption) 4 252 252 rfl _ _ _ (hdB h) rfl (by assumption) (by omega) (by omega) ?_; intro w5 own5 hb5; have bb5 : Below (w.heap.size + 1) w3 w5 := bb4.trans (hb5.mono (by omega)))
          | fail)
      have hB5 : Below w.heap.size w w5 := hB3.trans (bb5.mono (by omega))
      have hs5 := hs.below hB5
      clear hs3 ht3 hs4 own4 hown3 r0 r1 r2 r3 r4 hS BD
      go_wp2_with (first
        | ((with_reducible show wpList _ _ _ _ _ _); refine wp_copy_b T22 rfl (.tmp 20) (.tmp 21) rfl w.heap.size w2.heap.size 256 _ own5 20 236 236 rfl A n c l rfl hs5 (by omega) (by omega) ?_; intro w6 own6 hb6; have hB6 := hB5.trans hb6; have ht6 := ht.below hB6 ht.1)
        | (go_at_call 17; refine (summed_any _ 256 256 _ _ own6.sl (by omega) ht6).mono ?_; rintro e w7 ⟨A7, n7, c7, rfl, own7, hb7⟩; have hs7 : n7 ≤ 4 := (by have h7 := own7.len; rw [sumB_len] at h7; omega); have own7b := own6.below hb7)
        | ((with_reducible show wpList _ _ _ _ _ _); refine wp_copy_b T22 rfl (.tmp 23) (.tmp 25) rfl w.heap.size w2.heap.size 256 _ own7b 0 256 256 rfl A7 n7 c7 _ rfl own7.sl (by omega) (by omega) ?_; intro w8 own8 hb8; have hB8 := hB6.trans ((hb7.mono (Below.size hB6)).trans hb8))
        | fail)
      go_ret2
      rw [L3] at own8
      exact ⟨_, _, _, rfl, own8, fun _ => ⟨_, rfl, rfl, rfl⟩, hB8⟩
    · have hE : sealE h l = 7 := by unfold sealE; rw [if_pos hok, if_neg hl]
      have hB : sealB h l = [] := by unfold sealB; rw [if_pos hok, if_neg hl]
      rw [hE, hB]
      have hn : (236 : Int) < (n : Int) := by omega
      go_enter Tryd.func9, Tryd.ntmps9
      go_wp2_with (first
        | (go_at_call 15; refine (valid_any h _).mono ?_; rw [hok]; rintro e w2 ⟨rfl, hb2⟩))
      go_ret2
      exact ⟨_, _, _, rfl, own_nil _ _ _, fun h => by omega, ((Below.refl _ _).alloc (Nat.le_refl _) _).trans (hb2.mono (by simp))⟩
  · have hok' : h.ok = false := by simpa using hok
    have hE : sealE h l = 1 := by unfold sealE; rw [if_neg hok]
    have hB : sealB h l = [] := by unfold sealB; rw [if_neg hok]
    rw [hE, hB]
    go_enter Tryd.func9, Tryd.ntmps9
    go_wp2_with (first
      | (go_at_call 15; refine (valid_any h _).mono ?_; rw [hok']; rintro e w2 ⟨rfl, hb2⟩))
    go_ret2
    exact ⟨_, _, _, rfl, own_nil _ _ _, fun h => by omega, ((Below.refl _ _).alloc (Nat.le_refl _) _).trans (hb2.mono (by simp))⟩
end Go.Proofs.YtkkmnmiekmfjiaaDoor
