/- The code's counts: Commit, Clone, New. The code's counts: New. The code's counts: take. The code's counts: Load. -/
import Derived.Test.YtipejjgodnnkaaaGreatDoorPy13
import Derived.Laws.CopyOwn
import Derived.Deep.RegionHeld3
namespace Go.Proofs.YtipejjgodnnkaaaGreatDoor
open Go Go.RowKit Go.Proofs

theorem NRow.whole {w : World} {g n c : Nat} {l : List Int} (h : NRow w g n c l) : ∃ cur : Array Value, w.heap[g]? = some (.cells cur 3 (0, 0)) ∧ cur.size = c ∧ cur.toList.take n = l.map cv ∧ n ≤ c ∧ c ≤ maxLen := by
  rcases h.2 with ⟨hv, _⟩ | ⟨g', cap, cur, hv, hb, hg, h1, h2, h3, h4⟩
  · injection hv with e1; cases e1
  · injection hv with e1 e2 e3
    injection e1 with e1
    injection e1 with e1
    subst e1; subst e3
    rw [Nat.mul_one] at h3 h4
    exact ⟨cur, hg, h3, h4, h1, h2⟩
theorem NRow.of_whole {w : World} {g n c : Nat} {l : List Int} (cur : Array Value) (hg : w.heap[g]? = some (.cells cur 3 (0, 0))) (h3 : cur.size = c) (h4 : cur.toList.take n = l.map cv) (hl : l.length = n) (h1 : n ≤ c) (h2 : c ≤ maxLen) : NRow w g n c l :=
  ⟨by rw [List.length_map, hl, Nat.mul_one], .inr ⟨g, c, cur, rfl, Nat.zero_le _, hg, h1, h2, by rw [h3, Nat.mul_one], by rw [Nat.mul_one]; exact h4⟩⟩
/-- copy of all numbers of a row into another one, as a step of a region that draws its order. -/
theorem step_copy_i {w : World} {ops : Array Oper} {o : Oper} {a : Act} {K : Act → World → Prop} {Q : Exit → Act → World → Prop} {E : Prop} (hgd : o.guard = none) (d s : Operand)
    (ho : o.op = .call { callee := .builtin .copy, args := #[d, s], argTypes := #[33, 33] }) (g n c : Nat) (l : List Int) (hr : NRow w g n c l) (hd : a.eval d = .slice (some ⟨g, 0, none⟩) n c)
    (g2 c2 : Nat) (l2 : List Int) (hr2 : NRow w g2 n c2 l2) (hs : a.eval s = .slice (some ⟨g2, 0, none⟩) n c2)
    (hK : ∀ w', NRow w' g n c l2 → (∀ k, k ≠ g → w'.heap[k]? = w.heap[k]?) → (∀ S : Nat → Prop, S g → Turn S w w') → K (a.put o.dst (goInt n)) w') : if Region.wanted o (yielded ops a.tmps) = true then Oper.wp Tryz.prog o a w K Q else E := by
  rw [if_pos (by simp [Region.wanted, hgd])]
  obtain ⟨i, hi, hz0, hz1, hz2⟩ := info_parts TN.info
  obtain ⟨cur, hg, h3, h4, h1, h2⟩ := hr.whole
  have hl2 := hr2.len
  have hrun := run_copy_row (P := Tryz.prog) w 33 33 o.type 3 g 0 n c ⟨g2, 0, none⟩ n c2 cur 3 (l2.map cv) TN.sl (by rw [hi]; simp [hz1]) hg (by rw [List.length_map, hl2]; exact (Nat.min_self n).symm) hr2.cells (by rw [List.length_map, hl2, h3]; omega) (cv_one _)
  rw [List.length_map, hl2] at hrun
  unfold Oper.wp
  simp [execOp, ho, resolve, invoke, builtin, hd, hs, hrun, Result.andThen]
  have hh : (w.setRow g (l2.map cv ++ cur.toList.drop n).toArray).heap[g]? = some (.cells (l2.map cv ++ cur.toList.drop n).toArray 3 (0, 0)) := setRow_heap w g _ _ 3 _ hg
  have e : ∀ k, k ≠ g → (w.setRow g (l2.map cv ++ cur.toList.drop n).toArray).heap[k]? = w.heap[k]? := fun k hk => setRow_other w g k _ hk
  have key := hK (w.setRow g (l2.map cv ++ cur.toList.drop n).toArray) (NRow.of_whole _ hh (by rw [List.size_toArray, List.length_append, List.length_map, List.length_drop, hl2, Array.length_toList, h3]; omega) (by rw [List.take_left' (by rw [List.length_map, hl2])]) hl2 h1 h2) e (fun S hS => ⟨rfl, rfl, rfl, by simp [World.setRow], fun k _ hn => e k fun h => hn (h ▸ hS)⟩)
  exact key

set_option maxRecDepth 10000 in
set_option maxHeartbeats 2000000 in
theorem ccommit_any {w : World} {p o : Nat} {S : Nat → Prop} {C : Ct} (H : CCo w p o S C) :
    Calls Tryz.prog 66 #[.pointer (some ⟨p, o, none⟩)] w fun e w' => e = .returned (.tuple #[]) ∧ CCo w' p o S C.commit ∧ Turn S w w' := by
  obtain ⟨g, cg, b, cb, t, cur, h1, ⟨q0, q1, q2, q3⟩, h2, h3, h4, h5, h6⟩ := H
  have c0 : w.drew.cell? ⟨p, o, none⟩ = some (.slice (some ⟨g, 0, none⟩) C.n cg) := cell_at (w := w.drew) h1 q0
  have c1 : w.drew.cell? ⟨p, o + 1, none⟩ = some (.slice (some ⟨b, 0, none⟩) C.n cb) := cell_at (w := w.drew) h1 q1
  have h2' : NRow w.drew g C.n cg C.now := h2
  have h3' : NRow w.drew b C.n cb C.done := h3
  go_enter Tryz.func66, Tryz.ntmps66
  go_wp2_with fail
  go_region_held3 (fun w' => w'.cell? ⟨p, o, none⟩ = some (.slice (some ⟨g, 0, none⟩) C.n cg) ∧ w'.cell? ⟨p, o + 1, none⟩ = some (.slice (some ⟨b, 0, none⟩) C.n cb))
    (first | assumption | exact ⟨c0, c1⟩ | exact d01)
    (first
      | (refine step_copy_i rfl (.tmp 5) (.tmp 9) rfl b C.n cb C.done h3' rfl g cg C.now h2' rfl ?_; intro w5 r5 e5 T5; have d01 : w5.cell? ⟨p, o, none⟩ = some (.slice (some ⟨g, 0, none⟩) C.n cg) ∧ w5.cell? ⟨p, o + 1, none⟩ = some (.slice (some ⟨b, 0, none⟩) C.n cb) := ⟨(World.cell?_of_block (a := ⟨p, o, none⟩) (e5 p h4.2.2)).trans c0, (World.cell?_of_block (a := ⟨p, o + 1, none⟩) (e5 p h4.2.2)).trans c1⟩)
      | fail)
  all_goals (
    go_end0
    refine ⟨rfl, ⟨g, cg, b, cb, t, cur, (e5 p h4.2.2).trans h1, ⟨q0, q1, q2, q3⟩, h2.keep (e5 g h4.1), r5, h4, h5, Ct.commit_ok h6⟩, ?_⟩
    have T := T5 S h5.2
    exact (Turn.refl S w).drew.then T)
end Go.Proofs.YtipejjgodnnkaaaGreatDoor

namespace Go.Proofs.YtipejjgodnnkaaaGreatDoor
open Go Go.RowKit Go.Proofs

set_option maxHeartbeats 1000000 in
theorem cnew_bad (n : Int) (h : n < 32 ∨ 2048 < n) (w : World) :
    Calls Tryz.prog 87 #[.int .i64 n] w fun e w' => e = .returned (.tuple #[.pointer none, .int .i64 1]) ∧ w = w' := by
  by_cases h1 : n < 32
  · go_enter Tryz.func87, Tryz.ntmps87
    go_wp2
    go_ret2
    exact ⟨rfl, rfl⟩
  · have h2 : 2048 < n := by omega
    go_enter Tryz.func87, Tryz.ntmps87
    go_wp2
    go_ret2
    exact ⟨rfl, rfl⟩
section
attribute [local go_sem ↓] mkI_shut
set_option maxRecDepth 10000 in
set_option maxHeartbeats 2000000 in
theorem cnew_any (n : Nat) (h1 : 32 ≤ n) (h2 : n ≤ 2048) (w : World) :
    Calls Tryz.prog 87 #[.int .i64 (n : Int)] w fun e w' => ∃ p, e = .returned (.tuple #[.pointer (some ⟨p, 0, none⟩), .int .i64 0]) ∧ CCo w' p 0 (fun k => w.heap.size ≤ k) (Ct.zero n) ∧ w.heap.size ≤ p ∧ Below w.heap.size w w' := by
  have e1 : ¬ (n : Int) < 32 := by omega
  have e2 : ¬ (2048 : Int) < (n : Int) := by omega
  have hn : n ≤ 1000000 := by omega
  obtain ⟨m, hm⟩ : ∃ m, areaN n = m := ⟨_, rfl⟩
  have Hm := Lib.hid hm
  have hfirst := Lib.hid (show ((Ct.zero n).first : Int) = 2 + 2 * (m : Int) by unfold Ct.first; rw [Ct.zero_n, hm]; omega)
  clear hm
  have q1 := run_mkI n hn w.drew
  have q2 := run_mkI n hn (litI n w.drew)
  rw [litI_size] at q2
  have z0 : w.drew.heap.size = w.heap.size := rfl
  rw [z0] at q1 q2
  go_enter Tryz.func87, Tryz.ntmps87
  go_wp2_with fail
  refine (xareas_any (n : Int) n rfl (by omega) m Hm.out w).mono ?_
  rintro e w1 ⟨rfl, rfl⟩
  go_wp2_with fail
  go_region
  all_goals (
    have r2 : NRow (litI n (litI n w.drew)) (w.heap.size + 1) n n (List.replicate n 0) := by
      have := litI_new n hn (litI n w.drew)
      rw [litI_size, z0] at this
      exact this
    have r1 : NRow (litI n (litI n w.drew)) w.heap.size n n (List.replicate n 0) := by
      have h := litI_new n hn w.drew
      rw [z0] at h
      exact h.keep (heap_alloc_old (litI n w.drew) _ (by rw [litI_size, z0]; omega))
    have bW : Below w.heap.size w (litI n (litI n w.drew)) := ((Below.refl _ _).drew.trans (litI_below n _ _ (Nat.le_refl _))).trans (litI_below n _ _ (by rw [litI_size, z0]; omega))
    have zW : (litI n (litI n w.drew)).heap.size = w.heap.size + 2 := by rw [litI_size, litI_size, z0]
    clear q1 q2
    generalize litI n (litI n w.drew) = W at r1 r2 bW zW ⊢
    go_wp2_with fail
    go_ret2
    rw [zW]
    refine ⟨w.heap.size + 2, rfl, ?_, by omega, bW.alloc bW.size _⟩
    have hN := (Ct.zero_n n).symm
    have hF := hfirst.out
    have hM := Hm.out
    first
      | exact ⟨w.heap.size, n, w.heap.size + 1, n, _, _, by rw [← zW]; exact heap_alloc_new W _, ⟨by rw [Ct.zero_n]; rfl, by rw [Ct.zero_n]; rfl, by rw [Ct.zero_n, hM]; rfl, by rw [hF]; rfl⟩, by rw [Ct.zero_n]; exact r1.keep (heap_alloc_old W _ r1.lt), by rw [Ct.zero_n]; exact r2.keep (heap_alloc_old W _ r2.lt), ⟨by omega, by omega, by omega⟩, ⟨by dsimp only; omega, by dsimp only; omega⟩, Ct.zero_ok h1 h2⟩
      | exact ⟨w.heap.size + 1, n, w.heap.size, n, _, _, by rw [← zW]; exact heap_alloc_new W _, ⟨by rw [Ct.zero_n]; rfl, by rw [Ct.zero_n]; rfl, by rw [Ct.zero_n, hM]; rfl, by rw [hF]; rfl⟩, by rw [Ct.zero_n]; exact r2.keep (heap_alloc_old W _ r2.lt), by rw [Ct.zero_n]; exact r1.keep (heap_alloc_old W _ r1.lt), ⟨by omega, by omega, by omega⟩, ⟨by dsimp only; omega, by dsimp only; omega⟩, Ct.zero_ok h1 h2⟩
      | fail)
end
end Go.Proofs.YtipejjgodnnkaaaGreatDoor

namespace Go.Proofs.YtipejjgodnnkaaaGreatDoor
open Go Go.RowKit Go.Proofs

theorem ctaken (A : Option Addr) (m k c : Nat) (l : List UInt8) (w : World) (h : Sl w A m c l) (hk : m = k + 2) (hm : m ≤ 100000) (y : Nat) (hy : numL (l.take 2) = y) :
    Calls Tryz.prog 185 #[.slice A m c, .int .i64 2] w fun e w' => ∃ A' c', e = .returned (.tuple #[.int .i64 (y : Int), .slice A' k c', .int .i64 0]) ∧ Below w.heap.size w w' := by
  subst hy
  refine (take_yes A m c l 2 w h (by omega) (by omega) (by omega) (by omega)).mono ?_
  rintro e w' ⟨A', n', c', rfl, own, hb⟩
  have h4 := own.len
  rw [List.length_drop, h.len] at h4
  have : n' = k := by have : (2 : Int).toNat = 2 := rfl; omega
  subst this
  exact ⟨A', c', rfl, hb⟩
theorem ct_turned {w w' : World} {A : Option Addr} {n c : Nat} {l : List UInt8} (h : Sl w A n c l) {S : Nat → Prop} (T : Turn S w w') (hA : ∀ ad, A = some ad → ¬ S ad.block) : Sl w' A n c l :=
  ⟨h.1, h.2.1, h.2.2.1, fun j u hu => by
    obtain ⟨ad, e, hb, hc⟩ := h.2.2.2 j u hu
    exact ⟨ad, e, Nat.lt_of_lt_of_le hb T.size, (World.cell?_of_block (a := ad.add j) (by rw [addr_block]; exact T.block _ hb (hA ad e))).trans hc⟩⟩
theorem put_nought (C : Ct) (k : Nat) (hk : k < C.n) (h : nm C.now k = 0) : C.put k 0 = C := by
  have e : C.now.set k 0 = C.now := by
    have h1 : C.now[k]'hk = 0 := by
      unfold nm at h
      rw [List.getD_eq_getElem?_getD, List.getElem?_eq_getElem hk] at h
      exact h
    rw [← h1]
    exact List.set_getElem_self hk
  unfold Ct.put
  simp only [e]
set_option maxRecDepth 10000 in
set_option maxHeartbeats 4000000 in
theorem ctake_any {w : World} {p : Nat} {S : Nat → Prop} {C : Ct} (H : CCo w p 0 S C) (i : Nat) (hi : i ≤ 1000) (A : Option Addr) (c : Nat) (l : List UInt8) (hs : Sl w A 236 c l) (hA : ∀ ad, A = some ad → ¬ S ad.block) (hz : ∀ a, i * 118 ≤ a → a < C.n → nm C.now a = 0) :
    Calls Tryz.prog 192 #[.pointer (some ⟨p, 0, none⟩), .int .i64 (i : Int), .slice A 236 c] w fun e w' => ((e = .returned (.bool true) ∧ (∀ k, k < 118 → rowBad C.n C.first i l k = false) ∧ CCo w' p 0 S (rowTo C.n i l C 118)) ∨ (e = .returned (.bool false) ∧ ∃ k, k < 118 ∧ rowBad C.n C.first i l k = true)) ∧ Turn S w w' := by
  have Hs := Lib.hid hs
  have HA := Lib.hid hA
  have Hz := Lib.hid hz
  have hcap := hs.cap
  have hmax := hs.max
  unfold maxLen at hmax
  have hok := H.ok.1
  clear hs hA hz
  go_enter Tryz.func192, Tryz.ntmps192
  go_wp2_with fail
  go_loopw [7, 8, 9, 10, 11, 12] (fun _ _ _ _ _ k wr => ∃ t : Nat, t ≤ 118 ∧ k = .int .i64 (t : Int) ∧ CCo wr p 0 S (rowTo C.n i l C t) ∧ (∀ q, q < t → rowBad C.n C.first i l q = false) ∧ Turn S w wr) (fun _ _ _ _ _ k _ => 118 - (intOf k).toNat)
  case atStart => exact ⟨0, Nat.zero_le _, rfl, H, fun q hq => absurd hq (Nat.not_lt_zero _), Turn.refl _ _⟩
  case round =>
    clear H
    obtain ⟨t, ht, rfl, R, hgood, T⟩ := hrel
    by_cases hlt : t < 118
    · have e3 : (t : Int) < 118 := by omega
      have e0 : (0 : Int) ≤ (t : Int) := by omega
      obtain ⟨b, hb⟩ : ∃ b, 2 * t = b := ⟨_, rfl⟩
      have hb1 : (t : Int) * 2 = (b : Int) := by omega
      have hb2 : b ≤ 234 := by omega
      have hs0 := ct_turned Hs.out T HA.out
      have hs1 := hs0.drop (k := b) (by omega)
      obtain ⟨A2, hA2⟩ : ∃ A2, (if c = b then A else Option.map (fun x => x.add b) A) = A2 := ⟨_, rfl⟩
      rw [hA2] at hs1
      have hs2 := hs1.take (k := 2) (by omega)
      obtain ⟨y, hy⟩ : ∃ y, numL (((l.drop b).take 2).take 2) = y := ⟨_, rfl⟩
      have hX := Lib.hid (show cntX l t = (y : Int) by unfold cntX; rw [hb, ← hy, List.take_take]; rfl)
      have hy2 : y < 65536 := by
        have h1 := numL_lt (((l.drop b).take 2).take 2)
        have h2 : (((l.drop b).take 2).take 2).length = 2 := by rw [List.length_take, hs2.len]; rfl
        rw [h2, hy] at h1
        exact h1
      have Hy := Lib.hid hy
      have Hs2 := Lib.hid hs2
      have Hb := Lib.hid hb
      have Hgood := Lib.hid hgood
      have hn1 : (rowTo C.n i l C t).n = C.n := rowTo_n _ _ _ _ _
      have hf1 : (rowTo C.n i l C t).first = C.first := by unfold Ct.first; rw [hn1]
      obtain ⟨a, ha⟩ : ∃ a, i * 118 + t = a := ⟨_, rfl⟩
      have haZ : (i : Int) * 118 + (t : Int) = (a : Int) := by omega
      have ha2 : a ≤ 200000 := by omega
      have hz1 : a < C.n → nm (rowTo C.n i l C t).now a = 0 := fun h => by
        rw [rowTo_now i l C t a h, if_neg (by omega)]
        exact Hz.out a (by omega) h
      have hbad := Lib.hid (show rowBad C.n C.first i l t = decide ((y : Int) ≠ 0 ∧ (a < C.first ∨ C.n ≤ a)) by unfold rowBad; rw [hX.out, ha])
      have Hnext := Lib.hid (show rowTo C.n i l C (t + 1) = if a < C.n then (rowTo C.n i l C t).put a (y : Int) else rowTo C.n i l C t by rw [← hX.out, ← ha]; rfl)
      have Hgn := Lib.hid (show (rowBad C.n C.first i l t = false) → ∀ q, q < t + 1 → rowBad C.n C.first i l q = false from fun h q hq => by
        by_cases e : q = t
        · rw [e]; exact h
        · exact Hgood.out q (by omega))
      obtain ⟨C1, hC1⟩ : ∃ C1, rowTo C.n i l C t = C1 := ⟨_, rfl⟩
      rw [hC1] at R hn1 hf1 hz1 Hnext
      have hcn := Lib.hid (show C1.counted a = decide (C.first ≤ a ∧ a < C.n) by unfold Ct.counted; rw [hn1, hf1])
      have Hn1 := Lib.hid hn1
      have Hf1 := Lib.hid hf1
      have Hz1 := Lib.hid hz1
      have Ha := Lib.hid ha
      have i1 : 2 ≤ c - b := by omega
      have i2 : b ≤ 236 := by omega
      have i3 : b ≤ c := by omega
      clear hs0 hs1 hs2 hy hgood hC1 hn1 hf1 hz1 ha hb
      go_wp2_with fail
      refine (ctaken A2 2 0 (c - b) _ wr Hs2.out rfl (by omega) y Hy.out).mono ?_
      rintro e w4 ⟨A4, c4, rfl, hb4⟩
      have R4 := R.below hb4
      have T4 := T.then (turn_below hb4 |>.mono (S' := S) fun k hk => hk)
      clear R T
      by_cases hy0 : y = 0
      · subst hy0
        have hgd := Lib.hid (show rowBad C.n C.first i l t = false by rw [hbad.out]; simp)
        have hnx := Lib.hid (show rowTo C.n i l C (t + 1) = C1 by
          rw [Hnext.out]
          split
          · rename_i h
            exact put_nought C1 a (by rw [Hn1.out]; exact h) (Hz1.out h)
          · rfl)
        go_wp2
        exact ⟨⟨t + 1, by omega, by go_num, by rw [hnx.out]; exact R4, Hgn.out hgd.out, T4⟩, by simp [intOf]; omega⟩
      · have hyb : ((y : Int) == 0) = false := by simpa using hy0
        have hyi : ¬ (y : Int) = 0 := by omega
        by_cases hca : C.first ≤ a ∧ a < C.n
        · have hct := Lib.hid (show C1.counted a = true by rw [hcn.out]; exact decide_eq_true hca)
          have hgd := Lib.hid (show rowBad C.n C.first i l t = false by rw [hbad.out]; exact decide_eq_false (by omega))
          have hnx := Lib.hid (show rowTo C.n i l C (t + 1) = C1.put a (y : Int) by rw [Hnext.out, if_pos hca.2])
          have hlt1 : a < C1.n := by rw [Hn1.out]; exact hca.2
          obtain ⟨g, cg, b0, cb, c0, c1, c2, c3, k1, k2, hnow, hdone, hput⟩ := R4.open_
          obtain ⟨hc, hfz⟩ := hnow a hlt1
          obtain ⟨R5, T5, d0, d1⟩ := hput a ((y : Nat) : Int) hlt1 (by omega) (by omega)
          rw [← hnx.out] at R5
          have T6 := T4.then T5
          have e8 : (a : Int) < (C1.n : Int) := by omega
          have e9 : (0 : Int) ≤ (a : Int) := by omega
          obtain ⟨x0, hx0⟩ : ∃ x, nm C1.now a = x := ⟨_, rfl⟩
          rw [hx0] at hc
          clear hx0 hnow hdone hput c1 c2 c3 hca
          go_wp2_with fail
          refine (ccounted_any R4 a true hct.out).mono ?_
          rintro e w5 ⟨rfl, rfl⟩
          go_wp2
          exact ⟨⟨t + 1, by omega, by go_num, R5, Hgn.out hgd.out, T6⟩, by simp [intOf]; omega⟩
        · have hct := Lib.hid (show C1.counted a = false by rw [hcn.out]; exact decide_eq_false hca)
          have hgd := Lib.hid (show rowBad C.n C.first i l t = true by rw [hbad.out]; exact decide_eq_true ⟨hyi, by omega⟩)
          clear hca
          go_wp2_with fail
          refine (ccounted_any R4 a false hct.out).mono ?_
          rintro e w5 ⟨rfl, rfl⟩
          go_wp2
          go_ret
          exact ⟨.inr ⟨rfl, t, hlt, hgd.out⟩, T4⟩
    · have ht2 : t = 118 := by omega
      subst ht2
      go_wp2
      go_ret
      exact ⟨.inl ⟨rfl, hgood, R⟩, T⟩
end Go.Proofs.YtipejjgodnnkaaaGreatDoor

namespace Go.Proofs.YtipejjgodnnkaaaGreatDoor
open Go Go.RowKit Go.Proofs

set_option maxRecDepth 10000 in
set_option maxHeartbeats 4000000 in
theorem cload_in (n : Nat) (ls : List (List UInt8)) (h1 : 32 ≤ n) (h2 : n ≤ 2048) (A : Option Addr) (m c : Nat) {w : World} (H : Parts w A m c ls) (hm : m = areaN n) :
    Calls Tryz.prog 152 #[.int .i64 (n : Int), .slice A m c] w fun e w' => (((∀ i, i < areaN n → rowGood n (2 + 2 * areaN n) i (nth ls i)) ∧ ∃ p, e = .returned (.tuple #[.pointer (some ⟨p, 0, none⟩), .int .i64 0]) ∧ CCo w' p 0 (fun k => w.heap.size ≤ k) (loadC n ls) ∧ w.heap.size ≤ p) ∨
      ((¬ ∀ i, i < areaN n → rowGood n (2 + 2 * areaN n) i (nth ls i)) ∧ e = .returned (.tuple #[.pointer none, .int .i64 3]))) ∧ Below w.heap.size w w' := by
  obtain ⟨many, hmn⟩ : ∃ k, areaN n = k := ⟨_, rfl⟩
  have hm2 : many ≤ 1000 := by rw [← hmn]; unfold areaN; omega
  have Hmn := Lib.hid hmn
  have hm' : m = many := by omega
  subst hm'
  rw [hmn]
  clear hm hmn
  have hkc : m ≤ c := H.2.1
  have hmx : c ≤ maxLen := H.2.2.1
  unfold maxLen at hmx
  go_enter Tryz.func152, Tryz.ntmps152
  go_wp2_with fail
  refine (cnew_any n h1 h2 w).mono ?_
  rintro e w1 ⟨p, rfl, R, hpn, B⟩
  have c2 : w1.cell? ⟨p, 2, none⟩ = some (.int .i64 (m : Int)) := by
    obtain ⟨_, _, _, _, _, _, c2, _⟩ := R.open_
    rw [Ct.zero_n, Hmn.out] at c2
    exact c2
  have R := R.shrink
  obtain ⟨S, hS⟩ : ∃ S : Nat → Prop, (fun k => w.heap.size ≤ k ∧ k < w1.heap.size) = S := ⟨_, rfl⟩
  rw [hS] at R
  have hS1 : ∀ k, S k → w.heap.size ≤ k := fun k hk => by rw [← hS] at hk; exact hk.1
  clear hS
  have HS1 := Lib.hid hS1
  clear hS1
  go_wp2_with fail
  clear c2
  go_loopw [8, 9, 27] (fun _ _ i wr => ∃ j : Nat, j ≤ m ∧ i = .int .i64 (j : Int) ∧ CCo wr p 0 S (allTo n ls j) ∧ (∀ q, q < j → rowGood n (2 + 2 * m) q (nth ls q)) ∧ Below w.heap.size w wr) (fun _ _ i _ => m - (intOf i).toNat)
  case atStart => exact ⟨0, Nat.zero_le _, rfl, R, fun q hq => absurd hq (Nat.not_lt_zero _), B⟩
  case round =>
    clear R B
    obtain ⟨j, hj, rfl, R, hall, B⟩ := hrel
    by_cases hlt : j < m
    · obtain ⟨ad, A1, n1, c1, eA, hbl, hcl, hsl⟩ := H.cell hlt
      subst eA
      have hcr := (B.cell (p := ad.add j) (by rw [addr_block]; exact hbl)).trans hcl
      have hsr := hsl.below B
      have e3 : (j : Int) < (m : Int) := by omega
      have e0 : (0 : Int) ≤ (j : Int) := by omega
      have hl1 := hsl.len
      obtain ⟨l, hl⟩ : ∃ l, nth ls j = l := ⟨_, rfl⟩
      rw [hl] at hsl hsr hl1
      have Hl := Lib.hid hl
      have Hall := Lib.hid hall
      have Hl1 := Lib.hid hl1
      clear hl hall hcl hl1
      by_cases h236 : n1 = 236
      · subst h236
        have hA1 : ∀ ad, A1 = some ad → ¬ S ad.block := fun ad e => by
          obtain ⟨ad', e', hb, _⟩ := hsl.cell (k := 0) (by omega)
          rw [e] at e'
          injection e' with e'
          subst e'
          exact fun h => absurd (HS1.out _ h) (by omega)
        have HA1 := Lib.hid hA1
        have hsr2 := Lib.hid hsr
        clear hA1 hsr hsl
        have hnC : (allTo n ls j).n = n := allTo_n _ _ _
        have hfC : (allTo n ls j).first = 2 + 2 * m := by unfold Ct.first; rw [hnC, Hmn.out]
        have hzC : ∀ a, j * 118 ≤ a → a < (allTo n ls j).n → nm (allTo n ls j).now a = 0 := fun a ha1 ha2 => by
          rw [hnC] at ha2
          rw [allTo_now n ls j a ha2, if_neg (by omega)]
        have hstep : rowTo n j l (allTo n ls j) 118 = allTo n ls (j + 1) := by rw [← Hl.out]; rfl
        have hk := ctake_any R j (by omega) A1 c1 l hsr2.out HA1.out hzC
        rw [hnC, hfC, hstep] at hk
        have Hk := Lib.hid hk
        clear hk hnC hfC hzC hstep
        go_wp2_with fail
        refine Hk.out.mono ?_
        rintro e w4 ⟨⟨rfl, hg, R4⟩ | ⟨rfl, q, hq, hg⟩, T4⟩
        · have B4 := B.trans (T4.below (fun _ hk => HS1.out _ hk) B.size)
          have Hg := Lib.hid hg
          clear hg R
          go_wp2
          refine ⟨⟨j + 1, by omega, by go_num, R4, fun q hq => ?_, B4⟩, by simp [intOf]; omega⟩
          by_cases e : q = j
          · rw [e, Hl.out]
            exact ⟨Hl1.out, Hg.out⟩
          · exact Hall.out q (by omega)
        · have B4 := B.trans (T4.below (fun _ hk => HS1.out _ hk) B.size)
          have hno : ¬ ∀ i, i < m → rowGood n (2 + 2 * m) i (nth ls i) := fun hh => by
            have h3 := (hh j hlt).2 q hq
            rw [Hl.out, hg] at h3
            cases h3
          have Hno := Lib.hid hno
          clear hno hg
          go_wp2
          go_ret2
          exact ⟨.inr ⟨Hno.out, rfl⟩, B4⟩
      · have e4 : ¬ (n1 : Int) = 236 := by omega
        have hbad := Lib.hid (show ¬ ∀ i, i < m → rowGood n (2 + 2 * m) i (nth ls i) from fun hh => h236 (by have := (hh j hlt).1; rw [Hl.out] at this; exact Hl1.out.symm.trans this))
        have hb : ((n1 : Int) == 236) = false := by simpa using e4
        go_wp2
        go_ret2
        exact ⟨.inr ⟨hbad.out, rfl⟩, B⟩
    · have hjm : j = m := by omega
      subst hjm
      have Hall := Lib.hid hall
      clear hall
      go_wp2_with fail
      refine (ccommit_any R).mono ?_
      rintro e w5 ⟨rfl, R5, T5⟩
      go_wp2
      go_ret2
      refine ⟨.inl ⟨Hall.out, p, rfl, ?_, hpn⟩, B.trans (T5.below (fun _ hk => HS1.out _ hk) B.size)⟩
      exact (show loadC n ls = (allTo n ls j).commit by unfold loadC; rw [Hmn.out]) ▸ R5.mono fun k hk => HS1.out k hk
set_option maxHeartbeats 1000000 in
theorem cload_bad (n : Int) (h : n < 32 ∨ 2048 < n) (A : Option Addr) (m c : Nat) (w : World) :
    Calls Tryz.prog 152 #[.int .i64 n, .slice A m c] w fun e w' => e = .returned (.tuple #[.pointer none, .int .i64 1]) ∧ w = w' := by
  have H := Lib.hid h
  clear h
  go_enter Tryz.func152, Tryz.ntmps152
  go_wp2_with fail
  refine (cnew_bad n H.out w).mono ?_
  rintro e w1 ⟨rfl, rfl⟩
  go_wp2
  go_ret2
  exact ⟨rfl, rfl⟩
set_option maxHeartbeats 1000000 in
theorem cload_many (n : Nat) (h1 : 32 ≤ n) (h2 : n ≤ 2048) (A : Option Addr) (m c : Nat) (w : World) (hm : m ≠ areaN n) :
    Calls Tryz.prog 152 #[.int .i64 (n : Int), .slice A m c] w fun e w' => e = .returned (.tuple #[.pointer none, .int .i64 3]) ∧ Below w.heap.size w w' := by
  obtain ⟨k, hk⟩ : ∃ k, areaN n = k := ⟨_, rfl⟩
  rw [hk] at hm
  have Hk := Lib.hid hk
  have d0 : ¬ (m : Int) = (k : Int) := by omega
  have hb : ((m : Int) == (k : Int)) = false := by simpa using d0
  clear hk
  go_enter Tryz.func152, Tryz.ntmps152
  go_wp2_with fail
  refine (cnew_any n h1 h2 w).mono ?_
  rintro e w1 ⟨p, rfl, R, _, B⟩
  have c2 : w1.cell? ⟨p, 2, none⟩ = some (.int .i64 (k : Int)) := by
    obtain ⟨_, _, _, _, _, _, c2, _⟩ := R.open_
    rw [Ct.zero_n, Hk.out] at c2
    exact c2
  go_wp2
  go_ret2
  exact ⟨rfl, B⟩
/-- Load of anything. -/
theorem cload_any (n : Int) (ls : List (List UInt8)) (A : Option Addr) (m c : Nat) {w : World} (H : Parts w A m c ls) :
    Calls Tryz.prog 152 #[.int .i64 n, .slice A m c] w fun e w' => ((loadE n ls = 0 ∧ ∃ p, e = .returned (.tuple #[.pointer (some ⟨p, 0, none⟩), .int .i64 0]) ∧ CCo w' p 0 (fun k => w.heap.size ≤ k) (loadC n.toNat ls) ∧ w.heap.size ≤ p) ∨
      (loadE n ls ≠ 0 ∧ e = .returned (.tuple #[.pointer none, .int .i64 (loadE n ls)]))) ∧ Below w.heap.size w w' := by
  by_cases hn : 32 ≤ n ∧ n ≤ 2048
  · obtain ⟨k, rfl⟩ := Int.eq_ofNat_of_zero_le (show 0 ≤ n by omega)
    by_cases hm : m = areaN k
    · refine (cload_in k ls (by omega) (by omega) A m c H hm).mono ?_
      have hl : ls.length = areaN k := H.len.trans hm
      rintro e w' ⟨⟨hg, p, rfl, R, hpn⟩ | ⟨hg, rfl⟩, B⟩
      · have hE : loadE (k : Int) ls = 0 := by unfold loadE; rw [Int.toNat_natCast, if_neg (fun h => h hn), if_neg (fun h => h.elim (fun h => h hl) (fun h => h hg))]
        exact ⟨.inl ⟨hE, p, rfl, R, hpn⟩, B⟩
      · have hE : loadE (k : Int) ls = 3 := by unfold loadE; rw [Int.toNat_natCast, if_neg (fun h => h hn), if_pos (.inr hg)]
        rw [hE]
        exact ⟨.inr ⟨by omega, rfl⟩, B⟩
    · refine (cload_many k (by omega) (by omega) A m c w hm).mono ?_
      rintro e w' ⟨rfl, B⟩
      have hE : loadE (k : Int) ls = 3 := by unfold loadE; rw [Int.toNat_natCast, if_neg (fun h => h hn), if_pos (.inl (by rw [H.len]; exact hm))]
      rw [hE]
      exact ⟨.inr ⟨by omega, rfl⟩, B⟩
  · refine (cload_bad n (by omega) A m c w).mono ?_
    rintro e w' ⟨rfl, rfl⟩
    have hE : loadE n ls = 1 := by unfold loadE; rw [if_pos hn]
    rw [hE]
    exact ⟨.inr ⟨by omega, rfl⟩, Below.refl _ _⟩
end Go.Proofs.YtipejjgodnnkaaaGreatDoor
