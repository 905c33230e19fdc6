/- copy into the call's own row of bytes; seal's summed and noughts. -/
import Derived.Test.YtkkmnmiekmfjiaaDoorSealC
import Derived.Laws.CopyOwn
namespace Go.Proofs.YtkkmnmiekmfjiaaDoor
open Go Go.RowKit Go.Proofs

theorem splice_map {α β : Type} (f : α → β) (L : List α) (o : Nat) (cs : List α) : splice (L.map f) o (cs.map f) = (splice L o cs).map f := by simp [splice]
theorem Own.whole {w : World} {base n g : Nat} {e : TypeId} {l : List UInt8} (h : Own w base e (some ⟨g, 0, none⟩) n n l) : base ≤ g ∧ w.heap[g]? = some (.cells (l.map bv).toArray e (0, 0)) ∧ n ≤ maxLen := by
  rcases h.2 with ⟨hv, _⟩ | ⟨g', cap, cur, hv, hb, hg, h1, h2, h3, h4⟩
  · injection hv with e1; cases e1
  · injection hv with e1 e2 e3
    injection e1 with e1
    injection e1 with e1
    subst e1; subst e3
    refine ⟨hb, ?_, h2⟩
    rw [← h4, List.take_of_length_le (by simp [h3])]
    exact hg
theorem Own.of_whole {w : World} {base n g : Nat} {e : TypeId} {l : List UInt8} (hb : base ≤ g) (hg : w.heap[g]? = some (.cells (l.map bv).toArray e (0, 0))) (hl : l.length = n) (hm : n ≤ maxLen) : Own w base e (some ⟨g, 0, none⟩) n n l :=
  ⟨by simpa using hl, .inr ⟨g, n, _, rfl, hb, hg, Nat.le_refl _, hm, by simpa using hl, by rw [List.take_of_length_le (by simp [hl])]⟩⟩

/-- copy(b[off:..], s) -/
theorem wp_copy_b {P : Program} {t e : TypeId} (T : ByteT P t e) {w : World} {ops : Array Oper} {rest : List Oper} {o : Oper} {a : Act} {Q : Exit → Act → World → Prop} (hgd : o.guard = none) (d s : Operand)
    (ho : o.op = .call { callee := .builtin .copy, args := #[d, s], argTypes := #[t, t] })
    (base g n : Nat) (l : List UInt8) (hown : Own w base e (some ⟨g, 0, none⟩) n n l) (off dLen dCap : Nat) (hd : a.eval d = .slice (some ⟨g, off, none⟩) dLen dCap)
    (B : Option Addr) (m c : Nat) (l2 : List UInt8) (hs : a.eval s = .slice B m c) (hr : Sl w B m c l2) (hmd : m ≤ dLen) (hfit : off + m ≤ n)
    (hK : ∀ w', Own w' base e (some ⟨g, 0, none⟩) n n (splice l off l2) → Below base w w' → wpList P ops Q rest (a.put o.dst (goInt m)) w') : wpList P ops Q (o :: rest) a w := by
  obtain ⟨i, hi, hz0, hz1, hz2⟩ := info_parts T.info
  obtain ⟨hb, hg, hm⟩ := hown.whole
  have hl := hown.len
  have hl2 := hr.len
  refine wpList_copy_splice hgd d s t t ho e T.sl (by rw [hi]; simp [hz1]) _ _ _ _ _ _ hd hs g off (l.map bv) e hg (l2.map bv) (by rw [List.length_map, hl2]; exact (Nat.min_eq_left hmd).symm) (fun h0 => ?_) (by simp; omega) (bv_one _) base w (Below.refl _ _) hb ?_
  · rw [List.length_map] at h0
    obtain ⟨ad, rfl, _⟩ := hr.cell (k := 0) (by omega)
    refine ⟨rfl, ad, rfl, fun j v hv => ?_⟩
    obtain ⟨ad', e1, _, hc⟩ := hr.2.2.2 j v hv
    injection e1 with e1
    subst e1
    exact hc
  · intro w' hg' hb'
    have hg' := hg'.out
    rw [splice_map] at hg'
    have := hK w' (Own.of_whole hb hg' (by rw [length_splice _ _ _ (by omega), hl]) hm) hb'
    rw [List.length_map, hl2]
    exact this

/-- The same as a step of a region that draws its order. -/
theorem step_copy_b {P : Program} {t e : TypeId} (T : ByteT P t e) {w : World} {ops : Array Oper} {o : Oper} {a : Act} {K : Act → World → Prop} {Q : Exit → Act → World → Prop} {E : Prop} (hgd : o.guard = none) (d s : Operand)
    (ho : o.op = .call { callee := .builtin .copy, args := #[d, s], argTypes := #[t, t] })
    (base g n : Nat) (l : List UInt8) (hown : Own w base e (some ⟨g, 0, none⟩) n n l) (off dLen dCap : Nat) (hd : a.eval d = .slice (some ⟨g, off, none⟩) dLen dCap)
    (B : Option Addr) (m c : Nat) (l2 : List UInt8) (hs : a.eval s = .slice B m c) (hr : Sl w B m c l2) (hmd : m ≤ dLen) (hfit : off + m ≤ n)
    (hK : ∀ w', Own w' base e (some ⟨g, 0, none⟩) n n (splice l off l2) → Below g w w' → K (a.put o.dst (goInt m)) w') : if Region.wanted o (yielded ops a.tmps) = true then Oper.wp P o a w K Q else E := by
  obtain ⟨i, hi, hz0, hz1, hz2⟩ := info_parts T.info
  obtain ⟨hb, hg, hm⟩ := hown.whole
  have hl := hown.len
  have hl2 := hr.len
  refine step_copy_splice hgd d s t t ho e T.sl (by rw [hi]; simp [hz1]) _ _ _ _ _ _ hd hs g off (l.map bv) e hg (l2.map bv) (by rw [List.length_map, hl2]; exact (Nat.min_eq_left hmd).symm) (fun h0 => ?_) (by simp; omega) (bv_one _) g w (Below.refl _ _) (Nat.le_refl _) ?_
  · rw [List.length_map] at h0
    obtain ⟨ad, rfl, _⟩ := hr.cell (k := 0) (by omega)
    refine ⟨rfl, ad, rfl, fun j v hv => ?_⟩
    obtain ⟨ad', e1, _, hc⟩ := hr.2.2.2 j v hv
    injection e1 with e1
    subst e1
    exact hc
  · intro w' hg' hb'
    have hg' := hg'.out
    rw [splice_map] at hg'
    have := hK w' (Own.of_whole hb hg' (by rw [length_splice _ _ _ (by omega), hl]) hm) hb'
    rw [List.length_map, hl2]
    exact this

/-- The four bytes that a block's sum should have. -/
def sumB (l : List UInt8) : List UInt8 := dig (more 0 (l.drop 4) : Nat) 4
set_option maxHeartbeats 1000000 in
theorem summed_any (A : Option Addr) (n c : Nat) (l : List UInt8) (w : World) (hs : Sl w A n c l) (hn : 5 ≤ n) (ht : Tab w) :
    Calls Tryd.prog 17 #[.slice A n c] w fun e w' => ∃ A' n' c', e = .returned (.slice A' n' c') ∧ Own w' w.heap.size 5 A' n' c' (sumB l) ∧ Below w.heap.size w w' := by
  have hc := hs.cap
  have hm := hs.max
  unfold maxLen at hm
  have h3 := hs.drop (k := 4) (by omega)
  have hc4 : ¬ c = 4 := by omega
  rw [if_neg hc4] at h3
  have hlt := more_lt 0 (l.drop 4)
  generalize hS : more 0 (l.drop 4) = s at hlt
  have hput : putS [] (s : Int) 4 = sumB l := by unfold putS sumB; rw [hS]; simp
  go_enter Tryd.func17, Tryd.ntmps17
  go_wp2_with (first
    | (go_at_call 26; refine (sum_any _ (n - 4) (c - 4) (l.drop 4) _ h3 ht).mono ?_; rw [hS]; rintro e w3 ⟨rfl, rfl⟩)
    | (go_at_call 25; refine (put_any none 0 0 [] (s : Int) 4 _ (sl_nil _) (by omega)).mono ?_; rw [hput]; rintro e w3 ⟨A3, n3, c3, rfl, hown3, hb3⟩))
  go_ret
  exact ⟨_, _, _, rfl, hown3, hb3⟩

/-- Whether all are noughts. -/
def allZ (l : List UInt8) : Bool := l.all (· == 0)
set_option maxHeartbeats 1000000 in
theorem noughts_any (A : Option Addr) (n c : Nat) (l : List UInt8) (w : World) (hs : Sl w A n c l) :
    Calls Tryd.prog 22 #[.slice A n c] w fun e w' => e = .returned (.bool (allZ l)) ∧ w = w' := by
  have hc := hs.cap
  have hm := hs.max
  have hlen := hs.len
  unfold maxLen at hm
  go_enter Tryd.func22, Tryd.ntmps22
  go_wp2
  go_loop [7] (fun i => ∃ k : Nat, k ≤ n ∧ i = .int .i64 (k : Int) ∧ ∀ j < k, byt l j = 0) (fun i => n - (intOf i).toNat)
  case atStart => exact ⟨0, Nat.zero_le _, rfl, fun j hj => by omega⟩
  case round =>
    obtain ⟨k, hk, rfl, hin⟩ := hrel
    by_cases hlt : k < n
    · obtain ⟨ad, rfl, hb, hcell⟩ := hs.cell hlt
      have hb1 := byt_le l k
      by_cases h0 : byt l k = 0
      · have h0' : (byt l k : Int) = 0 := by omega
        go_wp2
        exact ⟨⟨k + 1, by omega, by go_num, fun j hj => by by_cases hjk : j = k; (rw [hjk]; exact h0); exact hin j (by omega)⟩, by simp [intOf]; omega⟩
      · have h0' : ¬ (byt l k : Int) = 0 := by omega
        have hz : allZ l = false := by
          cases hq : allZ l
          · rfl
          · have := List.all_eq_true.1 hq (l.getD k 0) (by rw [List.getD_eq_getElem?_getD, List.getElem?_eq_getElem (by omega)]; simp)
            simp at this
            unfold byt at h0
            rw [List.getD_eq_getElem?_getD, this] at h0
            exact absurd rfl h0
        go_wp2
        go_ret
        exact ⟨by first | rfl | (rw [hz]; rfl), rfl⟩
    · have hkn : k = n := by omega
      have hz : allZ l = true := by
        refine List.all_eq_true.2 fun x hx => ?_
        obtain ⟨j, hj, rfl⟩ := List.getElem_of_mem hx
        have := hin j (by omega)
        unfold byt at this
        rw [List.getD_eq_getElem?_getD, List.getElem?_eq_getElem hj] at this
        simpa using UInt8.toNat_inj.1 this
      go_wp2
      go_ret
      exact ⟨by first | rfl | (rw [hz]; rfl), rfl⟩
end Go.Proofs.YtkkmnmiekmfjiaaDoor
