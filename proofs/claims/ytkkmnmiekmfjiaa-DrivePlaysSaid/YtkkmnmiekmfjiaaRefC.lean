/- The reference's Write. -/
import Derived.Test.YtkkmnmiekmfjiaaRefB
namespace Go.Proofs.Ytkkmnmiekmfjiaa
open Go Go.RowKit Go.Proofs

theorem fz_row {w : World} {b : Nat} {c : Array Value} {t : TypeId} (h : w.heap[b]? = some (.cells c t (0, 0))) (j : Nat) : w.frozen? ⟨b, j, none⟩ = false := by
  unfold World.frozen?
  rw [show (⟨b, j, none⟩ : Addr).block = b from rfl, h]
  simp
/-- An append of one cell onto a row that may have been cut ahead. -/
theorem irow_app {P : Program} {t e : TypeId} {z : Value} (ht : P.underlying t = some (.slice e)) (he : (P.info? e).map (fun i => (i.zero, i.size, i.bytes)) = some (some z, 1, 24)) (w : World) (v : Value) (vs : List Value) (h : IRow w v vs) (hn : vs.length ≤ 1000000)
    (a : Addr) (d : Nat) (x : Value) (hx : w.cell? a = some x) (h1 : x.oneCell' = true) (hz : z.cells.size = 1) (ty : TypeId) :
    ∃ v' w', (Builtin.append_ #[t, t] ty #[v, .slice (some a) 1 d]).run P w = .ok v' w' ∧ IRow w' v' (vs ++ [x]) ∧ Turn (fun k => v.ownBlock = some k) w w' ∧ (v'.ownBlock = v.ownBlock ∨ ∃ g, v'.ownBlock = some g ∧ w.heap.size ≤ g) := by
  obtain ⟨i, hi, hz0, hz1, hz2⟩ := info_parts he
  obtain ⟨g, o, c, rfl, hc1, hc2, h3, h4⟩ := h
  have hnews : ∀ (j : Nat) u, [x][j]? = some u → w.cell? (a.add j) = some u := fun j u hu => by
    rcases j with _ | j
    · have h0 : x = u := by simpa using hu
      rw [← h0]
      simpa [Addr.add] using hx
    · simp at hu
  by_cases hroom : vs.length + 1 ≤ c
  · have hth := h4 vs.length (by omega)
    have hs0 : ∀ j, j < [x].length → (w.cell? ⟨g, o + vs.length * i.size + j, none⟩).isSome = true ∧ w.frozen? ⟨g, o + vs.length * i.size + j, none⟩ = false := fun j hj => by
      have h0 : j = 0 := by simpa using hj
      subst h0
      rw [hz1, Nat.mul_one, Nat.add_zero]
      exact hth
    have hrun := run_append_room_cells (P := P) (w := w) t ty e i ht hi g o vs.length c a 1 d [x] (by rw [hz1]; rfl) hnews (by intro u hu; rw [List.mem_singleton.1 hu]; exact h1) hroom
      (fun j hj => hs0 j hj |>.1) (fun j hj => hs0 j hj |>.2)
    rw [hz1, Nat.mul_one] at hrun
    refine ⟨_, _, hrun, ⟨g, o, c, by simp, by simpa using hroom, hc2, fun j u hu => ?_, World.there_setCells h4 _ _ _⟩, (turn_setCells (S := fun k => (some g) = some k) rfl _ _ _), .inl rfl⟩
    by_cases hj : j < vs.length
    · rw [List.getElem?_append_left hj] at hu
      exact World.rangeAt_setCells_apart h3 g (o + vs.length) [x] (.inr (.inl (Nat.le_refl _))) j u hu
    · have hj2 : j = vs.length := by
        have := (List.getElem?_eq_some_iff.1 hu).1
        simp at this; omega
      subst hj2
      rw [List.getElem?_append_right (Nat.le_refl _), Nat.sub_self] at hu
      have := World.rangeAt_setCells_same w g (o + vs.length) [x] (fun j hj => by
        have h0 : j = 0 := by simpa using hj
        subst h0
        rw [Nat.add_zero]
        exact hth) 0 u hu
      simpa using this
  · have hrun := run_append_grow (P := P) w t ty e i z ht hi hz0 ⟨g, o, none⟩ vs.length c vs (by rw [hz1]; omega) (fun j u hu => by rw [Addr.add_mid]; exact h3 j u hu) a 1 d [x] (by rw [hz1]; rfl) hnews (by omega) (by omega) (growslice_fits (by omega) (by rw [hz2]; omega))
    have hge := grownCap_ge w (vs.length + 1) c e
    have hcap := grownCap_le_maxLen w (vs.length + 1) c e (by unfold maxLen; omega)
    have hblk : (w.drew.alloc (.cells (vs.toArray ++ [x].toArray ++ Builtin.zeroCells z.cells (grownCap w (vs.length + 1) c e - (vs.length + 1))) e)).heap[w.heap.size]? = some (.cells (vs.toArray ++ [x].toArray ++ Builtin.zeroCells z.cells (grownCap w (vs.length + 1) c e - (vs.length + 1))) e (0, 0)) := heap_alloc_new w.drew _
    refine ⟨_, _, hrun, ⟨w.heap.size, 0, _, by simp, by simpa using hge, hcap, fun j u hu => ?_, fun j hj => ⟨?_, fz_row hblk _⟩⟩, (Turn.refl _ w).drew.then (turn_alloc _ _ _), .inr ⟨_, rfl, Nat.le_refl _⟩⟩
    · rw [cell_of_row _ _ _ _ _ _ hblk, Nat.zero_add]
      have hj : j < vs.length + 1 := by
        have := (List.getElem?_eq_some_iff.1 hu).1
        simpa using this
      rw [Array.getElem?_append_left (by simp; omega), ← hu]
      simp
    · rw [cell_of_row _ _ _ _ _ _ hblk, Nat.zero_add]
      rw [Array.getElem?_eq_getElem (by simp [size_zeroCells, hz]; omega)]; rfl
theorem Q64 : (Try.prog.info? 35).map (fun i => (i.zero, i.size, i.bytes)) = some (some (.slice none 0 0), 1, 24) := by kernel_rfl

/-- A fresh literal of one cell. -/
theorem irow_lit (w : World) (x : Value) (t : TypeId) : IRow (w.alloc (.cells #[x] t)) (.slice (some ⟨w.heap.size, 0, none⟩) 1 1) [x] := by
  have hb : (w.alloc (.cells #[x] t)).heap[w.heap.size]? = some (.cells #[x] t (0, 0)) := heap_alloc_new w _
  refine ⟨w.heap.size, 0, 1, rfl, Nat.le_refl _, by unfold maxLen; omega, fun j u hu => ?_, fun j hj => ?_⟩
  · rw [cell_of_row _ _ _ _ _ _ hb, Nat.zero_add]; simpa using hu
  · have h0 : j = 0 := by omega
    subst h0
    exact ⟨by rw [cell_of_row _ _ _ _ _ _ hb]; rfl, fz_row hb _⟩
theorem own_brow {w : World} {base : Nat} {A : Option Addr} {c : Nat} {l : List UInt8} (h : Own w base 5 A 256 c l) : BRow w (.slice A 256 c) l ∧ ∀ g, (Value.slice A 256 c).ownBlock = some g → base ≤ g := by
  have hl := h.len
  rcases h.2 with ⟨hv, h0⟩ | ⟨g, cap, cur, hv, h1, hg, h2, h3, h4, h5⟩
  · omega
  · injection hv with hA _ hc
    subst hA; subst hc
    refine ⟨⟨g, 0, _, rfl, h2, h3, hl, fun j u hu => ?_, fun j hj => ?_⟩, fun g' e => by cases e; exact h1⟩
    · rw [cell_of_row _ _ _ _ _ _ hg, Nat.zero_add]
      have hj : j < 256 := by have := (List.getElem?_eq_some_iff.1 hu).1; rw [bvs_len] at this; omega
      have h6 : (cur.toList.take (256 * 1))[j]? = (l.map bv)[j]? := by rw [h5]
      rw [List.getElem?_take_of_lt (by omega), Array.getElem?_toList] at h6
      rw [h6]; exact hu
    · refine ⟨?_, fz_row hg _⟩
      rw [cell_of_row _ _ _ _ _ _ hg, Nat.zero_add, Array.getElem?_eq_getElem (by omega)]; rfl
end Go.Proofs.Ytkkmnmiekmfjiaa
