/- Seal's unpacked: eleven bytes as a header. -/
import Derived.Test.YtipejjgodnnkaaaGreatDoorPy4
import Derived.Deep.RegionHeld3
namespace Go.Proofs.YtipejjgodnnkaaaGreatDoor
open Go Go.RowKit Go.Proofs

def fpos : Nat → Nat | 0 => 0 | 1 => 1 | 2 => 2 | 3 => 4 | 4 => 6 | _ => 11
/-- The k-th number that a block's bytes hold. -/
def rdF (l : List UInt8) (k : Nat) : Nat := numL ((l.drop (fpos k)).take (fwid k).toNat)
/-- The header after k fields. -/
def rdTo (l : List UInt8) : Nat → Hd
  | 0 => Hd.zero
  | k + 1 => (rdTo l k).set k (rdF l k)
/-- What eleven bytes say. -/
def hdOf (l : List UInt8) : Hd := ⟨numL (l.take 1), numL ((l.drop 2).take 2), numL ((l.drop 4).take 2), numL ((l.drop 1).take 1), numL ((l.drop 6).take 5)⟩
theorem rdTo_all (l : List UInt8) : rdTo l 5 = hdOf l := rfl
theorem fpos_next (k : Nat) (hk : k < 5) : fpos (k + 1) = fpos k + (fwid k).toNat := by
  match k, hk with
  | 0, _ => rfl
  | 1, _ => rfl
  | 2, _ => rfl
  | 3, _ => rfl
  | 4, _ => rfl
theorem fpos_le (k : Nat) (hk : k ≤ 5) : fpos k ≤ 11 := by
  match k, hk with
  | 0, _ => decide
  | 1, _ => decide
  | 2, _ => decide
  | 3, _ => decide
  | 4, _ => decide
  | 5, _ => decide
theorem HB.set_ {w : World} {bp : Nat} {h : Hd} (H : HB w bp h) (k : Nat) (x : Int) : HB (w.setCell ⟨bp, foff k, none⟩ (.int .i64 x)) bp (h.set k x) := by
  obtain ⟨t, H⟩ := H
  refine ⟨t, (heap_setCell_same w bp (foff k) _ t (.int .i64 x) H).trans ?_⟩
  match k with
  | 0 => rfl
  | 1 => rfl
  | 2 => rfl
  | 3 => rfl
  | _ + 4 => rfl
theorem HB.fz {w : World} {bp : Nat} {h : Hd} (H : HB w bp h) (k : Nat) : w.frozen? ⟨bp, foff k, none⟩ = false := by
  obtain ⟨t, H⟩ := H
  unfold World.frozen?
  rw [H]
  simp
theorem HB.zero (w : World) (t : TypeId) : HB (w.alloc (.cells #[.int .i64 0, .int .i64 0, .int .i64 0, .int .i64 0, .int .i64 0] t)) w.heap.size Hd.zero := ⟨t, heap_alloc_new w _⟩

theorem Own.turn {w w' : World} {base n c : Nat} {e : TypeId} {A : Option Addr} {l : List UInt8} (h : Own w base e A n c l) (hk : ∀ g, base ≤ g → g < w.heap.size → w'.heap[g]? = w.heap[g]?) : Own w' base e A n c l := by
  refine ⟨h.1, ?_⟩
  rcases h.2 with hv | ⟨g, cap, cur, hv, h1, hg, r⟩
  · exact .inl hv
  · exact .inr ⟨g, cap, cur, hv, h1, (hk g h1 (Array.getElem?_eq_some_iff.1 hg).1).trans hg, r⟩
def Hd.vs (h : Hd) : List Value := [.int .i64 h.kind, .int .i64 h.addr, .int .i64 h.count, .int .i64 h.level, .int .i64 h.gen]
theorem HB.range {w : World} {bp : Nat} {h : Hd} (H : HB w bp h) : w.rangeAt bp 0 h.vs := fun j v hv => by
  obtain ⟨t, H⟩ := H
  rw [cell_of_row _ _ _ _ _ _ H, Nat.zero_add]
  simpa [Hd.vs] using hv
theorem HB.there {w : World} {bp : Nat} {h : Hd} (H : HB w bp h) : w.there bp 0 5 := fun j hj => by
  obtain ⟨t, H⟩ := H
  refine ⟨?_, by unfold World.frozen?; rw [H]; simp⟩
  rw [cell_of_row _ _ _ _ _ _ H, Nat.zero_add, Array.getElem?_eq_getElem (by simpa using hj)]; rfl
theorem wp_load_hd {ops : Array Oper} {rest : List Oper} {o : Oper} {a : Act} {w : World} {Q : Exit → Act → World → Prop} (hg : o.guard = none) (x : Operand) (hop : o.op = Op.load 118 x)
    (b : Nat) (hx : a.eval x = .pointer (some ⟨b, 0, none⟩)) (h : Hd) (H : HB w b h) (hK : wpList Tryz.prog ops Q rest (a.put o.dst h.v) w) : wpList Tryz.prog ops Q (o :: rest) a w :=
  wpList_load_mid hg _ x hop b 0 hx h.vs _ H.range Tryz.underlying118 rfl (by kernel_rfl) hK
theorem wp_store_hd {ops : Array Oper} {rest : List Oper} {o : Oper} {a : Act} {w : World} {Q : Exit → Act → World → Prop} (hg : o.guard = none) (x y : Operand) (hop : o.op = Op.store 118 x y)
    (b : Nat) (hx : a.eval x = .pointer (some ⟨b, 0, none⟩)) (h h0 : Hd) (hy : a.eval y = h.v) (H : HB w b h0) (hb : b < w.heap.size)
    (hK : ∀ w', w'.rangeAt b 0 h.vs → (∀ B, B ≤ b → Below B w w') → Turn (fun k => k = b) w w' → wpList Tryz.prog ops Q rest (a.put o.dst undef) w') : wpList Tryz.prog ops Q (o :: rest) a w :=
  wpList_store_mid hg _ x y hop b 0 h.vs.toArray hx hy H.there (by kernel_rfl) (by simp [Hd.vs, Value.oneCell'])
    (hK _ (World.rangeAt_setCells_same _ _ _ _ H.there) (fun B hB => (turn_setCells (S := fun k => k = b) rfl h.vs 0 w).below (fun x hx => by omega) (by omega)) (turn_setCells (S := fun k => k = b) rfl h.vs 0 w))

set_option maxRecDepth 10000 in
set_option maxHeartbeats 2000000 in
theorem unpacked_any (A : Option Addr) (c : Nat) (l : List UInt8) (w : World) (hs : Sl w A 11 c l) :
    Calls Tryz.prog 178 #[.slice A 11 c] w fun e w' => e = .returned (hdOf l).v ∧ Below w.heap.size w w' := by
  go_enter Tryz.func178, Tryz.ntmps178
  go_wp2_with (go_at_call 189; refine (fields_any (w.heap.size + 1) _).mono ?_; rintro e w2 ⟨rfl, hb2⟩)
  have hsz := hb2.size
  simp only [World.size_alloc] at hsz hb2
  have hb0 : Below w.heap.size w w2 := (((Below.refl _ w).alloc (Nat.le_refl _) _).alloc (by simp) _).trans (hb2.mono (by omega))
  have hR : HB w2 w.heap.size Hd.zero := ((HB.zero w _).below ((Below.refl _ _).alloc (Nat.le_refl _) _) (by simp)).below hb2 (by omega)
  have hH : HB w2 (w.heap.size + 1) Hd.zero := by
    have := HB.zero (w.alloc (.cells #[.int .i64 0, .int .i64 0, .int .i64 0, .int .i64 0, .int .i64 0] 118)) 118
    rw [World.size_alloc] at this
    exact this.below hb2 (by omega)
  clear hb2
  have hl := hs.len
  go_loopw [0, 7] (fun s i wr => ∃ (k : Nat) (A : Option Addr) (c : Nat), k ≤ 5 ∧ s = .slice A (11 - fpos k) c ∧ i = .int .i64 (k : Int) ∧ Sl wr A (11 - fpos k) c (l.drop (fpos k)) ∧ HB wr w.heap.size Hd.zero ∧ HB wr (w.heap.size + 1) (rdTo l k) ∧ Below w.heap.size w wr ∧ w.heap.size + 2 ≤ wr.heap.size) (fun _ i _ => 5 - (intOf i).toNat)
  case atStart => exact ⟨0, A, c, by omega, rfl, rfl, by simpa [fpos] using hs.below hb0, hR, hH, hb0, by omega⟩
  case round =>
    obtain ⟨k, A1, c1, hk, rfl, rfl, hs1, hR1, H, hB, hlt⟩ := hrel
    by_cases h5 : k < 5
    · have hix := idx4 (w.heap.size + 1) k h5
      have hk0 : (0 : Int) ≤ (k : Int) := by omega
      go_wp2
      generalize hw1 : wr.alloc _ = w1
      have hB1 : Below wr.heap.size wr w1 := by rw [← hw1]; exact (Below.refl _ _).alloc (Nat.le_refl _) _
      have hn : w1.heap[wr.heap.size]? = some (.cells #[.pointer (some ⟨w.heap.size + 1, foff k, none⟩), .int .i64 (fwid k), .int .i64 (flea k), .int .i64 (fmos k)] 230 (0, 0)) := by rw [← hw1]; exact heap_alloc_new wr _
      have hz1 : w1.heap.size = wr.heap.size + 1 := by rw [← hw1]; simp
      clear hw1 hix
      have q0 : w1.cell? ⟨wr.heap.size, 0, none⟩ = some (.pointer (some ⟨w.heap.size + 1, foff k, none⟩)) := by rw [cell_of_row _ _ _ _ _ _ hn]; rfl
      have q1 : w1.cell? ⟨wr.heap.size, 1, none⟩ = some (.int .i64 (fwid k)) := by rw [cell_of_row _ _ _ _ _ _ hn]; rfl
      have H1 := H.below hB1 (by omega)
      have hR2 := hR1.below hB1 (by omega)
      have hs2 := hs1.below hB1
      have hBw := hB.trans (hB1.mono hB.size)
      have hp1 := fpos_next k h5
      have hp2 := fpos_le (k + 1) (by omega)
      have hfw := fwid_in k
      have hd2 : (l.drop (fpos k)).drop (fwid k).toNat = l.drop (fpos (k + 1)) := by rw [List.drop_drop, hp1]
      have hrd : (numL ((l.drop (fpos k)).take (fwid k).toNat) : Int) = (rdF l k : Int) := rfl
      clear hB H hn hB1 hs1 hR1
      have HT := fun (w' : World) (h' : Sl w' A1 (11 - fpos k) c1 (l.drop (fpos k))) => take_yes A1 (11 - fpos k) c1 (l.drop (fpos k)) (fwid k) w' h' (by omega) (by omega) (by omega) (by omega)
      rw [hd2, hrd] at HT
      have hS : ∀ w' : World, Turn (fun k => k = w.heap.size + 1) w1 w' → w'.cell? ⟨wr.heap.size, 0, none⟩ = some (.pointer (some ⟨w.heap.size + 1, foff k, none⟩)) ∧ w'.cell? ⟨wr.heap.size, 1, none⟩ = some (.int .i64 (fwid k)) ∧ Turn (fun k => k = w.heap.size + 1) w1 w' := fun w' T => ⟨(World.cell?_of_block (T.block wr.heap.size (by omega) (by show ¬ (wr.heap.size = w.heap.size + 1); omega))).trans q0, (World.cell?_of_block (T.block wr.heap.size (by omega) (by show ¬ (wr.heap.size = w.heap.size + 1); omega))).trans q1, T⟩
      have TD : Turn (fun k => k = w.heap.size + 1) w1 w1.drew := turn_below (Below.refl _ _).drew
      go_region_held3 (fun w' => w'.cell? ⟨wr.heap.size, 0, none⟩ = some (.pointer (some ⟨w.heap.size + 1, foff k, none⟩)) ∧ w'.cell? ⟨wr.heap.size, 1, none⟩ = some (.int .i64 (fwid k)) ∧ Turn (fun k => k = w.heap.size + 1) w1 w')
        (first | assumption | exact hS _ TD | (go_split_ands; exact hS _ (Turn.then ‹Turn (fun k => k = w.heap.size + 1) w1 _› (turn_below ‹Below (World.heap _).size _ _›))) | (go_split_ands; exact hS _ (Turn.then ‹Turn (fun k => k = w.heap.size + 1) w1 _› (turn_setCell _ rfl))))
        (first
          | (go_at_call 185; refine (HT _ hs2.drew).mono ?_; rintro e w3 ⟨A3, n3, c3, rfl, hown3, hb3⟩; have hb4 : Below w1.heap.size w1 w3 := (Below.refl _ w1).drew.trans hb3; have H3 := H1.below hb4 (by omega); have q5 := H3.at_ k; have q6 := H3.fz k)
          | fail)
      have hn3 : n3 = 11 - fpos (k + 1) := by have := hown3.len; rw [List.length_drop, hl] at this; omega
      subst hn3
      go_wp2
      have hb5 : Below (w.heap.size + 1) w3 (w3.setCell ⟨w.heap.size + 1, foff k, none⟩ (.int .i64 (rdF l k : Int))) := (Below.refl _ w3).setCell (p := ⟨w.heap.size + 1, foff k, none⟩) (Nat.le_refl _) _
      have hz4 := hb4.size
      refine ⟨⟨k + 1, A3, c3, by omega, rfl, rfl, ?_, (hR2.below hb4 (by omega)).below hb5 (by omega), H3.set_ k _, (hBw.trans (hb4.mono hBw.size)).trans (hb5.mono (by omega)), by show w.heap.size + 2 ≤ (w3.setCell _ _).heap.size; rw [World.size_setCell]; omega⟩, by simp [intOf]; omega⟩
      exact (hown3.turn fun g hg _ => Below.heap_setCell _ _ _ _ (by show g ≠ w.heap.size + 1; have h1 : w1.drew.heap.size = w1.heap.size := rfl; omega)).sl
    · have hk5 : k = 5 := by omega
      go_wp2_with (first
        | (refine wp_load_hd rfl _ rfl _ rfl _ H ?_)
        | (refine wp_store_hd rfl _ _ rfl _ rfl _ _ rfl hR1 (by omega) ?_; intro w4 hr4 hb4 _))
      refine bodyPost_ret (v := (hdOf l).v) ?_ rfl ⟨rfl, ?_⟩
      · rw [hk5, rdTo_all] at hr4
        exact results_cell1 Tryz.results178 rfl (run_loadVar_mid _ w.heap.size 0 118 _ _ hr4 Tryz.underlying118 rfl (by kernel_rfl))
      · exact hB.trans (hb4 _ (Nat.le_refl _))
end Go.Proofs.YtipejjgodnnkaaaGreatDoor
