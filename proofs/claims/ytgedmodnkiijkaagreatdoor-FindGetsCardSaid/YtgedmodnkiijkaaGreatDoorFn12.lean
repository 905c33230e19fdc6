/- Rows cut into parts by numbers, as plain data. The reference's May: whether a node may be. Trees as plain data: how a tree is grown over a row, level by level. A drive that is on its way through a law: what is kept of the caller's memory, call by call. Parts of rows of structs; rows of nodes. The reference's Kids: the blocks that a node names. The reference's cut. How arrays of ints, slices of pairs and slices of ints that come in are opened. How two rows of texts by value, and a struct of an int and a row of ints, come in. How the laws' arguments come in: a row of items and a row of numbers in one struct, two keys, rows of keys, three numbers. How three numbers in one array come in. -/
import Derived.Test.YtgedmodnkiijkaaGreatDoorFn1
import Derived.Test.YtgedmodnkiijkaaGreatDoorFn3
import Derived.Test.YtgedmodnkiijkaaGreatDoorFn6
import Derived.Test.YtgedmodnkiijkaaGreatDoorFn9
import Derived.Test.YtgedmodnkiijkaaGreatDoorFn10
import Derived.Test.YtgedmodnkiijkaaGreatDoorFn11
import Derived.Deep.RegionHeld3
import Derived.Deep.Slices
import Derived.Deep.Fields
namespace Go.Proofs.YtgedmodnkiijkaaGreatDoor
open Go Go.RowKit Go.Proofs

/-- The i-th number, not below 0. -/
def cutOf (cuts : List Int) (i : Nat) : Nat := if cuts.length = 0 then 0 else if cuts.getD (i % cuts.length) 0 < 0 then (-(cuts.getD (i % cuts.length) 0 + 1)).toNat else (cuts.getD (i % cuts.length) 0).toNat
/-- How many of so many come into the next part. -/
def nextOf (lo hi : Nat) (cuts : List Int) (i len : Nat) : Nat := if len < lo + cutOf cuts i % (hi - lo + 1) + lo then lo else lo + cutOf cuts i % (hi - lo + 1)
def cutsL {α : Type} (lo hi : Nat) (cuts : List Int) : Nat → Nat → List α → List (List α)
  | 0, _, l => [l]
  | f + 1, i, l => if hi < l.length then l.take (nextOf lo hi cuts i l.length) :: cutsL lo hi cuts f (i + 1) (l.drop (nextOf lo hi cuts i l.length)) else [l]
theorem nextOf_in {lo hi : Nat} (cuts : List Int) (i len : Nat) (h : 2 * lo ≤ hi + 1) (hl : hi < len) (hlh : lo ≤ hi) : lo ≤ nextOf lo hi cuts i len ∧ nextOf lo hi cuts i len ≤ hi ∧ nextOf lo hi cuts i len + lo ≤ len := by
  unfold nextOf
  have := Nat.mod_lt (cutOf cuts i) (show 0 < hi - lo + 1 by omega)
  split <;> omega
theorem cutsL_flatten {α : Type} (lo hi : Nat) (cuts : List Int) : ∀ (f i : Nat) (l : List α), (cutsL lo hi cuts f i l).flatten = l
  | 0, _, l => by simp [cutsL]
  | f + 1, i, l => by
    unfold cutsL
    split
    · rw [List.flatten_cons, cutsL_flatten lo hi cuts f (i + 1), List.take_append_drop]
    · simp
/-- Each part has at most hi, and at least lo, if it isn't the whole. -/
theorem cutsL_parts {α : Type} {lo hi : Nat} (cuts : List Int) (h : 2 * lo ≤ hi + 1) (h1 : 1 ≤ lo) (hlh : lo ≤ hi) : ∀ (f i : Nat) (l : List α), l.length ≤ f + hi → ∀ p ∈ cutsL lo hi cuts f i l, p.length ≤ hi ∧ (lo ≤ p.length ∨ p = l)
  | 0, _, l, hf, p, hp => by
    obtain rfl : p = l := by simpa [cutsL] using hp
    exact ⟨by omega, .inr rfl⟩
  | f + 1, i, l, hf, p, hp => by
    unfold cutsL at hp
    by_cases hl : hi < l.length
    · rw [if_pos hl] at hp
      obtain ⟨n1, n2, n3⟩ := nextOf_in cuts i l.length h hl hlh
      rcases List.mem_cons.1 hp with rfl | hp
      · rw [List.length_take]
        exact ⟨by omega, .inl (by omega)⟩
      · obtain ⟨h2, h3⟩ := cutsL_parts cuts h h1 hlh f (i + 1) _ (by rw [List.length_drop]; omega) p hp
        refine ⟨h2, .inl ?_⟩
        rcases h3 with h3 | h3
        · exact h3
        · rw [h3, List.length_drop]; omega
    · rw [if_neg hl] at hp
      obtain rfl : p = l := by simpa using hp
      exact ⟨by omega, .inr rfl⟩
theorem cutsL_ne {α : Type} {lo hi : Nat} (cuts : List Int) (h : 2 * lo ≤ hi + 1) (h1 : 1 ≤ lo) (hlh : lo ≤ hi) (f i : Nat) (l : List α) (hf : l.length ≤ f + hi) (hl : l ≠ []) : ∀ p ∈ cutsL lo hi cuts f i l, p ≠ [] := fun p hp => by
  obtain ⟨_, h3⟩ := cutsL_parts cuts h h1 hlh f i l hf p hp
  rcases h3 with h3 | h3
  · intro e
    rw [e] at h3
    have : lo ≤ 0 := h3
    omega
  · rw [h3]; exact hl
/-- How many parts there are. -/
theorem cutsL_len {α : Type} {lo hi : Nat} (cuts : List Int) (h : 2 * lo ≤ hi + 1) (hlh : lo ≤ hi) : ∀ (f i : Nat) (l : List α), (cutsL lo hi cuts f i l).length * lo ≤ l.length + lo ∧ 1 ≤ (cutsL lo hi cuts f i l).length ∧ (1 < (cutsL lo hi cuts f i l).length → hi < l.length)
  | 0, _, l => by
    unfold cutsL
    rw [List.length_singleton]
    exact ⟨by omega, by omega, fun h => by omega⟩
  | f + 1, i, l => by
    unfold cutsL
    split
    · rename_i hl
      obtain ⟨n1, _, n3⟩ := nextOf_in cuts i l.length h hl hlh
      obtain ⟨h2, h3, _⟩ := cutsL_len cuts h hlh f (i + 1) (l.drop (nextOf lo hi cuts i l.length))
      rw [List.length_drop] at h2
      rw [List.length_cons, Nat.add_mul, Nat.one_mul]
      exact ⟨by omega, by omega, fun _ => hl⟩
    · rename_i hl
      rw [List.length_singleton]
      exact ⟨by omega, by omega, fun h => by omega⟩
end Go.Proofs.YtgedmodnkiijkaaGreatDoor

namespace Go.Proofs.YtgedmodnkiijkaaGreatDoor
open Go Go.RowKit Go.Proofs

def itemsOk (N : Nd) : Bool := N.items.all fun x => decide (x.v.length ≤ 28)
def kidsOk (N : Nd) : Bool := N.kids.all fun x => decide (1 ≤ x.a ∧ x.a < 2048)
/-- P6.1. -/
def Nd.may (N : Nd) : Bool :=
  if N.lvl = 0 then itemsOk N && (rises N.keys && decide (N.kids.length = 0 ∧ 1 ≤ N.items.length ∧ N.items.length ≤ 6))
  else kidsOk N && (rises N.keys && decide (1 ≤ N.lvl ∧ N.lvl < 8 ∧ N.items.length = 0 ∧ 2 ≤ N.kids.length ∧ N.kids.length ≤ 12))
theorem itemsOk_yes {N : Nd} (h : ∀ j, j < N.items.length → (itAt N.items j).v.length ≤ 28) : itemsOk N = true := by
  unfold itemsOk
  rw [List.all_eq_true]
  intro x hx
  obtain ⟨j, hj⟩ := List.mem_iff_getElem?.1 hx
  have hl := (List.getElem?_eq_some_iff.1 hj).1
  have := itAt_get hl
  rw [hj] at this
  obtain rfl := Option.some.inj this
  exact decide_eq_true (h j hl)
theorem kidsOk_yes {N : Nd} (h : ∀ j, j < N.kids.length → 1 ≤ (kidAt N.kids j).a ∧ (kidAt N.kids j).a < 2048) : kidsOk N = true := by
  unfold kidsOk
  rw [List.all_eq_true]
  intro x hx
  obtain ⟨j, hj⟩ := List.mem_iff_getElem?.1 hx
  have hl := (List.getElem?_eq_some_iff.1 hj).1
  have := kidAt_get hl
  rw [hj] at this
  obtain rfl := Option.some.inj this
  exact decide_eq_true (h j hl)

end Go.Proofs.YtgedmodnkiijkaaGreatDoor

namespace Go.Proofs.YtgedmodnkiijkaaGreatDoor
open Go Go.RowKit Go.Proofs

/-- What was told stays told. -/
theorem holds_mono {R R' : Int → Nd × Int} (h : ∀ a, (R a).2 = 0 → R' a = R a) : ∀ {l : Nat} {a : Int} {its : List Itm}, HoldsT R l a its → HoldsT R' l a its
  | 0, a, its, hh => ⟨by rw [h a (by rw [hh.1])]; exact hh.1, hh.2⟩
  | l + 1, a, its, hh => by
    obtain ⟨kids, parts, h1, h2, h3, h4, h5⟩ := hh
    exact ⟨kids, parts, by rw [h a (by rw [h1])]; exact h1, h2, h3, h4, fun j hj => ⟨holds_mono h (h5 j hj).1, (h5 j hj).2⟩⟩
theorem cutsL_map {α β : Type} (g : α → β) (lo hi : Nat) (cuts : List Int) : ∀ (f i : Nat) (l : List α), cutsL lo hi cuts f i (l.map g) = (cutsL lo hi cuts f i l).map (List.map g)
  | 0, _, l => rfl
  | f + 1, i, l => by
    unfold cutsL
    rw [List.length_map]
    split
    · rw [List.map_cons, ← List.map_take, ← List.map_drop, cutsL_map g lo hi cuts f (i + 1)]
    · rfl
/-- A tree and its items. -/
abbrev Twig := Int × List Itm
def kidOf (x : Twig) : Kidd := ⟨(itAt x.2 0).k, x.1⟩
def rowOf (G : List Twig) : List Itm := (G.map (·.2)).flatten
theorem kidAt_of {G : List Twig} {j : Nat} (hj : j < G.length) : kidAt (G.map kidOf) j = kidOf G[j] := by
  unfold kidAt
  rw [List.getD_eq_getElem?_getD, List.getElem?_map, List.getElem?_eq_getElem hj]
  rfl
theorem rowAt_of {G : List Twig} {j : Nat} (hj : j < G.length) : (G.map (·.2)).getD j [] = (G[j]).2 := by
  rw [List.getD_eq_getElem?_getD, List.getElem?_map, List.getElem?_eq_getElem hj]
  rfl
theorem holds_group {R : Int → Nd × Int} {l : Nat} {b : Int} {G : List Twig} (h : ∀ x ∈ G, HoldsT R l x.1 x.2) (hG : G ≠ []) (hb : R b = (⟨((l + 1 : Nat) : Int), [], G.map kidOf⟩, 0)) : HoldsT R (l + 1) b (rowOf G) := by
  refine ⟨G.map kidOf, G.map (·.2), hb, ?_, by rw [List.length_map, List.length_map], rfl, fun j hj => ?_⟩
  · intro e
    exact hG (List.map_eq_nil_iff.1 e)
  · rw [List.length_map] at hj
    rw [kidAt_of hj, rowAt_of hj]
    have h1 := h _ (List.getElem_mem hj)
    obtain ⟨x, r, e⟩ := holds_ne h1
    exact ⟨h1, x, r, e, by unfold kidOf itAt; rw [e]; rfl⟩
theorem rowOf_flatten (Gs : List (List Twig)) : rowOf Gs.flatten = (Gs.map rowOf).flatten := by
  unfold rowOf
  rw [List.map_flatten, List.flatten_flatten, List.map_map]
  rfl
/-- Keys that may be and rise. -/
theorem rises_of {ks : List Kd} (hm : ∀ k ∈ ks, k.may = true) (h : ks.Pairwise fun a b => a.less b = true) : rises ks = true := by
  refine rises_yes fun j hj => ?_
  have e : ∀ i, (hi : i < ks.length) → keyAt ks i = ks[i] := fun i hi => by unfold keyAt; rw [List.getD_eq_getElem?_getD, List.getElem?_eq_getElem hi]; rfl
  unfold riseOk
  rw [e j hj, hm _ (List.getElem_mem hj), Bool.true_and]
  by_cases h0 : j = 0
  · subst h0; rfl
  · rw [e (j - 1) (by omega), List.pairwise_iff_getElem.1 h (j - 1) j (by omega) hj (by omega), Bool.or_true]
theorem leaf_may {p : List Itm} (h1 : 1 ≤ p.length) (h6 : p.length ≤ 6) (hr : risen p) (hk : ∀ x ∈ p, x.k.may = true ∧ x.v.length ≤ 28) : (⟨0, p, []⟩ : Nd).may = true := by
  unfold Nd.may
  rw [if_pos rfl, Bool.and_eq_true, Bool.and_eq_true]
  refine ⟨?_, ?_, decide_eq_true ⟨rfl, h1, h6⟩⟩
  · unfold itemsOk
    rw [List.all_eq_true]
    exact fun x hx => decide_eq_true (hk x hx).2
  · rw [keys_items]
    refine rises_of (fun k hx => ?_) (List.Pairwise.map _ (fun _ _ h => h) hr)
    obtain ⟨x, hx', rfl⟩ := List.mem_map.1 hx
    exact (hk x hx').1
theorem inner_may {l : Nat} {G : List Twig} (hl : l < 7) (h2 : 2 ≤ G.length) (h12 : G.length ≤ 12) (hr : risen (rowOf G)) (hk : ∀ x ∈ rowOf G, x.k.may = true) (ha : ∀ x ∈ G, 1 ≤ x.1 ∧ x.1 < 2048) (hne : ∀ x ∈ G, x.2 ≠ []) : (⟨((l + 1 : Nat) : Int), [], G.map kidOf⟩ : Nd).may = true := by
  unfold Nd.may
  have h0 : ¬ ((l + 1 : Nat) : Int) = 0 := by omega
  dsimp only
  rw [if_neg h0, Bool.and_eq_true, Bool.and_eq_true]
  refine ⟨?_, ?_, decide_eq_true ⟨by omega, by omega, rfl, by rw [List.length_map]; exact h2, by rw [List.length_map]; exact h12⟩⟩
  · unfold kidsOk
    rw [List.all_eq_true]
    intro x hx
    obtain ⟨y, hy, rfl⟩ := List.mem_map.1 hx
    exact decide_eq_true (ha y hy)
  · rw [keys_kids, List.map_map]
    have first : ∀ x ∈ G, ∃ y r, x.2 = y :: r ∧ (kidOf x).k = y.k := fun x hx => by
      match e : x.2, hne x hx with
      | y :: r, _ => exact ⟨y, r, rfl, by unfold kidOf itAt; rw [e]; rfl⟩
    refine rises_of (fun k hx => ?_) ?_
    · obtain ⟨x, hx', rfl⟩ := List.mem_map.1 hx
      obtain ⟨y, r, e1, e2⟩ := first x hx'
      show (kidOf x).k.may = true
      rw [e2]
      refine hk y ?_
      unfold rowOf
      rw [List.mem_flatten]
      exact ⟨x.2, List.mem_map_of_mem hx', by rw [e1]; exact List.mem_cons_self ..⟩
    · rw [List.pairwise_map, List.pairwise_iff_getElem]
      intro i j hi hj hij
      obtain ⟨y, r, e1, e2⟩ := first _ (List.getElem_mem hi)
      obtain ⟨z, s, e3, e4⟩ := first _ (List.getElem_mem hj)
      show (kidOf G[i]).k.less (kidOf G[j]).k = true
      rw [e2, e4]
      refine pair_parts hr hij (by rw [List.length_map]; exact hj) (x := y) (y := z) ?_ ?_
      · rw [rowAt_of hi, e1]; exact List.mem_cons_self ..
      · rw [rowAt_of hj, e3]; exact List.mem_cons_self ..
end Go.Proofs.YtgedmodnkiijkaaGreatDoor

namespace Go.Proofs.YtgedmodnkiijkaaGreatDoor
open Go Go.RowKit Go.Proofs

/-- w' is as w was below B, and in the blocks of X. -/
structure Kp (B : Nat) (X : Nat → Prop) (w w' : World) : Prop where
  os : w'.os = w.os
  tape : w'.tape = w.tape
  output : w'.output = w.output
  size : w.heap.size ≤ w'.heap.size
  block : ∀ k, k < w.heap.size → (k < B ∨ X k) → w'.heap[k]? = w.heap[k]?
section
variable {B : Nat} {X X' : Nat → Prop} {w w' w'' : World}
theorem Kp.refl (B : Nat) (X : Nat → Prop) (w : World) : Kp B X w w := ⟨rfl, rfl, rfl, Nat.le_refl _, fun _ _ _ => rfl⟩
theorem Kp.trans (h : Kp B X w w') (k : Kp B X w' w'') : Kp B X w w'' :=
  ⟨k.os.trans h.os, k.tape.trans h.tape, k.output.trans h.output, Nat.le_trans h.size k.size, fun i hi hx => (k.block i (Nat.lt_of_lt_of_le hi h.size) hx).trans (h.block i hi hx)⟩
theorem Kp.mono (h : Kp B X w w') (hs : ∀ x, x < w.heap.size → X' x → X x) : Kp B X' w w' := ⟨h.os, h.tape, h.output, h.size, fun k hk hx => h.block k hk (hx.imp id (hs k hk))⟩
theorem Kp.below (h : Kp B X w w') (hB : B ≤ w.heap.size) : Below B w w' := ⟨h.os, h.tape, h.output, h.size, fun k hk => h.block k (by omega) (.inl hk)⟩
theorem Kp.sl {A : Option Addr} {n c : Nat} {l : List UInt8} (h : Kp B X w w') (s : Sl w A n c l) (ha : ∀ ad, A = some ad → ad.block < B ∨ X ad.block) : Sl w' A n c l :=
  ⟨s.1, s.2.1, s.2.2.1, fun j u hu => by
    obtain ⟨ad, e, hb, hc⟩ := s.2.2.2 j u hu
    refine ⟨ad, e, by have := h.size; omega, ?_⟩
    exact (World.cell?_of_block (w := w) (w' := w') (a := ad.add j) (by rw [addr_block]; exact h.block _ hb (ha ad e))).trans hc⟩
theorem Kp.cell {p : Addr} (h : Kp B X w w') (hp : p.block < w.heap.size) (hx : p.block < B ∨ X p.block) : w'.cell? p = w.cell? p := World.cell?_of_block (w := w) (h.block p.block hp hx)
end

/-- A slice that is held in X. -/
def Hold (w : World) (X : Nat → Prop) (A : Option Addr) (n : Nat) (l : List UInt8) : Prop := Sl w A n n l ∧ ∀ ad, A = some ad → X ad.block
section
variable {B : Nat} {X X' : Nat → Prop} {w w' : World} {A : Option Addr} {n : Nat} {l : List UInt8}
theorem Hold.below (h : Hold w X A n l) (k : Below w.heap.size w w') : Hold w' X A n l := ⟨h.1.below k, h.2⟩
theorem Hold.more (h : Hold w X A n l) (hx : ∀ k, X k → X' k) : Hold w X' A n l := ⟨h.1, fun ad ha => hx _ (h.2 ad ha)⟩
end

/-- The drive lies from B on, outside of X; X is there. -/
def Run (w : World) (B : Nat) (X : Nat → Prop) (bp : Nat) (D : DM) : Prop := B ≤ w.heap.size ∧ (∀ k, X k → k < w.heap.size) ∧ ∃ S, Drv w bp S D ∧ ∀ k, S k → k < w.heap.size → B ≤ k ∧ ¬ X k
section
variable {B : Nat} {X : Nat → Prop} {w w' : World} {bp : Nat} {D D' : DM}
theorem Drv.keep {S : Nat → Prop} (h : Drv w bp S D) (hk : ∀ k, k < w.heap.size → S k → w'.heap[k]? = w.heap[k]?) : Drv w' bp S D := by
  obtain ⟨bd, bm, l, c, v, L⟩ := h
  exact ⟨bd, bm, l, c, v, L.keep hk⟩
theorem Drv.mono {S S' : Nat → Prop} (h : Drv w bp S D) (hk : ∀ k, k < w.heap.size → S k → S' k) : Drv w bp S' D := by
  obtain ⟨bd, bm, l, c, v, L⟩ := h
  exact ⟨bd, bm, l, c, v, L.mono hk⟩
/-- A call that turned the drive alone. -/
theorem Run.turned {S S' : Nat → Prop} (hB : B ≤ w.heap.size) (hX : ∀ k, X k → k < w.heap.size) (hS : ∀ k, S k → k < w.heap.size → B ≤ k ∧ ¬ X k) (L : Drv w' bp S' D') (T : Turn S w w') (hS' : ∀ k, S' k → S k ∨ w.heap.size ≤ k) : Run w' B X bp D' ∧ Kp B X w w' := by
  have hsz := T.size
  refine ⟨⟨by omega, fun k hk => by have := hX k hk; omega, S', L, fun k hk hlt => ?_⟩, ⟨T.os, T.tape, T.output, hsz, fun k hk hx => T.block k hk fun h => ?_⟩⟩
  · by_cases h1 : k < w.heap.size
    · rcases hS' k hk with h | h
      · exact hS k h h1
      · omega
    · exact ⟨by omega, fun h => by have := hX k h; omega⟩
  · have := hS k h hk
    rcases hx with h1 | h1
    · omega
    · exact this.2 h1
/-- New memory beside it, which X may take. -/
theorem Run.below {X' : Nat → Prop} (h : Run w B X bp D) (hb : Below w.heap.size w w') (hX : ∀ k, X' k → X k ∨ (w.heap.size ≤ k ∧ k < w'.heap.size)) : Run w' B X' bp D := by
  obtain ⟨h1, h2, S, h3, h4⟩ := h
  have hsz := hb.size
  refine ⟨by omega, fun k hk => ?_, fun k => S k ∧ k < w.heap.size, (h3.mono fun k hk h => ⟨h, hk⟩).keep fun k hk _ => hb.block k hk, fun k hk _ => ?_⟩
  · rcases hX k hk with h | h
    · have := h2 k h; omega
    · exact h.2
  · obtain ⟨h5, h6⟩ := h4 k hk.1 hk.2
    refine ⟨h5, fun h => ?_⟩
    rcases hX k h with h | h
    · exact h6 h
    · omega
theorem Run.same (h : Run w B X bp D) (hb : Below w.heap.size w w') : Run w' B X bp D := h.below hb fun _ => .inl
/-- Few steps, few writes. -/
def DM.ok (D : DM) (m : Nat) : Prop := D.steps ≤ m ∧ ∀ k, (D.cac k).length ≤ m
theorem DM.ok.mono {D : DM} {m m' : Nat} (h : D.ok m) (hm : m ≤ m') : D.ok m' := ⟨by have := h.1; omega, fun k => by have := h.2 k; omega⟩
end
end Go.Proofs.YtgedmodnkiijkaaGreatDoor

namespace Go.Proofs.YtgedmodnkiijkaaGreatDoor
open Go Go.RowKit Go.Proofs

section
variable {w w' : World} {s n c : Nat} {A : Option Addr}
theorem Sls.drop {xs : List (List Value)} (h : Sls w s A n c xs) {k : Nat} (hk : k ≤ n) : Sls w s (if c = k then A else A.map (·.add (k * s))) (n - k) (c - k) (xs.drop k) := by
  have hl := h.len
  have hc := h.cap
  have hm := h.max
  refine ⟨by rw [List.length_drop]; omega, by omega, by omega, fun j x hx => ?_⟩
  rw [List.getElem?_drop] at hx
  have hj := (List.getElem?_eq_some_iff.1 hx).1
  obtain ⟨g, o, rfl, hg, hxl, hr⟩ := h.2.2.2 _ x hx
  rw [if_neg (by omega)]
  refine ⟨g, o + k * s, by rw [Option.map_some, Addr.add_mid], hg, hxl, ?_⟩
  have e : o + k * s + j * s = o + (k + j) * s := by rw [Nat.add_mul]; omega
  rw [e]
  exact hr
theorem Itms.drop {xs : List Itm} (h : Itms w A n c xs) {k : Nat} (hk : k ≤ n) : Itms w (if c = k then A else A.map (·.add (k * 4))) (n - k) (c - k) (xs.drop k) := by
  obtain ⟨raw, h1, h2, h3⟩ := h
  refine ⟨raw.drop k, h1.drop hk, by rw [List.length_drop, List.length_drop, h2], fun j r x hr hx => ?_⟩
  rw [List.getElem?_drop] at hr hx
  exact h3 _ r x hr hx
theorem Itms.sub {xs : List Itm} (h : Itms w A n c xs) {i j : Nat} (hi : i ≤ j) (hj : j ≤ n) : Itms w (if c = i then A else A.map (·.add (i * 4))) (j - i) (c - i) ((xs.drop i).take (j - i)) := (h.drop (by omega)).take (by omega)
theorem Kidl.drop {xs : List Kidd} (h : Kidl w A n c xs) {k : Nat} (hk : k ≤ n) : Kidl w (if c = k then A else A.map (·.add (k * 4))) (n - k) (c - k) (xs.drop k) := by
  have := Sls.drop h hk
  rw [← List.map_drop] at this
  exact this
theorem Kidl.sub {xs : List Kidd} (h : Kidl w A n c xs) {i j : Nat} (hi : i ≤ j) (hj : j ≤ n) : Kidl w (if c = i then A else A.map (·.add (i * 4))) (j - i) (c - i) ((xs.drop i).take (j - i)) := (h.drop (by omega)).take (by omega)
end
theorem TNode : RowT Tryz.prog 79 56 3 56 (.agg #[.int .i64 0, .slice none 0 0, .slice none 0 0]) := ⟨Tryz.underlying79, by kernel_rfl, rfl, by omega⟩
def ndvs (l : Int) (A : Option Addr) (n c : Nat) (B : Option Addr) (m d : Nat) : List Value := [.int .i64 l, .slice A n c, .slice B m d]
theorem ndvs_one (l : Int) (A : Option Addr) (n c : Nat) (B : Option Addr) (m d : Nat) : ∀ y ∈ [ndvs l A n c B m d], ∀ u ∈ y, u.oneCell' = true := by
  intro y hy u hu
  obtain rfl : y = ndvs l A n c B m d := by simpa using hy
  simp [ndvs] at hu
  rcases hu with rfl | rfl | rfl <;> rfl
theorem lit1_node (w : World) (l : Int) (A : Option Addr) (n c : Nat) (B : Option Addr) (m d : Nat) : Sls (w.alloc (.cells #[.int .i64 l, .slice A n c, .slice B m d] 56)) 3 (some ⟨w.heap.size, 0, none⟩) 1 1 [ndvs l A n c B m d] := (owns_lit1 w 56 3 (ndvs l A n c B m d) _ rfl rfl).sls (by omega)
/-- The cells of a node whose items and kids are there in each world of Q. -/
def NdOk (Q : World → Prop) (r : List Value) (N : Nd) : Prop := ∃ A n c B m d, r = ndvs N.lvl A n c B m d ∧ n ≤ 1000 ∧ m ≤ 1000 ∧ ∀ w, Q w → Itms w A n c N.items ∧ Kidl w B m d N.kids
/-- The own row of nodes; what they hold is there in each world of Q. -/
def NdRow (Q : World → Prop) (w : World) (base : Nat) (A : Option Addr) (n c : Nat) (Ns : List Nd) : Prop :=
  ∃ raw, OwnS w base 56 3 A n c raw ∧ raw.length = Ns.length ∧ ∀ (j : Nat) r N, raw[j]? = some r → Ns[j]? = some N → NdOk Q r N
/-- A slice of nodes. -/
def Ndl (Q : World → Prop) (w : World) (A : Option Addr) (n c : Nat) (Ns : List Nd) : Prop :=
  ∃ raw, Sls w 3 A n c raw ∧ raw.length = Ns.length ∧ ∀ (j : Nat) r N, raw[j]? = some r → Ns[j]? = some N → NdOk Q r N
section
variable {Q : World → Prop} {w w' : World} {base n c : Nat} {A : Option Addr} {Ns : List Nd}
theorem ndrow_lit0 (Q : World → Prop) (w : World) : NdRow Q (w.alloc (.cells #[] 56)) w.heap.size (some ⟨w.heap.size, 0, none⟩) 0 0 [] := ⟨[], owns_lit0 w _ 3, rfl, fun j r x hr => by simp at hr⟩
theorem NdRow.below (h : NdRow Q w base A n c Ns) (hb : Below w.heap.size w w') : NdRow Q w' base A n c Ns := by
  obtain ⟨raw, h1, h2, h3⟩ := h
  exact ⟨raw, h1.below hb, h2, h3⟩
theorem NdRow.ndl (h : NdRow Q w base A n c Ns) : Ndl Q w A n c Ns := by
  obtain ⟨raw, h1, h2, h3⟩ := h
  exact ⟨raw, h1.sls (by omega), h2, h3⟩
theorem Ndl.below (h : Ndl Q w A n c Ns) (hb : Below w.heap.size w w') : Ndl Q w' A n c Ns := by
  obtain ⟨raw, h1, h2, h3⟩ := h
  exact ⟨raw, h1.below hb, h2, h3⟩
theorem Ndl.len (h : Ndl Q w A n c Ns) : Ns.length = n := by
  obtain ⟨raw, h1, h2, _⟩ := h
  rw [← h2]; exact h1.len
def ndAt (Ns : List Nd) (j : Nat) : Nd := Ns.getD j ⟨0, [], []⟩
theorem ndAt_get {j : Nat} (h : j < Ns.length) : Ns[j]? = some (ndAt Ns j) := by simp [ndAt, List.getD, h]
theorem Ndl.get (h : Ndl Q w A n c Ns) {j : Nat} (hj : j < n) : ∃ g o A1 n1 c1 B1 m1 d1, A = some ⟨g, o, none⟩ ∧ g < w.heap.size ∧ w.rangeAt g (o + j * 3) (ndvs (ndAt Ns j).lvl A1 n1 c1 B1 m1 d1) ∧ n1 ≤ 1000 ∧ m1 ≤ 1000 ∧ ∀ w', Q w' → Itms w' A1 n1 c1 (ndAt Ns j).items ∧ Kidl w' B1 m1 d1 (ndAt Ns j).kids := by
  have hl := h.len
  obtain ⟨raw, h1, h2, h3⟩ := h
  have hr : raw[j]? = some (raw[j]'(by omega)) := List.getElem?_eq_getElem (by omega)
  obtain ⟨A1, n1, c1, B1, m1, d1, e, k1, k2, k3⟩ := h3 j _ _ hr (ndAt_get (by omega))
  obtain ⟨g, o, rfl, hg, _, hc⟩ := h1.2.2.2 j _ hr
  rw [e] at hc
  exact ⟨g, o, A1, n1, c1, B1, m1, d1, rfl, hg, hc, k1, k2, k3⟩
end
/-- append of one node onto the own row. -/
theorem wp_append_node {Q : World → Prop} {w : World} {ops : Array Oper} {rest : List Oper} {o : Oper} {a : Act} {Q2 : Exit → Act → World → Prop} (hgd : o.guard = none) (so x : Operand)
    (ho : o.op = .call { callee := .builtin .append, args := #[so, x], argTypes := #[79, 79] })
    (base : Nat) (A : Option Addr) (n c : Nat) (Ns : List Nd) (hs : a.eval so = .slice A n c) (hown : NdRow Q w base A n c Ns)
    (B : Option Addr) (d : Nat) (N : Nd) (r : List Value) (hx : a.eval x = .slice B 1 d) (hr : Sls w 3 B 1 d [r]) (hN : NdOk Q r N) (hn : n ≤ 1000) (hbase : base ≤ w.heap.size)
    (h : ∀ A' c' w', NdRow Q w' base A' (n + 1) c' (Ns ++ [N]) → Below base w w' → wpList Tryz.prog ops Q2 rest (a.put o.dst (.slice A' (n + 1) c')) w') : wpList Tryz.prog ops Q2 (o :: rest) a w := by
  obtain ⟨raw, h1, h2, h3⟩ := hown
  have hone : ∀ y ∈ [r], ∀ u ∈ y, u.oneCell' = true := by
    obtain ⟨A1, n1, c1, B1, m1, d1, e, _⟩ := hN
    subst e
    exact ndvs_one _ _ _ _ _ _ _
  refine wp_append_s w TNode hgd so x ho base A n c raw hs h1 B 1 d [r] hx hr (by omega) hone (by omega) (by omega) hbase ?_
  intro A' c' w' own' hb
  refine h A' c' w' ⟨_, own', by simp [h2], fun j r' x hr hx => ?_⟩ hb
  by_cases hj : j < raw.length
  · rw [List.getElem?_append_left hj] at hr
    rw [List.getElem?_append_left (by omega)] at hx
    exact h3 j r' x hr hx
  · rw [List.getElem?_append_right (by omega)] at hr hx
    have hj0 : j - raw.length = 0 := by
      have := (List.getElem?_eq_some_iff.1 hr).1
      simp at this; omega
    rw [hj0] at hr
    rw [← h2, hj0] at hx
    obtain rfl : r = r' := by simpa using hr
    obtain rfl : N = x := by simpa using hx
    exact hN
end Go.Proofs.YtgedmodnkiijkaaGreatDoor

namespace Go.Proofs.YtgedmodnkiijkaaGreatDoor
open Go Go.RowKit Go.Proofs

section
variable {P : Program} {t e : TypeId} {s b : Nat} {z : Value} (w : World)
end
theorem TInt : RowT Tryz.prog 23 3 1 8 (.int .i64 0) := ⟨Tryz.underlying23, by kernel_rfl, rfl, by omega⟩
def iv (z : Int) : List Value := [.int .i64 z]
/-- A slice of numbers. -/
def Intl (w : World) (A : Option Addr) (n c : Nat) (zs : List Int) : Prop := Sls w 1 A n c (zs.map iv)
theorem lit1_int (w : World) (x : Int) : Sls (w.alloc (.cells #[.int .i64 x] 3)) 1 (some ⟨w.heap.size, 0, none⟩) 1 1 [iv x] := (owns_lit1 w 3 1 (iv x) _ rfl rfl).sls (by omega)
theorem iv_one (x : Int) : ∀ y ∈ [iv x], ∀ u ∈ y, u.oneCell' = true := by
  intro y hy u hu
  obtain rfl : y = iv x := by simpa using hy
  simp [iv] at hu
  subst hu; rfl
end Go.Proofs.YtgedmodnkiijkaaGreatDoor

namespace Go.Proofs.YtgedmodnkiijkaaGreatDoor
open Go Go.RowKit Go.Proofs

theorem Intl.cell {w : World} {A : Option Addr} {n c : Nat} {zs : List Int} (h : Intl w A n c zs) {j : Nat} (hj : j < n) : ∃ g o, A = some ⟨g, o, none⟩ ∧ g < w.heap.size ∧ w.cell? ⟨g, o + j, none⟩ = some (.int .i64 (zs.getD j 0)) := by
  have hl : zs.length = n := by simpa using Sls.len h
  obtain ⟨g, o, e, hg, _, hr⟩ := h.2.2.2 j (iv (zs.getD j 0)) (by rw [List.getElem?_map, List.getD_eq_getElem?_getD, List.getElem?_eq_getElem (by omega)]; rfl)
  have := hr 0 _ rfl
  rw [Nat.mul_one, Nat.add_zero] at this
  exact ⟨g, o, e, hg, this⟩
set_option maxRecDepth 100000 in
theorem rcut_any (A : Option Addr) (n c : Nat) (cuts : List Int) (i : Nat) (w : World) (h : Intl w A n c cuts) (hb : ∀ z ∈ cuts, -9223372036854775808 ≤ z ∧ z ≤ 9223372036854775807) (_hi : i ≤ 1000000) :
    Calls Tryz.prog 57 #[.slice A n c, .int .i64 (i : Int)] w fun e w' => e = .returned (.int .i64 (cutOf cuts i : Int)) ∧ w = w' := by
  have hl : cuts.length = n := by simpa using Sls.len h
  have hcap := Sls.cap h
  have hmax := Sls.max h
  unfold maxLen at hmax
  go_enter Tryz.func57, Tryz.ntmps57
  by_cases h0 : n = 0
  · have hv : cutOf cuts i = 0 := by unfold cutOf; rw [if_pos (by omega)]
    rw [hv]
    subst h0
    clear hv
    go_wp2
    go_ret
    exact ⟨rfl, rfl⟩
  · have hr : i % n < n := Nat.mod_lt _ (by omega)
    obtain ⟨g, o, rfl, hg, hc⟩ := h.cell hr
    obtain ⟨r, hre⟩ : ∃ r, i % n = r := ⟨_, rfl⟩
    obtain ⟨z, hz⟩ : ∃ z, cuts.getD r 0 = z := ⟨_, rfl⟩
    have hzb : -9223372036854775808 ≤ z ∧ z ≤ 9223372036854775807 := by
      rw [← hz, List.getD_eq_getElem?_getD, List.getElem?_eq_getElem (by omega)]
      exact hb _ (List.getElem_mem _)
    have hv : cutOf cuts i = if z < 0 then (-(z + 1)).toNat else z.toNat := by unfold cutOf; rw [if_neg (by omega), hl, hre, hz]
    rw [hre, hz] at hc
    have hn0 : ¬ (n : Int) = 0 := by omega
    have hm : (i : Int).tmod (n : Int) = (r : Int) := by rw [← hre]; exact Int.ofNat_tmod .. |>.symm
    have e0 : (0 : Int) ≤ (r : Int) := by omega
    have e1 : (r : Int) < (n : Int) := by omega
    rw [hv]
    clear hv hz hre hb h
    by_cases hneg : z < 0
    · rw [if_pos hneg]
      have e2 : (((-(z + 1)).toNat : Nat) : Int) = -(z + 1) := by omega
      rw [e2]
      have e3 : IntKind.i64.wrap (z + 1) = z + 1 := IntWalk.i64_in _ (by omega)
      have e4 : IntKind.i64.wrap (-(z + 1)) = -(z + 1) := IntWalk.i64_in _ (by omega)
      go_wp2
      go_ret
      exact ⟨by first | rfl | simp, rfl⟩
    · rw [if_neg hneg]
      have e2 : ((z.toNat : Nat) : Int) = z := by omega
      rw [e2]
      go_wp2
      go_ret
      exact ⟨by first | rfl | simp, rfl⟩
end Go.Proofs.YtgedmodnkiijkaaGreatDoor

namespace Go.Proofs.YtgedmodnkiijkaaGreatDoor
open Go Go.RowKit Go.ChangeShapes Go.WideShapes Go.ChangeAt

def i64 (z : Int) : Prop := -9223372036854775808 ≤ z ∧ z ≤ 9223372036854775807
/-- Pairs that came in. -/
def Pairs (w : World) (A : Option Addr) (n c : Nat) (ps : List (Int × Int)) : Prop :=
  ps.length = n ∧ n ≤ c ∧ c ≤ maxLen ∧ (∀ x ∈ ps, i64 x.1 ∧ i64 x.2) ∧ ∀ (j : Nat) x, ps[j]? = some x → ∃ g o, A = some ⟨g, o, none⟩ ∧ g < w.heap.size ∧ w.cell? ⟨g, o + j * 2, none⟩ = some (.int .i64 x.1) ∧ w.cell? ⟨g, o + j * 2 + 1, none⟩ = some (.int .i64 x.2)
section
variable {H : Type} {enc : TypeId × Value → H} {P : Program} {W : World}
/-- A slice of ints. -/
theorem open_nums {t e : TypeId} {v : Value} {d : DataW H} {ps : List MemPlace} (ht : P.underlying t = some (.slice e)) (he : P.underlying e = some (.int .i64)) (hc : P.cellsOf e = 1)
    (hv : ∃ a len cap, v = .slice a len cap) (h : DataW.Trod enc P W 0 (fun _ => true) true t v d ps) : ∃ A n c zs, v = .slice A n c ∧ Ints W A n c zs := by
  obtain ⟨fuel, hf⟩ := h
  obtain ⟨a0, len0, cap0, rfl⟩ := hv
  rcases open_ints ht he hc hf with ⟨hcs, _⟩ | ⟨a, len, cap, zs, hcs, _, hl, hm, hz, _, hcell, hw⟩
  · simp [Value.cells] at hcs
    obtain ⟨rfl, rfl, rfl⟩ := hcs
    exact ⟨_, _, _, [], rfl, ints_nil W⟩
  · simp [Value.cells] at hcs
    obtain ⟨rfl, rfl, rfl⟩ := hcs
    rw [if_pos rfl] at hz
    refine ⟨_, _, _, zs.take len0, rfl, ⟨?_, hl, hm, fun j u hu => ?_⟩, fun z hz' => bounds_i64 (hw z (List.mem_of_mem_take hz'))⟩
    · simp; omega
    · have hj : j < len0 := by have := (List.getElem?_eq_some_iff.1 hu).1; simp at this; omega
      have hj2 : j < zs.length := by omega
      have hc := hcell j hj2
      refine ⟨a, rfl, ?_, ?_⟩
      · have := World.block_lt_of_cell? W (a.add j) hc
        rwa [addr_block] at this
      · rw [hc, ← hu]
        rw [List.getElem?_map, List.getElem?_take_of_lt hj, List.getElem?_eq_getElem hj2]
        simp [List.getD, hj2]
end
section
variable {w w' : World} {A : Option Addr} {n c : Nat} {ps : List (Int × Int)}
theorem Pairs.below (h : Pairs w A n c ps) (hb : Below w.heap.size w w') : Pairs w' A n c ps :=
  ⟨h.1, h.2.1, h.2.2.1, h.2.2.2.1, fun j x hx => by
    obtain ⟨g, o, e, hg, h1, h2⟩ := h.2.2.2.2 j x hx
    exact ⟨g, o, e, by have := hb.size; omega, (hb.cell (p := ⟨g, _, none⟩) hg).trans h1, (hb.cell (p := ⟨g, _, none⟩) hg).trans h2⟩⟩
end
end Go.Proofs.YtgedmodnkiijkaaGreatDoor

namespace Go.Proofs.YtgedmodnkiijkaaGreatDoor
open Go Go.RowKit Go.Proofs Go.ChangeShapes Go.WideShapes Go.ChangeAt Go.Deep

section
variable {H : Type} {enc : TypeId × Value → H} {P : Program} {W : World}
/-- A row of ints in one cell. -/
theorem nums_one {t e : TypeId} {m : Nat} {v : Value} {y : DataW H × List MemPlace} (ht : P.underlying t = some (.slice e)) (he : P.underlying e = some (.int .i64)) (hc : P.cellsOf e = 1)
    (h : DataW.trod enc P W 0 (fun _ => true) true m t [v] = some y) : ∃ A n c zs, v = .slice A n c ∧ Ints W A n c zs := by
  have hv : ∃ a len cap, v = .slice a len cap := by
    rcases open_ints ht he hc h with ⟨hcs, _⟩ | ⟨a, len, cap, zs, hcs, _⟩
    · exact ⟨_, _, _, by simpa using hcs⟩
    · exact ⟨_, _, _, by simpa using hcs⟩
  obtain ⟨a, len, cap, rfl⟩ := hv
  obtain ⟨yd, yp⟩ := y
  exact open_nums ht he hc ⟨_, _, _, rfl⟩ ⟨m, h⟩
end
end Go.Proofs.YtgedmodnkiijkaaGreatDoor

namespace Go.Proofs.YtgedmodnkiijkaaGreatDoor
open Go Go.RowKit Go.Proofs Go.ChangeShapes Go.WideShapes Go.ChangeAt Go.Deep

section
variable {H : Type} {enc : TypeId × Value → H} {P : Program} {W : World}
theorem ints_intl {A : Option Addr} {n c : Nat} {zs : List Int} (h : Ints W A n c zs) : Intl W A n c zs := by
  obtain ⟨⟨h1, h2, h3, h4⟩, _⟩ := h
  refine ⟨by rw [List.length_map] at h1 ⊢; exact h1, h2, h3, fun j x hx => ?_⟩
  rw [List.getElem?_map] at hx
  obtain ⟨z, hz, rfl⟩ := Option.map_eq_some_iff.1 hx
  obtain ⟨ad, rfl, hb, hc⟩ := h4 j (.int .i64 z) (by rw [List.getElem?_map, hz]; rfl)
  have hl : 0 < zs.length := by have := (List.getElem?_eq_some_iff.1 hz).1; omega
  obtain ⟨ad0, e0, _, hc0⟩ := h4 0 (.int .i64 zs[0]) (by rw [List.getElem?_map, List.getElem?_eq_getElem hl]; rfl)
  obtain rfl := Option.some.inj e0
  obtain ⟨g, o, sp⟩ := ad
  obtain rfl : sp = none := spot_none' (show W.cell? ⟨g, o, sp⟩ = some _ by simpa [Addr.add] using hc0)
  refine ⟨g, o, rfl, hb, rfl, fun i v hv => ?_⟩
  have hi : i = 0 := by
    have := (List.getElem?_eq_some_iff.1 hv).1
    simp [iv] at this
    exact this
  subst hi
  obtain rfl : Value.int .i64 z = v := by simpa [iv] using hv
  rw [Addr.add_mid] at hc
  rw [Nat.mul_one, Nat.add_zero]
  exact hc
/-- A struct of a row of items and a row of ints. -/
theorem open_world {g0 g1 : Field} {tn t1 te e : TypeId} {i0 i1 k0 k1 k2 : Field} (hn : P.underlying tn = some (.struct #[g0, g1])) (hone : oneCellFields P #[g0, g1] = true) (hct : P.cellsOf tn = 2)
    (hs1 : P.underlying g0.type = some (.slice t1)) (hi : P.underlying t1 = some (.struct #[i0, i1])) (hci : P.cellsOf t1 = 4) (o0 : i0.offset = 0) (o1 : i1.offset = 3) (c1 : P.cellsOf i1.type = 1) (K : KeyT P i0.type k0 k1 k2) (T : ByteT P i1.type te) (he : P.underlying te = some (.int .u8))
    (hs2 : P.underlying g1.type = some (.slice e)) (he2 : P.underlying e = some (.int .i64)) (ce : P.cellsOf e = 1)
    {r : Reach} {b0 : Nat} {v : Value} {d : DataW H} {ps : List MemPlace} (hv : Value.okWide P W r b0 tn v) (h : DataW.Trod enc P W 0 (fun _ => true) true tn v d ps) :
    ∃ (A : Option Addr) (n c : Nat) (l : List Itm) (B : Option Addr) (m k : Nat) (zs : List Int), v = .agg #[.slice A n c, .slice B m k] ∧ Itms W A n c l ∧ Ints W B m k zs := by
  obtain ⟨cs, rfl, hsz⟩ := okWide_struct hn hv
  obtain ⟨f, hf⟩ := h
  obtain ⟨xs, m, _, _, hl, hxl, hff⟩ := DataW.trod_struct hn hf
  have hlen : cs.toList.length = 2 := by rw [Array.length_toList, hsz, hct]
  obtain ⟨v0, v1, hcs⟩ : ∃ v0 v1, cs.toList = [v0, v1] := by
    match cs.toList, hlen with
    | [a, b], _ => exact ⟨a, b, rfl⟩
  have q : ∀ (j : Nat) (ff : Field), (#[g0, g1] : Array Field)[j]? = some ff → ∃ vv y, [v0, v1][j]? = some vv ∧ DataW.trod enc P W 0 (fun _ => true) true m ff.type [vv] = some y := fun j ff hj => by
    obtain ⟨ho, hk1⟩ := hone_of hone j ff hj
    have hjl : j < 2 := (Array.getElem?_eq_some_iff.1 hj).1
    have g3 := hff j ff hj
    have hys : xs[j]? = some (xs[j]'(by rw [hxl]; exact hjl)) := List.getElem?_eq_getElem _
    have h3 : (Value.agg cs).cells.toList = cs.toList := rfl
    rw [ho, hk1, hys, h3, hcs, List.drop_eq_getElem_cons (by simpa using hjl)] at g3
    exact ⟨_, _, List.getElem?_eq_getElem (by simpa using hjl), g3⟩
  obtain ⟨u0, y0, e0, q0⟩ := q 0 g0 rfl
  obtain ⟨u1, y1, e1, q1⟩ := q 1 g1 rfl
  obtain ⟨A, n, c, l, rfl, hA⟩ := open_itms hs1 hi hci o0 o1 c1 K T he q0
  obtain ⟨B, m', k', zs, rfl, hB⟩ := nums_one hs2 he2 ce q1
  simp at e0 e1
  refine ⟨A, n, c, l, B, m', k', zs, ?_, hA, hB⟩
  rw [e0, e1] at hcs
  exact congrArg Value.agg (by rw [← hcs])
end
section
variable {H : Type} {enc : TypeId × Value → H} {W : World}
set_option maxRecDepth 100000 in
theorem open_wd {r : Reach} {b0 : Nat} {v : Value} {d : DataW H} {ps : List MemPlace} (hv : Value.okWide Tryz.prog W r b0 25 v) (h : DataW.Trod enc Tryz.prog W 0 (fun _ => true) true 25 v d ps) :
    ∃ (A : Option Addr) (n c : Nat) (l : List Itm) (B : Option Addr) (m k : Nat) (zs : List Int), v = .agg #[.slice A n c, .slice B m k] ∧ Itms W A n c l ∧ Ints W B m k zs := by
  obtain ⟨f0, f1, f2, K⟩ := keyT
  exact open_world Tryz.underlying25 (by kernel_rfl) (by kernel_rfl) Tryz.underlying22 Tryz.underlying41 (by kernel_rfl) rfl rfl (by kernel_rfl) K T22 Tryz.underlying5
    Tryz.underlying23 Tryz.underlying3 (by kernel_rfl) hv h
end
end Go.Proofs.YtgedmodnkiijkaaGreatDoor

namespace Go.Proofs.YtgedmodnkiijkaaGreatDoor
open Go Go.RowKit Go.Proofs Go.ChangeShapes Go.WideShapes Go.ChangeAt Go.Deep

section
variable {H : Type} {enc : TypeId × Value → H} {W : World}
theorem i64_cell {P : Program} {e : TypeId} (he : P.underlying e = some (.int .i64)) {m : Nat} {c : Value} {y : DataW H × List MemPlace} (h : DataW.trod enc P W 0 (fun _ => true) true m e [c] = some y) : ∃ z, c = .int .i64 z ∧ i64 z := by
  obtain ⟨z, hcs, _, hw⟩ := DataW.trod_int he h
  exact ⟨z, by simpa using hcs, bounds_i64 hw⟩
set_option maxRecDepth 100000 in
theorem open_three {r : Reach} {b0 : Nat} {v : Value} {d : DataW H} {ps : List MemPlace} (hv : Value.okWide Tryz.prog W r b0 64 v) (h : DataW.Trod enc Tryz.prog W 0 (fun _ => true) true 64 v d ps) :
    ∃ a b c : Int, v = .agg #[.int .i64 a, .int .i64 b, .int .i64 c] ∧ i64 a ∧ i64 b ∧ i64 c := by
  have ht := Tryz.underlying64
  have hce : Tryz.prog.cellsOf 3 = 1 := by kernel_rfl
  simp only [Value.okWide, ht] at hv
  obtain ⟨cs, rfl, _, _⟩ := hv
  obtain ⟨f, hf⟩ := h
  obtain ⟨xs, m, _, _, hl, hxl, hi⟩ := DataW.trod_array ht hf
  have hct : Tryz.prog.cellsOf 64 = 3 := by kernel_rfl
  have h3 : (Value.agg cs).cells.toList = cs.toList := rfl
  have hlen : cs.toList.length = 3 := hl.trans hct
  obtain ⟨a, b, c, hcs⟩ := three_of hlen
  have h0 := hi 0 (by omega)
  have h1 := hi 1 (by omega)
  have h2 := hi 2 (by omega)
  rw [hce, List.getElem?_eq_getElem (by omega : 0 < xs.length), h3, hcs] at h0
  rw [hce, List.getElem?_eq_getElem (by omega : 1 < xs.length), h3, hcs] at h1
  rw [hce, List.getElem?_eq_getElem (by omega : 2 < xs.length), h3, hcs] at h2
  obtain ⟨x, ex, bx⟩ := i64_cell (c := a) Tryz.underlying3 h0
  obtain ⟨y, ey, bY⟩ := i64_cell (c := b) Tryz.underlying3 h1
  obtain ⟨z, ez, bz⟩ := i64_cell (c := c) Tryz.underlying3 h2
  refine ⟨x, y, z, congrArg Value.agg ?_, bx, bY, bz⟩
  rw [← ex, ← ey, ← ez, ← hcs]
end
end Go.Proofs.YtgedmodnkiijkaaGreatDoor
