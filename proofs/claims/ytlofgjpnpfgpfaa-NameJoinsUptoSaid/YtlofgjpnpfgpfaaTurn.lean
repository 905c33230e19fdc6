/- What a call may turn: a set of blocks. And rows of sectors of 256 bytes. Nothing here speaks of one program. -/
import Derived.Test.YtlofgjpnpfgpfaaMap
import Derived.Deep.MidRow
import Derived.Deep.WholeRow
namespace Go.Proofs.Ytlofgjpnpfgpfaa
open Go Go.RowKit
open Go.ChangeMaps (setBlock)

/-- w' is w but for the blocks of S, and new ones. -/
structure Turn (S : Nat → Prop) (w w' : World) : Prop where
  os : w'.os = w.os
  tape : w'.tape = w.tape
  output : w'.output = w.output
  size : w.heap.size ≤ w'.heap.size
  block : ∀ k, k < w.heap.size → ¬ S k → w'.heap[k]? = w.heap[k]?

section
variable {S S' : Nat → Prop} {w w' w'' : World}
theorem Turn.refl (S : Nat → Prop) (w : World) : Turn S w w := ⟨rfl, rfl, rfl, Nat.le_refl _, fun _ _ _ => rfl⟩
theorem Turn.trans (h : Turn S w w') (k : Turn S' w' w'') (hs : ∀ x, S' x → S x ∨ w.heap.size ≤ x) : Turn S w w'' :=
  ⟨k.os.trans h.os, k.tape.trans h.tape, k.output.trans h.output, Nat.le_trans h.size k.size, fun i hi hn => (k.block i (Nat.lt_of_lt_of_le hi h.size) (fun hx => by rcases hs i hx with h1 | h1; exact hn h1; omega)).trans (h.block i hi hn)⟩
theorem Turn.then (h : Turn S w w') (k : Turn S w' w'') : Turn S w w'' := h.trans k fun _ => .inl
theorem Turn.mono (h : Turn S w w') (hs : ∀ x, S x → S' x) : Turn S' w w' := ⟨h.os, h.tape, h.output, h.size, fun k hk hn => h.block k hk fun hx => hn (hs k hx)⟩
theorem Turn.drew (h : Turn S w w') : Turn S w w'.drew := ⟨h.os, h.tape, h.output, h.size, h.block⟩
theorem Turn.drewN (h : Turn S w w') (n : Nat) : Turn S w (w'.drewN n) := ⟨h.os, h.tape, h.output, h.size, h.block⟩
theorem turn_below (h : Below w.heap.size w w') : Turn S w w' := ⟨h.os, h.tape, h.output, h.size, fun k hk _ => h.block k hk⟩
theorem Turn.below {B : Nat} (h : Turn S w w') (hs : ∀ x, S x → B ≤ x) (hB : B ≤ w.heap.size) : Below B w w' :=
  ⟨h.os, h.tape, h.output, h.size, fun k hk => h.block k (by omega) fun hx => by have := hs k hx; omega⟩
theorem turn_alloc (S : Nat → Prop) (w : World) (o : Obj) : Turn S w (w.alloc o) := turn_below ((Below.refl _ _).alloc (Nat.le_refl _) o)
theorem turn_grown {row : Option Nat} (h : w.grownBy w' row) (hr : ∀ k, row = some k → S k) : Turn S w w' :=
  ⟨h.os, h.tape, h.output, h.size, fun k hk hn => h.block k hk fun e => hn (hr k e.symm)⟩
theorem turn_setCell {a : Addr} (u : Value) (h : S a.block) : Turn S w (w.setCell a u) :=
  ⟨rfl, rfl, rfl, by simp [World.setCell], fun k _ hn => Below.heap_setCell _ _ _ _ (fun e => hn (e ▸ h))⟩
theorem turn_setCells {b : Nat} (h : S b) : ∀ (vs : List Value) (o : Nat) (w : World), Turn S w (w.setCells b o vs)
  | [], _, w => Turn.refl S w
  | v :: r, o, w => by
    rw [World.setCells]
    exact (turn_setCell (a := ⟨b, o, none⟩) v h).then (turn_setCells h r (o + 1) _)
theorem turn_setBlock {b : Nat} (o : Obj) (h : S b) : Turn S w (setBlock w b o) :=
  ⟨rfl, rfl, rfl, by simp [setBlock], fun k _ hn => by
    show (w.heap.setIfInBounds b o)[k]? = _
    rw [Array.getElem?_setIfInBounds_ne (fun (e : b = k) => hn (e ▸ h))]⟩
theorem setCells_size (b : Nat) : ∀ (vs : List Value) (o : Nat) (w : World), (w.setCells b o vs).heap.size = w.heap.size
  | [], _, w => rfl
  | v :: r, o, w => by rw [World.setCells, setCells_size b r]; simp [World.setCell]
theorem setBlock_size (w : World) (b : Nat) (o : Obj) : (setBlock w b o).heap.size = w.heap.size := by simp [setBlock]
theorem setBlock_at {b : Nat} {o : Obj} (h : b < w.heap.size) : (setBlock w b o).heap[b]? = some o := by
  show (w.heap.setIfInBounds b o)[b]? = _
  rw [Array.getElem?_setIfInBounds_self_of_lt h]
theorem setCell_at {b j : Nat} {c : Array Value} {t : TypeId} {fr : Nat × Nat} (u : Value) (h : w.heap[b]? = some (.cells c t fr)) : (w.setCell ⟨b, j, none⟩ u).heap[b]? = some (.cells (c.setIfInBounds j u) t fr) := by
  simp [World.setCell, Array.getElem?_modify, h]
theorem lt_of_heap {b : Nat} {o : Obj} (h : w.heap[b]? = some o) : b < w.heap.size := (Array.getElem?_eq_some_iff.1 h).1
theorem range_keep {b o : Nat} {cs : List Value} (h : w.rangeAt b o cs) (e : w'.heap[b]? = w.heap[b]?) : w'.rangeAt b o cs := fun j v hv => (World.cell?_of_block (a := ⟨b, o + j, none⟩) e).trans (h j v hv)
theorem there_keep {b o n : Nat} (h : w.there b o n) (e : w'.heap[b]? = w.heap[b]?) : w'.there b o n := fun j hj => by
  obtain ⟨h1, h2⟩ := h j hj
  exact ⟨by rw [World.cell?_of_block (a := ⟨b, o + j, none⟩) e]; exact h1, by rw [World.frozen?_of_block (a := ⟨b, o + j, none⟩) e]; exact h2⟩
theorem owns_keep {base : Nat} {e : TypeId} {size n : Nat} {v : Value} {xs : List Value} (h : w.ownsRow base e size v n xs) (hk : ∀ g, v.ownBlock = some g → w'.heap[g]? = w.heap[g]?) : w'.ownsRow base e size v n xs := by
  refine ⟨h.1, ?_⟩
  rcases h.2 with hv | ⟨g, cap, cur, hv, h1, hg, r⟩
  · exact .inl hv
  · exact .inr ⟨g, cap, cur, hv, h1, (hk g (by rw [hv]; rfl)).trans hg, r⟩
theorem owns_base {base base' : Nat} {e : TypeId} {size n : Nat} {v : Value} {xs : List Value} (h : w.ownsRow base e size v n xs) (hb : base' ≤ base) : w.ownsRow base' e size v n xs := by
  refine ⟨h.1, ?_⟩
  rcases h.2 with hv | ⟨g, cap, cur, hv, h1, r⟩
  · exact .inl hv
  · exact .inr ⟨g, cap, cur, hv, by omega, r⟩
theorem owns_form {base : Nat} {e : TypeId} {size n : Nat} {v : Value} {xs : List Value} (h : w.ownsRow base e size v n xs) (hn : 0 < n) : ∃ g c, v = .slice (some ⟨g, 0, none⟩) n c ∧ n ≤ c ∧ c ≤ maxLen := by
  rcases h.2 with hv | ⟨g, cap, cur, hv, _, _, h1, h2, _⟩
  · omega
  · exact ⟨g, cap, hv, h1, h2⟩
theorem owns_any {base : Nat} {e : TypeId} {size n : Nat} {v : Value} {xs : List Value} (h : w.ownsRow base e size v n xs) : ∃ A c, v = .slice A n c ∧ n ≤ c ∧ c ≤ maxLen := by
  rcases h.2 with ⟨rfl, rfl⟩ | ⟨g, cap, cur, hv, _, _, h1, h2, _⟩
  · exact ⟨none, 0, rfl, Nat.le_refl _, Nat.zero_le _⟩
  · exact ⟨_, cap, hv, h1, h2⟩
end

/-! ### Sectors -/
/-- Sectors, one behind the other, as cells. Kept shut. -/
def flat (ls : List (List UInt8)) : List Value := ls.flatten.map bv
/-- Each has 256 bytes. -/
def Secs (ls : List (List UInt8)) : Prop := ∀ l ∈ ls, l.length = 256
/-- A sector as cells. Kept shut. -/
def bvs (l : List UInt8) : List Value := l.map bv
theorem bvs_len (l : List UInt8) : (bvs l).length = l.length := by simp [bvs]
theorem bvs_one (l : List UInt8) : ∀ u ∈ bvs l, u.oneCell' = true := bv_one l
theorem flat_nil : flat [] = [] := rfl
theorem flat_snoc (ls : List (List UInt8)) (l : List UInt8) : flat (ls ++ [l]) = flat ls ++ bvs l := by simp [flat, bvs]
theorem flat_cons (l : List UInt8) (ls : List (List UInt8)) : flat (l :: ls) = bvs l ++ flat ls := by simp [flat, bvs]
theorem flat_len : ∀ {ls : List (List UInt8)}, Secs ls → (flat ls).length = ls.length * 256
  | [], _ => rfl
  | l :: ls, h => by
    rw [flat_cons, List.length_append, bvs_len, h l (by simp), flat_len (fun x hx => h x (by simp [hx])), List.length_cons]; omega
theorem flat_at : ∀ {ls : List (List UInt8)}, Secs ls → ∀ (i : Nat) (hi : i < ls.length) (j : Nat) (_hj : j < 256), (flat ls)[i * 256 + j]? = (bvs ls[i])[j]?
  | l :: ls, h, i, hi, j, hj => by
    have hl : (bvs l).length = 256 := by rw [bvs_len, h l (by simp)]
    rw [flat_cons]
    rcases i with _ | i
    · rw [List.getElem?_append_left (by omega)]; simp
    · rw [List.getElem?_append_right (by omega), hl]
      have e : (i + 1) * 256 + j - 256 = i * 256 + j := by omega
      rw [e, flat_at (fun x hx => h x (by simp [hx])) i (by simpa using hi) j hj]; simp
theorem flat_set : ∀ {ls : List (List UInt8)}, Secs ls → ∀ (i : Nat) (hi : i < ls.length) (j : Nat) (_hj : j < 256) (b : UInt8), (flat ls).set (i * 256 + j) (bv b) = flat (ls.set i (ls[i].set j b))
  | l :: ls, h, i, hi, j, hj, b => by
    have hl : (bvs l).length = 256 := by rw [bvs_len, h l (by simp)]
    rcases i with _ | i
    · rw [flat_cons, List.set_append_left _ _ (by omega)]
      simp [flat, bvs, List.map_set]
    · rw [flat_cons, List.set_append_right _ _ (by omega), hl]
      have e : (i + 1) * 256 + j - 256 = i * 256 + j := by omega
      rw [e, flat_set (fun x hx => h x (by simp [hx])) i (by simpa using hi) j hj b]
      simp [flat_cons]
/-- The i-th sector of a row of the call's own. -/
theorem owns_range {w : World} {base g n c : Nat} {e : TypeId} {ls : List (List UInt8)} (h : w.ownsRow base e 256 (.slice (some ⟨g, 0, none⟩) n c) n (flat ls)) (hs : Secs ls) (hn : ls.length = n) (i : Nat) (hi : i < ls.length) :
    w.rangeAt g (i * 256) (bvs ls[i]) := fun j v hv => by
  have hj : j < 256 := by
    have := (List.getElem?_eq_some_iff.1 hv).1
    rw [bvs_len, hs _ (List.getElem_mem hi)] at this
    exact this
  rw [World.ownsRow.cellAt h (i * 256 + j) (by subst hn; have : i * 256 + 256 ≤ ls.length * 256 := (by omega); omega), flat_at hs i hi j hj]
  exact hv
theorem sl_range {w : World} {g o c : Nat} {l : List UInt8} (h : w.rangeAt g o (bvs l)) (hg : g < w.heap.size) (hc : l.length ≤ c) (hm : c ≤ maxLen) : Sl w (some ⟨g, o, none⟩) l.length c l :=
  ⟨by simp, hc, hm, fun j u hu => ⟨_, rfl, hg, by rw [Addr.add_mid]; exact h j u hu⟩⟩
theorem range_sl {w : World} {A : Option Addr} {n c : Nat} {l : List UInt8} (h : Sl w A n c l) (hl : 0 < l.length) : ∃ g o, A = some ⟨g, o, none⟩ ∧ g < w.heap.size ∧ w.rangeAt g o (bvs l) := by
  obtain ⟨ad, e, hb, hc0⟩ := h.2.2.2 0 (bv l[0]) (by simp [hl])
  obtain ⟨g, o, sp⟩ := ad
  have hsp : sp = none := by
    cases sp with
    | none => rfl
    | some x =>
      simp only [World.cell?, Addr.add, if_true] at hc0
      split at hc0 <;> simp at hc0
  subst hsp
  refine ⟨g, o, e, hb, fun j v hv => ?_⟩
  obtain ⟨ad', e', _, hc⟩ := h.2.2.2 j v hv
  obtain rfl := Option.some.inj (e.symm.trans e')
  rw [← Addr.add_mid]; exact hc
end Go.Proofs.Ytlofgjpnpfgpfaa
