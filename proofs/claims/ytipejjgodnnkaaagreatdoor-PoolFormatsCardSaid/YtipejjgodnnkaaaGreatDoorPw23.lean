/- How arrays of ints, slices of pairs and slices of ints that come in are opened. Laws of the pool: pairs that came in. -/
import Derived.Test.YtipejjgodnnkaaaGreatDoorLaw
import Derived.Test.YtipejjgodnnkaaaGreatDoorPw15
import Derived.Deep.Slices
namespace Go.Proofs.YtipejjgodnnkaaaGreatDoor
open Go Go.RowKit Go.ChangeShapes Go.WideShapes Go.ChangeAt

def i64 (z : Int) : Prop := -9223372036854775808 ≤ z ∧ z ≤ 9223372036854775807
/-- Pairs that came in. -/
def Pairs (w : World) (A : Option Addr) (n c : Nat) (ps : List (Int × Int)) : Prop :=
  ps.length = n ∧ n ≤ c ∧ c ≤ maxLen ∧ (∀ x ∈ ps, i64 x.1 ∧ i64 x.2) ∧ ∀ (j : Nat) x, ps[j]? = some x → ∃ g o, A = some ⟨g, o, none⟩ ∧ g < w.heap.size ∧ w.cell? ⟨g, o + j * 2, none⟩ = some (.int .i64 x.1) ∧ w.cell? ⟨g, o + j * 2 + 1, none⟩ = some (.int .i64 x.2)
section
variable {H : Type} {enc : TypeId × Value → H} {P : Program} {W : World}
theorem int_cell {e : TypeId} (he : P.underlying e = some (.int .i64)) {sp : Nat → Bool} {m : Nat} {c : Value} {y : DataW H × List MemPlace} (h : DataW.trod enc P W 0 sp true m e [c] = some y) : ∃ z, c = .int .i64 z ∧ i64 z := by
  obtain ⟨z, hcs, _, hw⟩ := DataW.trod_int he h
  exact ⟨z, by simpa using hcs, bounds_i64 hw⟩
theorem arr_ints {n : Nat} {t e : TypeId} (ht : P.underlying t = some (.array n e)) (he : P.underlying e = some (.int .i64)) (hc : P.cellsOf e = 1) (hct : P.cellsOf t = n) {sp : Nat → Bool} {f : Nat} {cs : List Value} {x : DataW H × List MemPlace}
    (h : DataW.trod enc P W 0 sp true f t cs = some x) : ∃ zs : List Int, cs = zs.map (Value.int .i64) ∧ zs.length = n ∧ ∀ z ∈ zs, i64 z := by
  obtain ⟨xs, m, _, _, hl, hxl, hi⟩ := DataW.trod_array ht h
  have hlen : cs.length = n := hl.trans hct
  have key : ∀ i (hi' : i < cs.length), ∃ z, cs[i] = .int .i64 z ∧ i64 z := fun i hi' => by
    have h1 := hi i (by omega)
    have h2 : xs[i]? = some (xs[i]'(by omega)) := List.getElem?_eq_getElem (by omega)
    rw [hc, Nat.mul_one, h2, List.drop_eq_getElem_cons hi'] at h1
    exact int_cell he h1
  refine ⟨cs.map fun v => match v with | .int _ z => z | _ => 0, ?_, by simpa using hlen, fun z hz => ?_⟩
  · apply List.ext_getElem
    · simp
    · intro i h1 h2
      obtain ⟨z, hz, _⟩ := key i h1
      simp [hz]
  · obtain ⟨v, hv, rfl⟩ := List.mem_map.1 hz
    obtain ⟨i, hi', rfl⟩ := List.getElem_of_mem hv
    obtain ⟨z, hz, hb⟩ := key i hi'
    rw [hz]; exact hb
theorem spot_none {g o : Nat} {s : Option Nat} {v : Value} (h : W.cell? ⟨g, o, s⟩ = some v) : s = none := by
  cases s with
  | none => rfl
  | some k =>
    unfold World.cell? at h
    split at h <;> simp at h
/-- A slice of pairs. -/
theorem open_pairs {t p e : TypeId} {v : Value} {d : DataW H} {ps : List MemPlace} (ht : P.underlying t = some (.slice p)) (hp : P.underlying p = some (.array 2 e)) (he : P.underlying e = some (.int .i64)) (hc : P.cellsOf e = 1) (hct : P.cellsOf p = 2)
    (hv : ∃ a len cap, v = .slice a len cap) (h : DataW.Trod enc P W 0 (fun _ => true) true t v d ps) : ∃ A n c xs, v = .slice A n c ∧ Pairs W A n c xs := by
  obtain ⟨fuel, hf⟩ := h
  obtain ⟨a0, len0, cap0, rfl⟩ := hv
  rcases Deep.open_slice ht hf with ⟨hcs, _⟩ | ⟨a, len, cap, m, f, D, Pl, hcs, _, hl, hm, hmm, _, hi⟩
  · simp [Value.cells] at hcs
    obtain ⟨rfl, rfl, rfl⟩ := hcs
    exact ⟨_, _, _, [], rfl, rfl, Nat.le_refl _, Nat.zero_le _, fun x hx => (by cases hx), fun j x hx => (by simp at hx)⟩
  · simp [Value.cells] at hcs
    obtain ⟨rfl, rfl, rfl⟩ := hcs
    rw [if_pos rfl] at hmm
    have key : ∀ i, i < len0 → ∃ z1 z2, W.cell? ((a.add (i * 2)).add 0) = some (.int .i64 z1) ∧ W.cell? ((a.add (i * 2)).add 1) = some (.int .i64 z2) ∧ i64 z1 ∧ i64 z2 := fun i hil => by
      obtain ⟨cs, h1, h2⟩ := hi i (by omega)
      rw [hct] at h1
      obtain ⟨_, _, hat⟩ := World.cells?_some h1
      obtain ⟨zs, rfl, hzl, hb⟩ := arr_ints hp he hc hct h2
      match zs, hzl with
      | [z1, z2], _ => exact ⟨z1, z2, hat 0 (by omega), hat 1 (by omega), hb z1 (by simp), hb z2 (by simp)⟩
    obtain ⟨g, o, s⟩ := a
    have ks : 0 < len0 → s = none := fun h0 => by
      obtain ⟨z1, z2, h1, _⟩ := key 0 h0
      exact spot_none (show W.cell? ⟨g, o, s⟩ = some (.int .i64 z1) by simpa [Addr.add] using h1)
    classical
    let F : Nat → Int × Int := fun i => if h : i < len0 then ((key i h).choose, (key i h).choose_spec.choose) else (0, 0)
    have hF : ∀ i (h : i < len0), W.cell? (((⟨g, o, s⟩ : Addr).add (i * 2)).add 0) = some (.int .i64 (F i).1) ∧ W.cell? (((⟨g, o, s⟩ : Addr).add (i * 2)).add 1) = some (.int .i64 (F i).2) ∧ i64 (F i).1 ∧ i64 (F i).2 := fun i h => by
      have := (key i h).choose_spec.choose_spec
      simp only [F, dif_pos h]
      exact this
    refine ⟨_, _, _, (List.range len0).map F, rfl, by simp, hl, hm, fun x hx => ?_, fun j x hx => ?_⟩
    · obtain ⟨i, hi', rfl⟩ := List.mem_map.1 hx
      exact (hF i (by simpa using hi')).2.2
    · have hj : j < len0 := by have := (List.getElem?_eq_some_iff.1 hx).1; simpa using this
      rw [List.getElem?_map, List.getElem?_range hj] at hx
      obtain rfl : F j = x := by simpa using hx
      obtain rfl := ks (by omega)
      obtain ⟨h1, h2, _⟩ := hF j hj
      rw [Addr.add_mid, Addr.add_mid] at h1 h2
      exact ⟨g, o, rfl, World.block_lt_of_cell? W _ h1, h1, by simpa using h2⟩
end
section
variable {w w' : World} {A : Option Addr} {n c : Nat} {ps : List (Int × Int)}
theorem Pairs.below (h : Pairs w A n c ps) (hb : Below w.heap.size w w') : Pairs w' A n c ps :=
  ⟨h.1, h.2.1, h.2.2.1, h.2.2.2.1, fun j x hx => by
    obtain ⟨g, o, e, hg, h1, h2⟩ := h.2.2.2.2 j x hx
    exact ⟨g, o, e, by have := hb.size; omega, (hb.cell (p := ⟨g, _, none⟩) hg).trans h1, (hb.cell (p := ⟨g, _, none⟩) hg).trans h2⟩⟩
end
end Go.Proofs.YtipejjgodnnkaaaGreatDoor

namespace Go.Proofs.YtipejjgodnnkaaaGreatDoor
open Go Go.RowKit Go.Proofs

theorem run_ix_pair (w : World) (g o n c j : Nat) (hj : j < n) : (Instr.indexAt 88 (.slice (some ⟨g, o, none⟩) n c) (.int .i64 (j : Int))).run Tryz.prog w = .ok (.pointer (some ⟨g, o + j * 2, none⟩)) w := by
  have ha : (⟨g, o, none⟩ : Addr).add (j * 2) = ⟨g, o + j * 2, none⟩ := Addr.add_mid g o (j * 2)
  simp [Instr.indexAt, asIntOf, run_underlying Tryz.underlying88, Tryz.sizeOf89, hj, ha]
/-- The k-th pair. -/
theorem Pairs.get {w : World} {A : Option Addr} {n c : Nat} {ps : List (Int × Int)} (h : Pairs w A n c ps) {k : Nat} (hk : k < n) :
    ∃ g o xa xb, A = some ⟨g, o, none⟩ ∧ g < w.heap.size ∧ w.cell? ⟨g, o + k * 2, none⟩ = some (.int .i64 xa) ∧ w.cell? ⟨g, o + k * 2 + 1, none⟩ = some (.int .i64 xb) ∧ i64 xa ∧ i64 xb := by
  have hl : k < ps.length := by have := h.1; omega
  obtain ⟨g, o, e, hg, h1, h2⟩ := h.2.2.2.2 k ps[k] (List.getElem?_eq_getElem hl)
  exact ⟨g, o, _, _, e, hg, h1, h2, h.2.2.2.1 _ (List.getElem_mem hl)⟩
end Go.Proofs.YtipejjgodnnkaaaGreatDoor
