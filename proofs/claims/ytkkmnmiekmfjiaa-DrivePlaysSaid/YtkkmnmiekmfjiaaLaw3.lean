/- How arrays of ints, slices of pairs and slices of ints that come in are opened. -/
import Derived.Test.YtkkmnmiekmfjiaaLaw
import Derived.Test.YtkkmnmiekmfjiaaDrvR
import Derived.Deep.Slices
namespace Go.Proofs.Ytkkmnmiekmfjiaa
open Go Go.RowKit Go.ChangeShapes Go.WideShapes Go.ChangeAt

def i64 (z : Int) : Prop := -9223372036854775808 ≤ z ∧ z ≤ 9223372036854775807
theorem two_of {α : Type} : ∀ {l : List α}, l.length = 2 → ∃ a b, l = [a, b]
  | [a, b], _ => ⟨a, b, rfl⟩
theorem three_of {α : Type} : ∀ {l : List α}, l.length = 3 → ∃ a b c, l = [a, b, c]
  | [a, b, c], _ => ⟨a, b, c, rfl⟩
/-- Pairs that came in. -/
def Pairs (w : World) (A : Option Addr) (n c : Nat) (ps : List (Int × Int)) : Prop :=
  ps.length = n ∧ n ≤ c ∧ c ≤ maxLen ∧ (∀ x ∈ ps, i64 x.1 ∧ i64 x.2) ∧ ∀ (j : Nat) x, ps[j]? = some x → ∃ g o, A = some ⟨g, o, none⟩ ∧ g < w.heap.size ∧ w.cell? ⟨g, o + j * 2, none⟩ = some (.int .i64 x.1) ∧ w.cell? ⟨g, o + j * 2 + 1, none⟩ = some (.int .i64 x.2)
section
variable {H : Type} {enc : TypeId × Value → H} {P : Program} {W : World}
theorem int_cell {e : TypeId} (he : P.underlying e = some (.int .i64)) {sp : Nat → Bool} {m : Nat} {c : Value} {y : DataW H × List MemPlace} (h : DataW.trod enc P W 0 sp true m e [c] = some y) : ∃ z, c = .int .i64 z ∧ i64 z := by
  obtain ⟨z, hcs, _, hw⟩ := DataW.trod_int he h
  exact ⟨z, by simpa using hcs, bounds_i64 hw⟩
theorem arr_ints {n : Nat} {t e : TypeId} (ht : P.underlying t = some (.array n e)) (he : P.underlying e = some (.int .i64)) (hc : P.cellsOf e = 1) (hct : P.cellsOf t = n) {sp : Nat → Bool} {f : Nat} {cs : List Value} {x : DataW H × List MemPlace}
    (h : DataW.trod enc P W 0 sp true f t cs = some x) : ∃ zs : List Int, cs = zs.map (Value.int .i64) ∧ zs.length = n ∧ ∀ z ∈ zs, i64 z := by
  obtain ⟨xs, m, _, _, hl, hxl, hi⟩ := DataW.trod_array ht h
  have hlen : cs.length = n := hl.trans hct
  have key : ∀ i (hi' : i < cs.length), ∃ z, cs[i] = .int .i64 z ∧ i64 z := fun i hi' => by
    have h1 := hi i (by omega)
    have h2 : xs[i]? = some (xs[i]'(by omega)) := List.getElem?_eq_getElem (by omega)
    rw [hc, Nat.mul_one, h2, List.drop_eq_getElem_cons hi'] at h1
    exact int_cell he h1
  refine ⟨cs.map fun v => match v with | .int _ z => z | _ => 0, ?_, by simpa using hlen, fun z hz => ?_⟩
  · apply List.ext_getElem
    · simp
    · intro i h1 h2
      obtain ⟨z, hz, _⟩ := key i h1
      simp [hz]
  · obtain ⟨v, hv, rfl⟩ := List.mem_map.1 hz
    obtain ⟨i, hi', rfl⟩ := List.getElem_of_mem hv
    obtain ⟨z, hz, hb⟩ := key i hi'
    rw [hz]; exact hb
/-- An array of ints by value. -/
theorem open_arr {n : Nat} {t e : TypeId} {v : Value} {d : DataW H} {ps : List MemPlace} (ht : P.underlying t = some (.array n e)) (he : P.underlying e = some (.int .i64)) (hc : P.cellsOf e = 1) (hct : P.cellsOf t = n)
    {r : Reach} {b0 : Nat} (hv : Value.okWide P W r b0 t v) (h : DataW.Trod enc P W 0 (fun _ => true) true t v d ps) : ∃ zs : List Int, v = .agg (zs.map (Value.int .i64)).toArray ∧ zs.length = n ∧ ∀ z ∈ zs, i64 z := by
  simp only [Value.okWide, ht] at hv
  obtain ⟨cs, rfl, _, _⟩ := hv
  obtain ⟨f, hf⟩ := h
  obtain ⟨zs, hz, hl, hb⟩ := arr_ints ht he hc hct hf
  refine ⟨zs, ?_, hl, hb⟩
  have : cs.toList = zs.map (Value.int .i64) := hz
  rw [← this]
theorem spot_none {g o : Nat} {s : Option Nat} {v : Value} (h : W.cell? ⟨g, o, s⟩ = some v) : s = none := by
  cases s with
  | none => rfl
  | some k =>
    unfold World.cell? at h
    split at h <;> simp at h
/-- A slice of pairs. -/
theorem open_pairs {t p e : TypeId} {v : Value} {d : DataW H} {ps : List MemPlace} (ht : P.underlying t = some (.slice p)) (hp : P.underlying p = some (.array 2 e)) (he : P.underlying e = some (.int .i64)) (hc : P.cellsOf e = 1) (hct : P.cellsOf p = 2)
    (hv : ∃ a len cap, v = .slice a len cap) (h : DataW.Trod enc P W 0 (fun _ => true) true t v d ps) : ∃ A n c xs, v = .slice A n c ∧ Pairs W A n c xs := by
  obtain ⟨fuel, hf⟩ := h
  obtain ⟨a0, len0, cap0, rfl⟩ := hv
  rcases Deep.open_slice ht hf with ⟨hcs, _⟩ | ⟨a, len, cap, m, f, D, Pl, hcs, _, hl, hm, hmm, _, hi⟩
  · simp [Value.cells] at hcs
    obtain ⟨rfl, rfl, rfl⟩ := hcs
    exact ⟨_, _, _, [], rfl, rfl, Nat.le_refl _, Nat.zero_le _, fun x hx => (by cases hx), fun j x hx => (by simp at hx)⟩
  · simp [Value.cells] at hcs
    obtain ⟨rfl, rfl, rfl⟩ := hcs
    rw [if_pos rfl] at hmm
    have key : ∀ i, i < len0 → ∃ z1 z2, W.cell? ((a.add (i * 2)).add 0) = some (.int .i64 z1) ∧ W.cell? ((a.add (i * 2)).add 1) = some (.int .i64 z2) ∧ i64 z1 ∧ i64 z2 := fun i hil => by
      obtain ⟨cs, h1, h2⟩ := hi i (by omega)
      rw [hct] at h1
      obtain ⟨_, _, hat⟩ := World.cells?_some h1
      obtain ⟨zs, rfl, hzl, hb⟩ := arr_ints hp he hc hct h2
      match zs, hzl with
      | [z1, z2], _ => exact ⟨z1, z2, hat 0 (by omega), hat 1 (by omega), hb z1 (by simp), hb z2 (by simp)⟩
    obtain ⟨g, o, s⟩ := a
    have ks : 0 < len0 → s = none := fun h0 => by
      obtain ⟨z1, z2, h1, _⟩ := key 0 h0
      exact spot_none (show W.cell? ⟨g, o, s⟩ = some (.int .i64 z1) by simpa [Addr.add] using h1)
    classical
    let F : Nat → Int × Int := fun i => if h : i < len0 then ((key i h).choose, (key i h).choose_spec.choose) else (0, 0)
    have hF : ∀ i (h : i < len0), W.cell? (((⟨g, o, s⟩ : Addr).add (i * 2)).add 0) = some (.int .i64 (F i).1) ∧ W.cell? (((⟨g, o, s⟩ : Addr).add (i * 2)).add 1) = some (.int .i64 (F i).2) ∧ i64 (F i).1 ∧ i64 (F i).2 := fun i h => by
      have := (key i h).choose_spec.choose_spec
      simp only [F, dif_pos h]
      exact this
    refine ⟨_, _, _, (List.range len0).map F, rfl, by simp, hl, hm, fun x hx => ?_, fun j x hx => ?_⟩
    · obtain ⟨i, hi', rfl⟩ := List.mem_map.1 hx
      exact (hF i (by simpa using hi')).2.2
    · have hj : j < len0 := by have := (List.getElem?_eq_some_iff.1 hx).1; simpa using this
      rw [List.getElem?_map, List.getElem?_range hj] at hx
      obtain rfl : F j = x := by simpa using hx
      obtain rfl := ks (by omega)
      obtain ⟨h1, h2, _⟩ := hF j hj
      rw [Addr.add_mid, Addr.add_mid] at h1 h2
      exact ⟨g, o, rfl, World.block_lt_of_cell? W _ h1, h1, by simpa using h2⟩
/-- A slice of ints. -/
theorem open_nums {t e : TypeId} {v : Value} {d : DataW H} {ps : List MemPlace} (ht : P.underlying t = some (.slice e)) (he : P.underlying e = some (.int .i64)) (hc : P.cellsOf e = 1)
    (hv : ∃ a len cap, v = .slice a len cap) (h : DataW.Trod enc P W 0 (fun _ => true) true t v d ps) : ∃ A n c zs, v = .slice A n c ∧ Ints W A n c zs := by
  obtain ⟨fuel, hf⟩ := h
  obtain ⟨a0, len0, cap0, rfl⟩ := hv
  rcases open_ints ht he hc hf with ⟨hcs, _⟩ | ⟨a, len, cap, zs, hcs, _, hl, hm, hz, _, hcell, hw⟩
  · simp [Value.cells] at hcs
    obtain ⟨rfl, rfl, rfl⟩ := hcs
    exact ⟨_, _, _, [], rfl, ints_nil W⟩
  · simp [Value.cells] at hcs
    obtain ⟨rfl, rfl, rfl⟩ := hcs
    rw [if_pos rfl] at hz
    refine ⟨_, _, _, zs.take len0, rfl, ⟨?_, hl, hm, fun j u hu => ?_⟩, fun z hz' => bounds_i64 (hw z (List.mem_of_mem_take hz'))⟩
    · simp; omega
    · have hj : j < len0 := by have := (List.getElem?_eq_some_iff.1 hu).1; simp at this; omega
      have hj2 : j < zs.length := by omega
      have hc := hcell j hj2
      refine ⟨a, rfl, ?_, ?_⟩
      · have := World.block_lt_of_cell? W (a.add j) hc
        rwa [addr_block] at this
      · rw [hc, ← hu]
        rw [List.getElem?_map, List.getElem?_take_of_lt hj, List.getElem?_eq_getElem hj2]
        simp [List.getD, hj2]
end
section
variable {w w' : World} {A : Option Addr} {n c : Nat} {ps : List (Int × Int)}
theorem Pairs.below (h : Pairs w A n c ps) (hb : Below w.heap.size w w') : Pairs w' A n c ps :=
  ⟨h.1, h.2.1, h.2.2.1, h.2.2.2.1, fun j x hx => by
    obtain ⟨g, o, e, hg, h1, h2⟩ := h.2.2.2.2 j x hx
    exact ⟨g, o, e, by have := hb.size; omega, (hb.cell (p := ⟨g, _, none⟩) hg).trans h1, (hb.cell (p := ⟨g, _, none⟩) hg).trans h2⟩⟩
end
end Go.Proofs.Ytkkmnmiekmfjiaa
