/- How a struct of ints, and an array of ints, that come in by value are opened. -/
import Derived.Test.YtljlliiedbedeaaDoorLaw
import Derived.Deep.Slices
import Derived.Deep.Fields
namespace Go.Proofs.YtljlliiedbedeaaDoor
open Go Go.RowKit Go.ChangeShapes Go.WideShapes Go.ChangeAt Go.Deep

theorem pair_of {α : Type} : ∀ {l : List α}, l.length = 2 → ∃ a b, l = [a, b]
  | [a, b], _ => ⟨a, b, rfl⟩
theorem three_of {α : Type} : ∀ {l : List α}, l.length = 3 → ∃ a b c, l = [a, b, c]
  | [a, b, c], _ => ⟨a, b, c, rfl⟩
theorem five_of {α : Type} : ∀ {l : List α}, l.length = 5 → ∃ a b c d e, l = [a, b, c, d, e]
  | [a, b, c, d, e], _ => ⟨a, b, c, d, e, rfl⟩
/-- Whether the type is one of ints. -/
def isInt (P : Program) (t : TypeId) : Bool := match P.underlying t with
  | some (.int .i64) => true
  | _ => false
theorem isInt_of {P : Program} {t : TypeId} (h : isInt P t = true) : P.underlying t = some (.int .i64) := by
  unfold isInt at h
  split at h
  · assumption
  · cases h
section
variable {H : Type} {enc : TypeId × Value → H} {P : Program} {W : World}
theorem as_ints {cs : List Value} (key : ∀ i (hi : i < cs.length), ∃ z, cs[i] = .int .i64 z) : ∃ zs : List Int, cs = zs.map (Value.int .i64) ∧ zs.length = cs.length := by
  refine ⟨cs.map fun v => match v with | .int _ z => z | _ => 0, ?_, by simp⟩
  apply List.ext_getElem
  · simp
  · intro i h1 h2
    obtain ⟨z, hz⟩ := key i h1
    simp [hz]
theorem int_one {e : TypeId} (he : P.underlying e = some (.int .i64)) {sp : Nat → Bool} {m : Nat} {c : Value} {y : DataW H × List MemPlace} (h : DataW.trod enc P W 0 sp true m e [c] = some y) : ∃ z, c = .int .i64 z := by
  obtain ⟨z, hcs, _, _⟩ := DataW.trod_int he h
  exact ⟨z, by simpa using hcs⟩
/-- An array of ints by value. -/
theorem open_arr_ints {n : Nat} {t e : TypeId} {v : Value} {d : DataW H} {ps : List MemPlace} (ht : P.underlying t = some (.array n e)) (he : P.underlying e = some (.int .i64)) (hc : P.cellsOf e = 1) (hct : P.cellsOf t = n)
    {r : Reach} {b0 : Nat} (hv : Value.okWide P W r b0 t v) (h : DataW.Trod enc P W 0 (fun _ => true) true t v d ps) : ∃ zs : List Int, v = .agg (zs.map (Value.int .i64)).toArray ∧ zs.length = n := by
  simp only [Value.okWide, ht] at hv
  obtain ⟨cs, rfl, _, _⟩ := hv
  obtain ⟨f, hf⟩ := h
  obtain ⟨xs, m, _, _, hl, hxl, hi⟩ := DataW.trod_array ht hf
  have hlen : cs.toList.length = n := hl.trans hct
  obtain ⟨zs, hz, hzl⟩ := as_ints (cs := cs.toList) fun i hi' => by
    have h1 := hi i (by omega)
    have h2 : xs[i]? = some (xs[i]'(by omega)) := List.getElem?_eq_getElem (by omega)
    have h3 : (Value.agg cs).cells.toList = cs.toList := rfl
    rw [hc, Nat.mul_one, h2, h3, List.drop_eq_getElem_cons hi'] at h1
    exact int_one he h1
  exact ⟨zs, by rw [← hz], by omega⟩
/-- A struct of ints by value. -/
theorem open_struct_ints {fs : Array Field} {t : TypeId} {v : Value} {d : DataW H} {ps : List MemPlace} (ht : P.underlying t = some (.struct fs)) (hone : oneCellFields P fs = true) (hct : P.cellsOf t = fs.size)
    (hI : (fs.all fun f => isInt P f.type) = true)
    {r : Reach} {b0 : Nat} (hv : Value.okWide P W r b0 t v) (h : DataW.Trod enc P W 0 (fun _ => true) true t v d ps) : ∃ zs : List Int, v = .agg (zs.map (Value.int .i64)).toArray ∧ zs.length = fs.size := by
  obtain ⟨cs, rfl, hsz⟩ := okWide_struct ht hv
  obtain ⟨f, hf⟩ := h
  obtain ⟨xs, m, _, _, hl, hxl, hi⟩ := DataW.trod_struct ht hf
  have hlen : cs.toList.length = fs.size := by rw [Array.length_toList, hsz, hct]
  obtain ⟨zs, hz, hzl⟩ := as_ints (cs := cs.toList) fun i hi' => by
    have hfi : fs[i]? = some (fs[i]'(by omega)) := Array.getElem?_eq_getElem (by omega)
    obtain ⟨ho, hk⟩ := hone_of hone i _ hfi
    have h1 := hi i _ hfi
    have h2 : xs[i]? = some (xs[i]'(by omega)) := List.getElem?_eq_getElem (by omega)
    have h3 : (Value.agg cs).cells.toList = cs.toList := rfl
    rw [ho, hk, h2, h3, List.drop_eq_getElem_cons hi'] at h1
    exact int_one (isInt_of ((Array.all_eq_true_iff_forall_mem.1 hI) _ (Array.mem_of_getElem? hfi))) h1
  exact ⟨zs, by rw [← hz], by omega⟩
end
end Go.Proofs.YtljlliiedbedeaaDoor
