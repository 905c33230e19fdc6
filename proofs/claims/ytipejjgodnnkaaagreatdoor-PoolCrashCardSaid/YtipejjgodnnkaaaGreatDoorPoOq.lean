/- How two rows of texts by value, and a struct of an int and a row of ints, come in. -/
import Derived.Test.YtipejjgodnnkaaaGreatDoorNodeIn
import Derived.Test.YtipejjgodnnkaaaGreatDoorLaw2
import Derived.Test.YtipejjgodnnkaaaGreatDoorPx24
import Derived.Deep.Slices
import Derived.Deep.Fields
namespace Go.Proofs.YtipejjgodnnkaaaGreatDoor
open Go Go.RowKit Go.Proofs Go.ChangeShapes Go.WideShapes Go.ChangeAt Go.Deep

section
variable {H : Type} {enc : TypeId × Value → H} {P : Program} {W : World}
/-- Slices of bytes in one cell. -/
theorem parts_one {t e q : TypeId} {m : Nat} {v : Value} {y : DataW H × List MemPlace} (ht : P.underlying t = some (.slice e)) (T : ByteT P e q) (hq : P.underlying q = some (.int .u8)) (ce : P.cellsOf e = 1)
    (h : DataW.trod enc P W 0 (fun _ => true) true m t [v] = some y) : ∃ A n c ls, v = .slice A n c ∧ Parts W A n c ls := by
  have cq : P.cellsOf q = 1 := by
    obtain ⟨i, hi, _, hz1, _⟩ := info_parts T.info
    simp [Program.cellsOf, hi, hz1]
  have hv : ∃ a len cap, v = .slice a len cap := by
    rcases Go.Deep.open_int_rows ht T.sl hq ce cq h with ⟨hcs, _⟩ | ⟨a, len, cap, A, L, C, Z, hcs, _⟩
    · exact ⟨_, _, _, by simpa using hcs⟩
    · exact ⟨_, _, _, by simpa using hcs⟩
  obtain ⟨a, len, cap, rfl⟩ := hv
  obtain ⟨yd, yp⟩ := y
  exact open_parts ht T hq ce ⟨_, _, _, rfl⟩ ⟨m, h⟩
/-- An array of two such rows. -/
theorem open_twoparts {t p e q : TypeId} {v : Value} {d : DataW H} {ps : List MemPlace} (ht : P.underlying t = some (.array 2 p)) (hp : P.underlying p = some (.slice e)) (T : ByteT P e q) (hq : P.underlying q = some (.int .u8)) (cp : P.cellsOf p = 1) (ce : P.cellsOf e = 1) (hct : P.cellsOf t = 2)
    {r : Reach} {b0 : Nat} (hv : Value.okWide P W r b0 t v) (h : DataW.Trod enc P W 0 (fun _ => true) true t v d ps) :
    ∃ A n c ls A2 n2 c2 ls2, v = .agg #[.slice A n c, .slice A2 n2 c2] ∧ Parts W A n c ls ∧ Parts W A2 n2 c2 ls2 := by
  simp only [Value.okWide, ht] at hv
  obtain ⟨cs, rfl, _, _⟩ := hv
  obtain ⟨f, hf⟩ := h
  obtain ⟨xs, m, _, _, hl, hxl, hi⟩ := DataW.trod_array ht hf
  have h3 : (Value.agg cs).cells.toList = cs.toList := rfl
  have hlen : cs.toList.length = 2 := hl.trans hct
  obtain ⟨v0, v1, hcs⟩ : ∃ v0 v1, cs.toList = [v0, v1] := by
    match cs.toList, hlen with
    | [a, b], _ => exact ⟨a, b, rfl⟩
  have key : ∀ i (hi' : i < 2), ∃ y, DataW.trod enc P W 0 (fun _ => true) true m p [[v0, v1][i]'hi'] = some y := fun i hi' => by
    have h1 := hi i (by omega)
    have h2 : xs[i]? = some (xs[i]'(by omega)) := List.getElem?_eq_getElem (by omega)
    rw [cp, Nat.mul_one, h2, h3, hcs, List.drop_eq_getElem_cons (by simpa using hi')] at h1
    exact ⟨_, h1⟩
  obtain ⟨y0, k0⟩ := key 0 (by omega)
  obtain ⟨y1, k1⟩ := key 1 (by omega)
  obtain ⟨A, n, c, ls, e0, hA⟩ := parts_one hp T hq ce k0
  obtain ⟨A2, n2, c2, ls2, e1, hA2⟩ := parts_one hp T hq ce k1
  refine ⟨A, n, c, ls, A2, n2, c2, ls2, ?_, hA, hA2⟩
  have e0 : v0 = .slice A n c := e0
  have e1 : v1 = .slice A2 n2 c2 := e1
  rw [e0, e1] at hcs
  exact congrArg Value.agg (by rw [← hcs])
/-- A row of ints in one cell. -/
theorem nums_one {t e : TypeId} {m : Nat} {v : Value} {y : DataW H × List MemPlace} (ht : P.underlying t = some (.slice e)) (he : P.underlying e = some (.int .i64)) (hc : P.cellsOf e = 1)
    (h : DataW.trod enc P W 0 (fun _ => true) true m t [v] = some y) : ∃ A n c zs, v = .slice A n c ∧ Ints W A n c zs := by
  have hv : ∃ a len cap, v = .slice a len cap := by
    rcases open_ints ht he hc h with ⟨hcs, _⟩ | ⟨a, len, cap, zs, hcs, _⟩
    · exact ⟨_, _, _, by simpa using hcs⟩
    · exact ⟨_, _, _, by simpa using hcs⟩
  obtain ⟨a, len, cap, rfl⟩ := hv
  obtain ⟨yd, yp⟩ := y
  exact open_nums ht he hc ⟨_, _, _, rfl⟩ ⟨m, h⟩
/-- A struct of an int and a row of ints. -/
theorem open_off {g0 g1 : Field} {tn e : TypeId} (hn : P.underlying tn = some (.struct #[g0, g1])) (hone : oneCellFields P #[g0, g1] = true) (hct : P.cellsOf tn = 2) (h0 : P.underlying g0.type = some (.int .i64))
    (hs1 : P.underlying g1.type = some (.slice e)) (he : P.underlying e = some (.int .i64)) (ce : P.cellsOf e = 1)
    {r : Reach} {b0 : Nat} {v : Value} {d : DataW H} {ps : List MemPlace} (hv : Value.okWide P W r b0 tn v) (h : DataW.Trod enc P W 0 (fun _ => true) true tn v d ps) :
    ∃ (z : Int) (A : Option Addr) (n c : Nat) (zs : List Int), v = .agg #[.int .i64 z, .slice A n c] ∧ i64 z ∧ Ints W A n c zs := by
  obtain ⟨cs, rfl, hsz⟩ := okWide_struct hn hv
  obtain ⟨f, hf⟩ := h
  obtain ⟨xs, m, _, _, hl, hxl, hff⟩ := DataW.trod_struct hn hf
  have hlen : cs.toList.length = 2 := by rw [Array.length_toList, hsz, hct]
  obtain ⟨v0, v1, hcs⟩ : ∃ v0 v1, cs.toList = [v0, v1] := by
    match cs.toList, hlen with
    | [a, b], _ => exact ⟨a, b, rfl⟩
  have q : ∀ (j : Nat) (ff : Field), (#[g0, g1] : Array Field)[j]? = some ff → ∃ vv y, [v0, v1][j]? = some vv ∧ DataW.trod enc P W 0 (fun _ => true) true m ff.type [vv] = some y := fun j ff hj => by
    obtain ⟨ho, hk1⟩ := hone_of hone j ff hj
    have hjl : j < 2 := (Array.getElem?_eq_some_iff.1 hj).1
    have g3 := hff j ff hj
    have hys : xs[j]? = some (xs[j]'(by rw [hxl]; exact hjl)) := List.getElem?_eq_getElem _
    have h3 : (Value.agg cs).cells.toList = cs.toList := rfl
    rw [ho, hk1, hys, h3, hcs, List.drop_eq_getElem_cons (by simpa using hjl)] at g3
    exact ⟨_, _, List.getElem?_eq_getElem (by simpa using hjl), g3⟩
  obtain ⟨u0, y0, e0, q0⟩ := q 0 g0 rfl
  obtain ⟨u1, y1, e1, q1⟩ := q 1 g1 rfl
  obtain ⟨z, hz, _, hw⟩ := DataW.trod_int h0 q0
  obtain ⟨A, n, c, zs, rfl, hA⟩ := nums_one hs1 he ce q1
  simp at e0 e1 hz
  refine ⟨z, A, n, c, zs, ?_, bounds_i64 hw, hA⟩
  rw [e0, e1, hz] at hcs
  exact congrArg Value.agg (by rw [← hcs])
end
end Go.Proofs.YtipejjgodnnkaaaGreatDoor
