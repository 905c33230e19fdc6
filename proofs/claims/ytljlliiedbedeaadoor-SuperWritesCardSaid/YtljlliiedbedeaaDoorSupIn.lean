/- How a superblock that comes in by value is opened. -/
import Derived.Test.YtljlliiedbedeaaDoorSupC
import Derived.Test.YtljlliiedbedeaaDoorLaw4
import Derived.WideShapes
namespace Go.Proofs.YtljlliiedbedeaaDoor
open Go Go.RowKit Go.Proofs Go.ChangeShapes Go.WideShapes Go.ChangeAt Go.Deep

section
variable {H : Type} {enc : TypeId × Value → H} {W : World}
theorem int_here {m : Nat} {c : Value} {y : DataW H × List MemPlace} (h : DataW.trod enc Tryd.prog W 0 (fun _ => true) true m 3 [c] = some y) : ∃ z, c = .int .i64 z := by
  obtain ⟨z, hcs, _, _⟩ := DataW.trod_int Tryd.underlying3 h
  exact ⟨z, by simpa using hcs⟩
theorem four_of {α : Type} : ∀ {l : List α}, l.length = 4 → ∃ a b c d, l = [a, b, c, d]
  | [a, b, c, d], _ => ⟨a, b, c, d, rfl⟩
/-- The fields of a subvolume and of a superblock, where they lie. -/
theorem vol_trod {fuel : Nat} {cs : List Value} {y : DataW H × List MemPlace} (hf : DataW.trod enc Tryd.prog W 0 (fun _ => true) true fuel 23 cs = some y) : ∃ v : Vl, cs = v.vs ∧ v.name.size ≤ maxLen := by
  obtain ⟨xs, m, _, _, hl, hxl, hff⟩ := DataW.trod_struct Tryd.underlying23 hf
  have hl4 : cs.length = 4 := by rw [hl]; kernel_rfl
  obtain ⟨v0, v1, v2, v3, rfl⟩ := four_of hl4
  have k1 : ∀ t, t = 9 ∨ t = 4 ∨ t = 3 → Tryd.prog.cellsOf t = 1 := by
    rintro t (rfl | rfl | rfl) <;> kernel_rfl
  have g0 := hff 0 _ rfl
  have g1 := hff 1 _ rfl
  have g2 := hff 2 _ rfl
  have g3 := hff 3 _ rfl
  have hx : xs.length = 4 := hxl
  rw [k1 _ (by simp), List.getElem?_eq_getElem (by omega)] at g0 g1 g2 g3
  obtain ⟨s, e0, _, hs⟩ := DataW.trod_string Tryd.underlying9 g0
  obtain ⟨b, e1, _⟩ := DataW.trod_bool Tryd.underlying4 g1
  obtain ⟨z2, e2⟩ := int_here g2
  obtain ⟨z3, e3⟩ := int_here g3
  have e0 : v0 = .string s := by simpa using e0
  have e1 : v1 = .bool b := by simpa using e1
  exact ⟨⟨s, b, z2, z3⟩, by rw [e0, e1, e2, e3]; rfl, hs⟩
theorem drop_take {α : Type} (l : List α) (i n : Nat) (h : (i + 1) * n ≤ l.length) : ((l.drop (i * n)).take n).length = n := by
  rw [List.length_take, List.length_drop]
  have : (i + 1) * n = i * n + n := by rw [Nat.add_mul, Nat.one_mul]
  omega
/-- Eight subvolumes' cells. -/
theorem vols_of : ∀ (k : Nat) (cs : List Value), cs.length = 4 * k → (∀ i, i < k → ∃ v : Vl, (cs.drop (i * 4)).take 4 = v.vs ∧ v.name.size ≤ maxLen) → ∃ vl : List Vl, vl.length = k ∧ cs = vl.flatMap Vl.vs ∧ ∀ v ∈ vl, v.name.size ≤ maxLen
  | 0, cs, hl, _ => ⟨[], rfl, List.eq_nil_of_length_eq_zero (by omega), fun v hv => by simp at hv⟩
  | k + 1, cs, hl, h => by
    obtain ⟨v, e, hv⟩ := h 0 (by omega)
    obtain ⟨vl, h1, h2, h3⟩ := vols_of k (cs.drop 4) (by rw [List.length_drop]; omega) fun i hi => by
      obtain ⟨u, e, hu⟩ := h (i + 1) (by omega)
      refine ⟨u, ?_, hu⟩
      rw [List.drop_drop, show 4 + i * 4 = (i + 1) * 4 by omega]
      exact e
    refine ⟨v :: vl, by rw [List.length_cons, h1], ?_, fun u hu => ?_⟩
    · rw [List.flatMap_cons, ← h2, ← e, Nat.zero_mul, List.drop_zero, List.take_append_drop]
    · rcases List.mem_cons.1 hu with rfl | hu
      · exact hv
      · exact h3 u hu
theorem volarr_trod {fuel : Nat} {cs : List Value} {y : DataW H × List MemPlace} (hf : DataW.trod enc Tryd.prog W 0 (fun _ => true) true fuel 24 cs = some y) : ∃ vl : List Vl, vl.length = 8 ∧ cs = vl.flatMap Vl.vs ∧ ∀ v ∈ vl, v.name.size ≤ maxLen := by
  obtain ⟨xs, m, _, _, hl, hxl, hi⟩ := DataW.trod_array Tryd.underlying24 hf
  have hl32 : cs.length = 4 * 8 := by rw [hl]; kernel_rfl
  have hc : Tryd.prog.cellsOf 23 = 4 := by kernel_rfl
  refine vols_of 8 cs hl32 fun i h8 => ?_
  have g := hi i h8
  rw [hc, List.getElem?_eq_getElem (by omega)] at g
  exact vol_trod g
/-- A superblock by value. -/
theorem open_sp {r : Reach} {b0 : Nat} {v : Value} {d : DataW H} {ps : List MemPlace} (hv : Value.okWide Tryd.prog W r b0 26 v) (h : DataW.Trod enc Tryd.prog W 0 (fun _ => true) true 26 v d ps) : ∃ S : Sp, v = .agg S.vs.toArray ∧ S.fine := by
  obtain ⟨cs, rfl, hsz⟩ := okWide_struct Tryd.underlying26 hv
  obtain ⟨f, hf⟩ := h
  obtain ⟨xs, m, _, _, hl, hxl, hff⟩ := DataW.trod_struct Tryd.underlying26 hf
  have hcs : (Value.agg cs).cells.toList = cs.toList := rfl
  rw [hcs] at hl hff
  have hl35 : cs.toList.length = 35 := by rw [hl]; kernel_rfl
  have k1 : Tryd.prog.cellsOf 3 = 1 := by kernel_rfl
  have k32 : Tryd.prog.cellsOf 24 = 32 := by kernel_rfl
  have g0 : DataW.trod enc Tryd.prog W 0 (fun _ => true) true m 3 (List.take (Tryd.prog.cellsOf 3) (List.drop 0 cs.toList)) = xs[0]? := hff 0 _ rfl
  have g1 : DataW.trod enc Tryd.prog W 0 (fun _ => true) true m 3 (List.take (Tryd.prog.cellsOf 3) (List.drop 1 cs.toList)) = xs[1]? := hff 1 _ rfl
  have g2 : DataW.trod enc Tryd.prog W 0 (fun _ => true) true m 3 (List.take (Tryd.prog.cellsOf 3) (List.drop 2 cs.toList)) = xs[2]? := hff 2 _ rfl
  have g3 : DataW.trod enc Tryd.prog W 0 (fun _ => true) true m 24 (List.take (Tryd.prog.cellsOf 24) (List.drop 3 cs.toList)) = xs[3]? := hff 3 _ rfl
  have hx : xs.length = 4 := hxl
  rw [k1, List.getElem?_eq_getElem (by omega)] at g0 g1 g2
  rw [k32, List.getElem?_eq_getElem (by omega)] at g3
  obtain ⟨v0, v1, v2, R, hR⟩ : ∃ v0 v1 v2 R, cs.toList = v0 :: v1 :: v2 :: R := by
    match hm : cs.toList, hl35 with
    | a :: b :: c :: R, _ => exact ⟨a, b, c, R, rfl⟩
  have hRl : R.length = 32 := by rw [hR] at hl35; simpa using hl35
  rw [hR] at g0 g1 g2 g3
  obtain ⟨z0, e0⟩ := int_here (by simpa using g0)
  obtain ⟨z1, e1⟩ := int_here (by simpa using g1)
  obtain ⟨z2, e2⟩ := int_here (by simpa using g2)
  have g3 : DataW.trod enc Tryd.prog W 0 (fun _ => true) true m 24 R = some (xs[3]'(by omega)) := by
    have : (v0 :: v1 :: v2 :: R).drop 3 = R := rfl
    rw [this, List.take_of_length_le (by omega)] at g3
    exact g3
  obtain ⟨vl, h8, hR2, hvl⟩ := volarr_trod g3
  refine ⟨⟨z0, z1, z2, vl, h8⟩, ?_, fun k hk => ?_⟩
  · have : cs = (cs.toList).toArray := by simp
    rw [this, hR, e0, e1, e2, hR2]
    rfl
  · have h2 := (⟨z0, z1, z2, vl, h8⟩ : Sp).get hk
    exact hvl _ (List.mem_of_getElem? h2)
end
end Go.Proofs.YtljlliiedbedeaaDoor
