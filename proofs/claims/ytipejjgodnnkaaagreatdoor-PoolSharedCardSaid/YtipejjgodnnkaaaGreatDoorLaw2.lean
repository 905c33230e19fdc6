/- How slices of slices of bytes that come in are opened, and how a table of numbers that the text lays is read. Nothing here speaks of one program. -/
import Derived.Test.YtipejjgodnnkaaaGreatDoorLaw
import Derived.LaidMore
import Derived.LaidHandle
import Derived.MakeChecks
import Derived.Deep.Matrix
namespace Go.Proofs.YtipejjgodnnkaaaGreatDoor
open Go Go.RowKit Go.ChangeShapes Go.WideShapes Go.ChangeAt

theorem bytes_of_ints (zs : List Int) (h : ∀ z ∈ zs, (Lit.int .u8 z).wf = true) (j : Nat) (hj : j < zs.length) : Value.int .u8 (zs.getD j 0) = bv (UInt8.ofNat (zs.getD j 0).toNat) := by
  have hb := bounds_u8 (h zs[j] (List.getElem_mem hj))
  simp only [bv, List.getD_eq_getElem?_getD, List.getElem?_eq_getElem hj, Option.getD_some]
  congr 1
  rw [UInt8.toNat_ofNat']
  omega

/-- Slices of bytes that come in. -/
theorem open_parts {H : Type} {enc : TypeId × Value → H} {P : Program} {W : World} {t e q : TypeId} {v : Value} {d : DataW H} {ps : List MemPlace} (ht : P.underlying t = some (.slice e)) (T : ByteT P e q) (hq : P.underlying q = some (.int .u8)) (ce : P.cellsOf e = 1)
    (hv : ∃ a len cap, v = .slice a len cap) (h : DataW.Trod enc P W 0 (fun _ => true) true t v d ps) : ∃ A n c ls, v = .slice A n c ∧ Parts W A n c ls := by
  obtain ⟨fuel, hf⟩ := h
  obtain ⟨a0, len0, cap0, rfl⟩ := hv
  have cq : P.cellsOf q = 1 := by
    obtain ⟨i, hi, _, hz1, _⟩ := info_parts T.info
    simp [Program.cellsOf, hi, hz1]
  rcases Go.Deep.open_int_rows ht T.sl hq ce cq hf with ⟨hcs, _⟩ | ⟨a, len, cap, A, L, C, Z, hcs, _, hl, hm, _, hr⟩
  · simp [Value.cells] at hcs
    obtain ⟨rfl, rfl, rfl⟩ := hcs
    exact ⟨_, _, _, [], rfl, rfl, Nat.le_refl _, Nat.zero_le _, fun j l hj => by simp at hj⟩
  · simp [Value.cells] at hcs
    obtain ⟨rfl, rfl, rfl⟩ := hcs
    refine ⟨_, _, _, (List.range len0).map (fun r => ((Z r).take (L r)).map (fun z => UInt8.ofNat z.toNat)), rfl, by simp, hl, hm, fun j l hj => ?_⟩
    have hj2 : j < len0 := by have := (List.getElem?_eq_some_iff.1 hj).1; simpa using this
    obtain ⟨hc, h1, h2, h3, h4, h5, h6⟩ := hr j (by omega)
    rw [List.getElem?_map, List.getElem?_range hj2] at hj
    obtain rfl := Option.some.inj hj
    refine ⟨a, A j, L j, C j, rfl, ?_, hc, ?_, h1, h2, fun i u hu => ?_⟩
    · have := World.block_lt_of_cell? W (a.add j) hc
      rwa [addr_block] at this
    · simp; omega
    · have hi : i < L j := by have := (List.getElem?_eq_some_iff.1 hu).1; simp at this; omega
      have hi2 : i < (Z j).length := by omega
      cases hA : A j with
      | none => have := h5 hA; omega
      | some a' =>
        have hcell := (h6 a' hA).2 i (by omega)
        refine ⟨a', rfl, ?_, ?_⟩
        · have := World.block_lt_of_cell? W (a'.add i) hcell
          rwa [addr_block] at this
        · rw [hcell, ← hu, bytes_of_ints _ h4 i hi2, List.map_map, List.getElem?_map, List.getElem?_take_of_lt hi, List.getElem?_eq_getElem hi2]
          simp [List.getD_eq_getElem?_getD, List.getElem?_eq_getElem hi2]

/-- An array of numbers, as its datum says. -/
theorem ints_of_trod {H : Type} {enc : TypeId × Value → H} {P : Program} {W : World} {base : Nat} {sp : Nat → Bool} {held : Bool} {fuel : Nat} {t e : TypeId} {n : Nat} {k : IntKind} {cs : List Value} {zs : List Int} {p : List MemPlace}
    (ht : P.underlying t = some (.array n e)) (he : P.underlying e = some (.int k)) (hc : P.cellsOf e = 1) (h : DataW.trod enc P W base sp held fuel t cs = some (.agg (zs.map fun z => .lit (.int k z)), p)) (i : Nat) (hi : i < n) : cs[i]? = some (.int k (zs.getD i 0)) := by
  obtain ⟨xs, m, rfl, hx, _, hn, hel⟩ := DataW.trod_array ht h
  have h1 := hel i hi
  rw [hc, Nat.mul_one] at h1
  have hxi : i < xs.length := by omega
  rw [List.getElem?_eq_getElem hxi] at h1
  obtain ⟨z, e1, e2, _⟩ := DataW.trod_int he h1
  simp only [Prod.mk.injEq, DataW.agg.injEq] at hx
  have h2 := congrArg (fun l => l[i]?) hx.1
  simp only [List.getElem?_map] at h2
  rw [List.getElem?_eq_getElem hxi, e2] at h2
  have hz : zs[i]? = some z := by
    cases hq : zs[i]? with
    | none => rw [hq] at h2; cases h2
    | some y => rw [hq] at h2; simp only [Option.map_some, Option.some.injEq] at h2; cases h2; rfl
  have h3 : cs[i]? = some (.int k z) := by
    have := congrArg (fun l => l[0]?) e1
    simpa [List.getElem?_take, List.getElem?_drop] using this
  rw [h3, List.getD_eq_getElem?_getD, hz]; rfl
/-- One listed table of numbers: its cells. -/
theorem laid_ints {P : Program} {W : World} {name : String} {g : Nat} {t e : TypeId} {n : Nat} {k : IntKind} {zs : List Int} (hg : P.globalNamed name = some g) (hgt : (P.globals[g]?).map (·.type) = some t)
    (ht : P.underlying t = some (.array n e)) (he : P.underlying e = some (.int k)) (hc : P.cellsOf e = 1) (h : laidMet P [(name, .agg (zs.map fun z => .lit (.int k z)))] W) (i : Nat) (hi : i < n) : W.cell? ⟨g, i, none⟩ = some (.int k (zs.getD i 0)) := by
  obtain ⟨ps, ⟨g0, t0, cs0, f0, p0, q0, hg0, ht0, hv0, hd0, _, _⟩, _, _⟩ := h
  obtain rfl := Option.some.inj (hg.symm.trans hg0)
  obtain rfl := Option.some.inj (hgt.symm.trans ht0)
  rw [World.var?_cell hg hv0 i]
  have := ints_of_trod ht he hc hd0 i hi
  simpa using this
end Go.Proofs.YtipejjgodnnkaaaGreatDoor
