/- Counts: a slice of calls (structs of two ints) that comes in. -/
import Derived.Test.YtancpkdkfemgfaaCtK
import Derived.Test.YtancpkdkfemgfaaLaw
import Derived.Deep.Slices
import Derived.Deep.Fields
import Derived.WideShapes
namespace Go.Proofs.Ytancpkdkfemgfaa
open Go Go.RowKit Go.Proofs Go.ChangeShapes Go.WideShapes Go.ChangeAt Go.Deep

section
variable {H : Type} {enc : TypeId × Value → H} {P : Program} {W : World}
theorem ct_cell {e : TypeId} (he : P.underlying e = some (.int .i64)) {sp : Nat → Bool} {m : Nat} {c : Value} {y : DataW H × List MemPlace} (h : DataW.trod enc P W 0 sp true m e [c] = some y) : ∃ z, c = .int .i64 z ∧ (-9223372036854775808 ≤ z ∧ z ≤ 9223372036854775807) := by
  obtain ⟨z, hcs, _, hw⟩ := DataW.trod_int he h
  exact ⟨z, by simpa using hcs, bounds_i64 hw⟩
theorem ct_spot {g o : Nat} {s : Option Nat} {v : Value} (h : W.cell? ⟨g, o, s⟩ = some v) : s = none := by
  cases s with
  | none => rfl
  | some k =>
    unfold World.cell? at h
    split at h <;> simp at h
/-- A slice of calls. -/
theorem open_ctops {t p : TypeId} {f0 f1 : Field} {v : Value} {d : DataW H} {ps : List MemPlace} (ht : P.underlying t = some (.slice p)) (hp : P.underlying p = some (.struct #[f0, f1])) (hone : oneCellFields P #[f0, f1] = true) (hct : P.cellsOf p = 2)
    (h0 : P.underlying f0.type = some (.int .i64)) (h1 : P.underlying f1.type = some (.int .i64))
    (hv : ∃ a len cap, v = .slice a len cap) (h : DataW.Trod enc P W 0 (fun _ => true) true t v d ps) : ∃ A n c xs, v = .slice A n c ∧ CtOps W A n c xs := by
  obtain ⟨fuel, hf⟩ := h
  obtain ⟨a0, len0, cap0, rfl⟩ := hv
  rcases Deep.open_slice ht hf with ⟨hcs, _⟩ | ⟨a, len, cap, m, f, D, Pl, hcs, _, hl, hm, hmm, _, hi⟩
  · simp [Value.cells] at hcs
    obtain ⟨rfl, rfl, rfl⟩ := hcs
    exact ⟨_, _, _, [], rfl, rfl, Nat.le_refl _, Nat.zero_le _, fun j hx => absurd hx (Nat.not_lt_zero _)⟩
  · simp [Value.cells] at hcs
    obtain ⟨rfl, rfl, rfl⟩ := hcs
    rw [if_pos rfl] at hmm
    have key : ∀ i, i < len0 → ∃ x : Int × Int, ((-9223372036854775808 ≤ x.1 ∧ x.1 ≤ 9223372036854775807) ∧ (-9223372036854775808 ≤ x.2 ∧ x.2 ≤ 9223372036854775807)) ∧ W.cell? ((a.add (i * 2)).add 0) = some (.int .i64 x.1) ∧ W.cell? ((a.add (i * 2)).add 1) = some (.int .i64 x.2) := fun i hil => by
      obtain ⟨cs, g1, g2⟩ := hi i (by omega)
      rw [hct] at g1
      obtain ⟨_, _, hat⟩ := World.cells?_some g1
      obtain ⟨ys, n', hn', hy, hlen, hyl, hff⟩ := DataW.trod_struct hp g2
      rw [hct] at hlen
      match cs, hlen with
      | [v0, v1], _ =>
        have q : ∀ (j : Nat) (ff : Field), (#[f0, f1] : Array Field)[j]? = some ff → ∃ vv y, [v0, v1][j]? = some vv ∧ DataW.trod enc P W 0 (fun _ => true) true n' ff.type [vv] = some y := fun j ff hj => by
          obtain ⟨ho, hk1⟩ := hone_of hone j ff hj
          have hjl : j < 2 := (Array.getElem?_eq_some_iff.1 hj).1
          have g3 := hff j ff hj
          have hys : ys[j]? = some (ys[j]'(by rw [hyl]; exact hjl)) := List.getElem?_eq_getElem _
          rw [ho, hk1, hys, List.drop_eq_getElem_cons (by simpa using hjl)] at g3
          exact ⟨_, _, List.getElem?_eq_getElem (by simpa using hjl), g3⟩
        obtain ⟨u0, y0, e0, t0⟩ := q 0 f0 rfl
        obtain ⟨u1, y1, e1, t1⟩ := q 1 f1 rfl
        obtain ⟨z0, rfl, b0⟩ := ct_cell h0 t0
        obtain ⟨z1, rfl, b1⟩ := ct_cell h1 t1
        exact ⟨(z0, z1), ⟨b0, b1⟩, (hat 0 (by omega)).trans e0, (hat 1 (by omega)).trans e1⟩
    obtain ⟨g, o, s⟩ := a
    have ks : 0 < len0 → s = none := fun h0 => by
      obtain ⟨x, _, g1, _⟩ := key 0 h0
      exact ct_spot (show W.cell? ⟨g, o, s⟩ = some (.int .i64 x.1) by simpa [Addr.add] using g1)
    classical
    let F : Nat → Int × Int := fun i => if h : i < len0 then (key i h).choose else (0, 0)
    refine ⟨_, _, _, (List.range len0).map F, rfl, by simp, hl, hm, fun j hj => ?_⟩
    have hF : ((List.range len0).map F).getD j (0, 0) = F j := by
      rw [List.getD_eq_getElem?_getD, List.getElem?_map, List.getElem?_range hj]; rfl
    rw [hF]
    obtain rfl := ks (by omega)
    have hFj : F j = (key j hj).choose := dif_pos hj
    rw [hFj]
    have hq := (key j hj).choose_spec
    clear hFj hF
    generalize (key j hj).choose = X at hq ⊢
    obtain ⟨g0, g1, g2⟩ := hq
    rw [Addr.add_mid, Addr.add_mid] at g1 g2
    exact ⟨g0, g, o, rfl, World.block_lt_of_cell? W _ g1, g1, g2⟩
end
theorem CtOps.below {w w' : World} {A : Option Addr} {n c : Nat} {xs : List (Int × Int)} (h : CtOps w A n c xs) (hb : Below w.heap.size w w') : CtOps w' A n c xs :=
  ⟨h.1, h.2.1, h.2.2.1, fun j hj => by
    obtain ⟨hb1, g, o, e, hg, h1, h2⟩ := h.2.2.2 j hj
    exact ⟨hb1, g, o, e, by have := hb.size; omega, (hb.cell (p := ⟨g, _, none⟩) hg).trans h1, (hb.cell (p := ⟨g, _, none⟩) hg).trans h2⟩⟩
end Go.Proofs.Ytancpkdkfemgfaa
