/- The statement NameJoinsUptoSaid: for every input whose values and letters are together at most as many as the row says, the law returns true, and what came in reads as it did. -/
import Derived.Test.YtlofgjpnpfgpfaaNmN
import Derived.Test.YtlofgjpnpfgpfaaLaw
import Derived.Test.YtlofgjpnpfgpfaaRows
import Derived.JoinedCond
namespace Go.Proofs.Ytlofgjpnpfgpfaa.NameJoinsP
open Go Go.RowKit Go.Proofs Go.ChangeShapes Go.WideShapes Go.ChangeAt

theorem bulk_strs {H : Type} (zs : List ByteArray) : Rows.uptoBulkAll (strs (H := H) zs) = (zs.map fun s => s.size + 1).sum := by
  induction zs with
  | nil => simp [strs, Rows.uptoBulkAll]
  | cons z r ih =>
    have e : strs (H := H) (z :: r) = .lit (.string z.data.toList) :: strs r := rfl
    rw [e, Rows.uptoBulkAll, ih, Rows.uptoBulk, List.map_cons, List.sum_cons]
    simp
/-- Texts that come in, and how many letters they have at most. -/
theorem open_texts_b {H : Type} {enc : TypeId × Value → H} {P : Program} {W : World} {t e : TypeId} {v : Value} {d : DataW H} {ps : List MemPlace} (ht : P.underlying t = some (.slice e)) (he : P.underlying e = some .string) (hc : P.cellsOf e = 1)
    (hv : ∃ a len cap, v = .slice a len cap) (h : DataW.Trod enc P W 0 (fun _ => true) true t v d ps) : ∃ A n c ss, v = .slice A n c ∧ StrSl W A n c ss ∧ (ss.map fun s => s.size + 1).sum ≤ Rows.uptoBulk d := by
  obtain ⟨fuel, hf⟩ := h
  obtain ⟨a0, len0, cap0, rfl⟩ := hv
  rcases open_strings ht he hc hf with ⟨hcs, _⟩ | ⟨a, len, cap, zs, hcs, _, hl, hm, hz, hx, hcell, hw⟩
  · simp [Value.cells] at hcs
    obtain ⟨rfl, rfl, rfl⟩ := hcs
    exact ⟨_, _, _, [], rfl, strsl_nil W, by simp⟩
  · simp [Value.cells] at hcs
    obtain ⟨rfl, rfl, rfl⟩ := hcs
    rw [if_pos rfl] at hz
    injection hx with hd _
    subst hd
    refine ⟨_, _, _, zs.take len0, rfl, ⟨⟨?_, hl, hm, fun j u hu => ?_⟩, fun s hs => hw s (List.mem_of_mem_take hs)⟩, ?_⟩
    · simp; omega
    · have hj : j < len0 := by have := (List.getElem?_eq_some_iff.1 hu).1; simp at this; omega
      have hj2 : j < zs.length := by omega
      have hc := hcell j hj2
      refine ⟨a, rfl, ?_, ?_⟩
      · have := World.block_lt_of_cell? W (a.add j) hc
        rwa [addr_block] at this
      · rw [hc, ← hu]
        rw [List.getElem?_map, List.getElem?_take_of_lt hj, List.getElem?_eq_getElem hj2]
        simp [List.getD, hj2]
    · rw [Rows.uptoBulk, bulk_strs]
      omega
theorem few_sum (ss : List ByteArray) : ((fewS ss).map fun s => s.size + 1).sum ≤ (ss.map fun s => s.size + 1).sum := by
  unfold fewS
  conv => rhs; rw [← List.take_append_drop 30 ss, List.map_append, List.sum_append]
  omega
/-- The path is short enough. -/
theorem small_path {H : Type} (s0 : ByteArray) (ss : List ByteArray) (d1 d2 : DataW H) (gs : List (DataW H)) (h1 : (ss.map fun s => s.size + 1).sum ≤ Rows.uptoBulk d1) (hk : Rows.uptoSmall H ([.lit (.string s0.data.toList), d1, d2] ++ gs) = true) : (joinS s0 (fewS ss)).size ≤ 140737488355328 := by
  have hb : Rows.uptoBulkAll ([.lit (.string s0.data.toList), d1, d2] ++ gs) ≤ 1048576 := of_decide_eq_true hk
  simp only [List.cons_append, Rows.uptoBulkAll, Rows.uptoBulk] at hb
  have h2 := few_sum ss
  rw [joinS_size]
  have h3 : s0.data.toList.length = s0.size := by simp
  omega

theorem own0 : ownKnob Try.prog.godebug = none := by kernel_rfl
theorem laid0 : laidOutB Try.prog = true := by kernel_rfl
set_option maxRecDepth 100000 in
theorem lifted (os : Os) (started : os.Started) (H : Type) (enc : TypeId × Value → H) (F : Stop.Interp) :
    ReturnsInHanded {} Try.checked os 5 .any ((Rows.OpenSpec.upto Rows.nameJoinsSpec).pre6 enc Try.prog Try.f5 Rows.nameJoinsUptoRow.domain false) (((Rows.OpenSpec.upto Rows.nameJoinsSpec).at F).post enc Try.prog Try.f5 false true false false) := by
  refine returnsInHanded_of_cond (C := Try.checked) (s := Rows.OpenSpec.upto Rows.nameJoinsSpec) (k := Rows.uptoSmall) rfl own0 started (by kernel_rfl) Try.func5
    (OpenSpec.witness (enc := enc) (C := Try.checked) (s := Rows.OpenSpec.upto Rows.nameJoinsSpec) (k := Rows.uptoSmall) rfl false ⟨#[], #[.string ⟨#[]⟩, .slice none 0 0, .slice none 0 0], []⟩ 8 (by kernel_rfl) (by kernel_rfl) (by kernel_rfl)
      (x := ([.lit (.string []), .nil, .nil], [], [])) (by kernel_rfl) rfl (by kernel_rfl)) ?_
  intro W base args ds gs before hval0 hW _ hk _
  have hval : ∀ (j : Nat) t v, Try.f5.params[j]? = some t → args[j]? = some v → Value.okWide Try.prog W .any base t v := hval0
  have hW' := hW
  obtain ⟨p, q, hA0, hV, rfl, _, _⟩ := hW
  have hA : DataW.TrodAll enc Try.prog W 0 (fun _ => true) true Try.f5.params.toList args.toList ds p := hA0
  rw [Try.params5] at hA hval
  obtain ⟨v0, vs0, d0, ds0, p0, q0, hargs, rfl, rfl, h0, r0⟩ := trodAll_cons hA
  obtain ⟨v1, vs1, d1, ds1, p1, q1, rfl, rfl, rfl, h1, r1⟩ := trodAll_cons r0
  obtain ⟨v2, vs2, d2, ds2, p2, q2, rfl, rfl, rfl, h2, r2⟩ := trodAll_cons r1
  obtain ⟨rfl, rfl, rfl⟩ := trodAll_nil r2
  obtain rfl : args = #[v0, v1, v2] := by cases args; simp_all
  obtain ⟨rfl, rfl⟩ := trodVars_none hV
  obtain ⟨s0, rfl, rfl, rfl, hs0⟩ := Go.ChangeMaps.open_string Try.underlying9 (hval 0 9 v0 rfl rfl) h0
  obtain ⟨A1, n1, c1, l1, rfl, hs1, hz1⟩ := open_texts_b Try.underlying26 Try.underlying9 (by kernel_rfl) (okWide_slice Try.underlying26 (hval 1 26 v1 rfl rfl)) h1
  obtain ⟨A2, n2, c2, l2, rfl, hs2⟩ := open_texts Try.underlying26 Try.underlying9 (by kernel_rfl) (okWide_slice Try.underlying26 (hval 2 26 v2 rfl rfl)) h2
  refine (nameJoins_walk s0 A1 n1 c1 l1 A2 n2 c2 l2 W hs0 hs1 hs2 (small_path s0 l1 d1 d2 _ hz1 hk)).mono fun e W' ⟨he, hb⟩ => ?_
  subst he
  exact ⟨_, rfl, post_law (tb := 4) (by kernel_rfl) Try.underlying4 rfl laid0 (by intro t ht; rw [Try.params5] at ht; simp at ht; rcases ht with rfl | rfl <;> exact ⟨by kernel_rfl, of_decide_eq_true (by kernel_rfl)⟩) hW' rfl hb⟩

theorem proved : Rows.NameJoinsUptoSaid :=
  OpenClaim.holds_of_cond 5 Try.f5 rfl rfl rfl rfl rfl rfl rfl ⟨rfl, rfl, rfl, rfl, rfl⟩ rfl rfl rfl rfl rfl (by kernel_rfl) Try.func5 (by kernel_rfl)
    (of_decide_eq_true (by kernel_rfl)) (by unfold Func.isWrapper; first | (rw [if_pos (by decide +kernel)]; kernel_rfl) | (rw [if_neg (by decide +kernel)]; exact ⟨rfl, rfl⟩))
    (fun os started H enc _ F => lifted os started H enc F)
end Go.Proofs.Ytlofgjpnpfgpfaa.NameJoinsP
