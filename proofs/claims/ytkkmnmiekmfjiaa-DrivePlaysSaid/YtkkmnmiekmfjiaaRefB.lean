/- The reference's Read and Cached; an append onto a row that may have been cut ahead. -/
import Derived.Test.YtkkmnmiekmfjiaaRefA
namespace Go.Proofs.Ytkkmnmiekmfjiaa
open Go Go.RowKit Go.Proofs

theorem run_index_one {P : Program} {t e : TypeId} (ht : P.underlying t = some (.slice e)) (he : (P.info? e).map (·.size) = some 1) (w : World) (g o n c j : Nat) (hj : j < n) :
    (Instr.indexAt t (.slice (some ⟨g, o, none⟩) n c) (.int .i64 (j : Int))).run P w = .ok (.pointer (some ⟨g, o + j, none⟩)) w := by
  have hz : (sizeOf e).run P w = .ok 1 w := by
    obtain ⟨i, hi, hs⟩ := Option.map_eq_some_iff.1 he
    simp [sizeOf, typeInfo, hi, hs]
  have ha : (⟨g, o, none⟩ : Addr).add j = ⟨g, o + j, none⟩ := Addr.add_mid g o j
  simp [Instr.indexAt, asIntOf, run_underlying ht, hz, hj, ha]
theorem S64 : (Try.prog.info? 54).map (·.size) = some 1 := by kernel_rfl
theorem S35 : (Try.prog.info? 35).map (·.size) = some 1 := by kernel_rfl
theorem all_last (D : DM) (s : Nat) : (D.all s)[(D.all s).length - 1]? = some (D.newest s) := by
  unfold DM.all DM.newest
  rw [← List.getLast?_eq_getElem?, List.getLast?_cons, List.getLastD_eq_getLast?]

section
variable {w : World} {rp ro oc : Nat} {iv : Nat → Value} {vs : Nat → List Value} {S : Nat → Prop} {D : DM}
/-- The row of a sector, and its newest slice. -/
theorem RLay.last (L : RLay w rp ro oc iv vs S D) {s : Nat} (hs : s < D.n) : ∃ g o c A d, iv s = .slice (some ⟨g, o, none⟩) (vs s).length c ∧ (vs s).length ≤ c ∧ c ≤ maxLen ∧ w.cell? ⟨g, o + ((vs s).length - 1), none⟩ = some (.slice A 256 d) ∧
    (vs s)[(vs s).length - 1]? = some (.slice A 256 d) ∧ Sl w A 256 d (D.newest s) := by
  obtain ⟨g, o, c, hv, h1, h2, h3, h4⟩ := L.irow s hs
  have hp := L.vpos hs
  have hk : (vs s).length - 1 < (vs s).length := by omega
  have hl : (D.all s)[(vs s).length - 1]? = some (D.newest s) := by rw [L.len s hs]; exact all_last D s
  have hb := L.brow s hs _ _ _ (List.getElem?_eq_getElem hk) hl
  obtain ⟨A, d, hA, hsl⟩ := hb.sl
  exact ⟨g, o, c, A, d, hv, h1, h2, by rw [← hA]; exact h3 _ _ (List.getElem?_eq_getElem hk), by rw [← hA]; exact List.getElem?_eq_getElem hk, hsl⟩

set_option maxRecDepth 10000 in
set_option maxHeartbeats 2000000 in
theorem rread_any (L : RLay w rp ro oc iv vs S D) (s : Int) :
    Calls Try.prog 12 #[.pointer (some ⟨rp, 0, none⟩), .int .i64 s] w fun e w' => ∃ A n c, e = .returned (.tuple #[.slice A n c, .int .i64 (D.readE s)]) ∧ Sl w' A n c (D.readL s) ∧ Below w.heap.size w w' := by
  have c1 := L.c1
  have c0 := L.c0
  unfold DM.readE DM.readL
  cases hoff : D.off with
  | true =>
    rw [hoff] at c1
    go_enter Try.func12, Try.ntmps12
    go_wp2
    go_ret2
    exact ⟨none, 0, 0, rfl, sl_nil w, Below.refl _ _⟩
  | false =>
    rw [hoff] at c1
    have H1 := there_any L s
    by_cases hs : 0 ≤ s ∧ s < (D.n : Int)
    · obtain ⟨k, rfl⟩ := Int.eq_ofNat_of_zero_le hs.1
      have hk : k < D.n := by omega
      rw [show decide (0 ≤ (k : Int) ∧ (k : Int) < (D.n : Int)) = true by simpa using hs] at H1
      rw [if_pos hs, if_pos hs, Int.toNat_natCast]
      simp only [Bool.false_eq_true, if_false]
      obtain ⟨g, o, c, A, d, hv, hc1, hc2, hcell, _, hsl⟩ := L.last hk
      have hp := L.vpos hk
      have hout := (L.out k hk).1
      rw [hv] at hout
      have hix := fun w => run_index_one (P := Try.prog) Try.underlying46 S64 w ro 0 D.n oc k hk
      simp only [Nat.zero_add] at hix
      have hlen := hsl.len
      generalize hm : (vs k).length = m at *
      have hx2 : ∀ w', (Instr.indexAt 54 (.slice (some ⟨g, o, none⟩) m c) (.int .i64 ((m : Int) - 1))).run Try.prog w' = .ok (.pointer (some ⟨g, o + (m - 1), none⟩)) w' := fun w' => by
        have := run_index_one (P := Try.prog) Try.underlying54 S35 w' g o m c (m - 1) (by omega)
        rw [show ((m - 1 : Nat) : Int) = (m : Int) - 1 by omega] at this
        exact this
      have hmx : m ≤ 9223372036854775807 := by unfold maxLen at hc2; omega
      have hcell2 : ∀ ob : Obj, (w.alloc ob).cell? ⟨g, o + (m - 1), none⟩ = some (.slice A 256 d) := fun ob => by
        have := World.block_lt_of_cell? w _ hcell
        rw [World.cell?_alloc_lt _ _ _ this]; exact hcell
      go_enter Try.func12, Try.ntmps12
      go_wp2_with fail
      refine H1.mono ?_
      rintro e w1 ⟨rfl, rfl⟩
      go_wp2_with (at_builtin; refine wp_append_lit _ T22 (by rfl) _ _ (by rfl) w.heap.size w.heap.size (by rfl) (own_empty w 5) A 256 d (D.newest k) (by rfl) (hsl.alloc _) (by omega) (by simp) ?_)
      intro A' c' w' hown hb
      have hb := below_new _ (hb.mono (B' := w.heap.size) (by simp)) (Nat.le_refl _)
      go_wp2_with fail
      go_ret2
      exact ⟨A', 256, c', rfl, hown.sl, hb⟩
    · rw [show decide (0 ≤ s ∧ s < (D.n : Int)) = false by simpa using hs] at H1
      rw [if_neg hs, if_neg hs]
      simp only [Bool.false_eq_true, if_false]
      go_enter Try.func12, Try.ntmps12
      go_wp2_with fail
      refine H1.mono ?_
      rintro e w1 ⟨rfl, rfl⟩
      go_wp2_with fail
      go_ret2
      exact ⟨none, 0, 0, rfl, sl_nil w, Below.refl _ _⟩

/-- How many of the first k sectors have cached writes. -/
def DM.cntTo (D : DM) (k : Nat) : Nat := ((List.range k).filter fun s => !(D.cac s).isEmpty).length
theorem cntTo_next (D : DM) (k : Nat) : D.cntTo (k + 1) = D.cntTo k + (if 1 < (D.all k).length then 1 else 0) := by
  unfold DM.cntTo DM.all
  rw [List.range_succ, List.filter_append, List.length_append]
  congr 1
  cases h : D.cac k with
  | nil => simp [h]
  | cons a r => simp [h]
theorem cntTo_le (D : DM) (k : Nat) : D.cntTo k ≤ k := by
  have h := List.length_filter_le (fun s => !(D.cac s).isEmpty) (List.range k)
  rw [List.length_range] at h
  exact h
set_option maxHeartbeats 1000000 in
theorem rcached_any (L : RLay w rp ro oc iv vs S D) :
    Calls Try.prog 24 #[.pointer (some ⟨rp, 0, none⟩)] w fun e w' => e = .returned (.int .i64 (D.cnt : Int)) ∧ w = w' := by
  have c0 := L.c0
  have hbnd : D.n ≤ 2048 := L.n32.2
  go_enter Try.func24, Try.ntmps24
  go_wp2
  go_loopw [3, 4] (fun a i wr => ∃ k : Nat, k ≤ D.n ∧ i = .int .i64 k ∧ a = .int .i64 (D.cntTo k) ∧ w = wr) (fun _ i _ => D.n - (intOf i).toNat)
  case atStart => exact ⟨0, Nat.zero_le _, rfl, rfl, rfl⟩
  case round =>
    obtain ⟨k, hk, rfl, rfl, rfl⟩ := hrel
    by_cases hlt : k < D.n
    · obtain ⟨g, o, c, A, d, hv, _⟩ := L.last hlt
      have hout := (L.out k hlt).1
      rw [hv] at hout
      have hix := fun w => run_index_one (P := Try.prog) Try.underlying46 S64 w ro 0 D.n oc k hlt
      simp only [Nat.zero_add] at hix
      have hn := cntTo_next D k
      have hle := cntTo_le D k
      rw [← L.len k hlt] at hn
      generalize (vs k).length = m at *
      by_cases h1 : 1 < m
      · rw [if_pos h1] at hn
        have h1' : (1 : Int) < (m : Int) := by omega
        go_wp2_with fail
        exact ⟨⟨k + 1, by omega, by go_num, by rw [hn]; go_num, by first | rfl | trivial⟩, by simp [intOf]; omega⟩
      · rw [if_neg h1] at hn
        have h1' : ¬ (1 : Int) < (m : Int) := by omega
        go_wp2_with fail
        exact ⟨⟨k + 1, by omega, by go_num, by rw [hn]; go_num, by first | rfl | trivial⟩, by simp [intOf]; omega⟩
    · obtain rfl : k = D.n := by omega
      go_wp2_with fail
      go_ret
      exact ⟨rfl, rfl⟩
end
end Go.Proofs.Ytkkmnmiekmfjiaa
