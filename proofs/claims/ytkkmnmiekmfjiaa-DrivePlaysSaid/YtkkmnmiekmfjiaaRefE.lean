/- The reference's Flush. -/
import Derived.Test.YtkkmnmiekmfjiaaRefD
import Derived.Test.YtkkmnmiekmfjiaaDrvG
namespace Go.Proofs.Ytkkmnmiekmfjiaa
open Go Go.RowKit Go.Proofs

section
variable {w : World} {rp ro oc : Nat} {iv : Nat → Value} {vs : Nat → List Value} {S : Nat → Prop} {D : DM}
/-- A sector's row made one of its slices. -/
theorem RLay.pick (L : RLay w rp ro oc iv vs S D) {w' : World} (s : Nat) (hs : s < D.n) (iv1 v1 : Value) (l1 : List UInt8) (hT : Turn (fun k => k = ro) w w')
    (ho : w'.cell? ⟨ro, s, none⟩ = some iv1 ∧ ∀ z, z ≠ s → w'.cell? ⟨ro, z, none⟩ = w.cell? ⟨ro, z, none⟩) (hf : ∀ z, w'.frozen? ⟨ro, z, none⟩ = w.frozen? ⟨ro, z, none⟩)
    (hi : IRow w' iv1 [v1]) (hv : v1 ∈ vs s) (hb : BRow w v1 l1) {S' : Nat → Prop} (hS : ∀ k, S k → S' k) (hat : (iv1.ownBlock = (iv s).ownBlock) ∨ ∃ g, iv1.ownBlock = some g ∧ w.heap.size ≤ g ∧ S' g) :
    RLay w' rp ro oc (upd iv s iv1) (upd vs s [v1]) S' { D with dur := upd D.dur s l1, cac := upd D.cac s [] } := by
  refine L.setRow s hs iv1 [v1] l1 [] (fun k _ h => hS k h) (fun k hk hn _ => hT.block k hk hn) (fun z hz => ⟨?_, (hf z).trans (L.out z hz).2⟩) hi rfl (fun i v l hi hl => ?_) ?_ (fun v hv' g hg => ?_) (fun i i' v v' g hi hi' _ _ => ?_)
  · by_cases h : z = s
    · subst h; rw [upd_same]; exact ho.1
    · rw [upd_other _ _ h, ho.2 z h]; exact (L.out z hz).1
  · rcases i with _ | i
    · obtain rfl : v1 = v := by simpa using hi
      obtain rfl : l1 = l := by simpa using hl
      exact hb.keep fun g hg => hT.block g (hb.lt hg) (L.ne.2.2 s hs v1 hv g hg).2.1
    · simp at hi
  · exact hat
  · rw [List.mem_singleton.1 hv'] at hg ⊢
    exact .inl hv
  · have h1 := (List.getElem?_eq_some_iff.1 hi).1
    have h2 := (List.getElem?_eq_some_iff.1 hi').1
    simp at h1 h2; omega
end
/-- A row's last slice, as a slice of one. -/
def tlS (x : Value) (lo hi mx : Option Value) : Sem Value := Instr.sliceAt 54 x lo hi mx
theorem tlS_shut (x : Value) (lo hi mx : Option Value) : Instr.sliceAt 54 x lo hi mx = tlS x lo hi mx := rfl
theorem run_tlS (w : World) (g o m c : Nat) (hm : 0 < m) (hc : m ≤ c) : (tlS (.slice (some ⟨g, o, none⟩) m c) (some (.int .i64 ((m : Int) - 1))) none none).run Try.prog w = .ok (.slice (some ⟨g, o + (m - 1), none⟩) 1 (c - (m - 1))) w := by
  have ht : Try.prog.underlying 54 = some (.slice (Try.prog.elem 54)) := by kernel_rfl
  have he : (Try.prog.info? (Try.prog.elem 54)).map (·.size) = some 1 := by kernel_rfl
  have hz : (sizeOf (Try.prog.elem 54)).run Try.prog w = .ok 1 w := by
    obtain ⟨i, hi, hs⟩ := Option.map_eq_some_iff.1 he
    simp [sizeOf, typeInfo, hi, hs]
  have e1 : ((m : Int) - 1).toNat = m - 1 := by omega
  have e2 : ¬ c = m - 1 := by omega
  have e3 : m - (m - 1) = 1 := by omega
  have ha : (⟨g, o, none⟩ : Addr).add (m - 1) = ⟨g, o + (m - 1), none⟩ := Addr.add_mid g o (m - 1)
  unfold tlS
  rw [run_sliceAt_slice (h := ht), run_slice_l (ht := ht) (h0 := by omega) (h1 := by omega), hz]
  simp [Result.andThen, sliced, e1, e2, e3, ha]

/-- The first k sectors flushed. -/
def DM.flTo (D : DM) (k : Nat) : DM := { D with dur := fun s => if s < k then D.newest s else D.dur s, cac := fun s => if s < k then [] else D.cac s }
theorem flTo_zero (D : DM) : D.flTo 0 = D := by simp [DM.flTo]
theorem flTo_next (D : DM) (k : Nat) : D.flTo (k + 1) = { D.flTo k with dur := upd (D.flTo k).dur k (D.newest k), cac := upd (D.flTo k).cac k [] } := by
  unfold DM.flTo
  congr 1
  · funext s
    by_cases h : s = k
    · subst h; simp [upd]
    · by_cases h2 : s < k
      · simp [upd, h, h2, (by omega : s < k + 1)]
      · rw [upd_other _ _ h, if_neg (by omega : ¬ s < k + 1)]; simp [h2]
  · funext s
    by_cases h : s = k
    · subst h; simp [upd]
    · by_cases h2 : s < k
      · simp [upd, h, h2, (by omega : s < k + 1)]
      · rw [upd_other _ _ h, if_neg (by omega : ¬ s < k + 1)]; simp [h2]
theorem flTo_done (D : DM) (h : ∀ s, D.n ≤ s → D.cac s = []) : D.flTo D.n = D.flush := by
  unfold DM.flTo DM.flush
  congr 1
  · funext s
    by_cases h2 : s < D.n
    · simp [h2]
    · simp [h2, DM.newest, h s (by omega)]
  · funext s
    by_cases h2 : s < D.n
    · simp [h2]
    · simp [h2, h s (by omega)]
theorem flTo_newest (D : DM) (k : Nat) : (D.flTo k).newest k = D.newest k := by unfold DM.flTo DM.newest; simp

attribute [local go_sem ↓] tlS_shut
set_option maxRecDepth 10000 in
set_option maxHeartbeats 2000000 in
theorem rflush_any {w : World} {rp : Nat} {S : Nat → Prop} {D : DM} (L0 : RDrv w rp S D) (hst : D.steps ≤ 1000000000) :
    Calls Try.prog 14 #[.pointer (some ⟨rp, 0, none⟩)] w fun e w' => e = .returned (.int .i64 D.err) ∧ RDrv w' rp (fun k => S k ∨ w.heap.size ≤ k) D.flushD ∧ Turn S w w' := by
  obtain ⟨ro, oc, iv, vs, L⟩ := L0
  have hsp : ∀ k, k = rp → S k := fun k e => e ▸ L.inS.1
  have H2 := rstep_any L hst
  unfold DM.flushD
  unfold DM.err at H2 ⊢
  cases hstop : D.stop with
  | true =>
    rw [hstop] at H2
    go_enter Try.func14, Try.ntmps14
    go_wp2_with fail
    refine H2.mono ?_
    rintro e w1 ⟨rfl, L1, T1⟩
    go_wp2_with fail
    go_ret
    exact ⟨rfl, ⟨ro, oc, iv, vs, L1.mono fun _ _ h => .inl h⟩, T1.mono hsp⟩
  | false =>
    rw [hstop] at H2
    go_enter Try.func14, Try.ntmps14
    go_wp2_with fail
    refine H2.mono ?_
    rintro e w1 ⟨rfl, L1, T1⟩
    have hro : S ro := L1.inS.2.1
    have hoff := L1.off
    generalize hE : D.stepD = E at *
    go_wp2_with fail
    go_loopw [4] (fun i wr => ∃ (k : Nat) (iv : Nat → Value) (vs : Nat → List Value), k ≤ E.n ∧ i = .int .i64 k ∧ RLay wr rp ro oc iv vs S (E.flTo k) ∧ Turn S w wr) (fun i _ => E.n - (intOf i).toNat)
    case atStart => exact ⟨0, iv, vs, Nat.zero_le _, rfl, by rw [flTo_zero]; exact L1, T1.mono hsp⟩
    case round =>
      obtain ⟨k, iv, vs, hk, rfl, LR, TR⟩ := hrel
      have c0 : wr.cell? ⟨rp, 0, none⟩ = some (.slice (some ⟨ro, 0, none⟩) E.n oc) := LR.c0
      have c0d : wr.drew.cell? ⟨rp, 0, none⟩ = some (.slice (some ⟨ro, 0, none⟩) E.n oc) := c0
      have hn32 : E.n ≤ 2048 := LR.n32.2
      by_cases hlt : k < E.n
      · have hlt' : k < (E.flTo k).n := hlt
        obtain ⟨g, o, c, A, d, hv, hc1, hc2, hcell, hmem, hsl⟩ := LR.last hlt'
        rw [flTo_newest] at hsl
        have hp := LR.vpos hlt'
        have hout := (LR.out k hlt').1
        have hfz : wr.drew.frozen? ⟨ro, k, none⟩ = false := (LR.out k hlt').2
        have houtd : wr.drew.cell? ⟨ro, k, none⟩ = some (iv k) := hout
        rw [hv] at houtd
        have hix : ∀ w', (Instr.indexAt 46 (.slice (some ⟨ro, 0, none⟩) E.n oc) (.int .i64 (k : Int))).run Try.prog w' = .ok (.pointer (some ⟨ro, k, none⟩)) w' := fun w' => by
          have := run_index_one (P := Try.prog) Try.underlying46 S64 w' ro 0 E.n oc k hlt
          simpa only [Nat.zero_add] using this
        have htl := run_tlS wr.drew g o (vs k).length c hp hc1
        have hbr := LR.brow k hlt' _ _ _ hmem (by rw [LR.len k hlt']; exact all_last _ k)
        rw [flTo_newest] at hbr
        have hth : IRow wr (.slice (some ⟨g, o + ((vs k).length - 1), none⟩) 1 (c - ((vs k).length - 1))) [.slice A 256 d] := by
          obtain ⟨g', o', c', e, _, _, h3, h4⟩ := LR.irow k hlt'
          rw [hv] at e; cases e
          refine ⟨g, _, _, rfl, by simp; omega, by omega, fun j u hu => ?_, fun j hj => ?_⟩
          · rcases j with _ | j
            · have hu : Value.slice A 256 d = u := by simpa using hu
              rw [Nat.add_zero, ← hu]; exact hcell
            · simp at hu
          · rw [Nat.add_assoc]; exact h4 _ (by omega)
        have hgro : g ≠ ro := (LR.ne.2.1 k hlt' g (by rw [hv]; rfl)).2
        have hTE := turn_setCell (S := fun k => k = ro) (w := wr.drew) (a := ⟨ro, k, none⟩) (.slice (some ⟨g, o + ((vs k).length - 1), none⟩) 1 (c - ((vs k).length - 1))) rfl
        have LE := LR.drew.pick k hlt' (w' := wr.drew.setCell ⟨ro, k, none⟩ (.slice (some ⟨g, o + ((vs k).length - 1), none⟩) 1 (c - ((vs k).length - 1)))) _ _ (E.newest k) hTE
          ⟨World.cell?_setCell_same _ _ _ houtd, fun z hz => World.cell?_setCell_other _ _ _ _ (fun e => hz (by injection e with _ e2; exact e2.symm))⟩ (fun z => World.frozen?_setCell _ _ _ _)
          (hth.keep fun g' e => by cases e; exact hTE.block g (hth.lt (by simp) rfl) hgro) (List.mem_of_getElem? hmem) hbr (S' := S) (fun _ h => h) (.inl (by rw [hv]; rfl))
        rw [← flTo_next] at LE
        rw [hv] at hout
        have hzz : w.heap.size ≤ wr.heap.size := TR.size
        have hmx : (vs k).length ≤ 9223372036854775807 := by unfold maxLen at hc2; omega
        generalize (vs k).length = m at *
        clear hcell hmem hsl hbr hth hgro hc1 hc2
        go_wp2_with fail
        go_region
        all_goals (go_wp2_with fail; exact ⟨⟨k + 1, _, _, by omega, by go_num, LE, TR.drew.then (hTE.mono fun z e => e ▸ hro)⟩, by simp [intOf]; omega⟩)
      · obtain rfl : k = E.n := by omega
        rw [flTo_done E hoff] at LR
        go_wp2_with fail
        go_ret
        subst hE
        exact ⟨rfl, ⟨_, _, _, _, LR.mono fun _ _ h => .inl h⟩, TR⟩
end Go.Proofs.Ytkkmnmiekmfjiaa
