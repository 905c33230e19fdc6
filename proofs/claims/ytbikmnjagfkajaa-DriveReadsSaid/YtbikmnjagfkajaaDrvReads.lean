/- The law DriveReads: for every input it returns true, and what came in reads as it did. -/
import Derived.Test.YtbikmnjagfkajaaDrvT
import Derived.Deep.DrawnRows
namespace Go.Proofs.Ytbikmnjagfkajaa
open Go Go.RowKit Go.Proofs

theorem ZN (w : World) : (zeroValue 57).run Try.prog w = .ok (.agg (Array.replicate 32 (.int .i64 0))) w := by
  have h : (Try.prog.info? 57).map (fun i => (i.zero, i.size, i.bytes)) = some (some (.agg (Array.replicate 32 (.int .i64 0))), 32, 256) := by kernel_rfl
  obtain ⟨i, hi, hz0, _⟩ := info_parts h
  simp [zeroValue, typeInfo, hi, hz0]
/-- An array of ints of the call's own. Kept shut. -/
def varN (w : World) : World := w.alloc (.cells (Array.replicate 32 (.int .i64 0)) 57)
theorem varN_size (w : World) : (varN w).heap.size = w.heap.size + 1 := by simp [varN]
theorem varN_there (w : World) : (varN w).there w.heap.size 0 32 := fun j hj => by
  have hb : (varN w).heap[w.heap.size]? = some (.cells (Array.replicate 32 (.int .i64 0)) 57 (0, 0)) := heap_alloc_new w _
  refine ⟨?_, by simp [World.frozen?, hb]⟩
  rw [cell_of_row _ _ _ _ _ _ hb, Nat.zero_add, Array.getElem?_replicate, if_pos hj]; rfl
theorem varN_below (w : World) : Below w.heap.size w (varN w) := (Below.refl _ _).alloc (Nat.le_refl _) _
theorem wp_varN {ops : Array Oper} {rest : List Oper} {o : Oper} {a : Act} {w : World} {Q : Exit → Act → World → Prop} (hg : o.guard = none) (hop : o.op = Op.alloc 57)
    (hK : wpList Try.prog ops Q rest (a.put o.dst (.pointer (some ⟨w.heap.size, 0, none⟩))) (varN w)) : wpList Try.prog ops Q (o :: rest) a w :=
  wpList_plain hg fun K hK' => by
    have hrun : (Instr.alloc 57 true (.tuple #[])).run Try.prog w = .ok (.pointer (some ⟨w.heap.size, 0, none⟩)) (varN w) := by
      simp [Instr.alloc, ZN, newVar, newRow, Value.cells, varN]
      rfl
    unfold Oper.wp execOp
    simp only [hop, Sem.run_bind, Sem.run_pure, Result.andThen_ok, hrun]
    exact hK' _ _ hK
/-- The array, its noughts laid anew. Kept shut. -/
def nowW (w : World) : World := (varN w).setCells w.heap.size 0 (Array.replicate 32 (Value.int .i64 0)).toList
theorem noughts : (List.replicate 32 (Value.int .i64 0)) = [.int .i64 0, .int .i64 0, .int .i64 0, .int .i64 0, .int .i64 0, .int .i64 0, .int .i64 0, .int .i64 0, .int .i64 0, .int .i64 0, .int .i64 0, .int .i64 0, .int .i64 0, .int .i64 0, .int .i64 0, .int .i64 0,
    .int .i64 0, .int .i64 0, .int .i64 0, .int .i64 0, .int .i64 0, .int .i64 0, .int .i64 0, .int .i64 0, .int .i64 0, .int .i64 0, .int .i64 0, .int .i64 0, .int .i64 0, .int .i64 0, .int .i64 0, .int .i64 0] := rfl
theorem wp_storeN {ops : Array Oper} {rest : List Oper} {o : Oper} {a : Act} {w : World} {Q : Exit → Act → World → Prop} (hg : o.guard = none) (x y : Operand) (hop : o.op = Op.store 57 x y)
    (hx : a.eval x = .pointer (some ⟨w.heap.size, 0, none⟩)) (cs : Array Value) (hy : a.eval y = .agg cs) (hcs : cs.toList = List.replicate 32 (Value.int .i64 0))
    (hK : wpList Try.prog ops Q rest (a.put o.dst undef) (nowW w)) : wpList Try.prog ops Q (o :: rest) a (varN w) := by
  obtain ⟨l⟩ := cs
  obtain rfl : l = List.replicate 32 (Value.int .i64 0) := hcs
  exact wpList_store_mid hg 57 x y hop w.heap.size 0 (Array.replicate 32 (Value.int .i64 0)) hx hy (by rw [Array.size_replicate]; exact varN_there w) (by kernel_rfl) (by rw [Array.all_eq_true_iff_forall_mem]; intro v hv; rw [(Array.mem_replicate.1 hv).2]; rfl) hK
/-- The array in block nb holds f. -/
def NowAt (w : World) (nb : Nat) (f : Nat → Nat) : Prop := nb < w.heap.size ∧ ∀ j, j < 32 → w.cell? ⟨nb, j, none⟩ = some (.int .i64 (f j : Int)) ∧ w.frozen? ⟨nb, j, none⟩ = false
theorem NowAt.keep {w w' : World} {nb : Nat} {f : Nat → Nat} (h : NowAt w nb f) (hz : w.heap.size ≤ w'.heap.size) (e : w'.heap[nb]? = w.heap[nb]?) : NowAt w' nb f :=
  ⟨by have := h.1; omega, fun j hj => ⟨(World.cell?_of_block (w := w) (w' := w') (a := ⟨nb, j, none⟩) e).trans (h.2 j hj).1, (World.frozen?_of_block (w := w) (w' := w') (a := ⟨nb, j, none⟩) e).trans (h.2 j hj).2⟩⟩
theorem NowAt.set {w : World} {nb : Nat} {f : Nat → Nat} (h : NowAt w nb f) (s x : Nat) (hs : s < 32) : NowAt (w.setCell ⟨nb, s, none⟩ (.int .i64 (x : Int))) nb (upd f s x) := by
  refine ⟨by simpa [World.setCell] using h.1, fun j hj => ⟨?_, by rw [World.frozen?_setCell]; exact (h.2 j hj).2⟩⟩
  by_cases hjs : j = s
  · subst hjs
    rw [World.cell?_setCell_same _ _ _ (h.2 j hj).1, upd_same]
  · rw [World.cell?_setCell_other _ _ _ _ (fun e => hjs (by injection e with _ e2; exact e2.symm)), upd_other _ _ hjs]
    exact (h.2 j hj).1
theorem nowAt_new (w : World) : NowAt (nowW w) w.heap.size (fun _ => 0) := by
  unfold nowW
  refine ⟨by rw [setCells_size, varN_size]; omega, fun j hj => ⟨?_, by rw [World.frozen?_setCells]; have := (varN_there w j hj).2; rwa [Nat.zero_add] at this⟩⟩
  have h := World.rangeAt_setCells_same (varN w) w.heap.size 0 (Array.replicate 32 (Value.int .i64 0)).toList (varN_there w) j (.int .i64 0) (by rw [Array.getElem?_toList, Array.getElem?_replicate, if_pos hj])
  rwa [Nat.zero_add] at h
theorem run_index_now (w : World) (b j : Nat) (hj : j < 32) : (Instr.indexAt 57 (.pointer (some ⟨b, 0, none⟩)) (.int .i64 (j : Int))).run Try.prog w = .ok (.pointer (some ⟨b, j, none⟩)) w := by
  have hz : (sizeOf 3).run Try.prog w = .ok 1 w := by
    have h : (Try.prog.info? 3).map (fun i => i.size) = some 1 := by kernel_rfl
    obtain ⟨i, hi, hs⟩ := Option.map_eq_some_iff.1 h
    simp [sizeOf, typeInfo, hi, hs]
  have ha : (⟨b, 0, none⟩ : Addr).add j = ⟨b, j, none⟩ := by rw [Addr.add_mid, Nat.zero_add]
  simp [Instr.indexAt, Instr.sureAddr, asIntOf, run_underlying Try.underlying57, hz, hj, ha]
theorem newest_flush (D : DM) (h : D.fine) (s : Nat) : D.flushD.newest s = D.newest s := by rw [h.flush.2]; rfl
theorem cnt_flush (D : DM) (h : D.fine) : D.flushD.cnt = 0 := by
  rw [h.flush.2]
  unfold DM.cnt
  simp
theorem fine_flush (D : DM) (h : D.fine) : D.flushD.fine := by rw [h.flush.2]; exact ⟨h.n, h.off, h.fused⟩
theorem newest_writeD (D : DM) (h : D.fine) {s : Nat} (hs : s < 32) {x : List UInt8} (hx : x.length = 256) (k : Nat) : (D.writeD s x).newest k = if k = s then x else D.newest k := by
  rw [(h.write hs hx).2]
  exact newest_write D s x k _ _ _ _ _ _ rfl

attribute [local go_sem ↓] Go.wp_at_zero Go.wp_at_succ
set_option maxRecDepth 10000 in
set_option maxHeartbeats 4000000 in
theorem driveReads_walk (A : Option Addr) (n c : Nat) (ps : List (Int × Int)) (w : World) (h : Pairs w A n c ps) :
    Calls Try.prog 7 #[.slice A n c] w fun e w' => e = .returned (.bool true) ∧ Below w.heap.size w w' := by
  have hnc := h.2.1
  have hcm := h.2.2.1
  unfold maxLen at hcm
  go_enter Try.func7, Try.ntmps7
  go_wp2_with fail
  refine (shown_any _).mono ?_
  rintro e w1 ⟨rfl, b1⟩
  have hp := h.below b1
  have hz1 := b1.size
  clear h
  go_wp2_with fail
  refine (run_new 32 (by unfold sectors; omega) w1).mono ?_
  rintro e w2 ⟨bp, rfl, R2, b2⟩
  go_wp2_with (first
    | (refine wp_varN (by rfl) (by rfl) ?_)
    | (refine wp_storeN (by rfl) _ _ (by rfl) (by rfl) _ (by rfl) (by exact noughts.symm) ?_))
  have N3 := nowAt_new w2
  have b3 : Below w2.heap.size w2 (nowW w2) :=
    (varN_below w2).trans ((turn_setCells (S := fun k => k = w2.heap.size) rfl _ 0 (varN w2)).below (fun x hx => by omega) (by rw [varN_size]; omega))
  have R3 : Run _ w1.heap.size (fun k => k = w2.heap.size) bp (DM.mk0 32) := R2.below b3 (fun k hk => .inr ⟨by omega, by unfold nowW; rw [setCells_size, varN_size]; omega⟩)
  have hnb : w1.heap.size ≤ w2.heap.size := b2.size
  have K3 := (kp_below (B := w1.heap.size) (X := fun _ => False) b2).trans (kp_below b3)
  generalize nowW w2 = w3 at N3 R3 K3 ⊢
  generalize w2.heap.size = nb at *
  clear R2 b2 b3
  go_wp2_with fail
  go_loopw [7] (fun i wr => ∃ (k : Nat) (D : DM) (f : Nat → Nat), k ≤ n ∧ k ≤ 40 ∧ i = .int .i64 k ∧ Run wr w1.heap.size (fun k => k = nb) bp D ∧ D.ok k ∧ D.fine ∧ D.steps = k ∧ NowAt wr nb f ∧ (∀ s, s < 32 → D.newest s = fill (f s)) ∧ Kp w1.heap.size (fun _ => False) w1 wr) (fun i _ => n - (intOf i).toNat)
  case atStart => exact ⟨0, _, _, Nat.zero_le _, by omega, rfl, R3, ok_mk0 32 0, fine_mk0, rfl, N3, fun s _ => by unfold fill lowB; rfl, K3⟩
  case round =>
    clear N3 R3 K3
    obtain ⟨k, D, f, hkn, hk40, rfl, R, hok, hfi, hst, N, hnew, K⟩ := hrel
    by_cases hgo : k < n ∧ k < 40
    · obtain ⟨hlt, hlt2⟩ := hgo
      obtain ⟨g, o, x, hx, rfl, hg, hc1, hc2, hb1, hb2⟩ := hp.at_ hlt
      obtain ⟨xa, xb⟩ := x
      have hd1 : wr.cell? ⟨g, o + k * 2, none⟩ = some (.int .i64 xa) := (K.cell (p := ⟨g, _, none⟩) hg (.inl hg)).trans hc1
      have hd2 : wr.cell? ⟨g, o + k * 2 + 1, none⟩ = some (.int .i64 xb) := (K.cell (p := ⟨g, _, none⟩) hg (.inl hg)).trans hc2
      have hix := fun w => run_index_pair w g o n c k hlt
      simp only at hb1 hb2
      have hmd := md_lt xa (m := 40) (by omega)
      have hmb := md_lt xb (m := 256) (by omega)
      have C1 := fun w => kind_any xa 40 hb1 (by omega) (by omega) w
      have C2 := fun w => kind_any xb 256 hb2 (by omega) (by omega) w
      generalize md xa 40 = s at *
      generalize md xb 256 = x at *
      clear hc1 hc2 hp hx
      by_cases hs : 32 ≤ s
      · go_wp2_with fail
        refine (C1 _).mono ?_
        rintro e wq ⟨rfl, rfl⟩
        have hs' : (32 : Int) ≤ (s : Int) := by omega
        go_wp2_with fail
        refine (run_flush R (m := k) (by omega) hok).mono ?_
        rw [hfi.flush.1]
        rintro e w9 ⟨rfl, R9, k9⟩
        go_wp2_with fail
        refine (run_cached R9).mono ?_
        rw [cnt_flush D hfi]
        rintro e wq ⟨rfl, rfl⟩
        have N9 := N.keep k9.size (k9.block nb N.1 (.inr rfl))
        have hok9 : (D.flushD).ok (k + 1) := ok_flush hok
        have hfi9 := fine_flush D hfi
        have hst9 : D.flushD.steps = k + 1 := by rw [hfi.flush.2]; show D.steps + 1 = k + 1; omega
        have hnew9 : ∀ s, s < 32 → D.flushD.newest s = fill (f s) := fun s h => (newest_flush D hfi s).trans (hnew s h)
        have K9 := K.trans (k9.mono (X' := fun _ => False) fun _ _ h => h.elim)
        generalize D.flushD = D9 at *
        generalize f = f9 at *
        clear R k9 N hok hfi hst hnew K C1 C2 hd1 hd2
        go_wp2_with fail
        go_loopw [9] (fun i wq => ∃ q : Nat, q ≤ 32 ∧ i = .int .i64 q ∧ Below w9.heap.size w9 wq) (fun i _ => 32 - (intOf i).toNat)
        case atStart => exact ⟨0, by omega, rfl, Below.refl _ _⟩
        case round =>
          obtain ⟨q, hq, rfl, bq⟩ := hrel
          by_cases hq2 : q < 32
          · have Rq := R9.same bq
            have Nq := N9.keep bq.size (bq.block nb N9.1)
            go_wp2_with fail
            refine (run_read Rq q).mono ?_
            rintro e w10 ⟨A10, n10, X10, rfl, _, _, H10, _, b10⟩
            rw [(hfi9.read hq2).1]
            rw [(hfi9.read hq2).2, hnew9 q hq2] at H10
            have bq10 := bq.trans (b10.mono bq.size)
            have c10 := ((Nq.keep b10.size (b10.block nb Nq.1)).2 q hq2).1
            have hnb10 : nb < w10.heap.size := by have := Nq.1; have := b10.size; omega
            have hcb : ∀ w', Below w10.heap.size w10 w' → (convert 35 9 (.slice A10 n10 n10)).run Try.prog w' = .ok (.string ⟨(fill (f9 q)).toArray⟩) w' := fun w' h => conv_bs (H10.1.below h)
            have hS : ∀ w', Below w10.heap.size w10 w' → w'.cell? ⟨nb, q, none⟩ = some (.int .i64 (f9 q : Int)) ∧ Below w10.heap.size w10 w' := fun w' h => ⟨(h.cell (p := ⟨nb, q, none⟩) hnb10).trans c10, h⟩
            have hix := fun w => run_index_now w nb q hq2
            have BD : Below w10.heap.size w10 w10.drew := (Below.refl _ _).drew
            have KQ : ∀ w', Below w10.heap.size w10 w' → Below w9.heap.size w9 w' := fun w' h => bq10.trans (h.mono bq10.size)
            clear H10 Rq Nq R9 N9 hnew9 hfi9 hok9 bq10 b10 bq c10 K9
            go_wp2_with fail
            go_region_held (fun w' => w'.cell? ⟨nb, q, none⟩ = some (.int .i64 (f9 q : Int)) ∧ Below w10.heap.size w10 w')
              (first | assumption | exact hS _ BD | (go_split_ands; exact hS _ (Below.trans ‹Below w10.heap.size w10 _› (Below.mono ‹Below (World.heap _).size _ _› (Below.size ‹Below w10.heap.size w10 _›)))))
              (first | (go_at_call 13; refine (filled_text _ _).mono ?_; rintro e w' ⟨g, rfl, hcf, b⟩))
            all_goals (
              go_wp2_with fail
              go_split_ands
              exact ⟨⟨q + 1, by omega, by go_num, KQ _ ‹Below w10.heap.size w10 _›⟩, by simp [intOf]; omega⟩)
          · obtain rfl : q = 32 := by omega
            go_wp2_with fail
            exact ⟨⟨k + 1, D9, f9, by omega, by omega, by go_num, R9.same bq, hok9, hfi9, hst9, N9.keep bq.size (bq.block nb N9.1), hnew9, K9.trans (kp_below bq)⟩, by simp [intOf]; omega⟩
      · have hs' : ¬ (32 : Int) ≤ (s : Int) := by omega
        have hs2 : s < 32 := by omega
        have hix2 := fun w => run_index_now w nb s hs2
        obtain ⟨hn1, hn2⟩ := N.2 s hs2
        have NS := N.set s x hs2
        have TS : Turn (fun k => k = nb) wr (wr.setCell ⟨nb, s, none⟩ (.int .i64 (x : Int))) := turn_setCell (a := ⟨nb, s, none⟩) _ rfl
        have RS := R.kept TS
        have KS : Kp w1.heap.size (fun _ => False) wr (wr.setCell ⟨nb, s, none⟩ (.int .i64 (x : Int))) := ⟨TS.os, TS.tape, TS.output, TS.size, fun k hk h => TS.block k hk (fun e => by rcases h with h | h; omega; exact h)⟩
        have cS := (NS.2 s hs2).1
        rw [upd_same] at cS
        go_wp2_with fail
        refine (C1 _).mono ?_
        rintro e wq ⟨rfl, rfl⟩
        go_wp2_with fail
        refine (C2 _).mono ?_
        rintro e wq ⟨rfl, rfl⟩
        clear hd1 hd2 C1 C2
        go_wp2_with fail
        generalize wr.setCell ⟨nb, s, none⟩ (.int .i64 (x : Int)) = wS at *
        refine (filled_any x wS).mono ?_
        rintro e w8 ⟨rfl, o8, b8⟩
        go_wp2_with fail
        refine (run_write (RS.same b8) s _ _ _ _ o8.sl (m := k) (by omega) hok).mono ?_
        rw [(hfi.write hs2 (fill_len _)).1]
        rintro e w9 ⟨rfl, R9, k9⟩
        have N8 := NS.keep b8.size (b8.block nb NS.1)
        have N9 := N8.keep k9.size (k9.block nb N8.1 (.inr rfl))
        have hok9 : (D.writeD s (fill x)).ok (k + 1) := ok_write hok _ _
        have hfi9 := hfi.writeD hs2 (fill_len x)
        have hst9 : (D.writeD s (fill x)).steps = k + 1 := by rw [(hfi.write hs2 (fill_len _)).2]; show D.steps + 1 = k + 1; omega
        have hnew9 : ∀ z, z < 32 → (D.writeD s (fill x)).newest z = fill (upd f s x z : Nat) := fun z h => by
          rw [newest_writeD D hfi hs2 (fill_len _)]
          by_cases hz : z = s
          · rw [if_pos hz, hz, upd_same]
          · rw [if_neg hz, upd_other _ _ hz]; exact hnew z h
        have K9 := ((K.trans KS).trans (kp_below b8)).trans (k9.mono (X' := fun _ => False) fun _ _ h => h.elim)
        generalize D.writeD s (fill x) = D9 at *
        generalize upd f s x = f9 at *
        clear R RS k9 N NS N8 hok hfi hst hnew K KS TS b8 o8 cS hn1 hn2
        go_wp2_with fail
        go_loopw [9] (fun i wq => ∃ q : Nat, q ≤ 32 ∧ i = .int .i64 q ∧ Below w9.heap.size w9 wq) (fun i _ => 32 - (intOf i).toNat)
        case atStart => exact ⟨0, by omega, rfl, Below.refl _ _⟩
        case round =>
          obtain ⟨q, hq, rfl, bq⟩ := hrel
          by_cases hq2 : q < 32
          · have Rq := R9.same bq
            have Nq := N9.keep bq.size (bq.block nb N9.1)
            go_wp2_with fail
            refine (run_read Rq q).mono ?_
            rintro e w10 ⟨A10, n10, X10, rfl, _, _, H10, _, b10⟩
            rw [(hfi9.read hq2).1]
            rw [(hfi9.read hq2).2, hnew9 q hq2] at H10
            have bq10 := bq.trans (b10.mono bq.size)
            have c10 := ((Nq.keep b10.size (b10.block nb Nq.1)).2 q hq2).1
            have hnb10 : nb < w10.heap.size := by have := Nq.1; have := b10.size; omega
            have hcb : ∀ w', Below w10.heap.size w10 w' → (convert 35 9 (.slice A10 n10 n10)).run Try.prog w' = .ok (.string ⟨(fill (f9 q)).toArray⟩) w' := fun w' h => conv_bs (H10.1.below h)
            have hS : ∀ w', Below w10.heap.size w10 w' → w'.cell? ⟨nb, q, none⟩ = some (.int .i64 (f9 q : Int)) ∧ Below w10.heap.size w10 w' := fun w' h => ⟨(h.cell (p := ⟨nb, q, none⟩) hnb10).trans c10, h⟩
            have hix := fun w => run_index_now w nb q hq2
            have BD : Below w10.heap.size w10 w10.drew := (Below.refl _ _).drew
            have KQ : ∀ w', Below w10.heap.size w10 w' → Below w9.heap.size w9 w' := fun w' h => bq10.trans (h.mono bq10.size)
            clear H10 Rq Nq R9 N9 hnew9 hfi9 hok9 bq10 b10 bq c10 K9
            go_wp2_with fail
            go_region_held (fun w' => w'.cell? ⟨nb, q, none⟩ = some (.int .i64 (f9 q : Int)) ∧ Below w10.heap.size w10 w')
              (first | assumption | exact hS _ BD | (go_split_ands; exact hS _ (Below.trans ‹Below w10.heap.size w10 _› (Below.mono ‹Below (World.heap _).size _ _› (Below.size ‹Below w10.heap.size w10 _›)))))
              (first | (go_at_call 13; refine (filled_text _ _).mono ?_; rintro e w' ⟨g, rfl, hcf, b⟩))
            all_goals (
              go_wp2_with fail
              go_split_ands
              exact ⟨⟨q + 1, by omega, by go_num, KQ _ ‹Below w10.heap.size w10 _›⟩, by simp [intOf]; omega⟩)
          · obtain rfl : q = 32 := by omega
            go_wp2_with fail
            exact ⟨⟨k + 1, D9, f9, by omega, by omega, by go_num, R9.same bq, hok9, hfi9, hst9, N9.keep bq.size (bq.block nb N9.1), hnew9, K9.trans (kp_below bq)⟩, by simp [intOf]; omega⟩
    · have hcase : ¬ (k < n) ∨ (k < n ∧ ¬ k < 40) := by omega
      have hmin : min (n : Int) 40 = (k : Int) := by omega
      have KB := b1.trans ((K.below (Nat.le_refl _)).mono hz1)
      clear hgo hp
      rcases hcase with hlt | ⟨hlt, hlt2⟩
      all_goals (
        go_wp2_with fail
        refine (run_steps R).mono ?_
        rw [hst]
        rintro e wq ⟨rfl, rfl⟩
        go_wp2_with fail
        go_ret
        exact ⟨by first | rfl | (simp [go_sem]; done) | (simp [go_sem]; omega), KB⟩)
end Go.Proofs.Ytbikmnjagfkajaa
