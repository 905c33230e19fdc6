/- The law DriveKeeps: for every input it returns true, and what came in reads as it did. -/
import Derived.Test.YtbikmnjagfkajaaDrvK
import Derived.Deep.DrawnRows
import Derived.BigQuiet
import Derived.Deep.QuietTactic
import Derived.Deep.RegionLaw
namespace Go.Proofs.Ytbikmnjagfkajaa
open Go Go.RowKit Go.Proofs

/-- Whether one of the first q numbers fills a sector so. Kept shut. -/
def fnd (l : List Nat) (b : List UInt8) (q : Nat) : Bool := (l.take q).any fun x => decide (fill (x : Int) = b)
theorem fnd_zero (l : List Nat) (b : List UInt8) : fnd l b 0 = false := by simp [fnd]
theorem fnd_next (l : List Nat) (b : List UInt8) (q : Nat) (h : q < l.length) : fnd l b (q + 1) = (fnd l b q || decide (fill ((l[q] : Nat) : Int) = b)) := by
  unfold fnd
  rw [List.take_succ_eq_append_getElem h, List.any_append]; simp
theorem fnd_all (l : List Nat) (b : List UInt8) (h : ∃ x ∈ l, fill ((x : Nat) : Int) = b) : fnd l b l.length = true := by
  unfold fnd
  rw [List.take_length, List.any_eq_true]
  obtain ⟨x, hx, e⟩ := h
  exact ⟨x, hx, by simpa using e⟩
theorem newest_writeK (D : DM) (h : D.fine) {s : Nat} (hs : s < 32) {x : List UInt8} (hx : x.length = 256) (k : Nat) : (D.writeD s x).newest k = if k = s then x else D.newest k := by
  rw [(h.write hs hx).2]
  exact newest_write D s x k _ _ _ _ _ _ rfl
theorem run_index_int (w : World) (g n c j : Nat) (hj : j < n) : (Instr.indexAt 31 (.slice (some ⟨g, 0, none⟩) n c) (.int .i64 (j : Int))).run Try.prog w = .ok (.pointer (some ⟨g, j, none⟩)) w := by
  have hz : (sizeOf 3).run Try.prog w = .ok 1 w := by
    obtain ⟨z, hz, _, hs, _⟩ := info_parts TI
    simp [sizeOf, typeInfo, hz, hs]
  have ha : (⟨g, 0, none⟩ : Addr).add j = ⟨g, j, none⟩ := by rw [Addr.add_lit, Nat.zero_add]
  simp [Instr.indexAt, asIntOf, run_underlying Try.underlying31, hz, hj, ha]
theorem str_ne {a b : List UInt8} (h : a ≠ b) : ((⟨a.toArray⟩ : ByteArray) == ⟨b.toArray⟩) = false := by
  rcases hb : ((⟨a.toArray⟩ : ByteArray) == ⟨b.toArray⟩) with _ | _
  · rfl
  · exfalso
    apply h
    have e : a.toArray = b.toArray := eq_of_beq (show (a.toArray == b.toArray) = true from hb)
    simpa using e
theorem nums_at (l : List Nat) (q : Nat) (h : q < l.length) : (nums l)[q]? = some (.int .i64 ((l[q] : Nat) : Int)) := by
  simp [nums, h]

attribute [local go_sem ↓] Go.wp_at_zero Go.wp_at_succ
set_option maxRecDepth 10000 in
set_option maxHeartbeats 8000000 in
theorem driveKeeps_walk (A : Option Addr) (n c : Nat) (ps : List (Int × Int)) (A2 : Option Addr) (n2 c2 : Nat) (ps2 : List (Int × Int)) (A3 : Option Addr) (n3 c3 : Nat) (kp : List Int) (w : World) (h : Pairs w A n c ps) (h2 : Pairs w A2 n2 c2 ps2) (h3 : Ints w A3 n3 c3 kp) :
    Calls Try.prog 4 #[.slice A n c, .slice A2 n2 c2, .slice A3 n3 c3] w fun e w' => e = .returned (.bool true) ∧ Below w.heap.size w w' := by
  have hnc := h.2.1
  have hcm := h.2.2.1
  unfold maxLen at hcm
  have hnc2 := h2.2.1
  have hcm2 := h2.2.2.1
  unfold maxLen at hcm2
  go_enter Try.func4, Try.ntmps4
  go_wp2_with fail
  refine (shown_any _).mono ?_
  rintro e w1 ⟨rfl, b1⟩
  have hp := h.below b1
  have hp2 := h2.below b1
  have hi3 : Ints w1 A3 n3 c3 kp := h3.turn (turn_below (S := fun _ => False) b1) fun _ _ hf => hf
  have hz1 := b1.size
  clear h h2 h3
  go_wp2_with fail
  refine (run_new 32 (by unfold sectors; omega) w1).mono ?_
  rintro e w2 ⟨bp, rfl, R2, b2⟩
  go_wp2_with (first
    | (refine wp_varM (by rfl) (by rfl) ?_)
    | (refine wp_storeM (by rfl) _ _ (by rfl) (by rfl) _ (by rfl) (by exact nils.symm) ?_))
  obtain ⟨M3, b3⟩ := may_new w2
  have hnb : w1.heap.size ≤ w2.heap.size := b2.size
  have R3 : Run (mayW w2) w1.heap.size (XM w2.heap.size (fun _ => .slice none 0 0)) bp (DM.mk0 32) := R2.below b3 (fun k hk => by
    rcases hk with rfl | ⟨s, hs⟩
    · exact .inr ⟨Nat.le_refl _, M3.lt⟩
    · cases hs)
  have hX3 : ∀ k, XM w2.heap.size (fun _ => Value.slice none 0 0) k → w1.heap.size ≤ k := fun k hk => by
    rcases hk with rfl | ⟨s, hs⟩
    · exact hnb
    · cases hs
  have K3 := (kp_below (B := w1.heap.size) (X := fun _ => False) b2).trans (kp_below b3)
  generalize mayW w2 = w3 at *
  generalize w2.heap.size = nb at *
  clear R2 b2 b3
  go_wp2_with fail
  go_loopw [11] (fun i wr => ∃ (k : Nat) (mv : Nat → Value) (M : Nat → List Nat), k ≤ 32 ∧ i = .int .i64 k ∧ Run wr w1.heap.size (XM nb mv) bp (DM.mk0 32) ∧ May wr nb mv M ∧ (∀ k, XM nb mv k → w1.heap.size ≤ k) ∧ (∀ s, s < k → M s = [0]) ∧ Kp w1.heap.size (fun _ => False) w1 wr) (fun i _ => 32 - (intOf i).toNat)
  case atStart => exact ⟨0, _, _, by omega, rfl, R3, M3, hX3, fun s hs => by omega, K3⟩
  case round =>
    clear R3 M3 hX3 K3
    obtain ⟨k, mv, M, hk, rfl, R, hM, hX, h0, K⟩ := hrel
    by_cases hlt : k < 32
    · obtain ⟨L1, L2, L3, L4, L5⟩ := hM.lit k hlt 0
      have hix := fun w => run_index_may w nb k hlt
      have hc : (wr.alloc (.cells #[.int .i64 0] 3)).cell? ⟨nb, k, none⟩ = some (mv k) := L4
      have hf : (wr.alloc (.cells #[.int .i64 0] 3)).frozen? ⟨nb, k, none⟩ = false := L5
      have R' := R.turnX L2 L3
      have K' := K.trans (kp_turn L2 hX)
      have hX' : ∀ z, XM nb (upd mv k (.slice (some ⟨wr.heap.size, 0, none⟩) 1 1)) z → w1.heap.size ≤ z := fun z hz => by
        rcases L3 z hz with h | h
        · exact hX z h
        · have := R.1; omega
      have h0' : ∀ s, s < k + 1 → upd M k [0] s = [0] := fun s hs => by
        by_cases hsk : s = k
        · subst hsk; rw [upd_same]
        · rw [upd_other _ _ hsk]; exact h0 s (by omega)
      clear L2 L3 L4 L5 R K hX h0 hM
      go_wp2_with fail
      exact ⟨⟨k + 1, _, _, by omega, by go_num, R', L1, hX', h0', K'⟩, by simp [intOf]; omega⟩
    · have hge : 32 ≤ k := by omega
      go_wp2_with fail
      go_loopw [12] (fun i wr => ∃ (k : Nat) (D : DM) (mv : Nat → Value) (M : Nat → List Nat), k ≤ n ∧ k ≤ 20 ∧ i = .int .i64 k ∧ Run wr w1.heap.size (XM nb mv) bp D ∧ D.ok k ∧ D.fine ∧ May wr nb mv M ∧ (∀ k, XM nb mv k → w1.heap.size ≤ k) ∧
        (∀ s, s < 32 → ∃ x : Nat, M s = [x] ∧ D.newest s = fill x) ∧ Kp w1.heap.size (fun _ => False) w1 wr) (fun i _ => n - (intOf i).toNat)
      case atStart => exact ⟨0, _, mv, M, by omega, by omega, rfl, R, ok_mk0 32 0, fine_mk0, hM, hX, fun s hs => ⟨0, h0 s (by omega), rfl⟩, K⟩
      case round =>
        clear R hM hX h0 K mv M
        generalize k = k11 at *
        obtain ⟨k, D, mv, M, hkn, hk20, rfl, R, hok, hfi, hM, hX, hMs, K⟩ := hrel
        by_cases hgo : k < n ∧ k < 20
        · obtain ⟨hlt, hlt2⟩ := hgo
          obtain ⟨g, o, x, hx, rfl, hg, hc1, hc2, hb1, hb2⟩ := hp.at_ hlt
          obtain ⟨xa, xb⟩ := x
          have hcell : ∀ w', Kp w1.heap.size (fun _ => False) w1 w' → w'.cell? ⟨g, o + k * 2, none⟩ = some (.int .i64 xa) ∧ w'.cell? ⟨g, o + k * 2 + 1, none⟩ = some (.int .i64 xb) := fun w' k =>
            ⟨(k.cell (p := ⟨g, _, none⟩) hg (.inl hg)).trans hc1, (k.cell (p := ⟨g, _, none⟩) hg (.inl hg)).trans hc2⟩
          have hix := fun w => run_index_pair w g o n c k hlt
          simp only at hb1 hb2
          have hs := md_lt xa (m := 32) (by omega)
          have C1 := fun w => kind_any xa 32 hb1 (by omega) (by omega) w
          have C2 := fun w => kind_any xb 256 hb2 (by omega) (by omega) w
          generalize md xa 32 = s at *
          generalize md xb 256 = x at *
          obtain ⟨hd1, hd2⟩ := hcell _ K
          clear hc1 hc2 hp hx hp2 hi3
          go_wp2_with fail
          refine (C1 _).mono ?_
          rintro e wq ⟨rfl, rfl⟩
          go_wp2_with fail
          refine (C2 _).mono ?_
          rintro e wq ⟨rfl, rfl⟩
          go_wp2_with fail
          refine (filled_any x _).mono ?_
          rintro e w8 ⟨rfl, o8, b8⟩
          go_wp2_with fail
          refine (run_write (R.same b8) s _ _ _ _ o8.sl (m := k) (by omega) hok).mono ?_
          rintro e w9 ⟨rfl, R9, k9⟩
          have hM9 := (hM.below b8).kp k9
          have K9 := (K.trans (kp_below b8)).trans (k9.mono (X' := fun _ => False) fun _ _ h => h.elim)
          obtain ⟨he1, he2⟩ := hcell _ K9
          have hok9 := ok_write hok s (fill x)
          have hfi9 := hfi.writeD hs (fill_len x)
          obtain ⟨L1, L2, L3, L4, L5⟩ := hM9.lit s hs x
          have hix2 := fun w => run_index_may w nb s hs
          have hc : (w9.alloc (.cells #[.int .i64 (x : Int)] 3)).cell? ⟨nb, s, none⟩ = some (mv s) := L4
          have hf : (w9.alloc (.cells #[.int .i64 (x : Int)] 3)).frozen? ⟨nb, s, none⟩ = false := L5
          have R' := R9.turnX L2 L3
          have K' := K9.trans (kp_turn L2 hX)
          have hX' : ∀ z, XM nb (upd mv s (.slice (some ⟨w9.heap.size, 0, none⟩) 1 1)) z → w1.heap.size ≤ z := fun z hz => by
            rcases L3 z hz with h | h
            · exact hX z h
            · have := R9.1; omega
          have hMs' : ∀ z, z < 32 → ∃ y : Nat, upd M s [x] z = [y] ∧ (D.writeD s (fill x)).newest z = fill y := fun z hz => by
            rw [newest_writeK D hfi hs (fill_len _)]
            by_cases hzs : z = s
            · subst hzs; exact ⟨x, upd_same _ _ _, by rw [if_pos rfl]⟩
            · obtain ⟨y, hy1, hy2⟩ := hMs z hz
              exact ⟨y, by rw [upd_other _ _ hzs]; exact hy1, by rw [if_neg hzs]; exact hy2⟩
          clear L2 L3 L4 L5 R R9 K hX hM hM9 K9 k9 b8 o8 hd1 hd2 hMs hfi hok hcell
          go_wp2_with fail
          refine (C2 _).mono ?_
          rintro e wq ⟨rfl, rfl⟩
          go_wp2_with fail
          exact ⟨⟨k + 1, _, _, _, by omega, by omega, by go_num, R', hok9, hfi9, L1, hX', hMs', K'⟩, by simp [intOf]; omega⟩
        · have hcase : ¬ (k < n) ∨ (k < n ∧ ¬ k < 20) := by omega
          clear hgo hp
          have HF := run_flush R (m := k) (by omega) hok
          rw [hfi.flush.1] at HF
          rcases hcase with hlt | ⟨hlt, hlt2⟩
          all_goals (
            go_wp2_with fail
            refine HF.mono ?_
            rintro e w4 ⟨rfl, R4, k4⟩
            have hM4 := hM.kp k4
            have K4 := K.trans (k4.mono (X' := fun _ => False) fun _ _ h => h.elim)
            have hok4 : D.flushD.ok 21 := (ok_flush hok).mono (by omega)
            have hfi4 : D.flushD.fine := by rw [hfi.flush.2]; exact ⟨hfi.n, hfi.off, hfi.fused⟩
            have hMs4 : ∀ s, s < 32 → ∃ (x : Nat) (xs : List Nat), M s = x :: xs ∧ D.flushD.dur s = fill x ∧ D.flushD.cac s = xs.map fun (y : Nat) => fill (y : Int) := fun s hs => by
              obtain ⟨x, h1, h2⟩ := hMs s hs
              exact ⟨x, [], h1, by rw [hfi.flush.2]; exact h2, by rw [hfi.flush.2]; rfl⟩
            generalize D.flushD = D4 at *
            clear R HF hM hMs K k4 hok hfi
            go_wp2_with fail
            go_loopw [15] (fun i wr => ∃ (k : Nat) (D : DM) (mv : Nat → Value) (M : Nat → List Nat), k ≤ n2 ∧ k ≤ 20 ∧ i = .int .i64 k ∧ Run wr w1.heap.size (XM nb mv) bp D ∧ D.ok (21 + k) ∧ D.fine ∧ May wr nb mv M ∧ (∀ k, XM nb mv k → w1.heap.size ≤ k) ∧
              (∀ s, s < 32 → ∃ (x : Nat) (xs : List Nat), M s = x :: xs ∧ D.dur s = fill x ∧ D.cac s = xs.map fun (y : Nat) => fill (y : Int)) ∧ Kp w1.heap.size (fun _ => False) w1 wr) (fun i _ => n2 - (intOf i).toNat)
            case atStart => exact ⟨0, D4, mv, M, by omega, by omega, rfl, R4, hok4, hfi4, hM4, hX, hMs4, K4⟩
            case round =>
              clear R4 hok4 hfi4 hM4 hX hMs4 K4
              obtain ⟨k, D, mv, M, hkn, hk20, rfl, R, hok, hfi, hM, hX, hMs, K⟩ := hrel
              by_cases hgo : k < n2 ∧ k < 20
              · obtain ⟨hlt, hlt2⟩ := hgo
                obtain ⟨g, o, x, hx, rfl, hg, hc1, hc2, hb1, hb2⟩ := hp2.at_ hlt
                obtain ⟨xa, xb⟩ := x
                have hcell : ∀ w', Kp w1.heap.size (fun _ => False) w1 w' → w'.cell? ⟨g, o + k * 2, none⟩ = some (.int .i64 xa) ∧ w'.cell? ⟨g, o + k * 2 + 1, none⟩ = some (.int .i64 xb) := fun w' k =>
                  ⟨(k.cell (p := ⟨g, _, none⟩) hg (.inl hg)).trans hc1, (k.cell (p := ⟨g, _, none⟩) hg (.inl hg)).trans hc2⟩
                have hix := fun w => run_index_pair w g o n2 c2 k hlt
                simp only at hb1 hb2
                have hs := md_lt xa (m := 32) (by omega)
                have C1 := fun w => kind_any xa 32 hb1 (by omega) (by omega) w
                have C2 := fun w => kind_any xb 256 hb2 (by omega) (by omega) w
                generalize md xa 32 = s at *
                generalize md xb 256 = x at *
                obtain ⟨hd1, hd2⟩ := hcell _ K
                clear hc1 hc2 hx hp2 hi3
                go_wp2_with fail
                refine (C1 _).mono ?_
                rintro e wq ⟨rfl, rfl⟩
                go_wp2_with fail
                refine (C2 _).mono ?_
                rintro e wq ⟨rfl, rfl⟩
                go_wp2_with fail
                refine (filled_any x _).mono ?_
                rintro e w8 ⟨rfl, o8, b8⟩
                go_wp2_with fail
                refine (run_write (R.same b8) s _ _ _ _ o8.sl (m := 21 + k) (by omega) hok).mono ?_
                rintro e w9 ⟨rfl, R9, k9⟩
                have hM9 := (hM.below b8).kp k9
                have K9 := (K.trans (kp_below b8)).trans (k9.mono (X' := fun _ => False) fun _ _ h => h.elim)
                have K9d : Kp w1.heap.size (fun _ => False) w1 w9.drew := K9.trans (kp_below (Below.refl _ _).drew)
                have hM9d : May w9.drew nb mv M := hM9.below (Below.refl _ _).drew
                have R9d : Run w9.drew w1.heap.size (XM nb mv) bp (D.writeD s (fill x)) := R9.same (Below.refl _ _).drew
                obtain ⟨he1, he2⟩ := hcell _ K9d
                have hok9 : (D.writeD s (fill x)).ok (21 + (k + 1)) := ok_write hok s (fill x)
                have hfi9 := hfi.writeD hs (fill_len x)
                have hlenM : (M s).length ≤ 1000000 := by
                  obtain ⟨y, ys, h1, _, h3⟩ := hMs s hs
                  have h4 := hok.2 s
                  rw [h3, List.length_map] at h4
                  rw [h1, List.length_cons]; omega
                have hix2 := fun w => run_index_may w nb s hs
                obtain ⟨ho1, ho2⟩ := hM9d.cell s hs
                have ho3 : (oneI w9.drew x).cell? ⟨nb, s, none⟩ = some (mv s) := (hM9d.keep (w' := oneI w9.drew x) (by simp [oneI]) (fun k hk _ => heap_alloc_old w9.drew _ hk)).cell s hs |>.1
                have ho5 : (w9.alloc (.cells #[.int .i64 (x : Int)] 3)).drew.cell? ⟨nb, s, none⟩ = some (mv s) := ho3
                have ho4 := (hcell (oneI w9.drew x) (K9d.trans (kp_below (B := w1.heap.size) (X := fun _ => False) ((Below.refl _ _).alloc (Nat.le_refl _) _)))).2
                have ho6 : (w9.alloc (.cells #[.int .i64 (x : Int)] 3)).drew.cell? ⟨g, o + k * 2 + 1, none⟩ = some (.int .i64 xb) := ho4
                clear ho3 ho4
                obtain ⟨v1, w10, happ, ⟨L1, L2, L3, L4, L5⟩, Av, cv, rfl⟩ := hM9d.app s hs x hlenM 31
                have R' := R9d.turnX L2 L3
                have K' := K9d.trans (kp_turn L2 hX)
                have hX' : ∀ z, XM nb (upd mv s (.slice Av ((M s).length + 1) cv)) z → w1.heap.size ≤ z := fun z hz => by
                  rcases L3 z hz with h | h
                  · exact hX z h
                  · have := R9d.1; omega
                have hMs' : ∀ z, z < 32 → ∃ (y : Nat) (ys : List Nat), upd M s (M s ++ [x]) z = y :: ys ∧ (D.writeD s (fill x)).dur z = fill y ∧ (D.writeD s (fill x)).cac z = ys.map fun (y : Nat) => fill (y : Int) := fun z hz => by
                  rw [(hfi.write hs (fill_len x)).2]
                  obtain ⟨y, ys, hy1, hy2, hy3⟩ := hMs z hz
                  by_cases hzs : z = s
                  · subst hzs
                    exact ⟨y, ys ++ [x], by rw [upd_same, hy1]; rfl, hy2, by dsimp only; rw [upd_same, hy3]; simp⟩
                  · exact ⟨y, ys, by rw [upd_other _ _ hzs]; exact hy1, hy2, by dsimp only; rw [upd_other _ _ hzs]; exact hy3⟩
                clear L2 L3 R R9 R9d K hX hM hM9 hM9d K9 K9d k9 b8 o8 hd1 hd2 hMs hfi hok hcell
                go_wp2_with fail
                go_region_law (first
                  | (refine step_append_run (by rfl) _ _ (by rfl) (mv s) (.slice (some ⟨w9.heap.size, 0, none⟩) 1 1) (by rfl) (by rfl) happ ?_)
                  | (go_simp; go_at_call 12; refine (C2 _).mono ?_; rintro e wq ⟨rfl, rfl⟩))
                all_goals (
                  go_wp2_with fail
                  exact ⟨⟨k + 1, _, _, _, by omega, by omega, by go_num, R', hok9, hfi9, L1, hX', hMs', K'⟩, by simp [intOf]; omega⟩)
              · have hcase : ¬ (k < n2) ∨ (k < n2 ∧ ¬ k < 20) := by omega
                have hout : ∀ ad, A3 = some ad → 0 < n3 → ad.block < wr.heap.size ∧ (ad.block < w1.heap.size ∨ XM nb mv ad.block) := fun ad e h0 => by
                  have h00 : 0 < kp.length := by have := hi3.len; omega
                  obtain ⟨ad', e', hb', _⟩ := hi3.1.2.2.2 0 (.int .i64 kp[0]) (by simp [h00])
                  rw [e] at e'; injection e' with e'; subst e'
                  exact ⟨by have := K.size; omega, .inl hb'⟩
                have HC := run_crash2 R A3 n3 c3 kp (hi3.kp K (Nat.le_refl _)) hout (m := 21 + k) (by omega) hok
                clear hgo hp2 hi3 hout
                rcases hcase with hlt | ⟨hlt, hlt2⟩
                all_goals (
                  go_wp2_with fail
                  refine HC.mono ?_
                  rintro e w5 ⟨rfl, R5, k5⟩
                  have hM5 := hM.kp k5
                  have K5 := K.trans (k5.mono (X' := fun _ => False) fun _ _ h => h.elim)
                  have hfi5 := crash_fine hfi kp
                  have hpos : ∀ s, s < 32 → 0 < (M s).length := fun s hs => by
                    obtain ⟨x, xs, h1, _⟩ := hMs s hs
                    rw [h1]; simp
                  have hfound : ∀ s, s < 32 → fnd (M s) ((D.crash kp).newest s) (M s).length = true := fun s hs => fnd_all _ _ (by
                    obtain ⟨x, xs, h1, h2, h3⟩ := hMs s hs
                    rcases crash_newest D kp s (by rw [hfi.n]; exact hs) with h | h
                    · exact ⟨x, by rw [h1]; simp, by rw [h, h2]⟩
                    · rw [h3] at h
                      obtain ⟨y, hy, e⟩ := List.mem_map.1 h
                      exact ⟨y, by rw [h1]; simp [hy], e⟩)
                  have HT : Hid ((D.crash kp).cnt = 0) := crash_cnt D kp
                  have KB := b1.trans ((K5.below (Nat.le_refl _)).mono hz1)
                  have hz5 := K5.size
                  generalize D.crash kp = D5 at *
                  clear HC R hM hMs K hX k5 hok hfi K5
                  go_wp2_with fail
                  go_loopw [17] (fun i wq => ∃ q : Nat, q ≤ 32 ∧ i = .int .i64 q ∧ Below w5.heap.size w5 wq) (fun i _ => 32 - (intOf i).toNat)
                  case atStart => exact ⟨0, by omega, rfl, Below.refl _ _⟩
                  case round =>
                    obtain ⟨q, hq, rfl, bq⟩ := hrel
                    by_cases hq2 : q < 32
                    · have Mq := hM5.below bq
                      go_wp2_with fail
                      refine (run_read (R5.same bq) q).mono ?_
                      rintro e w6 ⟨A6, n6, X6, rfl, _, _, H6, _, b6⟩
                      rw [(hfi5.read hq2).1]
                      rw [(hfi5.read hq2).2] at H6
                      have hfd := hfound q hq2
                      have hpo := hpos q hq2
                      generalize D5.newest q = L at *
                      have M6 := Mq.below b6
                      have b56 := bq.trans (b6.mono bq.size)
                      obtain ⟨gq, cq, hvq, hcq, hcm6⟩ := owns_form (M6.row q) hpo
                      have hrow := M6.row q
                      rw [hvq] at hrow
                      have hgl : gq < w6.heap.size := owns_lt hrow rfl
                      have hnl : nb < w6.heap.size := M6.lt
                      obtain ⟨hcn, _⟩ := M6.cell q hq2
                      rw [hvq] at hcn
                      have hSn : ∀ w', Below w6.heap.size w6 w' → w'.cell? ⟨nb, q, none⟩ = some (.slice (some ⟨gq, 0, none⟩) (M q).length cq) := fun w' h => (h.cell (p := ⟨nb, q, none⟩) hnl).trans hcn
                      have hSi : ∀ w' p (hp : p < (M q).length), Below w6.heap.size w6 w' → w'.cell? ⟨gq, p, none⟩ = some (.int .i64 (((M q)[p] : Nat) : Int)) := fun w' p hp h => (h.cell (p := ⟨gq, p, none⟩) hgl).trans (by rw [World.ownsRow.cellAt hrow p (by omega), nums_at _ _ hp])
                      have hcb : ∀ w', Below w6.heap.size w6 w' → (convert 35 9 (.slice A6 n6 n6)).run Try.prog w' = .ok (.string ⟨L.toArray⟩) w' := fun w' h => conv_bs (H6.1.below h)
                      have hix := fun w => run_index_may w nb q hq2
                      have hlm : (M q).length ≤ 9223372036854775807 := by unfold maxLen at hcm6; omega
                      clear Mq M6 hrow hcn H6 b6 bq hvq hcm6
                      generalize M q = lm at *
                      go_wp2_with fail
                      go_loopw [20, 21] (fun f i wz => ∃ p : Nat, p ≤ lm.length ∧ i = .int .i64 p ∧ f = .bool (fnd lm L p) ∧ Below w6.heap.size w6 wz) (fun _ i _ => lm.length - (intOf i).toNat)
                      case atStart => exact ⟨0, by omega, rfl, by rw [fnd_zero], Below.refl _ _⟩
                      case round =>
                        obtain ⟨p, hp, rfl, rfl, bz⟩ := hrel
                        have hcz := hSn _ bz
                        by_cases hp2 : p < lm.length
                        · have hnx := fnd_next lm L p hp2
                          have hiz := hSi _ p hp2 bz
                          have hixp := fun w => run_index_int w gq lm.length cq p hp2
                          have hpI : (p : Int) < (lm.length : Int) := by omega
                          cases hf : fnd lm L p with
                          | true =>
                            rw [hf, Bool.true_or] at hnx
                            have hcN : ∀ N, Below w6.heap.size w6 (wr.drewN N) := fun N => below_drewN bz N
                            clear hcb hSi hSn hfd hfound
                            go_wp2_with fail
                            go_quiet (fail)
                            go_wp2_with fail
                            exact ⟨⟨p + 1, by omega, by go_num, by rw [hnx], hcN _⟩, by simp [intOf]; omega⟩
                          | false =>
                            rw [hf, Bool.false_or] at hnx
                            have hS : ∀ w', Below w6.heap.size w6 w' → w'.cell? ⟨nb, q, none⟩ = some (.slice (some ⟨gq, 0, none⟩) lm.length cq) ∧ w'.cell? ⟨gq, p, none⟩ = some (.int .i64 ((lm[p] : Nat) : Int)) ∧ Below w6.heap.size w6 w' := fun w' h => ⟨hSn w' h, hSi w' p hp2 h, h⟩
                            have BD : Below w6.heap.size w6 wr.drew := bz.drew
                            clear hcz hiz hSn hSi hfd hfound
                            generalize lm[p] = x at *
                            by_cases hxe : fill (x : Int) = L
                            · subst hxe
                              rw [decide_eq_true rfl] at hnx
                              go_wp2_with fail
                              go_region_held (fun w' => w'.cell? ⟨nb, q, none⟩ = some (.slice (some ⟨gq, 0, none⟩) lm.length cq) ∧ w'.cell? ⟨gq, p, none⟩ = some (.int .i64 ((x : Nat) : Int)) ∧ Below w6.heap.size w6 w')
                                (first | assumption | exact hS _ BD | (go_split_ands; exact hS _ (Below.trans ‹Below w6.heap.size w6 _› (Below.mono ‹Below (World.heap _).size _ _› (Below.size ‹Below w6.heap.size w6 _›)))))
                                (first | (go_at_call 13; refine (filled_text _ _).mono ?_; rintro e w' ⟨g', rfl, hcf, b'⟩))
                              all_goals (
                                go_wp2_with fail
                                go_split_ands
                                exact ⟨⟨p + 1, by omega, by go_num, by first | (rw [hnx]; done) | (rw [hnx]; rfl) | (rw [hnx]; simp; done), ‹Below w6.heap.size w6 _›⟩, by simp [intOf]; omega⟩)
                            · rw [decide_eq_false hxe] at hnx
                              have hne := str_ne (a := L) (b := fill (x : Int)) (fun e => hxe e.symm)
                              have Hxe := Lib.hid (show ¬ L = fill (x : Int) from fun e => hxe e.symm)
                              clear hxe
                              go_wp2_with fail
                              go_region_held (fun w' => w'.cell? ⟨nb, q, none⟩ = some (.slice (some ⟨gq, 0, none⟩) lm.length cq) ∧ w'.cell? ⟨gq, p, none⟩ = some (.int .i64 ((x : Nat) : Int)) ∧ Below w6.heap.size w6 w')
                                (first | assumption | exact hS _ BD | (go_split_ands; exact hS _ (Below.trans ‹Below w6.heap.size w6 _› (Below.mono ‹Below (World.heap _).size _ _› (Below.size ‹Below w6.heap.size w6 _›)))))
                                (first | (go_at_call 13; refine (filled_text _ _).mono ?_; rintro e w' ⟨g', rfl, hcf, b'⟩))
                              all_goals (
                                go_wp2_with fail
                                go_split_ands
                                exact ⟨⟨p + 1, by omega, by go_num, by first | (rw [hnx]; done) | (rw [hnx]; rfl) | (rw [hnx]; simp [hne]; done) | (rw [hnx]; simp [Hxe.out]; done), ‹Below w6.heap.size w6 _›⟩, by simp [intOf]; omega⟩)
                        · obtain rfl : p = lm.length := by omega
                          rw [hfd]
                          clear hcb hSi hSn hfound
                          go_wp2_with fail
                          exact ⟨⟨q + 1, by omega, by go_num, b56.trans (bz.mono b56.size)⟩, by simp [intOf]; omega⟩
                    · obtain rfl : q = 32 := by omega
                      go_wp2_with fail
                      refine (run_cached (R5.same bq)).mono ?_
                      rw [HT.out]
                      rintro e wq ⟨rfl, rfl⟩
                      go_wp2_with fail
                      go_ret
                      exact ⟨by first | rfl | (simp [go_sem]; done), KB.trans (bq.mono (by omega))⟩))
end Go.Proofs.Ytbikmnjagfkajaa
