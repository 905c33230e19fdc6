/- The reference's New, as a call. -/
import Derived.Test.YtkkmnmiekmfjiaaRefH
namespace Go.Proofs.Ytkkmnmiekmfjiaa
open Go Go.RowKit Go.Proofs

theorem madeB_at (j : Nat) (h : j < 256) : (madeCells #[.int .u8 0] 256)[j]? = some (.int .u8 0) := by
  unfold madeCells
  rw [Array.getElem?_map, Array.getElem?_range, if_pos h]
  simp only [Option.map_some]
  rw [show j % (#[Value.int .u8 0] : Array Value).size = 0 from Nat.mod_one j]
  rfl
theorem Bld.done {w : World} {base rp : Nat} {v : Value} {n : Nat} {iv bw : Nat → Nat} (B : Bld w base rp v n iv bw) (hn : sectors n) : RDrv w rp (fun k => base ≤ k) (DM.mk0 n) := by
  obtain ⟨ro, oc, hv, h1, h2⟩ := owns_form B.row (by have := hn.1; omega)
  have hrow := B.row
  rw [hv] at hrow
  have hro : v.ownBlock = some ro := by rw [hv]; rfl
  refine ⟨ro, oc, fun s => rowV (iv s), fun s => [.slice (some ⟨bw s, 0, none⟩) 256 256], ⟨by have h := B.me; rw [hv] at h; exact h, fun s hs => ⟨?_, World.ownsRow.frozenAt hrow _⟩, fun s hs => ?_, fun _ _ => rfl, fun s hs i v' l hv' hl => ?_, fun _ _ => rfl,
    ⟨B.old.1, (World.ownsRow.lt B.row ro hro).1, fun s hs g hg => ?_, fun s hs v' hv' g hg => ?_⟩, ⟨fun e => B.ne.1 (by rw [hro, e]), fun s hs g hg => ?_, fun s hs v' hv' g hg => ?_⟩, fun s s' g hs hs' hg hg' => ?_, fun s s' i i' v' v'' g hs hs' hv' hv'' hg hg' => ?_, hn, by simp [DM.mk0]⟩⟩
  · have hs : s < n := hs
    rw [World.ownsRow.cellAt hrow s (by omega), List.getElem?_map, List.getElem?_range hs]; rfl
  · have hb := B.inn s hs
    refine ⟨iv s, 0, 1, rfl, Nat.le_refl _, by unfold maxLen; omega, fun j u hu => ?_, fun j hj => ?_⟩
    · rw [cell_of_row _ _ _ _ _ _ hb, Nat.zero_add]; simpa using hu
    · have h0 : j = 0 := by omega
      subst h0
      exact ⟨by rw [cell_of_row _ _ _ _ _ _ hb]; rfl, fz_row hb _⟩
  · have hb := B.byt s hs
    rcases i with _ | i
    · have hv' : Value.slice (some ⟨bw s, 0, none⟩) 256 256 = v' := by simpa using hv'
      have hl : zeros 256 = l := by simpa [DM.all, DM.mk0] using hl
      subst hv' hl
      refine ⟨bw s, 0, 256, rfl, Nat.le_refl _, by unfold maxLen; omega, List.length_replicate, fun j u hu => ?_, fun j hj => ⟨?_, fz_row hb _⟩⟩
      · have hj : j < 256 := by have := (List.getElem?_eq_some_iff.1 hu).1; rw [bvs_len, show (zeros 256).length = 256 from List.length_replicate] at this; exact this
        rw [zeros_at 256 hj] at hu
        rw [cell_of_row _ _ _ _ _ _ hb, Nat.zero_add, madeB_at j hj]; exact hu
      · rw [cell_of_row _ _ _ _ _ _ hb, Nat.zero_add, madeB_at j hj]; rfl
    · simp at hv'
  · obtain rfl : iv s = g := by simpa [rowV, Value.ownBlock] using hg
    exact (B.old.2 s hs).1
  · rw [List.mem_singleton.1 hv'] at hg
    obtain rfl : bw s = g := by simpa [Value.ownBlock] using hg
    exact (B.old.2 s hs).2
  · obtain rfl : iv s = g := by simpa [rowV, Value.ownBlock] using hg
    obtain ⟨a, b, c, d⟩ := B.ne.2 s hs
    exact ⟨a, fun e => c (by rw [hro, e])⟩
  · rw [List.mem_singleton.1 hv'] at hg
    obtain rfl : bw s = g := by simpa [Value.ownBlock] using hg
    obtain ⟨a, b, c, d⟩ := B.ne.2 s hs
    exact ⟨b, fun e => d (by rw [hro, e]), fun z hz e => (B.sep s z hs hz).1 (by simpa [rowV, Value.ownBlock] using e.symm)⟩
  · have e1 : iv s = g := by simpa [rowV, Value.ownBlock] using hg
    have e2 : iv s' = g := by simpa [rowV, Value.ownBlock] using hg'
    by_cases h : s = s'
    · exact h
    · exact absurd (e1.trans e2.symm) ((B.sep s s' hs hs').2 h).1
  · rw [List.mem_singleton.1 (List.mem_of_getElem? hv')] at hg
    rw [List.mem_singleton.1 (List.mem_of_getElem? hv'')] at hg'
    have e1 : bw s = g := by simpa [Value.ownBlock] using hg
    have e2 : bw s' = g := by simpa [Value.ownBlock] using hg'
    have h1 := (List.getElem?_eq_some_iff.1 hv').1
    have h2 := (List.getElem?_eq_some_iff.1 hv'').1
    simp at h1 h2
    refine ⟨?_, by omega⟩
    by_cases h : s = s'
    · exact h
    · exact absurd (e1.trans e2.symm) ((B.sep s s' hs hs').2 h).2

attribute [local go_sem ↓] lT_shut lS_shut mkB_shut apR_shut
set_option maxRecDepth 10000 in
set_option maxHeartbeats 2000000 in
theorem rnew_yes (n : Nat) (hn : sectors n) (w : World) :
    Calls Try.prog 6 #[.int .i64 n] w fun e w' => ∃ rp, e = .returned (.tuple #[.pointer (some ⟨rp, 0, none⟩), .int .i64 0]) ∧ RDrv w' rp (fun k => w.heap.size ≤ k) (DM.mk0 n) ∧ Below w.heap.size w w' := by
  have h1 : 32 ≤ n := hn.1
  have h2 : n ≤ 2048 := hn.2
  have h1' : ¬ (n : Int) < 32 := by omega
  have h2' : ¬ (2048 : Int) < (n : Int) := by omega
  go_enter Try.func6, Try.ntmps6
  go_wp2_with fail
  go_loopw [5] (fun i wr => ∃ (k : Nat) (v : Value) (iv bw : Nat → Nat), k ≤ n ∧ i = .int .i64 k ∧ Bld wr w.heap.size w.heap.size v k iv bw ∧ Below w.heap.size w wr) (fun i _ => n - (intOf i).toNat)
  case atStart =>
    refine ⟨0, .slice none 0 0, fun _ => 0, fun _ => 0, Nat.zero_le _, rfl, ⟨heap_alloc_new w _, ?_, fun s hs => absurd hs (by omega), fun s hs => absurd hs (by omega), ⟨Nat.le_refl _, fun s hs => absurd hs (by omega)⟩, ⟨by simp [Value.ownBlock], fun s hs => absurd hs (by omega)⟩, fun s s' hs => absurd hs (by omega)⟩, (Below.refl _ _).alloc (Nat.le_refl _) _⟩
    exact World.ownsRow_nil _ _ _ _
  case round =>
    obtain ⟨k, v, iv, bw, hk, rfl, B, hb⟩ := hrel
    by_cases hlt : k < n
    · have hlt' : (k : Int) < (n : Int) := by omega
      have hsz := hb.size
      have hrp := lt_of_heap B.me
      have c0 : wr.drew.cell? ⟨w.heap.size, 0, none⟩ = some v := by rw [cell_of_row wr.drew w.heap.size 0 _ _ _ B.me]; rfl
      have BD : Bld wr.drew w.heap.size w.heap.size v k iv bw := ⟨B.me, B.row, B.inn, B.byt, B.old, B.ne, B.sep⟩
      obtain ⟨v', W4, hap, ⟨c4, f4⟩, ⟨iv', bw', B'⟩, hb'⟩ := BD.step (by omega) hsz 46
      have hmk := run_mkB wr.drew
      have hl2 := run_lS (litZ wr.drew) (.slice (some ⟨wr.heap.size, 0, none⟩) 256 256) rfl
      have hl3 := run_lT (litS (litZ wr.drew) (.slice (some ⟨wr.heap.size, 0, none⟩) 256 256)) (.slice (some ⟨(litZ wr.drew).heap.size, 0, none⟩) 1 1) rfl
      have hap : (apR #[46, 46] 46 #[v, .slice (some ⟨(litS (litZ wr.drew) (.slice (some ⟨wr.heap.size, 0, none⟩) 256 256)).heap.size, 0, none⟩) 1 1]).run Try.prog (litT (litS (litZ wr.drew) (.slice (some ⟨wr.heap.size, 0, none⟩) 256 256)) (.slice (some ⟨(litZ wr.drew).heap.size, 0, none⟩) 1 1)) = .ok v' W4 := hap
      have cA : (litZ wr.drew).cell? ⟨w.heap.size, 0, none⟩ = some v := (World.cell?_of_block (w := wr.drew) (a := ⟨w.heap.size, 0, none⟩) (heap_alloc_old wr.drew _ hrp)).trans c0
      have cB : (litS (litZ wr.drew) (.slice (some ⟨wr.heap.size, 0, none⟩) 256 256)).cell? ⟨w.heap.size, 0, none⟩ = some v := (World.cell?_of_block (w := litZ wr.drew) (a := ⟨w.heap.size, 0, none⟩) (heap_alloc_old (litZ wr.drew) _ (by simp [litZ]; omega))).trans cA
      have cC : (litT (litS (litZ wr.drew) (.slice (some ⟨wr.heap.size, 0, none⟩) 256 256)) (.slice (some ⟨(litZ wr.drew).heap.size, 0, none⟩) 1 1)).cell? ⟨w.heap.size, 0, none⟩ = some v := (World.cell?_of_block (w := litS (litZ wr.drew) (.slice (some ⟨wr.heap.size, 0, none⟩) 256 256)) (a := ⟨w.heap.size, 0, none⟩) (heap_alloc_old (litS (litZ wr.drew) _) _ (by simp [litZ, litS]; omega))).trans cB
      have hbn : Below w.heap.size w (W4.setCell ⟨w.heap.size, 0, none⟩ v') := hb.drew.trans hb'
      obtain ⟨A', c', rfl, -, -⟩ := owns_any B'.row
      clear BD B hb hb' hrp hsz
      go_wp2_with fail
      go_region
      all_goals (go_wp2_with fail; exact ⟨⟨k + 1, _, _, _, by omega, by go_num, B', hbn⟩, by simp [intOf]; omega⟩)
    · obtain rfl : k = n := by omega
      go_wp2_with fail
      go_ret2
      exact ⟨w.heap.size, rfl, B.done hn, hb⟩
theorem rnew_no (n : Int) (hn : n < 32 ∨ 2048 < n) (w : World) :
    Calls Try.prog 6 #[.int .i64 n] w fun e w' => e = .returned (.tuple #[.pointer none, .int .i64 1]) ∧ w = w' := by
  by_cases h : n < 32
  · go_enter Try.func6, Try.ntmps6
    go_wp2_with fail
    go_ret2
    exact ⟨rfl, rfl⟩
  · have h2 : 2048 < n := by omega
    go_enter Try.func6, Try.ntmps6
    go_wp2_with fail
    go_ret2
    exact ⟨rfl, rfl⟩
end Go.Proofs.Ytkkmnmiekmfjiaa
