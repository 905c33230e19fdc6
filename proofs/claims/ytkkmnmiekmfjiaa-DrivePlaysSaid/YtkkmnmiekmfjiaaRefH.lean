/- The reference's New. -/
import Derived.Test.YtkkmnmiekmfjiaaRefG
import Derived.Test.YtkkmnmiekmfjiaaDrvE
import Derived.Maps.AppendAt
namespace Go.Proofs.Ytkkmnmiekmfjiaa
open Go Go.RowKit Go.Proofs

theorem Q46 : (Try.prog.info? 54).map (fun i => (i.zero, i.size, i.bytes)) = some (some (.slice none 0 0), 1, 24) := by kernel_rfl
/-- One sector's row, as a value. -/
def rowV (a : Nat) : Value := .slice (some ⟨a, 0, none⟩) 1 1
/-- A drive half built. -/
structure Bld (w : World) (base rp : Nat) (v : Value) (k : Nat) (iv bw : Nat → Nat) : Prop where
  me : w.heap[rp]? = some (.cells #[v, .bool false, .bool false, .int .i64 0, .int .i64 0] 48 (0, 0))
  row : w.ownsRow base 54 1 v k ((List.range k).map fun s => rowV (iv s))
  inn : ∀ s, s < k → w.heap[iv s]? = some (.cells #[.slice (some ⟨bw s, 0, none⟩) 256 256] 35 (0, 0))
  byt : ∀ s, s < k → w.heap[bw s]? = some (.cells (madeCells #[.int .u8 0] 256) 5 (0, 0))
  old : base ≤ rp ∧ ∀ s, s < k → base ≤ iv s ∧ base ≤ bw s
  ne : v.ownBlock ≠ some rp ∧ ∀ s, s < k → iv s ≠ rp ∧ bw s ≠ rp ∧ v.ownBlock ≠ some (iv s) ∧ v.ownBlock ≠ some (bw s)
  sep : ∀ s s', s < k → s' < k → bw s ≠ iv s' ∧ (s ≠ s' → iv s ≠ iv s' ∧ bw s ≠ bw s')
def lT (n : Nat) (p : Array (Nat × Value)) : Sem Value := Instr.buildSlice 46 n p
theorem lT_shut (n : Nat) (p : Array (Nat × Value)) : Instr.buildSlice 46 n p = lT n p := rfl
def mkB (a b : Value) : Sem Value := Instr.makeSlice 35 a b
theorem mkB_shut (a b : Value) : Instr.makeSlice 35 a b = mkB a b := rfl
def litT (w : World) (v : Value) : World := w.alloc (.cells #[v] 54)
def litZ (w : World) : World := w.alloc (.cells (madeCells #[.int .u8 0] 256) 5)
theorem run_mkB (w : World) : (mkB (.int .i64 256) (.int .i64 256)).run Try.prog w = .ok (.slice (some ⟨w.heap.size, 0, none⟩) 256 256) (litZ w) := by
  obtain ⟨i, hi, hz0, hz1, hz2⟩ := info_parts T22.info
  have h := run_makeSlice (P := Try.prog) w 35 5 i _ T22.sl hi hz0 .i64 .i64 256 256 (by omega) (by omega) (by rw [hz1]; decide) (by rw [hz2]; decide) (by omega)
  rw [hz1] at h
  exact h
theorem run_lT (w : World) (v : Value) (hv : v.cells = #[v]) : (lT 1 #[(0, v)]).run Try.prog w = .ok (.slice (some ⟨w.heap.size, 0, none⟩) 1 1) (litT w v) := by
  obtain ⟨i, hi, hz0, hz1, hz2⟩ := info_parts Q46
  refine run_buildSlice w _ _ 1 _ #[v] i _ Try.underlying46 hi hz0 (by rw [hz1]; omega) (by rw [hz1]; omega) ?_
  rw [hz1]
  have h := Great.fill_whole (s := 1) (by omega) [v] ((Array.range (1 * 1)).map ((Value.slice none 0 0).cells[· % (Value.slice none 0 0).cells.size]!)) (by intro u hu; rw [List.mem_singleton.1 hu, hv]; rfl) (by rw [Array.size_map, Array.size_range]; rfl)
  refine Eq.trans ?_ (h.trans ?_)
  · simp only [List.zipIdx_cons, List.zipIdx_nil, List.map_cons, List.map_nil]
  · simp [hv]

theorem newCell_at {w : World} {b : Nat} {x : Value} {t : TypeId} (h : w.heap[b]? = some (.cells #[x] t (0, 0))) (j : Nat) (u : Value) (hu : [x][j]? = some u) : w.cell? ((⟨b, 0, none⟩ : Addr).add j) = some u := by
  rcases j with _ | j
  · have h0 : x = u := by simpa using hu
    rw [Addr.add_mid, cell_of_row w b _ _ _ _ h, ← h0]; rfl
  · simp at hu
theorem Bld.step {w : World} {base rp : Nat} {v : Value} {k : Nat} {iv bw : Nat → Nat} (B : Bld w base rp v k iv bw) (hk : k < 2048) (hbw : base ≤ w.heap.size) (ty : TypeId) :
    ∃ v' W4, (apR #[46, 46] ty #[v, .slice (some ⟨(litS (litZ w) (.slice (some ⟨w.heap.size, 0, none⟩) 256 256)).heap.size, 0, none⟩) 1 1]).run Try.prog (litT (litS (litZ w) (.slice (some ⟨w.heap.size, 0, none⟩) 256 256)) (.slice (some ⟨(litZ w).heap.size, 0, none⟩) 1 1)) = .ok v' W4 ∧
      (W4.cell? ⟨rp, 0, none⟩ = some v ∧ W4.frozen? ⟨rp, 0, none⟩ = false) ∧ (∃ iv' bw', Bld (W4.setCell ⟨rp, 0, none⟩ v') base rp v' (k + 1) iv' bw') ∧ Below base w (W4.setCell ⟨rp, 0, none⟩ v') := by
  obtain ⟨i, hi, hz0, hz1, hz2⟩ := info_parts Q46
  generalize hW1 : litZ w = W1
  have hs1 : W1.heap.size = w.heap.size + 1 := by rw [← hW1]; simp [litZ]
  generalize hW2 : litS W1 (.slice (some ⟨w.heap.size, 0, none⟩) 256 256) = W2
  have hs2 : W2.heap.size = w.heap.size + 2 := by rw [← hW2]; simp [litS, hs1]
  generalize hW3 : litT W2 (.slice (some ⟨W1.heap.size, 0, none⟩) 1 1) = W3
  have hs3 : W3.heap.size = w.heap.size + 3 := by rw [← hW3]; simp [litT, hs2]
  have k1 : ∀ z, z < w.heap.size → W1.heap[z]? = w.heap[z]? := fun z hz => by rw [← hW1]; exact heap_alloc_old w _ hz
  have k2 : ∀ z, z < W1.heap.size → W2.heap[z]? = W1.heap[z]? := fun z hz => by rw [← hW2]; exact heap_alloc_old W1 _ hz
  have k3 : ∀ z, z < W2.heap.size → W3.heap[z]? = W2.heap[z]? := fun z hz => by rw [← hW3]; exact heap_alloc_old W2 _ hz
  have n1 : W1.heap[w.heap.size]? = some (.cells (madeCells #[.int .u8 0] 256) 5 (0, 0)) := by rw [← hW1]; exact heap_alloc_new w _
  have n2 : W2.heap[w.heap.size + 1]? = some (.cells #[.slice (some ⟨w.heap.size, 0, none⟩) 256 256] 35 (0, 0)) := by rw [← hW2, ← hs1]; exact heap_alloc_new W1 _
  have n3 : W3.heap[w.heap.size + 2]? = some (.cells #[rowV (w.heap.size + 1)] 54 (0, 0)) := by rw [← hW3, ← hs2, ← hs1]; exact heap_alloc_new W2 _
  have k13 : ∀ z, z < w.heap.size → W3.heap[z]? = w.heap[z]? := fun z hz => (k3 z (by omega)).trans ((k2 z (by omega)).trans (k1 z hz))
  have b13 : Below w.heap.size w W3 := by
    rw [← hW3, ← hW2, ← hW1]
    exact (((Below.refl _ _).alloc (Nat.le_refl _) _).alloc (by simp) _).alloc (by simp; omega) _
  have hrow3 := owns_keep B.row (w' := W3) fun g hg => k13 g (World.ownsRow.lt B.row g hg).2
  rw [hs2]
  obtain ⟨v', W4, hrun, hown, hgrow, _, hat⟩ := run_append_own_at (P := Try.prog) W3 base 46 ty 54 i _ 1 24 Try.underlying46 hi hz0 hz1 hz2 (by simp [Value.cells]) (by omega) v k _ hrow3
    ⟨w.heap.size + 2, 0, none⟩ 1 1 [rowV (w.heap.size + 1)] rfl (fun j u hu => newCell_at n3 j u hu) (by intro u hu; rw [List.mem_singleton.1 hu]; rfl) (by unfold maxLen; omega) (by omega) (by omega)
  have hsz := hgrow.size
  have hrp := lt_of_heap B.me
  have kk : ∀ z, z < W3.heap.size → v.ownBlock ≠ some z → W4.heap[z]? = W3.heap[z]? := fun z hz hn => hgrow.block z hz (Ne.symm hn)
  have krp : W4.heap[rp]? = w.heap[rp]? := (kk rp (by omega) B.ne.1).trans (k13 rp hrp)
  have hvl : ∀ g, v.ownBlock = some g → base ≤ g ∧ g < w.heap.size := World.ownsRow.lt B.row
  have hv'l : ∀ g, v'.ownBlock = some g → (v.ownBlock = some g) ∨ g = w.heap.size + 3 := fun g hg => by
    rcases hat with e | e
    · exact .inl (e ▸ hg)
    · rw [e] at hg; cases hg; exact .inr hs3
  have kset : ∀ z, z ≠ rp → (W4.setCell ⟨rp, 0, none⟩ v').heap[z]? = W4.heap[z]? := fun z hz => Below.heap_setCell _ _ _ _ hz
  have old : ∀ z, z < w.heap.size → z ≠ rp → v.ownBlock ≠ some z → (W4.setCell ⟨rp, 0, none⟩ v').heap[z]? = w.heap[z]? := fun z hz h1 h2 => (kset z h1).trans ((kk z (by omega) h2).trans (k13 z hz))
  have hil : ∀ s, s < k → iv s < w.heap.size := fun s hs => lt_of_heap (B.inn s hs)
  have hbl : ∀ s, s < k → bw s < w.heap.size := fun s hs => lt_of_heap (B.byt s hs)
  have hvn : ∀ z, w.heap.size ≤ z → v.ownBlock ≠ some z := fun z hz e => by have := (hvl z e).2; omega
  refine ⟨v', W4, hrun, ⟨?_, ?_⟩, ⟨upd iv k (w.heap.size + 1), upd bw k w.heap.size, ?_⟩, ?_⟩
  · rw [cell_of_row W4 rp 0 _ _ _ (krp.trans B.me)]; rfl
  · exact fz_row (krp.trans B.me) _
  · refine ⟨?_, ?_, fun s hs => ?_, fun s hs => ?_, ⟨B.old.1, fun s hs => ?_⟩, ⟨fun e => ?_, fun s hs => ?_⟩, fun s s' hs hs' => ?_⟩
    · rw [setCell_at _ (krp.trans B.me)]; rfl
    · have e : ((List.range (k + 1)).map fun s => rowV (upd iv k (w.heap.size + 1) s)) = ((List.range k).map fun s => rowV (iv s)) ++ [rowV (w.heap.size + 1)] := by
        rw [List.range_succ, List.map_append]
        congr 1
        · exact List.map_congr_left fun s hs => by rw [upd_other _ _ (by have := List.mem_range.1 hs; omega)]
        · simp [upd_same]
      rw [e]
      refine owns_keep hown fun g hg => kset g fun e => ?_
      rcases hv'l g hg with h | h
      · exact B.ne.1 (e ▸ h)
      · omega
    · by_cases h : s = k
      · subst h
        rw [upd_same, upd_same, kset _ (by omega), kk _ (by omega) (hvn _ (by omega)), k3 _ (by omega)]; exact n2
      · have hs' : s < k := by omega
        obtain ⟨a, b, c, d⟩ := B.ne.2 s hs'
        rw [upd_other _ _ h, upd_other _ _ h, old _ (hil s hs') a c]; exact B.inn s hs'
    · by_cases h : s = k
      · subst h
        rw [upd_same, kset _ (by omega), kk _ (by omega) (hvn _ (by omega)), k3 _ (by omega), k2 _ (by omega)]; exact n1
      · have hs' : s < k := by omega
        obtain ⟨a, b, c, d⟩ := B.ne.2 s hs'
        rw [upd_other _ _ h, old _ (hbl s hs') b d]; exact B.byt s hs'
    · by_cases h : s = k
      · subst h; rw [upd_same, upd_same]; omega
      · rw [upd_other _ _ h, upd_other _ _ h]; exact B.old.2 s (by omega)
    · rcases hv'l _ e with h | h
      · exact B.ne.1 h
      · omega
    · by_cases h : s = k
      · subst h; rw [upd_same, upd_same]
        refine ⟨by omega, by omega, fun e => ?_, fun e => ?_⟩
        · rcases hv'l _ e with h | h
          · exact hvn _ (by omega) h
          · omega
        · rcases hv'l _ e with h | h
          · exact hvn _ (by omega) h
          · omega
      · have hs' : s < k := by omega
        obtain ⟨a, b, c, d⟩ := B.ne.2 s hs'
        rw [upd_other _ _ h, upd_other _ _ h]
        refine ⟨a, b, fun e => ?_, fun e => ?_⟩
        · rcases hv'l _ e with h | h
          · exact c h
          · have := hil s hs'; omega
        · rcases hv'l _ e with h | h
          · exact d h
          · have := hbl s hs'; omega
    · by_cases h : s = k <;> by_cases h' : s' = k
      · subst h; subst h'; rw [upd_same, upd_same]; exact ⟨by omega, fun e => absurd rfl e⟩
      · have h2 : s' < k := by omega
        have := hil s' h2; have := hbl s' h2
        subst h; rw [upd_same, upd_same, upd_other _ _ h', upd_other _ _ h']; exact ⟨by omega, fun _ => ⟨by omega, by omega⟩⟩
      · have h2 : s < k := by omega
        have := hil s h2; have := hbl s h2
        subst h'; rw [upd_same, upd_same, upd_other _ _ h, upd_other _ _ h]; exact ⟨by omega, fun _ => ⟨by omega, by omega⟩⟩
      · rw [upd_other _ _ h, upd_other _ _ h', upd_other _ _ h, upd_other _ _ h']; exact B.sep s s' (by omega) (by omega)
  · have hT : Turn (fun z => base ≤ z) W3 W4 := turn_grown hgrow fun z hz => (hvl z hz).1
    exact ((b13.mono hbw).trans (hT.below (fun _ h => h) (by omega))).trans ((turn_setCell (S := fun z => base ≤ z) (a := ⟨rp, 0, none⟩) v' B.old.1).below (fun _ h => h) (by omega))
end Go.Proofs.Ytkkmnmiekmfjiaa
