/- New: a drive of noughts, or none. -/
import Derived.Test.YtkkmnmiekmfjiaaDrvD
namespace Go.Proofs.Ytkkmnmiekmfjiaa
open Go Go.RowKit Go.Proofs
open Go.ChangeMaps (setBlock)

def DM.mk0 (n : Nat) : DM := ⟨n, fun _ => zeros 256, fun _ => [], false, false, 0, 0, n⟩
theorem zeros_at (n : Nat) {j : Nat} (h : j < n) : (bvs (zeros n))[j]? = some (.int .u8 0) := by
  unfold bvs zeros
  rw [List.getElem?_map, List.getElem?_replicate, if_pos h]; rfl
theorem made_at (n j : Nat) (h : j < n) : (madeCells (Value.agg (Array.replicate 256 (.int .u8 0))).cells n).toList[j]? = some (.int .u8 0) := by
  unfold madeCells
  rw [Array.toList_map, List.getElem?_map, Array.toList_range, List.getElem?_range h]
  show some ((Array.replicate 256 (Value.int .u8 0))[j % (Array.replicate 256 (Value.int .u8 0)).size]!) = _
  have hlt : j % 256 < 256 := Nat.mod_lt _ (by omega)
  rw [Array.size_replicate, getElem!_pos _ _ (by rw [Array.size_replicate]; exact hlt), Array.getElem_replicate]

/-- A fresh drive, out of its three blocks. -/
theorem lay_new {w1 w' : World} {bd bm bp n : Nat} (hn : sectors n) (hown : w1.ownsRow 0 57 256 (.slice (some ⟨bd, 0, none⟩) n n) n (madeCells (Value.agg (Array.replicate 256 (.int .u8 0))).cells (n * 256)).toList)
    (h1 : w'.heap[bd]? = w1.heap[bd]?) (h2 : w'.heap[bm]? = some (.map #[] 0)) (h3 : w'.heap[bp]? = some (.cells #[.slice (some ⟨bd, 0, none⟩) n n, .map (some bm), .bool false, .bool false, .int .i64 0, .int .i64 0] 53 (0, 0)))
    (hne : bp ≠ bd) (S : Nat → Prop) (hS : S bp ∧ S bd ∧ S bm) : Lay w' bp bd bm [] 0 (fun _ => .slice none 0 0) S (DM.mk0 n) := by
  have hown' : w'.ownsRow 0 57 256 (.slice (some ⟨bd, 0, none⟩) n n) n (madeCells (Value.agg (Array.replicate 256 (.int .u8 0))).cells (n * 256)).toList := owns_keep hown fun g hg => by cases hg; exact h1
  have hc : ∀ s, s < n → ∀ j, j < 256 → w'.cell? ⟨bd, s * 256 + j, none⟩ = some (.int .u8 0) := fun s hs j hj => by
    rw [World.ownsRow.cellAt hown' _ (by omega), made_at _ _ (by omega)]
  refine ⟨h3, fun s hs j v hv => ?_, fun s hs j hj => ⟨by rw [hc s hs j hj]; rfl, World.ownsRow.frozenAt hown' _⟩, h2, ents_nil, fun s => ?_, fun e he => (by simp at he), fun s => World.ownsRow_nil _ _ _ _, fun _ _ => rfl, fun s => List.length_replicate, fun s => by simp [Secs, DM.mk0], fun _ _ => rfl,
    ⟨hS.1, hS.2.1, hS.2.2, fun s g hg => by cases hg⟩, ⟨hne, fun s g hg => by cases hg⟩, fun s s' g hg => (by cases hg), hn, by simp [DM.mk0]⟩
  · have hj : j < 256 := by
      have h0 := (List.getElem?_eq_some_iff.1 hv).1
      rw [bvs_len, show (DM.mk0 n).dur s = zeros 256 from rfl, show (zeros 256).length = 256 from List.length_replicate] at h0
      exact h0
    have h0 : (bvs (zeros 256))[j]? = some v := hv
    rw [zeros_at 256 hj] at h0
    rw [hc s hs j hj, h0]
  · simp [DM.mk0, getE]

set_option maxRecDepth 10000 in
set_option maxHeartbeats 1000000 in
theorem new_yes (n : Nat) (hn : sectors n) (w : World) :
    Calls Try.prog 5 #[.int .i64 n] w fun e w' => ∃ bp, e = .returned (.tuple #[.pointer (some ⟨bp, 0, none⟩), .int .i64 0]) ∧ Drv w' bp (fun k => w.heap.size ≤ k) (DM.mk0 n) ∧ Below w.heap.size w w' := by
  obtain ⟨i, hi, hz0, hz1, hz2⟩ := info_parts TB
  have hmm := @run_makeMap Try.prog
  have h1 : 32 ≤ n := hn.1
  have h2 : n ≤ 2048 := hn.2
  go_enter Try.func5, Try.ntmps5
  go_wp2_with (at_make; refine wpList_make_full w (by rfl) _ _ _ (by rfl) 0 57 i _ 256 Try.underlying50 hi hz0 hz1 .i64 .i64 n n n (by rfl) (by rfl) rfl rfl (by rw [hz2]; omega) (by unfold maxLen; omega) (Nat.zero_le _) ?_)
  intro w1 hown hgrow
  go_wp2_with fail
  go_ret2
  have hs1 := hgrow.size
  have hbd : w.heap.size < w1.heap.size := by
    have h := World.ownsRow.lt hown w.heap.size rfl
    exact h.2
  have hb : Below w.heap.size w ((w1.alloc (.map #[] 0)).alloc (.cells #[.slice (some ⟨w.heap.size, 0, none⟩) n n, .map (some w1.heap.size), .bool false, .bool false, .int .i64 0, .int .i64 0] 53)) :=
    (((Below.refl _ _).grown hgrow (Nat.le_refl _) (by simp)).alloc hs1 _).alloc (by simp; omega) _
  refine ⟨_, rfl, ⟨w.heap.size, w1.heap.size, _, _, _, lay_new hn hown ?_ ?_ ?_ (by omega) _ ⟨by omega, by omega, by omega⟩⟩, hb⟩
  · rw [heap_alloc_old _ _ (by simp; omega), heap_alloc_old _ _ hbd]
  · rw [heap_alloc_old _ _ (by simp), heap_alloc_new]
  · have e : w1.heap.size + 1 = (w1.alloc (.map #[] 0)).heap.size := by simp
    rw [e, heap_alloc_new]
theorem new_no (n : Int) (hn : n < 32 ∨ 2048 < n) (w : World) :
    Calls Try.prog 5 #[.int .i64 n] w fun e w' => e = .returned (.tuple #[.pointer none, .int .i64 1]) ∧ w = w' := by
  by_cases h : n < 32
  · go_enter Try.func5, Try.ntmps5
    go_wp2_with fail
    go_ret2
    exact ⟨rfl, rfl⟩
  · have h2 : 2048 < n := by omega
    go_enter Try.func5, Try.ntmps5
    go_wp2_with fail
    go_ret2
    exact ⟨rfl, rfl⟩
end Go.Proofs.Ytkkmnmiekmfjiaa
