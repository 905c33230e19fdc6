/- Words for DriveKeeps: an array of rows of numbers, and what a crash leaves. -/
import Derived.Test.YtbikmnjagfkajaaDrvT
import Derived.Test.YtbikmnjagfkajaaDrvF0
import Derived.Maps.AppendAt
namespace Go.Proofs.Ytbikmnjagfkajaa
open Go Go.RowKit Go.Proofs
open Go.ChangeMaps (setBlock)

/-! ### What a crash leaves -/
theorem crashTo_dur (D : DM) (kp : List Int) : ∀ k z, (crashTo D kp k).1.dur z = D.dur z ∨ (crashTo D kp k).1.dur z ∈ D.cac z
  | 0, z => .inl rfl
  | k + 1, z => by
    have ih := crashTo_dur D kp k z
    unfold crashTo crash1
    split
    · exact ih
    · rename_i hc
      have hk : (crashTo D kp k).1.cac k = D.cac k := by rw [crashTo_cac, if_neg (by omega)]
      generalize crashTo D kp k = R at *
      unfold DM.settle
      dsimp only
      split
      · exact ih
      · by_cases hz : z = k
        · subst hz
          rw [upd_same, hk]
          right
          have h0 : 0 < (D.cac z).length := List.length_pos_iff.2 (by rw [← hk]; exact hc)
          have hlt := md_lt (R.2.headD 0) (m := (D.cac z).length + 1) (by omega)
          rw [hk] at *
          rw [List.getD_eq_getElem?_getD, List.getElem?_eq_getElem (by omega)]
          exact List.getElem_mem _
        · rw [upd_other _ _ hz]; exact ih
theorem crash_newest (D : DM) (kp : List Int) (z : Nat) (hz : z < D.n) : (D.crash kp).newest z = D.dur z ∨ (D.crash kp).newest z ∈ D.cac z := by
  have hc : (D.crash kp).cac z = [] := by show (crashTo D kp D.n).1.cac z = []; rw [crashTo_cac, if_pos hz]
  have he : (D.crash kp).newest z = (crashTo D kp D.n).1.dur z := by unfold DM.newest; rw [hc]; rfl
  rw [he]
  exact crashTo_dur D kp D.n z
theorem crash_cnt (D : DM) (kp : List Int) : (D.crash kp).cnt = 0 := by
  unfold DM.cnt
  rw [List.length_eq_zero_iff, List.filter_eq_nil_iff]
  intro z hz
  have hn : (D.crash kp).n = D.n := crashTo_n D kp D.n
  rw [hn, List.mem_range] at hz
  have hc : (D.crash kp).cac z = [] := by show (crashTo D kp D.n).1.cac z = []; rw [crashTo_cac, if_pos hz]
  rw [hc]; simp
theorem crash_fine {D : DM} (h : D.fine) (kp : List Int) : (D.crash kp).fine := ⟨(crashTo_n D kp D.n).trans h.n, rfl, rfl⟩

/-! ### The array of rows -/
theorem TI : (Try.prog.info? 3).map (fun i => (i.zero, i.size, i.bytes)) = some (some (.int .i64 0), 1, 8) := by kernel_rfl
def nums (l : List Nat) : List Value := l.map fun (x : Nat) => Value.int .i64 (x : Int)
structure May (w : World) (nb : Nat) (mv : Nat → Value) (M : Nat → List Nat) : Prop where
  lt : nb < w.heap.size
  cell : ∀ s, s < 32 → w.cell? ⟨nb, s, none⟩ = some (mv s) ∧ w.frozen? ⟨nb, s, none⟩ = false
  row : ∀ s, w.ownsRow 0 3 1 (mv s) (M s).length (nums (M s))
  ne : ∀ s g, (mv s).ownBlock = some g → g ≠ nb
  sep : ∀ s s' g, (mv s).ownBlock = some g → (mv s').ownBlock = some g → s = s'
def XM (nb : Nat) (mv : Nat → Value) (k : Nat) : Prop := k = nb ∨ ∃ s, (mv s).ownBlock = some k
section
variable {w w' : World} {nb : Nat} {mv : Nat → Value} {M : Nat → List Nat}
theorem owns_lt {base : Nat} {e : TypeId} {size n : Nat} {v : Value} {xs : List Value} (h : w.ownsRow base e size v n xs) {g : Nat} (hg : v.ownBlock = some g) : g < w.heap.size := (h.lt g hg).2
theorem May.keep (h : May w nb mv M) (hz : w.heap.size ≤ w'.heap.size) (hk : ∀ k, k < w.heap.size → XM nb mv k → w'.heap[k]? = w.heap[k]?) : May w' nb mv M := by
  have e := hk nb h.lt (.inl rfl)
  exact ⟨by have := h.lt; omega, fun s hs => ⟨(World.cell?_of_block (w := w) (w' := w') (a := ⟨nb, s, none⟩) e).trans (h.cell s hs).1, (World.frozen?_of_block (w := w) (w' := w') (a := ⟨nb, s, none⟩) e).trans (h.cell s hs).2⟩,
    fun s => owns_keep (h.row s) fun g hg => hk g (owns_lt (h.row s) hg) (.inr ⟨s, hg⟩), h.ne, h.sep⟩
theorem May.below (h : May w nb mv M) (hb : Below w.heap.size w w') : May w' nb mv M := h.keep hb.size fun k hk _ => hb.block k hk
theorem May.kp {B : Nat} (h : May w nb mv M) (k : Kp B (XM nb mv) w w') : May w' nb mv M := h.keep k.size fun i hi hx => k.block i hi (.inr hx)
theorem XM.lt (h : May w nb mv M) {k : Nat} (hk : XM nb mv k) : k < w.heap.size := by
  rcases hk with rfl | ⟨s, hs⟩
  · exact h.lt
  · exact owns_lt (h.row s) hs
/-- A row is laid at s. -/
theorem May.lay (h : May w nb mv M) {w1 : World} (s : Nat) (v1 : Value) (l1 : List Nat) (hT1 : Turn (fun k => (mv s).ownBlock = some k) w w1)
    (hrow : w1.ownsRow 0 3 1 v1 l1.length (nums l1)) (hat : v1.ownBlock = (mv s).ownBlock ∨ ∃ g, v1.ownBlock = some g ∧ w.heap.size ≤ g) (hs : s < 32) :
    May (w1.setCell ⟨nb, s, none⟩ v1) nb (upd mv s v1) (upd M s l1) ∧ Turn (XM nb mv) w (w1.setCell ⟨nb, s, none⟩ v1) ∧
      (∀ k, XM nb (upd mv s v1) k → XM nb mv k ∨ (w.heap.size ≤ k ∧ k < (w1.setCell ⟨nb, s, none⟩ v1).heap.size)) ∧ (w1.cell? ⟨nb, s, none⟩ = some (mv s) ∧ w1.frozen? ⟨nb, s, none⟩ = false) := by
  have hz := hT1.size
  have hold : ∀ k, k < w.heap.size → some k ≠ (mv s).ownBlock → w1.heap[k]? = w.heap[k]? := fun k hk hn => hT1.block k hk fun e => hn e.symm
  have hnb : w1.heap[nb]? = w.heap[nb]? := hold nb h.lt fun e => h.ne s nb e.symm rfl
  have hc : ∀ j, j < 32 → w1.cell? ⟨nb, j, none⟩ = some (mv j) := fun j hj => (World.cell?_of_block (w := w) (w' := w1) (a := ⟨nb, j, none⟩) hnb).trans (h.cell j hj).1
  have hf : ∀ j, j < 32 → w1.frozen? ⟨nb, j, none⟩ = false := fun j hj => (World.frozen?_of_block (w := w) (w' := w1) (a := ⟨nb, j, none⟩) hnb).trans (h.cell j hj).2
  have hT := turn_setCell (S := fun k => k = nb) (w := w1) (a := ⟨nb, s, none⟩) v1 rfl
  have hsz : (w1.setCell ⟨nb, s, none⟩ v1).heap.size = w1.heap.size := by simp [World.setCell]
  have hvne : ∀ g, v1.ownBlock = some g → g ≠ nb := fun g hg => by
    rcases hat with e | ⟨g', e, hge⟩
    · exact h.ne s g (e ▸ hg)
    · rw [e] at hg; cases hg; have := h.lt; intro e2; omega
  refine ⟨⟨by rw [hsz]; have := h.lt; omega, fun j hj => ⟨?_, by rw [World.frozen?_setCell]; exact hf j hj⟩, fun z => ?_, fun z g hg => ?_, fun z z' g hg hg' => ?_⟩, (hT1.mono fun k hk => .inr ⟨s, hk⟩).then (hT.mono fun k hk => .inl hk), fun k hk => ?_, hc s hs, hf s hs⟩
  · by_cases hjs : j = s
    · subst hjs; rw [World.cell?_setCell_same _ _ _ (hc j hj), upd_same]
    · rw [World.cell?_setCell_other _ _ _ _ (fun e => hjs (by injection e with _ e2; exact e2.symm)), upd_other _ _ hjs]; exact hc j hj
  · by_cases hzs : z = s
    · subst hzs
      rw [upd_same, upd_same]
      exact owns_keep hrow fun g hg => hT.block g (owns_lt hrow hg) (hvne g hg)
    · rw [upd_other _ _ hzs, upd_other _ _ hzs]
      exact owns_keep (h.row z) fun g hg => (hT.block g (by have := owns_lt (h.row z) hg; omega) (h.ne z g hg)).trans (hold g (owns_lt (h.row z) hg) fun e => hzs (h.sep z s g hg e.symm))
  · by_cases hzs : z = s
    · subst hzs; rw [upd_same] at hg; exact hvne g hg
    · rw [upd_other _ _ hzs] at hg; exact h.ne z g hg
  · have key : ∀ z g, (upd mv s v1 z).ownBlock = some g → (z ≠ s ∧ (mv z).ownBlock = some g) ∨ (z = s ∧ ((mv s).ownBlock = some g ∨ w.heap.size ≤ g)) := fun z g hg => by
      by_cases hzs : z = s
      · subst hzs
        rw [upd_same] at hg
        rcases hat with e | ⟨g', e, hge⟩
        · exact .inr ⟨rfl, .inl (e ▸ hg)⟩
        · rw [e] at hg; cases hg; exact .inr ⟨rfl, .inr hge⟩
      · rw [upd_other _ _ hzs] at hg; exact .inl ⟨hzs, hg⟩
    rcases key z g hg with ⟨a, b⟩ | ⟨a, b⟩ <;> rcases key z' g hg' with ⟨c, d⟩ | ⟨c, d⟩
    · exact h.sep z z' g b d
    · rcases d with d | d
      · exact (h.sep z s g b d).trans c.symm
      · have := owns_lt (h.row z) b; omega
    · rcases b with b | b
      · exact a.trans (h.sep s z' g b d)
      · have := owns_lt (h.row z') d; omega
    · rw [a, c]
  · rcases hk with rfl | ⟨z, hk⟩
    · exact .inl (.inl rfl)
    · by_cases hzs : z = s
      · subst hzs
        rw [upd_same] at hk
        rcases hat with e | ⟨g', e, hge⟩
        · exact .inl (.inr ⟨z, e ▸ hk⟩)
        · rw [e] at hk; cases hk; exact .inr ⟨hge, by rw [hsz]; exact owns_lt hrow e⟩
      · rw [upd_other _ _ hzs] at hk; exact .inl (.inr ⟨z, hk⟩)
/-- A slice of one number, written out. Kept shut. -/
def oneI (w : World) (x : Nat) : World := w.alloc (.cells #[.int .i64 (x : Int)] 3)
theorem oneI_turn (w : World) (x : Nat) (S : Nat → Prop) : Turn S w (oneI w x) := turn_alloc S w _
theorem oneI_row (w : World) (x : Nat) : (oneI w x).ownsRow 0 3 1 (.slice (some ⟨w.heap.size, 0, none⟩) 1 1) [x].length (nums [x]) :=
  World.ownsRow_lit (size := 1) w #[.int .i64 (x : Int)] 1 (Nat.zero_le _) (by unfold maxLen; omega) rfl
theorem run_lit (w : World) (x : Nat) : (Instr.buildSlice 31 1 #[(0, .int .i64 (x : Int))]).run Try.prog w = .ok (.slice (some ⟨w.heap.size, 0, none⟩) 1 1) (oneI w x) := by
  obtain ⟨i, hi, hz0, hz1, hz2⟩ := info_parts TI
  refine run_buildSlice w _ _ 1 _ #[.int .i64 (x : Int)] i _ Try.underlying31 hi hz0 (by rw [hz1]; omega) (by rw [hz1]; omega) ?_
  rw [hz1]
  have h := Great.fill_whole (s := 1) (by omega) [.int .i64 (x : Int)] ((Array.range (1 * 1)).map ((Value.int .i64 0).cells[· % (Value.int .i64 0).cells.size]!)) (by intro v hv; rw [List.mem_singleton.1 hv]; rfl) (by rw [Array.size_map, Array.size_range]; rfl)
  refine Eq.trans ?_ (h.trans ?_)
  · simp only [List.zipIdx_cons, List.zipIdx_nil, List.map_cons, List.map_nil]
  · simp [Value.cells]
theorem May.lit (h : May w nb mv M) (s : Nat) (hs : s < 32) (x : Nat) :
    May ((oneI w x).setCell ⟨nb, s, none⟩ (.slice (some ⟨w.heap.size, 0, none⟩) 1 1)) nb (upd mv s (.slice (some ⟨w.heap.size, 0, none⟩) 1 1)) (upd M s [x]) ∧ Turn (XM nb mv) w ((oneI w x).setCell ⟨nb, s, none⟩ (.slice (some ⟨w.heap.size, 0, none⟩) 1 1)) ∧
      (∀ k, XM nb (upd mv s (.slice (some ⟨w.heap.size, 0, none⟩) 1 1)) k → XM nb mv k ∨ (w.heap.size ≤ k ∧ k < ((oneI w x).setCell ⟨nb, s, none⟩ (.slice (some ⟨w.heap.size, 0, none⟩) 1 1)).heap.size)) ∧ ((oneI w x).cell? ⟨nb, s, none⟩ = some (mv s) ∧ (oneI w x).frozen? ⟨nb, s, none⟩ = false) :=
  h.lay (w1 := oneI w x) s (.slice (some ⟨w.heap.size, 0, none⟩) 1 1) [x] (oneI_turn w x _) (oneI_row w x) (.inr ⟨_, rfl, Nat.le_refl _⟩) hs
theorem nums_snoc (l : List Nat) (x : Nat) : nums (l ++ [x]) = nums l ++ [.int .i64 (x : Int)] := by simp [nums]
theorem May.app (h : May w nb mv M) (s : Nat) (hs : s < 32) (x : Nat) (hl : (M s).length ≤ 1000000) (ty : TypeId) :
    ∃ v1 w1, (Builtin.append_ #[31, 31] ty #[mv s, .slice (some ⟨w.heap.size, 0, none⟩) 1 1]).run Try.prog (oneI w x) = .ok v1 w1 ∧
      (May (w1.setCell ⟨nb, s, none⟩ v1) nb (upd mv s v1) (upd M s (M s ++ [x])) ∧ Turn (XM nb mv) w (w1.setCell ⟨nb, s, none⟩ v1) ∧
      (∀ k, XM nb (upd mv s v1) k → XM nb mv k ∨ (w.heap.size ≤ k ∧ k < (w1.setCell ⟨nb, s, none⟩ v1).heap.size)) ∧ (w1.cell? ⟨nb, s, none⟩ = some (mv s) ∧ w1.frozen? ⟨nb, s, none⟩ = false)) ∧ ∃ A c, v1 = .slice A ((M s).length + 1) c := by
  obtain ⟨i, hi, hz0, hz1, hz2⟩ := info_parts TI
  have ha : May (oneI w x) nb mv M := h.keep (by simp [oneI]) fun k hk _ => heap_alloc_old w _ hk
  obtain ⟨v1, w1, hrun, hown, hgrow, hnil, hat⟩ := run_append_own_at (P := Try.prog) (oneI w x) 0 31 ty 3 i _ 1 8 Try.underlying31 hi hz0 hz1 hz2 rfl (by omega) (mv s) _ _ (ha.row s)
    ⟨w.heap.size, 0, none⟩ 1 1 [.int .i64 (x : Int)] rfl (fun j u hu => by unfold oneI; rw [newCell]; simpa using hu) (by intro u hu; rw [List.mem_singleton.1 hu]; rfl) (by unfold maxLen; omega) (by omega) (Nat.zero_le _)
  have hgt : Turn (fun k => (mv s).ownBlock = some k) (oneI w x) w1 := turn_grown hgrow fun k hk => hk
  refine ⟨v1, w1, hrun, h.lay s v1 (M s ++ [x]) ((oneI_turn w x _).then hgt) (by rw [List.length_append, nums_snoc]; exact hown) (hat.imp id fun e => ⟨_, e, by simp [oneI]⟩) hs, ?_⟩
  obtain ⟨A, c, hv, _⟩ := owns_any hown
  exact ⟨A, c, hv⟩
theorem Run.turnX {B : Nat} {X X' : Nat → Prop} {bp : Nat} {D : DM} (R : Run w B X bp D) (T : Turn X w w') (hX : ∀ k, X' k → X k ∨ (w.heap.size ≤ k ∧ k < w'.heap.size)) : Run w' B X' bp D := by
  obtain ⟨h1, h2, S, h3, h4⟩ := R
  have hsz := T.size
  refine ⟨by omega, fun k hk => ?_, fun k => S k ∧ k < w.heap.size, (h3.mono fun k hk h => ⟨h, hk⟩).keep fun k hk h => T.block k hk (h4 k h.1 hk).2, fun k hk _ => ?_⟩
  · rcases hX k hk with h | h
    · have := h2 k h; omega
    · exact h.2
  · obtain ⟨h5, h6⟩ := h4 k hk.1 hk.2
    refine ⟨h5, fun h => ?_⟩
    rcases hX k h with h | h
    · exact h6 h
    · omega
theorem kp_turn {B : Nat} {X : Nat → Prop} (T : Turn X w w') (hX : ∀ k, X k → B ≤ k) : Kp B (fun _ => False) w w' :=
  ⟨T.os, T.tape, T.output, T.size, fun k hk h => T.block k hk fun hx => by
    rcases h with h | h
    · have := hX k hx; omega
    · exact h⟩
end
/-- An append whose outcome is known, in a region that draws. -/
theorem step_append_run {P : Program} {t : TypeId} {ops : Array Oper} {o : Oper} {a : Act} {w w1 : World} {v1 : Value} {K : Act → World → Prop} {Q : Exit → Act → World → Prop} {E : Prop} (hgd : o.guard = none) (s x : Operand)
    (ho : o.op = .call { callee := .builtin .append, args := #[s, x], argTypes := #[t, t] }) (va vb : Value) (hs : a.eval s = va) (hx : a.eval x = vb)
    (hrun : (Builtin.append_ #[t, t] o.type #[va, vb]).run P w = .ok v1 w1) (h : K (a.put o.dst v1) w1) : if Region.wanted o (yielded ops a.tmps) = true then Oper.wp P o a w K Q else E := by
  rw [if_pos (by simp [Region.wanted, hgd])]
  unfold Oper.wp execOp
  simp only [ho, resolve, invoke, builtin, Sem.run_bind, Sem.run_pure, Result.andThen_ok, List.map_toArray, List.map_cons, List.map_nil, hs, hx, hrun]
  exact h
/-- Crash, wherever an empty slice points. -/
theorem run_crash2 {w : World} {B : Nat} {X : Nat → Prop} {bp : Nat} {D : DM} (R : Run w B X bp D) (A : Option Addr) (n c : Nat) (kp : List Int) (hk : Ints w A n c kp) (hout : ∀ ad, A = some ad → 0 < n → ad.block < w.heap.size ∧ (ad.block < B ∨ X ad.block)) {m : Nat} (hm : m ≤ 100000) (hok : D.ok m) :
    Calls Try.prog 22 #[.pointer (some ⟨bp, 0, none⟩), .slice A n c] w fun e w' => e = .returned (.tuple #[]) ∧ Run w' B X bp (D.crash kp) ∧ Kp B X w w' := by
  rcases Nat.eq_zero_or_pos n with h0 | h0
  · subst h0
    obtain rfl : kp = [] := List.eq_nil_of_length_eq_zero hk.len
    obtain ⟨h1, h2, S, h3, h4⟩ := R
    refine (crash_none h3 A c (fun k => by have := hok.2 k; omega)).mono ?_
    rintro e w' ⟨rfl, L, T⟩
    exact ⟨rfl, Run.turned h1 h2 h4 L T fun _ => .inl⟩
  · exact run_crash R A n c kp hk (fun ad h => hout ad h h0) hm hok
theorem Ints.kp {w w' : World} {B : Nat} {X : Nat → Prop} {A : Option Addr} {n c : Nat} {zs : List Int} (h : Ints w A n c zs) (k : Kp B X w w') (hb : w.heap.size ≤ B) : Ints w' A n c zs :=
  ⟨⟨h.1.1, h.1.2.1, h.1.2.2.1, fun j u hu => by
    obtain ⟨ad, e, hl, hc⟩ := h.1.2.2.2 j u hu
    exact ⟨ad, e, by have := k.size; omega, (World.cell?_of_block (w := w) (w' := w') (a := ad.add j) (by rw [addr_block]; exact k.block _ hl (.inl (by omega)))).trans hc⟩⟩, h.2⟩
/-! ### The array, laid -/
theorem ZM (w : World) : (zeroValue 51).run Try.prog w = .ok (.agg (Array.replicate 32 (.slice none 0 0))) w := by
  have h : (Try.prog.info? 51).map (fun i => (i.zero, i.size)) = some (some (.agg (Array.replicate 32 (.slice none 0 0))), 32) := by kernel_rfl
  exact (zero_of_info h).1 w
def varM (w : World) : World := w.alloc (.cells (Array.replicate 32 (.slice none 0 0)) 51)
theorem varM_size (w : World) : (varM w).heap.size = w.heap.size + 1 := by simp [varM]
theorem varM_there (w : World) : (varM w).there w.heap.size 0 32 := fun j hj => by
  have hb : (varM w).heap[w.heap.size]? = some (.cells (Array.replicate 32 (.slice none 0 0)) 51 (0, 0)) := heap_alloc_new w _
  refine ⟨?_, by simp [World.frozen?, hb]⟩
  rw [cell_of_row _ _ _ _ _ _ hb, Nat.zero_add, Array.getElem?_replicate, if_pos hj]; rfl
def mayW (w : World) : World := (varM w).setCells w.heap.size 0 (Array.replicate 32 (Value.slice none 0 0)).toList
theorem wp_varM {ops : Array Oper} {rest : List Oper} {o : Oper} {a : Act} {w : World} {Q : Exit → Act → World → Prop} (hg : o.guard = none) (hop : o.op = Op.alloc 51)
    (hK : wpList Try.prog ops Q rest (a.put o.dst (.pointer (some ⟨w.heap.size, 0, none⟩))) (varM w)) : wpList Try.prog ops Q (o :: rest) a w :=
  wpList_plain hg fun K hK' => by
    have hrun : (Instr.alloc 51 true (.tuple #[])).run Try.prog w = .ok (.pointer (some ⟨w.heap.size, 0, none⟩)) (varM w) := by
      simp [Instr.alloc, ZM, newVar, newRow, Value.cells, varM]
      rfl
    unfold Oper.wp execOp
    simp only [hop, Sem.run_bind, Sem.run_pure, Result.andThen_ok, hrun]
    exact hK' _ _ hK
theorem nils : (List.replicate 32 (Value.slice none 0 0)) = [.slice none 0 0, .slice none 0 0, .slice none 0 0, .slice none 0 0, .slice none 0 0, .slice none 0 0, .slice none 0 0, .slice none 0 0, .slice none 0 0, .slice none 0 0, .slice none 0 0, .slice none 0 0, .slice none 0 0, .slice none 0 0, .slice none 0 0, .slice none 0 0,
    .slice none 0 0, .slice none 0 0, .slice none 0 0, .slice none 0 0, .slice none 0 0, .slice none 0 0, .slice none 0 0, .slice none 0 0, .slice none 0 0, .slice none 0 0, .slice none 0 0, .slice none 0 0, .slice none 0 0, .slice none 0 0, .slice none 0 0, .slice none 0 0] := rfl
theorem wp_storeM {ops : Array Oper} {rest : List Oper} {o : Oper} {a : Act} {w : World} {Q : Exit → Act → World → Prop} (hg : o.guard = none) (x y : Operand) (hop : o.op = Op.store 51 x y)
    (hx : a.eval x = .pointer (some ⟨w.heap.size, 0, none⟩)) (cs : Array Value) (hy : a.eval y = .agg cs) (hcs : cs.toList = List.replicate 32 (Value.slice none 0 0))
    (hK : wpList Try.prog ops Q rest (a.put o.dst undef) (mayW w)) : wpList Try.prog ops Q (o :: rest) a (varM w) := by
  obtain ⟨l⟩ := cs
  obtain rfl : l = List.replicate 32 (Value.slice none 0 0) := hcs
  exact wpList_store_mid hg 51 x y hop w.heap.size 0 (Array.replicate 32 (Value.slice none 0 0)) hx hy (by rw [Array.size_replicate]; exact varM_there w) (by kernel_rfl) (by rw [Array.all_eq_true_iff_forall_mem]; intro v hv; rw [(Array.mem_replicate.1 hv).2]; rfl) hK
theorem may_new (w : World) : May (mayW w) w.heap.size (fun _ => .slice none 0 0) (fun _ => []) ∧ Below w.heap.size w (mayW w) := by
  have hb : Below w.heap.size w (mayW w) := by
    unfold mayW
    exact ((Below.refl _ _).alloc (Nat.le_refl _) _).trans ((turn_setCells (S := fun k => k = w.heap.size) rfl _ 0 (varM w)).below (fun x hx => by omega) (by rw [varM_size]; omega))
  refine ⟨⟨by unfold mayW; rw [setCells_size, varM_size]; omega, fun j hj => ⟨?_, ?_⟩, fun s => World.ownsRow_nil _ _ _ _, fun s g hg => (by cases hg), fun s s' g hg => (by cases hg)⟩, hb⟩
  · unfold mayW
    have h := World.rangeAt_setCells_same (varM w) w.heap.size 0 (Array.replicate 32 (Value.slice none 0 0)).toList (by rw [Array.length_toList, Array.size_replicate]; exact varM_there w) j (.slice none 0 0) (by rw [Array.getElem?_toList, Array.getElem?_replicate, if_pos hj])
    rwa [Nat.zero_add] at h
  · unfold mayW
    rw [World.frozen?_setCells]; have := (varM_there w j hj).2; rwa [Nat.zero_add] at this
theorem run_index_may (w : World) (b j : Nat) (hj : j < 32) : (Instr.indexAt 51 (.pointer (some ⟨b, 0, none⟩)) (.int .i64 (j : Int))).run Try.prog w = .ok (.pointer (some ⟨b, j, none⟩)) w := by
  have hz : (sizeOf 31).run Try.prog w = .ok 1 w := by
    have h : (Try.prog.info? 31).map (fun i => i.size) = some 1 := by kernel_rfl
    obtain ⟨i, hi, hs⟩ := Option.map_eq_some_iff.1 h
    simp [sizeOf, typeInfo, hi, hs]
  have ha : (⟨b, 0, none⟩ : Addr).add j = ⟨b, j, none⟩ := by rw [Addr.add_mid, Nat.zero_add]
  simp [Instr.indexAt, Instr.sureAddr, asIntOf, run_underlying Try.underlying51, hz, hj, ha]
end Go.Proofs.Ytbikmnjagfkajaa
