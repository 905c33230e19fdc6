/- A sector full of a byte; the newest write of a sector; Read. -/
import Derived.Test.YtkkmnmiekmfjiaaDrvA
namespace Go.Proofs.Ytkkmnmiekmfjiaa
open Go Go.RowKit Go.Proofs

theorem T22 : ByteT Try.prog 35 5 := ⟨Try.underlying35, by kernel_rfl⟩
/-- The byte of a number; a sector full of it. -/
def lowB (c : Int) : UInt8 := UInt8.ofNat (c % 256).toNat
def fill (c : Int) : List UInt8 := List.replicate 256 (lowB c)
theorem fill_len (c : Int) : (fill c).length = 256 := List.length_replicate
/-- Noughts, kept shut. -/
def zeros (n : Nat) : List UInt8 := List.replicate n 0
/-- Full of the byte up to k. Kept shut. -/
def fillTo (c : Int) (k : Nat) : List UInt8 := List.replicate k (lowB c) ++ List.replicate (256 - k) 0
theorem fillTo_zero (c : Int) : fillTo c 0 = zeros 256 := rfl
theorem fillTo_full (c : Int) : fillTo c 256 = fill c := by unfold fillTo fill; rw [Nat.sub_self]; exact List.append_nil _
theorem wp_make_z {P : Program} {t e : TypeId} (w : World) (T : ByteT P t e) {ops : Array Oper} {rest : List Oper} {o : Oper} {a : Act} {Q : Exit → Act → World → Prop}
    (hg : o.guard = none) (l c : Operand) (hop : o.op = Op.makeSlice t l c) (kl kc : IntKind) (n : Nat) (hl : a.eval l = .int kl (n : Int)) (hc : a.eval c = .int kc (n : Int)) (b2 : n ≤ 281474976710656)
    (hK : ∀ w', Own w' w.heap.size e (some ⟨w.heap.size, 0, none⟩) n n (zeros n) → Below w.heap.size w w' → wpList P ops Q rest (a.put o.dst (.slice (some ⟨w.heap.size, 0, none⟩) n n)) w') :
    wpList P ops Q (o :: rest) a w := wp_make_b w T hg l c hop kl kc n hl hc b2 hK
theorem bv_lowB (c : Int) : bv (lowB c) = .int .u8 (c % 256) := by
  unfold bv lowB
  rw [UInt8.toNat_ofNat']
  congr 1
  omega
theorem fill_next (c : Int) (k : Nat) (h : k < 256) : (fillTo c k).set k (lowB c) = fillTo c (k + 1) := by
  unfold fillTo
  rw [List.set_append_right _ _ (by rw [List.length_replicate]; omega), List.length_replicate, Nat.sub_self, show 256 - k = 256 - (k + 1) + 1 by omega, List.replicate_succ, List.set_cons_zero, List.replicate_succ', List.append_assoc]; rfl

set_option maxHeartbeats 1000000 in
set_option maxRecDepth 10000 in
theorem filled_any (c : Int) (w : World) :
    Calls Try.prog 8 #[.int .i64 c] w fun e w' => e = .returned (.slice (some ⟨w.heap.size, 0, none⟩) 256 256) ∧ Own w' w.heap.size 5 (some ⟨w.heap.size, 0, none⟩) 256 256 (fill c) ∧ Below w.heap.size w w' := by
  go_enter Try.func8, Try.ntmps8
  go_wp2_with (at_make; refine wp_make_z _ T22 rfl _ _ rfl _ _ 256 rfl rfl (by omega) ?_)
  intro w1 hown hb
  go_wp2
  go_loopw [4] (fun i wr => ∃ k : Nat, k ≤ 256 ∧ i = .int .i64 k ∧ Own wr w.heap.size 5 (some ⟨w.heap.size, 0, none⟩) 256 256 (fillTo c k) ∧ Below w.heap.size w wr) (fun i _ => 256 - (intOf i).toNat)
  case atStart => exact ⟨0, Nat.zero_le _, rfl, by rw [fillTo_zero]; exact hown, hb⟩
  case round =>
    obtain ⟨k, hk, rfl, hown, hb⟩ := hrel
    by_cases hlt : k < 256
    · obtain ⟨hc, hf⟩ := hown.at_ k hlt
      have hn := hown.set_ k (lowB c)
      rw [fill_next c k hlt, bv_lowB] at hn
      go_wp2
      exact ⟨⟨k + 1, by omega, by go_num, hn, hb.setCell (Nat.le_refl _) _⟩, by simp [intOf]; omega⟩
    · obtain rfl : k = 256 := by omega
      go_wp2
      go_ret
      exact ⟨rfl, by rw [fillTo_full] at hown; exact hown, hb⟩

theorem results_cell1 {fn : Func} {p : Tmp} {ty : TypeId} (h : fn.results = #[.cell p ty]) (tmps : Array Value) (P : Program) (w : World) :
    (results fn tmps).run P w = ((asAddr (tmps.getD p undef)).run P w).andThen fun a w₁ => (loadVar ty a).run P w₁ := by
  simp only [results, h]
  simp [Sem.run_bind, Result.andThen]

/-- What a sector reads as. -/
def DM.newest (D : DM) (s : Nat) : List UInt8 := (D.cac s).getLastD (D.dur s)
theorem getLastD_mem {α : Type} : ∀ (l : List α) (a : α), l ≠ [] → l.getLastD a ∈ l
  | [], a, h => absurd rfl h
  | [x], a, _ => by simp
  | x :: y :: r, a, _ => by
    rw [List.getLastD_cons, List.getLastD_cons]
    have := getLastD_mem (y :: r) x (by simp)
    rw [List.getLastD_cons] at this
    exact List.mem_cons_of_mem _ this
theorem Lay.newest_len {w : World} {bp bd bm clock : Nat} {l : List MapEntry} {v : Nat → Value} {S : Nat → Prop} {D : DM} (L : Lay w bp bd bm l clock v S D) (s : Nat) : (D.newest s).length = 256 := by
  unfold DM.newest
  rcases hc : D.cac s with _ | ⟨a, r⟩
  · exact L.dl s
  · exact L.cl s _ (by rw [hc]; exact getLastD_mem _ _ (by simp))
/-- The value that the map holds at s, nil where it holds none. -/
theorem Lay.lookup {w : World} {bp bd bm clock : Nat} {l : List MapEntry} {v : Nat → Value} {S : Nat → Prop} {D : DM} (L : Lay w bp bd bm l clock v S D) (s : Nat) :
    (Instr.lookup 51 (.map (some bm)) (.int .i64 s) false).run Try.prog w = .ok (v s) w := by
  have h := run_lookup_ints (P := Try.prog) (w := w) L.ents Try.underlying51 Try.underlying3 (z := .slice none 0 0) (by kernel_rfl) L.map s
  rw [h, L.look s]
  split
  · rename_i hc; rw [L.nil s hc]; rfl
  · rfl

theorem UB : Try.prog.underlying 57 = some (.array 256 5) := Try.underlying57
theorem SB : (Try.prog.info? 57).map (·.size) = some 256 := by kernel_rfl
theorem ZB (w : World) : (zeroValue 57).run Try.prog w = .ok (.agg (Array.replicate 256 (.int .u8 0))) w := by
  have h := TB
  obtain ⟨i, hi, hz0, _⟩ := info_parts h
  simp [zeroValue, typeInfo, hi, hz0]
/-- An array variable of the call's own. Kept shut. -/
def varB (w : World) : World := w.alloc (.cells (Array.replicate 256 (.int .u8 0)) 57)
theorem varB_size (w : World) : (varB w).heap.size = w.heap.size + 1 := by simp [varB]
theorem varB_there (w : World) : (varB w).there w.heap.size 0 256 := fun j hj => by
  have hb : (varB w).heap[w.heap.size]? = some (.cells (Array.replicate 256 (.int .u8 0)) 57 (0, 0)) := heap_alloc_new w _
  refine ⟨?_, by simp [World.frozen?, hb]⟩
  rw [cell_of_row _ _ _ _ _ _ hb, Nat.zero_add, Array.getElem?_replicate, if_pos hj]; rfl
theorem varB_below (w : World) : Below w.heap.size w (varB w) := (Below.refl _ _).alloc (Nat.le_refl _) _
/-- An array variable in which a sector was laid. -/
theorem varB_laid (w : World) (l : List UInt8) (hl : l.length = 256) : Below w.heap.size w ((varB w).setCells w.heap.size 0 (bvs l)) ∧ ((varB w).setCells w.heap.size 0 (bvs l)).rangeAt w.heap.size 0 (bvs l) := by
  refine ⟨(varB_below w).trans ((turn_setCells (S := fun k => k = w.heap.size) rfl (bvs l) 0 (varB w)).below (fun x hx => by omega) (by rw [varB_size]; omega)), World.rangeAt_setCells_same _ _ _ _ ?_⟩
  rw [bvs_len, hl]; exact varB_there w
theorem wp_varB {ops : Array Oper} {rest : List Oper} {o : Oper} {a : Act} {w : World} {Q : Exit → Act → World → Prop} (hg : o.guard = none) (hop : o.op = Op.alloc 57)
    (hK : wpList Try.prog ops Q rest (a.put o.dst (.pointer (some ⟨w.heap.size, 0, none⟩))) (varB w)) : wpList Try.prog ops Q (o :: rest) a w :=
  wpList_plain hg fun K hK' => by
    have hrun : (Instr.alloc 57 true (.tuple #[])).run Try.prog w = .ok (.pointer (some ⟨w.heap.size, 0, none⟩)) (varB w) := by
      simp [Instr.alloc, ZB, newVar, newRow, Value.cells, varB]
    unfold Oper.wp execOp
    simp only [hop, Sem.run_bind, Sem.run_pure, Result.andThen_ok, hrun]
    exact hK' _ _ hK

/-- An index into a slice of sectors. -/
theorem run_index_sec (w : World) (g n c i : Nat) (hi : i < n) : (Instr.indexAt 50 (.slice (some ⟨g, 0, none⟩) n c) (.int .i64 (i : Int))).run Try.prog w = .ok (.pointer (some ⟨g, i * 256, none⟩)) w := by
  have hz : (sizeOf 57).run Try.prog w = .ok 256 w := by
    obtain ⟨z, hz, _, hs, _⟩ := info_parts TB
    simp [sizeOf, typeInfo, hz, hs]
  have ha : (⟨g, 0, none⟩ : Addr).add (i * 256) = ⟨g, i * 256, none⟩ := by rw [Addr.add_lit, Nat.zero_add]
  simp [Instr.indexAt, asIntOf, run_underlying Try.underlying50, hi, ha]
theorem wp_index_sec {ops : Array Oper} {rest : List Oper} {o : Oper} {a : Act} {w : World} {Q : Exit → Act → World → Prop} (hg : o.guard = none) (x y : Operand) (hop : o.op = Op.indexAddr 50 x y)
    (g n c i : Nat) (hx : a.eval x = .slice (some ⟨g, 0, none⟩) n c) (z : Int) (hy : a.eval y = .int .i64 z) (hz : z = (i : Int)) (hi : i < n)
    (hK : wpList Try.prog ops Q rest (a.put o.dst (.pointer (some ⟨g, i * 256, none⟩))) w) : wpList Try.prog ops Q (o :: rest) a w :=
  wpList_plain hg fun K hK' => by
    subst hz
    unfold Oper.wp execOp
    simp only [hop, hx, hy, Sem.run_bind, Sem.run_pure, Result.andThen_ok, run_index_sec w g n c i hi]
    exact hK' _ _ hK

/-- A sector out of, and into, the middle of a block. -/
theorem wp_load_sec {ops : Array Oper} {rest : List Oper} {o : Oper} {a : Act} {w : World} {Q : Exit → Act → World → Prop} (hg : o.guard = none) (x : Operand) (hop : o.op = Op.load 57 x)
    (b p : Nat) (hx : a.eval x = .pointer (some ⟨b, p, none⟩)) (l : List UInt8) (hl : l.length = 256) (hc : w.rangeAt b p (bvs l))
    (hK : wpList Try.prog ops Q rest (a.put o.dst (.agg (bvs l).toArray)) w) : wpList Try.prog ops Q (o :: rest) a w :=
  wpList_load_mid hg _ x hop b p hx (bvs l) _ hc UB rfl (by rw [SB, bvs_len, hl]) hK
theorem wp_store_sec {ops : Array Oper} {rest : List Oper} {o : Oper} {a : Act} {w : World} {Q : Exit → Act → World → Prop} (hg : o.guard = none) (x y : Operand) (hop : o.op = Op.store 57 x y)
    (b p : Nat) (hx : a.eval x = .pointer (some ⟨b, p, none⟩)) (l : List UInt8) (hy : a.eval y = .agg (bvs l).toArray) (hl : l.length = 256) (ht : w.there b p 256)
    (hK : wpList Try.prog ops Q rest (a.put o.dst undef) (w.setCells b p (bvs l))) : wpList Try.prog ops Q (o :: rest) a w :=
  wpList_store_mid hg _ x y hop b p (bvs l).toArray hx hy (by rw [List.size_toArray, bvs_len, hl]; exact ht) (by rw [SB, List.size_toArray, bvs_len, hl]) (all_oneCell_toArray (bvs_one l)) hK

set_option maxHeartbeats 1000000 in
theorem newest_any {w : World} {bp bd bm clock : Nat} {l : List MapEntry} {v : Nat → Value} {S : Nat → Prop} {D : DM} (L : Lay w bp bd bm l clock v S D) (s : Nat) (hs : s < D.n) :
    Calls Try.prog 31 #[.pointer (some ⟨bp, 0, none⟩), .int .i64 s] w fun e w' => e = .returned (.agg (bvs (D.newest s)).toArray) ∧ Below w.heap.size w w' := by
  have LV : Lay (varB w) bp bd bm l clock v S D := L.keep fun k hk _ => (varB_below w).block k hk
  have c0 := LV.c0
  have c1 := LV.c1
  have hlk := LV.lookup s
  have hlen := L.newest_len s
  obtain ⟨hb, hr⟩ := varB_laid w (D.newest s) hlen
  have hbl : (bvs (D.newest s)).length = 256 := by rw [bvs_len, hlen]
  rcases hc : D.cac s with _ | ⟨x, r⟩
  · have hn := L.nil s hc
    have hd := LV.dur s hs
    have e1 : D.newest s = D.dur s := by unfold DM.newest; rw [hc]; rfl
    rw [e1] at hlen hb hr hbl ⊢
    rw [hn] at hlk
    go_enter Try.func31, Try.ntmps31
    go_wp2_with (first
      | (refine wp_varB (by rfl) (by rfl) ?_)
      | (refine wp_index_sec rfl _ _ rfl bd D.n D.cap s rfl _ rfl rfl hs ?_)
      | (refine wp_load_sec (by rfl) _ (by rfl) bd (s * 256) (by rfl) (D.dur s) hlen hd ?_)
      | (refine wp_store_sec (by rfl) _ _ (by rfl) w.heap.size 0 (by rfl) (D.dur s) (by rfl) hlen (varB_there w) ?_))
    (try simp only [Exit.inBlock, Exit.then])
    refine bodyPost_ret (v := .agg (bvs (D.dur s)).toArray) ?_ rfl ⟨rfl, hb⟩
    rw [results_cell1 rfl]
    simp only [go_sem]
    have := run_loadVar_mid (P := Try.prog) _ _ _ 57 _ _ hr UB rfl (by rw [SB, hbl])
    exact this
  · obtain ⟨g, c, hv, hnc, hcm⟩ := owns_form (L.row s) (by rw [hc]; simp)
    have hg : (v s).ownBlock = some g := by rw [hv]; rfl
    have hrow := LV.row s
    rw [hv] at hrow hlk
    have hk : (D.cac s).length - 1 < (D.cac s).length := by rw [hc]; simp
    have e1 : (D.cac s)[(D.cac s).length - 1] = D.newest s := by
      unfold DM.newest
      rw [← List.getLast_eq_getElem (by rw [hc]; simp), List.getLastD_eq_getLast?, List.getLast?_eq_some_getLast (by rw [hc]; simp)]; rfl
    have hd := owns_range hrow (L.cl s) rfl ((D.cac s).length - 1) hk
    rw [e1] at hd
    have hk0 : 0 < (D.cac s).length := by omega
    have hmax : (D.cac s).length ≤ 9223372036854775807 := by unfold maxLen at hcm; omega
    clear hc e1
    generalize (D.cac s).length = k at *
    go_enter Try.func31, Try.ntmps31
    go_wp2_with (first
      | (refine wp_varB (by rfl) (by rfl) ?_)
      | (refine wp_index_sec (by rfl) _ _ (by rfl) g k c (k - 1) (by rfl) _ (by rfl) (by first | rfl | omega) hk ?_)
      | (refine wp_load_sec (by rfl) _ (by rfl) g ((k - 1) * 256) (by rfl) (D.newest s) hlen hd ?_)
      | (refine wp_store_sec (by rfl) _ _ (by rfl) w.heap.size 0 (by rfl) (D.newest s) (by rfl) hlen (varB_there w) ?_))
    (try simp only [Exit.inBlock, Exit.then])
    refine bodyPost_ret (v := .agg (bvs (D.newest s)).toArray) ?_ rfl ⟨rfl, hb⟩
    rw [results_cell1 rfl]
    simp only [go_sem]
    have := run_loadVar_mid (P := Try.prog) _ _ _ 57 _ _ hr UB rfl (by rw [SB, hbl])
    exact this

/-- Read. -/
def DM.readE (D : DM) (s : Int) : Int := if D.off then 4 else if 0 ≤ s ∧ s < (D.n : Int) then 0 else 1
def DM.readL (D : DM) (s : Int) : List UInt8 := if D.off then [] else if 0 ≤ s ∧ s < (D.n : Int) then D.newest s.toNat else []
set_option maxHeartbeats 1000000 in
theorem read_any {w : World} {bp bd bm clock : Nat} {l : List MapEntry} {v : Nat → Value} {S : Nat → Prop} {D : DM} (L : Lay w bp bd bm l clock v S D) (s : Int) :
    Calls Try.prog 11 #[.pointer (some ⟨bp, 0, none⟩), .int .i64 s] w fun e w' => ∃ A n, e = .returned (.tuple #[.slice A n n, .int .i64 (D.readE s)]) ∧ Sl w' A n n (D.readL s) ∧ n ≤ 256 ∧ Below w.heap.size w w' ∧ ∀ ad, A = some ad → w.heap.size ≤ ad.block ∧ ad.block < w'.heap.size := by
  have c2 := L.c2
  unfold DM.readE DM.readL
  cases hoff : D.off with
  | true =>
    rw [hoff] at c2
    go_enter Try.func11, Try.ntmps11
    go_wp2
    go_ret2
    exact ⟨none, 0, rfl, sl_nil w, by omega, Below.refl _ _, fun ad h => by cases h⟩
  | false =>
    rw [hoff] at c2
    by_cases hs : 0 ≤ s ∧ s < (D.n : Int)
    · obtain ⟨k, rfl⟩ := Int.eq_ofNat_of_zero_le hs.1
      have hk : k < D.n := by omega
      have hlen := L.newest_len k
      have hbl : (bvs (D.newest k)).length = 256 := by rw [bvs_len, hlen]
      have H1 := has_any L (k : Int)
      rw [show decide (0 ≤ (k : Int) ∧ (k : Int) < (D.n : Int)) = true by simpa using hs] at H1
      rw [if_pos hs, if_pos hs, Int.toNat_natCast]
      simp only [Bool.false_eq_true, if_false]
      go_enter Try.func11, Try.ntmps11
      go_wp2_with fail
      refine H1.mono ?_
      rintro e w1 ⟨rfl, rfl⟩
      go_wp2_with fail
      refine (newest_any L k hk).mono ?_
      rintro e w1 ⟨rfl, hb1⟩
      obtain ⟨hb, hr⟩ := varB_laid w1 (D.newest k) hlen
      go_wp2_with (first
        | (refine wp_varB (by rfl) (by rfl) ?_)
        | (refine wp_store_sec (by rfl) _ _ (by rfl) w1.heap.size 0 (by rfl) (D.newest k) (by rfl) hlen (varB_there w1) ?_))
      go_ret2
      refine ⟨some ⟨w1.heap.size, 0, none⟩, 256, rfl, ?_, by omega, hb1.trans (hb.mono hb1.size), fun ad h => by cases h; exact ⟨hb1.size, by rw [setCells_size, varB_size]; simp⟩⟩
      have := sl_range hr (by rw [setCells_size, varB_size]; omega) (c := 256) (by omega) (by unfold maxLen; omega)
      rw [hlen] at this; exact this
    · have H1 := has_any L s
      rw [show decide (0 ≤ s ∧ s < (D.n : Int)) = false by simpa using hs] at H1
      rw [if_neg hs, if_neg hs]
      simp only [Bool.false_eq_true, if_false]
      go_enter Try.func11, Try.ntmps11
      go_wp2_with fail
      refine H1.mono ?_
      rintro e w1 ⟨rfl, rfl⟩
      go_wp2_with fail
      go_ret2
      exact ⟨none, 0, rfl, sl_nil w, by omega, Below.refl _ _, fun ad h => by cases h⟩
end Go.Proofs.Ytkkmnmiekmfjiaa
