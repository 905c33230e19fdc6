/- The code's find: what the way down comes to for Get and Path, as plain data. The code's find: what a scan keeps (the items told so far, how many are wanted, the last key), and its two function values. What a scan tells from a node on; how many items there are below a node. The code's find: each, the items below a node. The code's find: Get and Height. The code's find: Path. -/
import Derived.Test.YtgedmodnkiijkaaGreatDoorFn5
import Derived.Test.YtgedmodnkiijkaaGreatDoorFn12
import Derived.Test.YtgedmodnkiijkaaGreatDoorFn28
import Derived.Test.YtgedmodnkiijkaaGreatDoorFn29
import Derived.Test.YtgedmodnkiijkaaGreatDoorFn30
namespace Go.Proofs.YtgedmodnkiijkaaGreatDoor
open Go Go.RowKit Go.Proofs

def lastN (vs : List (Int × Nd)) : Nd := (vs.getLast?.map (·.2)).getD nodeZ
def leafGet (k : Kd) (N : Nd) : List UInt8 × Int := if foundAt N.keys k (N.seek k) = true then ((itAt N.items (N.seek k)).v, 0) else ([], 10)
theorem lastN_snoc (vs : List (Int × Nd)) (x : Int × Nd) : lastN (vs ++ [x]) = x.2 := by unfold lastN; simp
theorem lastN_cons {x : Int × Nd} {vs : List (Int × Nd)} (h : vs ≠ []) : lastN (x :: vs) = lastN vs := by
  unfold lastN
  rw [List.getLast?_cons_of_ne_nil h]
theorem downN_ne {R : Int → Nd × Int} {k : Kd} : ∀ {l : Nat} {a : Int}, (downN R k l a).2 = 0 → (downN R k l a).1 ≠ []
  | 0, a, h => by
    unfold downN at h ⊢
    split at h
    · rename_i h1; exact absurd h h1
    · rename_i h1
      rw [if_neg h1]
      split at h
      · cases h
      · rename_i h2
        rw [if_neg h2]
        simp
  | l + 1, a, h => by
    unfold downN at h ⊢
    split at h
    · rename_i h1; exact absurd h h1
    · rename_i h1
      rw [if_neg h1]
      split at h
      · cases h
      · rename_i h2
        rw [if_neg h2]
        simp
theorem get_down {R : Int → Nd × Int} {k : Kd} : ∀ (l : Nat) (a : Int), getN R k l a = if (downN R k l a).2 ≠ 0 then ([], (downN R k l a).2) else leafGet k (lastN (downN R k l a).1)
  | 0, a => by
    by_cases h1 : (R a).2 = 0
    · by_cases h2 : (R a).1.lvl = 0
      · have hR : R a = ((R a).1, 0) := Prod.ext rfl h1
        rw [downN_zero hR h2]
        unfold getN
        rw [if_neg (by simpa using h1), if_neg (by simpa using h2)]
        rfl
      · rw [downN_off h1 0 (by simpa using h2)]
        unfold getN
        rw [if_neg (by simpa using h1), if_pos h2]
        rfl
    · rw [downN_err h1]
      unfold getN
      rw [if_pos h1, if_pos h1]
  | l + 1, a => by
    by_cases h1 : (R a).2 = 0
    · by_cases h2 : (R a).1.lvl = ((l + 1 : Nat) : Int)
      · have hR : R a = ((R a).1, 0) := Prod.ext rfl h1
        rw [downN_succ hR h2]
        unfold getN
        rw [if_neg (by simpa using h1), if_neg (by simpa using h2), get_down l _]
        dsimp only
        by_cases h3 : (downN R k l (kidAt (R a).1.kids ((R a).1.seek k)).a).2 = 0
        · rw [if_neg (by simpa using h3), if_neg (by simpa using h3), lastN_cons (downN_ne h3)]
        · rw [if_pos h3, if_pos h3]
      · rw [downN_off h1 (l + 1) h2]
        unfold getN
        rw [if_neg (by simpa using h1), if_pos h2]
        rfl
    · rw [downN_err h1]
      unfold getN
      rw [if_pos h1, if_pos h1]
theorem path_down {R : Int → Nd × Int} {k : Kd} : ∀ (l : Nat) (a : Int), pathN R k l a = if (downN R k l a).2 ≠ 0 then ([], (downN R k l a).2) else ((downN R k l a).1.map (·.1), 0)
  | 0, a => by
    by_cases h1 : (R a).2 = 0
    · by_cases h2 : (R a).1.lvl = 0
      · have hR : R a = ((R a).1, 0) := Prod.ext rfl h1
        rw [downN_zero hR h2]
        unfold pathN
        rw [if_neg (by simpa using h1), if_neg (by simpa using h2)]
        rfl
      · rw [downN_off h1 0 (by simpa using h2)]
        unfold pathN
        rw [if_neg (by simpa using h1), if_pos h2]
        rfl
    · rw [downN_err h1]
      unfold pathN
      rw [if_pos h1, if_pos h1]
  | l + 1, a => by
    by_cases h1 : (R a).2 = 0
    · by_cases h2 : (R a).1.lvl = ((l + 1 : Nat) : Int)
      · have hR : R a = ((R a).1, 0) := Prod.ext rfl h1
        rw [downN_succ hR h2]
        unfold pathN
        rw [if_neg (by simpa using h1), if_neg (by simpa using h2), path_down l _]
        dsimp only
        by_cases h3 : (downN R k l (kidAt (R a).1.kids ((R a).1.seek k)).a).2 = 0
        · simp only [h3, ne_eq, not_true_eq_false, if_false]
          rfl
        · simp only [h3, ne_eq, not_false_eq_true, if_true]
      · rw [downN_off h1 (l + 1) h2]
        unfold pathN
        rw [if_neg (by simpa using h1), if_pos h2]
        rfl
    · rw [downN_err h1]
      unfold pathN
      rw [if_pos h1, if_pos h1]
theorem getT_down (R : Int → Nd × Int) (k : Kd) (root : Int) : getT R k root = if (downT R k root).2 ≠ 0 then ([], (downT R k root).2) else leafGet k (lastN (downT R k root).1) := by
  unfold getT downT
  by_cases h : root = 0
  · rw [if_pos h, if_pos h]
    rfl
  · rw [if_neg h, if_neg h, get_down]
theorem pathT_down (R : Int → Nd × Int) (k : Kd) (root : Int) : pathT R k root = if (downT R k root).2 ≠ 0 then ([], (downT R k root).2) else ((downT R k root).1.map (·.1), 0) := by
  unfold pathT downT
  by_cases h : root = 0
  · rw [if_pos h, if_pos h]
    rfl
  · rw [if_neg h, if_neg h, path_down]
theorem downN_last {R : Int → Nd × Int} {k : Kd} (hm : ∀ a, (R a).2 = 0 → (R a).1.may = true) : ∀ {l : Nat} {a : Int}, (downN R k l a).2 = 0 → (lastN (downN R k l a).1).lvl = 0 ∧ (lastN (downN R k l a).1).may = true
  | 0, a, h => by
    by_cases h1 : (R a).2 = 0
    · by_cases h2 : (R a).1.lvl = 0
      · have hR : R a = ((R a).1, 0) := Prod.ext rfl h1
        rw [downN_zero hR h2]
        exact ⟨h2, hm a h1⟩
      · rw [downN_off h1 0 (by simpa using h2)] at h
        cases h
    · rw [downN_err h1] at h
      exact absurd h h1
  | l + 1, a, h => by
    by_cases h1 : (R a).2 = 0
    · by_cases h2 : (R a).1.lvl = ((l + 1 : Nat) : Int)
      · have hR : R a = ((R a).1, 0) := Prod.ext rfl h1
        rw [downN_succ hR h2] at h ⊢
        have := downN_last hm h
        rw [lastN_cons (downN_ne h)]
        exact this
      · rw [downN_off h1 (l + 1) h2] at h
        cases h
    · rw [downN_err h1] at h
      exact absurd h h1
theorem downT_last {R : Int → Nd × Int} {k : Kd} (hm : ∀ a, (R a).2 = 0 → (R a).1.may = true) {root : Int} (h : (downT R k root).2 = 0) : (lastN (downT R k root).1).lvl = 0 ∧ (lastN (downT R k root).1).fit ∧ (foundAt (lastN (downT R k root).1).keys k ((lastN (downT R k root).1).seek k) = true → (lastN (downT R k root).1).seek k < (lastN (downT R k root).1).items.length) := by
  unfold downT at h ⊢
  by_cases h0 : root = 0
  · rw [if_pos h0]
    exact ⟨rfl, ⟨fun _ => rfl, fun _ => rfl⟩, fun h => by cases h⟩
  · rw [if_neg h0] at h ⊢
    obtain ⟨h1, h2⟩ := downN_last hm h
    have hf := may_fit h2
    refine ⟨h1, hf, fun h => ?_⟩
    unfold foundAt at h
    rw [Bool.and_eq_true] at h
    have h3 := of_decide_eq_true h.1
    have ek : ∀ N : Nd, N.kids = [] → N.keys.length = N.items.length := fun N hN => by unfold Nd.keys; rw [hN]; simp
    rw [ek _ (hf.1 h1)] at h3
    exact h3
end Go.Proofs.YtgedmodnkiijkaaGreatDoor

namespace Go.Proofs.YtgedmodnkiijkaaGreatDoor
open Go Go.RowKit Go.Proofs

/-- What a scan keeps: vb the items, mb how many, tb the last key. -/
structure SAt (w : World) (lim base vb mb tb : Nat) (most : Int) (to : Kd) (A : Option Addr) (acc : List Itm) : Prop where
  var : ∃ t c, w.heap[vb]? = some (.cells #[.slice A acc.length c] t (0, 0)) ∧ IRow w lim A acc.length c acc ∧ ∀ k, blockOf A = some k → base ≤ k
  many : ∃ t, w.heap[mb]? = some (.cells #[.int .i64 most] t (0, 0))
  last : KB w tb to
  lim_ : lim ≤ base
  lt : vb < base ∧ mb < base ∧ tb < base ∧ base ≤ w.heap.size ∧ mb ≠ vb ∧ tb ≠ vb
theorem SAt.below {w w' : World} {lim base vb mb tb : Nat} {most : Int} {to : Kd} {A : Option Addr} {acc : List Itm} (h : SAt w lim base vb mb tb most to A acc) (hb : Below w.heap.size w w') : SAt w' lim base vb mb tb most to A acc := by
  obtain ⟨⟨t, c, h1, h2, h2'⟩, ⟨t2, h3⟩, h4, h6, h5⟩ := h
  exact ⟨⟨t, c, (hb.block vb (lt_of_heap h1)).trans h1, h2.below hb, h2'⟩, ⟨t2, (hb.block mb (lt_of_heap h3)).trans h3⟩, h4.below hb h4.lt, h6, ⟨h5.1, h5.2.1, h5.2.2.1, Nat.le_trans h5.2.2.2.1 hb.size, h5.2.2.2.2⟩⟩
/-- A value does not lie where a slice does. -/
theorem val_ne {w : World} {vb : Nat} {A : Option Addr} {n c : Nat} {t : TypeId} (hv : w.heap[vb]? = some (.cells #[.slice A n c] t (0, 0))) {V : Option Addr} {p q : Nat} {x : List UInt8} (h : Sl w V p q x) (hx : x ≠ []) : ∀ k, blockOf V = some k → k ≠ vb := fun k hk e => by
  subst e
  have hl : 0 < x.length := List.length_pos_iff.2 hx
  obtain ⟨ad, e1, e2, e3⟩ := h.2.2.2 0 (bv x[0]) (by rw [List.getElem?_map, List.getElem?_eq_getElem hl]; rfl)
  rw [e1] at hk
  have hk : ad.block = k := Option.some.inj hk
  have h1 : w.heap[(ad.add 0).block]? = some (.cells #[.slice A n c] t (0, 0)) := by rw [addr_block, hk]; exact hv
  have h2 := cell_in_row h1 e3
  obtain ⟨z, hz⟩ : ∃ z, (ad.add 0).off = z := ⟨_, rfl⟩
  rw [hz] at h2
  match z, h2 with
  | 0, h2 => injection h2 with h2; cases h2
  | z + 1, h2 => simp at h2
theorem irow_past {w w' : World} {base vb n c n2 c2 : Nat} {A A2 : Option Addr} {t : TypeId} {xs : List Itm} (h : IRow w base A n c xs) (hv : w.heap[vb]? = some (.cells #[.slice A2 n2 c2] t (0, 0))) (hA : ∀ k, blockOf A = some k → k ≠ vb) (T : Turn (fun k => k = vb) w w') : IRow w' base A n c xs := by
  obtain ⟨raw, h1, h2, h3⟩ := h
  refine ⟨raw, h1.turned T (fun k hk => hA k hk), h2, fun j r x hr hx => ?_⟩
  obtain ⟨V, p, q, e, hs, hne⟩ := h3 j r x hr hx
  exact ⟨V, p, q, e, hs.turned' T (fun hx k hk => val_ne hv hs hx k hk), hne⟩

set_option maxRecDepth 100000 in
set_option maxHeartbeats 4000000 in
theorem cwanted_any {w : World} {lim base vb mb tb : Nat} {most : Int} {to : Kd} {A : Option Addr} {acc : List Itm} (h : SAt w lim base vb mb tb most to A acc) (k : Kd) (r : Bool) (hr : (decide ((acc.length : Int) < most) && !(to.less k)) = r) :
    Calls Tryz.prog 41 #[.agg #[.int .i64 k.obj, .int .i64 k.kind, .int .i64 k.off], .pointer (some ⟨vb, 0, none⟩), .pointer (some ⟨mb, 0, none⟩), .pointer (some ⟨tb, 0, none⟩)] w fun e w' => e = .returned (.bool r) ∧ Below w.heap.size w w' := by
  obtain ⟨K0, bB⟩ := boxes1 w k
  have h1 := h.below bB
  obtain ⟨⟨t, c, hv, -⟩, ⟨t2, hm⟩, hl, -, -⟩ := h1
  have c0 := cell_of_one hv
  have c1 := cell_of_one hm
  have k0 := K0.c0
  have k1 := K0.c1
  have k2 := K0.c2
  have l0 := hl.c0
  have l1 := hl.c1
  have l2 := hl.c2
  clear hv hm hl h
  by_cases hn : (acc.length : Int) < most
  · rw [decide_eq_true hn, Bool.true_and] at hr
    have Hl := Lib.hid (less_any to k (w.alloc (.cells #[.int .i64 k.obj, .int .i64 k.kind, .int .i64 k.off] 39)))
    have Hr := Lib.hid hr
    clear hr
    go_enter Tryz.func41, Tryz.ntmps41
    go_wp2_with fail
    refine Hl.out.mono ?_
    rintro e w2 ⟨rfl, b2⟩
    go_wp2_with fail
    go_ret
    exact ⟨by rw [← Hr.out]; rfl, bB.trans (b2.mono bB.size)⟩
  · rw [decide_eq_false hn, Bool.false_and] at hr
    subst hr
    go_enter Tryz.func41, Tryz.ntmps41
    go_wp2_with fail
    go_ret
    exact ⟨rfl, bB⟩
set_option maxRecDepth 100000 in
set_option maxHeartbeats 4000000 in
theorem ctold_any {w : World} {lim base vb mb tb : Nat} {most : Int} {to : Kd} {A : Option Addr} {acc : List Itm} (h : SAt w lim base vb mb tb most to A acc) (x : Itm) (V : Option Addr) (p q : Nat) (hs : Sl w V p q x.v) (hV : x.v ≠ [] → ∀ g, blockOf V = some g → lim ≤ g ∧ blockOf A ≠ some g) (hn : acc.length ≤ 100000) :
    Calls Tryz.prog 44 #[.agg #[.int .i64 x.k.obj, .int .i64 x.k.kind, .int .i64 x.k.off, .slice V p q], .pointer (some ⟨vb, 0, none⟩)] w fun e w' => e = .returned (.tuple #[]) ∧ ∃ A', SAt w' lim base vb mb tb most to A' (acc ++ [x]) ∧ Turn (fun k => k = vb ∨ blockOf A = some k) w w' ∧ ∀ k, blockOf A' = some k → blockOf A = some k ∨ w.heap.size ≤ k := by
  have b1 : Below w.heap.size w ((w.alloc (.cells #[.int .i64 x.k.obj, .int .i64 x.k.kind, .int .i64 x.k.off, .slice V p q] 41)).alloc (.cells #[.int .i64 x.k.obj, .int .i64 x.k.kind, .int .i64 x.k.off, .slice V p q] 41)) := ((Below.refl _ _).alloc (Nat.le_refl _) _).alloc (by simp) _
  have b0 : Below w.heap.size w (w.alloc (.cells #[.int .i64 x.k.obj, .int .i64 x.k.kind, .int .i64 x.k.off, .slice V p q] 41)) := (Below.refl _ _).alloc (Nat.le_refl _) _
  have z1 : ((w.alloc (.cells #[.int .i64 x.k.obj, .int .i64 x.k.kind, .int .i64 x.k.off, .slice V p q] 41)).alloc (.cells #[.int .i64 x.k.obj, .int .i64 x.k.kind, .int .i64 x.k.off, .slice V p q] 41)).heap.size = w.heap.size + 2 := by simp
  have hrow : (w.alloc (.cells #[.int .i64 x.k.obj, .int .i64 x.k.kind, .int .i64 x.k.off, .slice V p q] 41)).heap[w.heap.size]? = some (.cells #[.int .i64 x.k.obj, .int .i64 x.k.kind, .int .i64 x.k.off, .slice V p q] 41 (0, 0)) := heap_alloc_new w _
  have q0 : (w.alloc (.cells #[.int .i64 x.k.obj, .int .i64 x.k.kind, .int .i64 x.k.off, .slice V p q] 41)).cell? ⟨w.heap.size, 0, none⟩ = some (.int .i64 x.k.obj) := by rw [cell_of_row _ _ _ _ _ _ hrow]; rfl
  have q1 : (w.alloc (.cells #[.int .i64 x.k.obj, .int .i64 x.k.kind, .int .i64 x.k.off, .slice V p q] 41)).cell? ⟨w.heap.size, 1, none⟩ = some (.int .i64 x.k.kind) := by rw [cell_of_row _ _ _ _ _ _ hrow]; rfl
  have q2 : (w.alloc (.cells #[.int .i64 x.k.obj, .int .i64 x.k.kind, .int .i64 x.k.off, .slice V p q] 41)).cell? ⟨w.heap.size, 2, none⟩ = some (.int .i64 x.k.off) := by rw [cell_of_row _ _ _ _ _ _ hrow]; rfl
  have q3 : (w.alloc (.cells #[.int .i64 x.k.obj, .int .i64 x.k.kind, .int .i64 x.k.off, .slice V p q] 41)).cell? ⟨w.heap.size, 3, none⟩ = some (.slice V p q) := by rw [cell_of_row _ _ _ _ _ _ hrow]; rfl
  have hlit : Sls ((w.alloc (.cells #[.int .i64 x.k.obj, .int .i64 x.k.kind, .int .i64 x.k.off, .slice V p q] 41)).alloc (.cells #[.int .i64 x.k.obj, .int .i64 x.k.kind, .int .i64 x.k.off, .slice V p q] 41)) 4 (some ⟨w.heap.size + 1, 0, none⟩) 1 1 [itvs x.k V p q] := by
    have := (owns_lit1 (w.alloc (.cells #[.int .i64 x.k.obj, .int .i64 x.k.kind, .int .i64 x.k.off, .slice V p q] 41)) 41 4 (itvs x.k V p q) _ rfl rfl).sls (by omega)
    rwa [World.size_alloc] at this
  obtain ⟨⟨t, c, hv, row, hge0⟩, ⟨t2, hm⟩, hlast, hlim, ⟨l1, l2, l3, l4, l5, l6⟩⟩ := h
  have hvl := lt_of_heap hv
  have hml := lt_of_heap hm
  have hll := hlast.lt
  have c0 := cell_of_one ((b0.block vb hvl).trans hv)
  have hv1 := (b1.block vb hvl).trans hv
  have hm1 := (b1.block mb hml).trans hm
  have hl1 := hlast.below b1 hll
  have row1 := row.below b1
  have hge : ∀ k, blockOf A = some k → base ≤ k ∧ k < w.heap.size := fun k hk => ⟨hge0 k hk, (row.blockLt k hk).2⟩
  have hs1 := hs.below b1
  clear row hv hm hlast hs hrow
  go_enter Tryz.func44, Tryz.ntmps44
  go_wp2_with (first
    | (at_builtin; refine wp_append_item rfl _ _ rfl lim A acc.length c acc rfl row1 (some ⟨w.heap.size + 1, 0, none⟩) 1 x V p q rfl hlit hs1 hV hn (by omega) ?_)
    | fail)
  intro A' c6 w3 own3 T3 hA'
  have hnA : ∀ b, b < base → ¬ blockOf A = some b := fun b hb h => by have := (hge b h).1; omega
  have hv3 := (T3.block vb (by omega) (hnA vb l1)).trans hv1
  have h3 := cell_of_one hv3
  have f3 := free_of_one hv3
  have hne : ∀ k, blockOf A' = some k → k ≠ vb := fun k hk e => by
    rcases hA' with h | h
    · rw [h] at hk; have := (hge k hk).1; omega
    · rw [h] at hk
      have := Option.some.inj hk
      omega
  have TS : Turn (fun k => k = vb) w3 (w3.setCell ⟨vb, 0, none⟩ (.slice A' (acc.length + 1) c6)) := turn_setCell (a := ⟨vb, 0, none⟩) _ rfl
  have z3 := T3.size
  have hm3 := (T3.block mb (by omega) (hnA mb l2)).trans hm1
  have hl3 := hl1.keep (T3.block tb (by omega) (hnA tb l3))
  have hml3 := lt_of_heap hm3
  clear c0 q0 q1 q2 q3 hlit hm1 hl1 hv1
  go_wp2
  go_end0
  have e : (acc ++ [x]).length = acc.length + 1 := by simp
  refine ⟨rfl, A', ⟨⟨t, c6, by rw [e]; exact one_setCell hv3, by rw [e]; exact irow_past own3 hv3 hne TS, fun k hk => ?_⟩, ⟨t2, (TS.block mb hml3 l5).trans hm3⟩, hl3.keep (TS.block tb hl3.lt l6), hlim, ⟨l1, l2, l3, by have := TS.size; omega, l5, l6⟩⟩, ((turn_below (S := fun k => k = vb ∨ blockOf A = some k) b1).trans T3 (fun k h => .inl (.inr h))).trans TS (fun k h => .inl (.inl h)), fun k hk => ?_⟩
  · rcases hA' with h | h
    · exact hge0 k (h ▸ hk)
    · rw [h] at hk
      have := Option.some.inj hk
      omega
  · rcases hA' with h | h
    · exact .inl (h ▸ hk)
    · rw [h] at hk
      have := Option.some.inj hk
      exact .inr (by omega)
end Go.Proofs.YtgedmodnkiijkaaGreatDoor

namespace Go.Proofs.YtgedmodnkiijkaaGreatDoor
open Go Go.RowKit Go.Proofs

/-- P10.2, from a node on that was read. -/
def scanM (R : Int → Nd × Int) (fr to : Kd) (most : Nat) : Nat → Nd → List Itm → List Itm × Int
  | 0, M, acc => ((acc ++ within fr to M.items).take most, 0)
  | l + 1, M, acc => scanK (scanN R fr to most l) to most (M.kids.drop (M.seek fr)) acc
theorem scanN_ok {R : Int → Nd × Int} {fr to : Kd} {most : Nat} {a : Int} {M : Nd} (h : R a = (M, 0)) (acc : List Itm) : ∀ {l : Nat}, M.lvl = (l : Int) → scanN R fr to most l a acc = scanM R fr to most l M acc
  | 0, hl => by
    unfold scanN scanM
    rw [h]
    dsimp only
    rw [if_neg (by simp), if_neg (by simpa using hl)]
  | l + 1, hl => by
    unfold scanN scanM
    rw [h]
    dsimp only
    rw [if_neg (by simp), if_neg (by simpa using hl)]
theorem scanN_err {R : Int → Nd × Int} {fr to : Kd} {most : Nat} {a : Int} (h : (R a).2 ≠ 0) (acc : List Itm) : ∀ l : Nat, scanN R fr to most l a acc = ([], (R a).2)
  | 0 => by unfold scanN; rw [if_pos h]
  | l + 1 => by unfold scanN; rw [if_pos h]
theorem scanN_off {R : Int → Nd × Int} {fr to : Kd} {most : Nat} {a : Int} (h : (R a).2 = 0) (acc : List Itm) : ∀ {l : Nat}, (R a).1.lvl ≠ (l : Int) → scanN R fr to most l a acc = ([], 5)
  | 0, hl => by unfold scanN; rw [if_neg (by simpa using h), if_pos (by simpa using hl)]
  | l + 1, hl => by unfold scanN; rw [if_neg (by simpa using h), if_pos hl]
theorem scanK_none {f : Int → List Itm → List Itm × Int} {to : Kd} {most : Nat} : ∀ (kids : List Kidd) (acc : List Itm), (scanK f to most kids acc).2 ≠ 0 → (scanK f to most kids acc).1 = []
  | [], acc, h => absurd rfl h
  | x :: r, acc, h => by
    unfold scanK at h ⊢
    by_cases hb : to.less x.k = true ∨ most ≤ acc.length
    · rw [if_pos hb] at h; exact absurd rfl h
    · rw [if_neg hb] at h ⊢
      by_cases h1 : (f x.a acc).2 = 0
      · rw [if_neg (by simpa using h1)] at h ⊢
        exact scanK_none r _ h
      · rw [if_pos h1]
theorem scanM_none {R : Int → Nd × Int} {fr to : Kd} {most : Nat} : ∀ (l : Nat) (M : Nd) (acc : List Itm), (scanM R fr to most l M acc).2 ≠ 0 → (scanM R fr to most l M acc).1 = []
  | 0, _, _, h => absurd rfl h
  | _ + 1, _, _, h => scanK_none _ _ h
/-- How many items there are below an address. -/
def countN (R : Int → Nd × Int) : Nat → Int → Nat
  | 0, a => if (R a).2 ≠ 0 then 0 else (R a).1.items.length
  | l + 1, a => if (R a).2 ≠ 0 then 0 else ((R a).1.kids.map fun x => countN R l x.a).sum
def countM (R : Int → Nd × Int) : Nat → Nd → Nat
  | 0, M => M.items.length
  | l + 1, M => (M.kids.map fun x => countN R l x.a).sum
theorem countN_ok {R : Int → Nd × Int} {a : Int} {M : Nd} (h : R a = (M, 0)) : ∀ l, countN R l a = countM R l M
  | 0 => by unfold countN countM; rw [h]; dsimp only; rw [if_neg (by simp)]
  | l + 1 => by unfold countN countM; rw [h]; dsimp only; rw [if_neg (by simp)]
theorem sum_drop (l : List Nat) : ∀ n, (l.drop n).sum ≤ l.sum := fun n => by
  conv => rhs; rw [← List.take_append_drop n l]
  rw [List.sum_append]
  omega
theorem scanK_len {f : Int → List Itm → List Itm × Int} {to : Kd} {most : Nat} {cnt : Int → Nat} (hf : ∀ x acc, acc.length ≤ most → (f x acc).2 = 0 → (f x acc).1.length ≤ most ∧ (f x acc).1.length ≤ acc.length + cnt x) :
    ∀ (kids : List Kidd) (acc : List Itm), acc.length ≤ most → (scanK f to most kids acc).2 = 0 → (scanK f to most kids acc).1.length ≤ most ∧ (scanK f to most kids acc).1.length ≤ acc.length + (kids.map fun x => cnt x.a).sum
  | [], acc, ha, _ => by
    unfold scanK
    exact ⟨ha, by simp⟩
  | x :: r, acc, ha, h0 => by
    unfold scanK at h0 ⊢
    by_cases hb : to.less x.k = true ∨ most ≤ acc.length
    · rw [if_pos hb]
      exact ⟨ha, by simp⟩
    · rw [if_neg hb] at h0 ⊢
      by_cases h1 : (f x.a acc).2 = 0
      · rw [if_neg (by simpa using h1)] at h0 ⊢
        obtain ⟨a1, a2⟩ := hf x.a acc ha h1
        obtain ⟨b1, b2⟩ := scanK_len hf r _ a1 h0
        refine ⟨b1, ?_⟩
        rw [List.map_cons, List.sum_cons]
        omega
      · rw [if_pos h1] at h0
        exact absurd h0 h1
theorem scanN_len {R : Int → Nd × Int} {fr to : Kd} {most : Nat} : ∀ (l : Nat) (a : Int) (acc : List Itm), acc.length ≤ most → (scanN R fr to most l a acc).2 = 0 → (scanN R fr to most l a acc).1.length ≤ most ∧ (scanN R fr to most l a acc).1.length ≤ acc.length + countN R l a
  | 0, a, acc, ha, h0 => by
    by_cases h1 : (R a).2 = 0
    · by_cases h2 : (R a).1.lvl = 0
      · have hR : R a = ((R a).1, 0) := Prod.ext rfl h1
        rw [scanN_ok hR acc (l := 0) (by simpa using h2), countN_ok hR]
        unfold scanM countM
        dsimp only
        have : (within fr to (R a).1.items).length ≤ (R a).1.items.length := List.length_filter_le ..
        rw [List.length_take, List.length_append]
        omega
      · rw [scanN_off h1 acc (l := 0) (by simpa using h2)] at h0
        cases h0
    · rw [scanN_err h1] at h0
      exact absurd h0 h1
  | l + 1, a, acc, ha, h0 => by
    by_cases h1 : (R a).2 = 0
    · by_cases h2 : (R a).1.lvl = ((l + 1 : Nat) : Int)
      · have hR : R a = ((R a).1, 0) := Prod.ext rfl h1
        rw [scanN_ok hR acc h2] at h0 ⊢
        rw [countN_ok hR]
        unfold scanM at h0 ⊢
        obtain ⟨a1, a2⟩ := scanK_len (cnt := countN R l) (fun x acc hx h => scanN_len l x acc hx h) _ _ ha h0
        refine ⟨a1, Nat.le_trans a2 ?_⟩
        show _ ≤ acc.length + ((R a).1.kids.map fun x => countN R l x.a).sum
        rw [List.map_drop]
        have := sum_drop ((R a).1.kids.map fun x => countN R l x.a) ((R a).1.seek fr)
        omega
      · rw [scanN_off h1 acc h2] at h0
        cases h0
    · rw [scanN_err h1] at h0
      exact absurd h0 h1
theorem sum_parts (f : Kidd → Nat) : ∀ (kids : List Kidd) (parts : List (List Itm)), parts.length = kids.length → (∀ j, j < kids.length → f (kidAt kids j) ≤ (parts.getD j []).length) → (kids.map f).sum ≤ parts.flatten.length
  | [], parts, _, _ => by simp
  | x :: r, [], h, _ => by simp at h
  | x :: r, p :: ps, h, hf => by
    rw [List.map_cons, List.sum_cons, List.flatten_cons, List.length_append]
    have h0 := hf 0 (by simp)
    have h0 : f x ≤ p.length := h0
    have := sum_parts f r ps (by simpa using h) fun j hj => by
      have := hf (j + 1) (by simpa using hj)
      rw [getD_cons_succ] at this
      have ek : kidAt (x :: r) (j + 1) = kidAt r j := by unfold kidAt; rw [getD_cons_succ]
      rwa [ek] at this
    omega
/-- A store that tells less has no more items. -/
theorem less_count {R R' : Int → Nd × Int} (h : Less1 R R') : ∀ {l : Nat} {a : Int} {its : List Itm}, HoldsT R l a its → countN R' l a ≤ its.length
  | 0, a, its, hh => by
    rcases h a (by rw [hh.1]) with e | e
    · unfold countN; rw [e, hh.1]; simp
    · unfold countN; rw [if_pos (by rw [e]; decide)]; omega
  | l + 1, a, its, hh => by
    obtain ⟨kids, parts, h1, h2, h3, rfl, h4⟩ := hh
    rcases h a (by rw [h1]) with e | e
    · have hR' : R' a = (⟨((l + 1 : Nat) : Int), [], kids⟩, 0) := e.trans h1
      rw [countN_ok hR']
      unfold countM
      exact sum_parts _ kids parts h3 fun j hj => less_count h (h4 j hj).1
    · unfold countN; rw [if_pos (by rw [e]; decide)]; omega
theorem less_refl (R : Int → Nd × Int) : Less1 R R := fun _ _ => .inl rfl
/-- How many items a tree has at most. -/
theorem tree_count {R R' : Int → Nd × Int} (hl : Less1 R R') {root : Int} {its : List Itm} (h : TreeOf R root its) (h0 : root ≠ 0) : countN R' (lvlN R' root) root ≤ its.length := by
  rcases h with ⟨rfl, rfl⟩ | ⟨l, _, h, h1, _⟩
  · exact absurd rfl h0
  · obtain ⟨e1, e2, e3⟩ := holds_lvl h
    rcases hl root e3 with e | e
    · have : lvlN R' root = l := by unfold lvlN; rw [e]; exact e1
      rw [this]
      exact less_count hl h
    · generalize lvlN R' root = m
      cases m with
      | zero => unfold countN; rw [if_pos (by rw [e]; decide)]; omega
      | succ m => unfold countN; rw [if_pos (by rw [e]; decide)]; omega
end Go.Proofs.YtgedmodnkiijkaaGreatDoor

namespace Go.Proofs.YtgedmodnkiijkaaGreatDoor
open Go Go.RowKit Go.Proofs

theorem kid_scan (R : Int → Nd × Int) (fr to : Kd) (most : Nat) {l : Nat} {L : Int} (hL : L = ((l + 1 : Nat) : Int)) (x : Int) (acc : List Itm) :
    (kidE R L x ≠ 0 ∧ scanN R fr to most l x acc = ([], kidE R L x)) ∨ (kidE R L x = 0 ∧ R x = (kidN R L x, 0) ∧ (kidN R L x).lvl = (l : Int) ∧ scanN R fr to most l x acc = scanM R fr to most l (kidN R L x) acc) := by
  by_cases h1 : (R x).2 = 0
  · have hE : kidE R L x = if (R x).1.lvl ≠ L - 1 then 5 else 0 := if_neg (by simpa using h1)
    have hM : kidN R L x = if (R x).1.lvl ≠ L - 1 then nodeZ else (R x).1 := if_neg (by simpa using h1)
    by_cases h2 : (R x).1.lvl = L - 1
    · rw [if_neg (by simpa using h2)] at hE hM
      have hl : (R x).1.lvl = (l : Int) := by omega
      have hR : R x = ((R x).1, 0) := Prod.ext rfl h1
      rw [hE, hM]
      exact .inr ⟨rfl, hR, hl, scanN_ok hR acc hl⟩
    · rw [if_pos h2] at hE
      rw [hE]
      exact .inl ⟨by omega, scanN_off h1 acc (fun h => h2 (by omega))⟩
  · have hE : kidE R L x = (R x).2 := if_pos h1
    rw [hE]
    exact .inl ⟨h1, scanN_err h1 acc l⟩
theorem drop_kid {l : List Kidd} {j : Nat} (h : j < l.length) : l.drop j = kidAt l j :: l.drop (j + 1) := by
  have hx := kidAt_get h
  rw [List.getElem?_eq_getElem h] at hx
  rw [← List.getElem_cons_drop (h := h), Option.some.inj hx]
/-- The blocks that a scan turns. -/
def sOwn (vb : Nat) (A : Option Addr) : Nat → Prop := fun k => k = vb ∨ blockOf A = some k

set_option maxRecDepth 100000 in
set_option maxHeartbeats 16000000 in
theorem ceach_leaf {p : Nat} (fr to : Kd) (most : Int) {lim base vb mb tb : Nat} (w : World) (M : Nd) (lo hi : Nat) (A1 : Option Addr) (n1 c1 : Nat) (B1 : Option Addr) (m1 d1 : Nat) (A : Option Addr) (acc : List Itm)
    (S : SAt w lim base vb mb tb most to A acc) (Hd : Held w lo hi A1 n1 c1 B1 m1 d1 M) (hdis : ∀ k, lo ≤ k → k < hi → ¬ sOwn vb A k) (hlo : lim ≤ lo) (hmay : M.may = true) (hl : M.lvl = 0) (ha : acc.length ≤ most.toNat) (hc : acc.length + M.items.length ≤ 100000) :
    Calls Tryz.prog 43 #[.pointer (some ⟨p, 0, none⟩), .agg #[.int .i64 M.lvl, .slice A1 n1 c1, .slice B1 m1 d1], .agg #[.int .i64 fr.obj, .int .i64 fr.kind, .int .i64 fr.off], .func (.func 41) #[] #[.pointer (some ⟨vb, 0, none⟩), .pointer (some ⟨mb, 0, none⟩), .pointer (some ⟨tb, 0, none⟩)], .func (.func 44) #[] #[.pointer (some ⟨vb, 0, none⟩)]] w fun e w' =>
      e = .returned (.int .i64 0) ∧ ∃ A', SAt w' lim base vb mb tb most to A' ((acc ++ within fr to M.items).take most.toNat) ∧ Turn (sOwn vb A) w w' ∧ ∀ k, blockOf A' = some k → blockOf A = some k ∨ w.heap.size ≤ k := by
  obtain ⟨hM, hris, hi1, hi6⟩ := may_leaf_items hmay hl
  obtain ⟨t, htt⟩ : ∃ t, M.seek fr = t := ⟨_, rfl⟩
  obtain ⟨r, hr⟩ : ∃ r, foundAt M.keys fr t = r := ⟨_, rfl⟩
  have hsk : t = lead (M.items.map (·.k)) fr := by
    rw [← htt, hM]
    unfold Nd.seek
    rw [if_pos rfl, keys_items]
  have htl : t ≤ M.items.length := by have := lead_le (M.items.map (·.k)) fr; rw [List.length_map] at this; omega
  have hG : scanL to most.toNat (M.items.drop t) acc = (acc ++ within fr to M.items).take most.toNat := by rw [hsk]; exact leaf_scan hris fr to acc ha
  obtain ⟨G, hGe⟩ : ∃ G, (acc ++ within fr to M.items).take most.toNat = G := ⟨_, rfl⟩
  rw [hGe] at hG ⊢
  have N1 : NB ((w.alloc (.cells #[.int .i64 M.lvl, .slice A1 n1 c1, .slice B1 m1 d1] 56)).alloc (.cells #[.int .i64 fr.obj, .int .i64 fr.kind, .int .i64 fr.off] 39)) w.heap.size M.lvl A1 n1 c1 B1 m1 d1 := (NB.new w _ _ _ _ _ _ _ _).below ((Below.refl _ _).alloc (Nat.le_refl _) _) (by simp)
  have b1 : Below w.heap.size w ((w.alloc (.cells #[.int .i64 M.lvl, .slice A1 n1 c1, .slice B1 m1 d1] 56)).alloc (.cells #[.int .i64 fr.obj, .int .i64 fr.kind, .int .i64 fr.off] 39)) := ((Below.refl _ _).alloc (Nat.le_refl _) _).alloc (by simp) _
  have z1 : ((w.alloc (.cells #[.int .i64 M.lvl, .slice A1 n1 c1, .slice B1 m1 d1] 56)).alloc (.cells #[.int .i64 fr.obj, .int .i64 fr.kind, .int .i64 fr.off] 39)).heap.size = w.heap.size + 2 := by simp
  have K1 : KB ((w.alloc (.cells #[.int .i64 M.lvl, .slice A1 n1 c1, .slice B1 m1 d1] 56)).alloc (.cells #[.int .i64 fr.obj, .int .i64 fr.kind, .int .i64 fr.off] 39)) (w.heap.size + 1) fr := KB.new2 w _ fr.obj fr.kind fr.off _
  have hml : M.items.length = n1 := Hd.rows.1.itms.len
  have hT0 : ∀ k, sOwn vb A k → k < w.heap.size := fun k hk => by
    obtain ⟨⟨_, _, hv, row, _⟩, _⟩ := S
    rcases hk with rfl | hk
    · exact lt_of_heap hv
    · exact (row.blockLt k hk).2
  have S1 := S.below b1
  have Hd1 := Hd.below b1
  obtain ⟨r1, s1⟩ := Hd1.rows
  have Hsk := Lib.hid (cseek_any M (may_fit hmay) fr t htt r hr A1 n1 c1 B1 m1 d1 _ r1.itms s1 (by have := Hd.2.1; omega) (by have := Hd.2.2.1; omega))
  have g1 : (M.lvl == 0) = true := by rw [hl]; rfl
  have g2 : decide (M.lvl = 0) = true := decide_eq_true hl
  rw [hml] at htl hc
  have HG := Lib.hid hG
  have hml := Lib.hid hml
  have p0 := N1.c0
  have p1 := N1.c1
  have p2 := N1.c2
  have k0 := K1.c0
  have k1 := K1.c1
  have k2 := K1.c2
  clear hM hris hi1 hi6 htt hr hsk hG hGe r1 s1 hl K1 S Hd
  go_enter Tryz.func43, Tryz.ntmps43
  go_wp2_with fail
  refine Hsk.out.mono ?_
  generalize (w.alloc (.cells #[.int .i64 M.lvl, .slice A1 n1 c1, .slice B1 m1 d1] 56)).alloc (.cells #[.int .i64 fr.obj, .int .i64 fr.kind, .int .i64 fr.off] 39) = w1 at N1 b1 z1 S1 Hd1 p0 p1 p2 k0 k1 k2 ⊢
  rintro e w2 ⟨rfl, b2⟩
  have N2 := N1.below b2 N1.lt
  have S2 := S1.below b2
  have Hd2 := Hd1.below b2
  have B2 := b1.trans (b2.mono b1.size)
  have z2 := b2.size
  clear p0 p1 p2 k0 k1 k2 Hsk N1 S1 Hd1 b1 b2
  have p0 := N2.c0
  go_wp2_with fail
  clear p0
  go_loopw [11] (fun iv wr => ∃ (j : Nat) (A' : Option Addr) (acc' : List Itm), j ≤ n1 ∧ iv = .int .i64 (j : Int) ∧ SAt wr lim base vb mb tb most to A' acc' ∧ scanL to most.toNat (M.items.drop j) acc' = G ∧ acc'.length + (n1 - j) ≤ 100000 ∧ Turn (sOwn vb A) w2 wr ∧ ∀ k, blockOf A' = some k → blockOf A = some k ∨ w2.heap.size ≤ k) (fun iv _ => n1 - (intOf iv).toNat)
  case atStart => exact ⟨t, A, acc, htl, rfl, S2, HG.out, by omega, Turn.refl _ _, fun k hk => .inl hk⟩
  case round =>
    obtain ⟨j, A', acc', hjn, rfl, S', hG', hcc, X, hA'⟩ := hrel
    have Nr := N2.turned X (fun h => by have := hT0 _ h; omega)
    have Hr := Hd2.turn X hdis
    have p1 := Nr.c1
    have out : acc' = G → ∃ A', SAt wr lim base vb mb tb most to A' G ∧ Turn (sOwn vb A) w wr ∧ ∀ k, blockOf A' = some k → blockOf A = some k ∨ w.heap.size ≤ k := fun e => by
      refine ⟨A', e ▸ S', (turn_below (S := sOwn vb A) B2).trans X (fun k h => .inl h), fun k hk => (hA' k hk).imp id fun h => by have := B2.size; omega⟩
    have Out := Lib.hid out
    clear out
    by_cases hlt : j < n1
    · obtain ⟨g, o, V, pp, qq, rfl, hg, c0, c1', c2, c3, hs, hvb⟩ := Hr.vals j hlt
      have hdj := drop_it (l := M.items) (j := j) (by rw [hml.out]; exact hlt)
      rw [hdj] at hG'
      clear hdj
      obtain ⟨x, hx⟩ : ∃ x, itAt M.items j = x := ⟨_, rfl⟩
      rw [hx] at c0 c1' c2 hs hvb hG'
      clear hx
      have e0 : (0 : Int) ≤ (j : Int) := by omega
      have e1 : (j : Int) < (n1 : Int) := by omega
      obtain ⟨_, hdm⟩ := Hr.rows.1.itms.bounds
      obtain ⟨rr, hrr⟩ : ∃ rr, (decide ((acc'.length : Int) < most) && !(to.less x.k)) = rr := ⟨_, rfl⟩
      have Hw := Lib.hid (cwanted_any S' x.k rr hrr)
      cases rr with
      | false =>
        have hend : acc' = G := by
          rw [← hG']
          unfold scanL
          rw [if_pos ?_]
          rw [Bool.and_eq_false_iff] at hrr
          rcases hrr with h | h
          · exact .inr (by have := of_decide_eq_false h; omega)
          · exact .inl (by simpa using h)
        have hend := Lib.hid hend
        clear hG' hrr hs hvb c3
        go_wp2_with (first
          | (go_at_call 41; refine Hw.out.mono ?_; rintro e w4 ⟨rfl, b4⟩)
          | fail)
        go_ret
        obtain ⟨A9, S9, X9, h9⟩ := Out.out hend.out
        exact ⟨rfl, A9, S9.below b4, X9.trans (turn_below (S := sOwn vb A) b4) (fun k h => .inl h), h9⟩
      | true =>
        have hgo : scanL to most.toNat (M.items.drop (j + 1)) (acc' ++ [x]) = G := by
          rw [← hG']
          conv => rhs; unfold scanL
          rw [if_neg ?_]
          rw [Bool.and_eq_true] at hrr
          rintro (h | h)
          · rw [h] at hrr; simp at hrr
          · have := of_decide_eq_true hrr.1; omega
        have hdis2 : x.v ≠ [] → ∀ g, blockOf V = some g → lim ≤ g ∧ blockOf A' ≠ some g := fun hv b hb => by
          obtain ⟨h1, h2⟩ := hvb hv b hb
          refine ⟨Nat.le_trans hlo h1, fun h => ?_⟩
          rcases hA' b h with h3 | h3
          · exact hdis b h1 h2 (.inr h3)
          · have := Hd2.1; omega
        have Hgo := Lib.hid hgo
        have Hs := Lib.hid (fun w4 (b4 : Below wr.heap.size wr w4) => ctold_any (S'.below b4) x V pp qq (hs.below b4) hdis2 (by omega))
        have Hcell := Lib.hid (fun w4 (b4 : Below wr.heap.size wr w4) => (⟨(b4.cell (p := ⟨g, _, none⟩) hg).trans c0, (b4.cell (p := ⟨g, _, none⟩) hg).trans c1', (b4.cell (p := ⟨g, _, none⟩) hg).trans c2, (b4.cell (p := ⟨g, _, none⟩) hg).trans c3⟩ : _ ∧ _ ∧ _ ∧ _))
        clear hG' hrr hs hvb hgo hdis2
        go_wp2_with (first
          | (go_at_call 41; refine Hw.out.mono ?_; rintro e w4 ⟨rfl, b4⟩; obtain ⟨y0, y1, y2, y3⟩ := Hcell.out w4 b4; have q1 := (Nr.below b4 Nr.lt).c1)
          | (go_at_call 44; refine (Hs.out w4 b4).mono ?_; rintro e w5 ⟨rfl, A5, S5, X5, h5⟩)
          | fail)
        refine ⟨⟨j + 1, A5, acc' ++ [x], by omega, by go_num, S5, Hgo.out, by simp; omega, (X.trans (turn_below (S := sOwn vb A) b4) (fun k h => .inl h)).trans X5 (fun k hk => ?_), fun k hk => ?_⟩, by simp [intOf]; omega⟩
        · rcases hk with rfl | hk
          · exact .inl (.inl rfl)
          · exact (hA' k hk).imp (fun h => .inr h) id
        · rcases h5 k hk with h | h
          · exact hA' k h
          · exact .inr (by have := X.size; have := b4.size; omega)
    · have hjn' : j = n1 := by omega
      have hend : acc' = G := by
        rw [← hG', List.drop_eq_nil_of_le (by rw [hml.out]; omega)]
        rfl
      have hend := Lib.hid hend
      have e1 : ¬ (j : Int) < (n1 : Int) := by omega
      clear hG' hjn'
      go_wp2_with fail
      go_ret
      obtain ⟨A9, S9, X9, h9⟩ := Out.out hend.out
      exact ⟨rfl, A9, S9, X9, h9⟩
end Go.Proofs.YtgedmodnkiijkaaGreatDoor

namespace Go.Proofs.YtgedmodnkiijkaaGreatDoor
open Go Go.RowKit Go.Proofs

/-- What Get's visitor keeps: the last node, in a block of its own. -/
def GInv (w0 : World) (lb : Nat) (vs : List (Int × Nd)) (T : Nat → Prop) (w : World) : Prop :=
  ∃ (lo hi : Nat) (A : Option Addr) (n c : Nat) (B : Option Addr) (m d : Nat), NB w lb (lastN vs).lvl A n c B m d ∧ Held w lo hi A n c B m d (lastN vs) ∧ (lb < lo ∨ hi ≤ lb) ∧ w0.heap.size ≤ lb ∧ w0.heap.size ≤ lo ∧ ∀ k, T k ↔ k = lb ∨ (lo ≤ k ∧ k < hi)
set_option maxRecDepth 100000 in
set_option maxHeartbeats 4000000 in
theorem getClo_any {w : World} {lb : Nat} (a : Int) (M : Nd) (A : Option Addr) (n c : Nat) (B : Option Addr) (m d : Nat) {l : Int} {A0 B0 : Option Addr} {n0 c0 m0 d0 : Nat} (N : NB w lb l A0 n0 c0 B0 m0 d0) :
    Calls Tryz.prog 39 #[.int .i64 a, .agg #[.int .i64 M.lvl, .slice A n c, .slice B m d], .pointer (some ⟨lb, 0, none⟩)] w fun e w' => e = .returned (.tuple #[]) ∧ NB w' lb M.lvl A n c B m d ∧ Turn (fun k => k = lb) w w' := by
  have b1 : Below w.heap.size w (w.alloc (.cells #[.int .i64 M.lvl, .slice A n c, .slice B m d] 56)) := (Below.refl _ _).alloc (Nat.le_refl _) _
  have N1 := N.below b1 N.lt
  have X1 : NB (w.alloc (.cells #[.int .i64 M.lvl, .slice A n c, .slice B m d] 56)) w.heap.size M.lvl A n c B m d := NB.new w _ _ _ _ _ _ _ _
  have q0 := X1.c0
  have q1 := X1.c1
  have q2 := X1.c2
  go_enter Tryz.func39, Tryz.ntmps39
  go_wp2_with (first
    | (refine wp_store_nd rfl (.tmp 2) _ rfl lb rfl M.lvl A n c B m d rfl N1 ?_; intro w2 N2 T2)
    | fail)
  go_end0
  exact ⟨rfl, N2, (turn_below (S := fun k => k = lb) b1).trans T2 fun _ h => .inl h⟩
theorem get_visit {w0 : World} {lb : Nat} : Visit w0 39 #[.pointer (some ⟨lb, 0, none⟩)] (GInv w0 lb) where
  ent := fun _ _ => by kernel_rfl
  in_ := fun h k hk => by
    obtain ⟨lo, hi, A, n, c, B, m, d, N, H, h1, h2, h3, h4⟩ := h
    have := N.lt
    have := H.1
    rcases (h4 k).1 hk with rfl | ⟨h5, h6⟩
    · exact ⟨h2, N.lt⟩
    · omega
  keep := fun h t hS => by
    obtain ⟨lo, hi, A, n, c, B, m, d, N, H, h1, h2, h3, h4⟩ := h
    exact ⟨lo, hi, A, n, c, B, m, d, N.turned t fun h => hS _ h ((h4 lb).2 (.inl rfl)), H.turn t fun k a b h => hS _ h ((h4 k).2 (.inr ⟨a, b⟩)), h1, h2, h3, h4⟩
  call := fun {vs T w lo hi a M A n c B m d} h H' hd hlo _ => by
    obtain ⟨lo0, hi0, A0, n0, c0, B0, m0, d0, N, H, h1, h2, h3, h4⟩ := h
    refine (getClo_any a M A n c B m d N).mono ?_
    rintro e w' ⟨rfl, N2, X⟩
    have hlb : ¬ (lo ≤ lb ∧ lb < hi) := fun h => hd lb h.1 h.2 ((h4 lb).2 (.inl rfl))
    refine ⟨rfl, fun k => k = lb ∨ (lo ≤ k ∧ k < hi), ⟨lo, hi, A, n, c, B, m, d, by rw [lastN_snoc]; exact N2, by rw [lastN_snoc]; exact H'.turn X (fun k a b h => hlb ⟨by rw [← h]; exact a, by rw [← h]; exact b⟩), by omega, h2, hlo, fun _ => Iff.rfl⟩, X.mono fun k hk => (h4 k).2 (.inl hk), fun k hk => ?_⟩
    rcases hk with rfl | hk
    · exact .inl ((h4 k).2 (.inl rfl))
    · exact .inr (.inr hk)
theorem held_zero (w : World) : Held w w.heap.size w.heap.size none 0 0 none 0 0 nodeZ :=
  ⟨Nat.le_refl _, by omega, by omega, fun w' _ _ => ⟨irow_nil _ _, kidl_nil _, fun j hj => absurd hj (Nat.not_lt_zero _)⟩⟩

set_option maxRecDepth 100000 in
set_option maxHeartbeats 8000000 in
theorem fget_any {w : World} {p : Nat} {R : Int → Nd × Int} (H : Src w p R) (ht : Tab w) (root : Int) (k : Kd) :
    Calls Tryz.prog 14 #[.pointer (some ⟨p, 0, none⟩), .int .i64 root, .agg #[.int .i64 k.obj, .int .i64 k.kind, .int .i64 k.off]] w fun e w' => ∃ A n c, e = .returned (.tuple #[.slice A n c, .int .i64 (getT R k root).2]) ∧ Sl w' A n c (getT R k root).1 ∧ Below w.heap.size w w' := by
  have K1 : KB ((w.alloc (.cells #[.int .i64 k.obj, .int .i64 k.kind, .int .i64 k.off] 39)).alloc (.cells #[.int .i64 0, .slice none 0 0, .slice none 0 0] 56)) w.heap.size k := (KB.new w k.obj k.kind k.off _).below ((Below.refl _ _).alloc (Nat.le_refl _) _) (by simp)
  have N1 : NB ((w.alloc (.cells #[.int .i64 k.obj, .int .i64 k.kind, .int .i64 k.off] 39)).alloc (.cells #[.int .i64 0, .slice none 0 0, .slice none 0 0] 56)) (w.heap.size + 1) 0 none 0 0 none 0 0 := NB.new2 w _ _ _ _ _ _ _ _ _
  have b1 : Below w.heap.size w ((w.alloc (.cells #[.int .i64 k.obj, .int .i64 k.kind, .int .i64 k.off] 39)).alloc (.cells #[.int .i64 0, .slice none 0 0, .slice none 0 0] 56)) := ((Below.refl _ _).alloc (Nat.le_refl _) _).alloc (by simp) _
  have z1 : ((w.alloc (.cells #[.int .i64 k.obj, .int .i64 k.kind, .int .i64 k.off] 39)).alloc (.cells #[.int .i64 0, .slice none 0 0, .slice none 0 0] 56)).heap.size = w.heap.size + 2 := by simp
  have hG := Lib.hid (getT_down R k root)
  have hL := Lib.hid (fun h => downT_last (k := k) (root := root) H.may h)
  obtain ⟨F, hF⟩ : ∃ F, downT R k root = F := ⟨_, rfl⟩
  obtain ⟨G, hGe⟩ : ∃ G, getT R k root = G := ⟨_, rfl⟩
  rw [hF] at hG hL
  rw [hGe] at hG ⊢
  have HF := Lib.hid hF
  clear hF hGe
  have k0 := K1.c0
  have k1 := K1.c1
  have k2 := K1.c2
  go_enter Tryz.func14, Tryz.ntmps14
  go_wp2_with fail
  generalize (w.alloc (.cells #[.int .i64 k.obj, .int .i64 k.kind, .int .i64 k.off] 39)).alloc (.cells #[.int .i64 0, .slice none 0 0, .slice none 0 0] 56) = w1 at K1 N1 b1 z1 k0 k1 k2 ⊢
  have I1 : GInv w (w.heap.size + 1) [] (fun k => k = w.heap.size + 1) w1 := ⟨w1.heap.size, w1.heap.size, none, 0, 0, none, 0, 0, N1, held_zero w1, .inl (by omega), by omega, by omega, fun k => ⟨.inl, fun h => h.elim id fun h => by omega⟩⟩
  refine (cdown_any H get_visit b1 ht root k _ I1).mono ?_
  rw [HF.out]
  rintro e w2 ⟨rfl, T, ⟨lo, hi, A, n, c, B, m, d, N2, Hd, -, -, -, -⟩, b2, X2⟩
  have K2 := K1.keep (X2.block _ K1.lt (by show ¬ w.heap.size = w.heap.size + 1; omega))
  clear k0 k1 k2 I1
  obtain ⟨M, hM⟩ : ∃ M, lastN F.1 = M := ⟨_, rfl⟩
  obtain ⟨E, hE⟩ : ∃ E, F.2 = E := ⟨_, rfl⟩
  rw [hM] at N2 Hd
  rw [hM, hE] at hG hL
  rw [hE]
  clear hM hE HF
  by_cases h0 : E = 0
  · subst h0
    obtain ⟨-, hfit, hin⟩ := hL.out rfl
    have hGo := hG.out
    rw [if_neg (by simp)] at hGo
    obtain ⟨t, htt⟩ : ∃ t, M.seek k = t := ⟨_, rfl⟩
    obtain ⟨r, hr⟩ : ∃ r, foundAt M.keys k t = r := ⟨_, rfl⟩
    obtain ⟨r2, s2⟩ := Hd.rows
    have hml : M.items.length = n := r2.itms.len
    have Hsk := Lib.hid (cseek_any M hfit k t htt r hr A n c B m d w2 r2.itms s2 (by have := Hd.2.1; omega) (by have := Hd.2.2.1; omega))
    have p0 := N2.c0
    have p1 := N2.c1
    have p2 := N2.c2
    have k0 := K2.c0
    have k1 := K2.c1
    have k2 := K2.c2
    unfold leafGet at hGo
    rw [htt, hr] at hGo
    rw [htt, hr, hml] at hin
    have hin := Lib.hid hin
    have hml := Lib.hid hml
    clear hfit hG hL htt hr r2 s2
    cases r with
    | false =>
      rw [if_neg (by simp)] at hGo
      subst hGo
      go_wp2_with fail
      refine Hsk.out.mono ?_
      rintro e w3 ⟨rfl, b3⟩
      clear p0 p1 p2 k0 k1 k2
      go_wp2_with fail
      go_ret2
      exact ⟨none, 0, 0, rfl, sl_nil _, b2.trans (b3.mono b2.size)⟩
    | true =>
      rw [if_pos rfl] at hGo
      have htn := hin.out rfl
      have Hg := Lib.hid hGo
      clear hGo
      go_wp2_with fail
      refine Hsk.out.mono ?_
      rintro e w3 ⟨rfl, b3⟩
      have q1 := (N2.below b3 N2.lt).c1
      clear p0 p1 p2 k0 k1 k2
      obtain ⟨r3, -⟩ := (Hd.below b3).rows
      obtain ⟨g, o, V, a, b, rfl, hg, -, -, -, y3, hs⟩ := r3.itms.cell htn
      have e0 : (0 : Int) ≤ (t : Int) := by omega
      have e1 : (t : Int) < (n : Int) := by omega
      obtain ⟨_, hdm⟩ := r3.itms.bounds
      clear r3
      go_wp2_with fail
      go_ret2
      refine ⟨V, a, b, by rw [Hg.out]; rfl, by rw [Hg.out]; exact hs, b2.trans (b3.mono b2.size)⟩
  · have hGo := hG.out
    rw [if_pos h0] at hGo
    have g1 : (E == 0) = false := by simp [h0]
    have g2 : (E != 0) = true := by simp [h0]
    subst hGo
    clear h0 hG hL
    go_wp2_with fail
    go_ret2
    exact ⟨none, 0, 0, rfl, sl_nil _, b2⟩

set_option maxRecDepth 100000 in
set_option maxHeartbeats 8000000 in
theorem fheight_any {w : World} {p : Nat} {R : Int → Nd × Int} (H : Src w p R) (ht : Tab w) (root : Int) :
    Calls Tryz.prog 19 #[.pointer (some ⟨p, 0, none⟩), .int .i64 root] w fun e w' => e = .returned (.tuple #[.int .i64 (highT R root).1, .int .i64 (highT R root).2]) ∧ Below w.heap.size w w' := by
  obtain ⟨G, hGe⟩ : ∃ G, highT R root = G := ⟨_, rfl⟩
  rw [hGe]
  unfold highT at hGe
  by_cases h0 : root = 0
  · rw [if_pos h0] at hGe
    subst h0
    subst hGe
    go_enter Tryz.func19, Tryz.ntmps19
    go_wp2_with fail
    go_ret2
    exact ⟨rfl, Below.refl _ _⟩
  · rw [if_neg h0] at hGe
    have Hn := Lib.hid (H.node w (Below.refl _ _) ht root)
    have hm := H.may root
    obtain ⟨M, E, hR⟩ : ∃ M E, R root = (M, E) := ⟨_, _, rfl⟩
    rw [hR] at hGe Hn hm
    dsimp only at hGe hm
    have g3 : (root == 0) = false := by simp [h0]
    have g4 : decide (root = 0) = false := decide_eq_false h0
    clear hR h0
    by_cases hE : E = 0
    · subst hE
      rw [if_neg (by simp)] at hGe
      have hl : 0 ≤ M.lvl ∧ M.lvl < 8 := by
        by_cases h1 : M.lvl = 0
        · omega
        · have := may_inner_kids (hm rfl) h1; omega
      obtain ⟨hl0, hl8⟩ := hl
      subst hGe
      clear hm
      go_enter Tryz.func19, Tryz.ntmps19
      go_wp2_with fail
      refine Hn.out.mono ?_
      rintro e w2 ⟨A1, n1, c1, B1, m1, d1, rfl, hn1, hm1, hI, hKo, b2⟩
      have N3 : NB (w2.alloc (.cells #[.int .i64 0, .slice none 0 0, .slice none 0 0] 56)) w2.heap.size 0 none 0 0 none 0 0 := NB.new w2 _ _ _ _ _ _ _ _
      have b3 : Below w2.heap.size w2 (w2.alloc (.cells #[.int .i64 0, .slice none 0 0, .slice none 0 0] 56)) := (Below.refl _ _).alloc (Nat.le_refl _) _
      clear hI hKo
      go_wp2_with (first
        | (refine wp_store_nd rfl (.tmp 6) _ rfl w2.heap.size rfl M.lvl A1 n1 c1 B1 m1 d1 rfl N3 ?_; intro w4 N4 T4; have q0 := N4.c0)
        | fail)
      go_ret2
      have hz := b2.size
      exact ⟨rfl, b2.trans ((b3.mono hz).trans (T4.below (fun k hk => by have : k = w2.heap.size := hk; omega) (by have := b3.size; omega)))⟩
    · rw [if_pos hE] at hGe
      subst hGe
      have g1 : (E == 0) = false := by simp [hE]
      have g2 : (E != 0) = true := by simp [hE]
      clear hE hm
      go_enter Tryz.func19, Tryz.ntmps19
      go_wp2_with fail
      refine Hn.out.mono ?_
      rintro e w2 ⟨A1, n1, c1, B1, m1, d1, rfl, hn1, hm1, hI, hKo, b2⟩
      have N3 : NB (w2.alloc (.cells #[.int .i64 0, .slice none 0 0, .slice none 0 0] 56)) w2.heap.size 0 none 0 0 none 0 0 := NB.new w2 _ _ _ _ _ _ _ _
      have b3 : Below w2.heap.size w2 (w2.alloc (.cells #[.int .i64 0, .slice none 0 0, .slice none 0 0] 56)) := (Below.refl _ _).alloc (Nat.le_refl _) _
      clear hI hKo
      go_wp2_with (first
        | (refine wp_store_nd rfl (.tmp 6) _ rfl w2.heap.size rfl M.lvl A1 n1 c1 B1 m1 d1 rfl N3 ?_; intro w4 N4 T4)
        | fail)
      go_ret2
      have hz := b2.size
      exact ⟨rfl, b2.trans ((b3.mono hz).trans (T4.below (fun k hk => by have : k = w2.heap.size := hk; omega) (by have := b3.size; omega)))⟩
end Go.Proofs.YtgedmodnkiijkaaGreatDoor

namespace Go.Proofs.YtgedmodnkiijkaaGreatDoor
open Go Go.RowKit Go.Proofs

/-- What Path's visitor keeps: the addresses, in a row of its own. -/
def PInv (w0 : World) (vb : Nat) (vs : List (Int × Nd)) (T : Nat → Prop) (w : World) : Prop :=
  ∃ (t : TypeId) (A : Option Addr) (n c : Nat), w.heap[vb]? = some (.cells #[.slice A n c] t (0, 0)) ∧ n = vs.length ∧ OwnS w w0.heap.size 3 1 A n c ((vs.map (·.1)).map iv) ∧ w0.heap.size ≤ vb ∧ w0.heap.size ≤ w.heap.size ∧ (∀ k, blockOf A = some k → k ≠ vb) ∧ ∀ k, T k ↔ k = vb ∨ blockOf A = some k
set_option maxRecDepth 100000 in
set_option maxHeartbeats 4000000 in
theorem pathClo_any {w : World} {vb base : Nat} (a : Int) (M : Nd) (A1 : Option Addr) (n1 c1 : Nat) (B1 : Option Addr) (m1 d1 : Nat) {t : TypeId} {A : Option Addr} {n c : Nat} {xs : List (List Value)} (hv : w.heap[vb]? = some (.cells #[.slice A n c] t (0, 0))) (hown : OwnS w base 3 1 A n c xs) (hA : ∀ k, blockOf A = some k → k ≠ vb) (hn : n ≤ 1000) (hb : base ≤ w.heap.size) :
    Calls Tryz.prog 45 #[.int .i64 a, .agg #[.int .i64 M.lvl, .slice A1 n1 c1, .slice B1 m1 d1], .pointer (some ⟨vb, 0, none⟩)] w fun e w' => e = .returned (.tuple #[]) ∧ ∃ A' c', w'.heap[vb]? = some (.cells #[.slice A' (n + 1) c'] t (0, 0)) ∧ OwnS w' base 3 1 A' (n + 1) c' (xs ++ [iv a]) ∧ Turn (fun k => k = vb ∨ blockOf A = some k) w w' ∧ (blockOf A' = blockOf A ∨ blockOf A' = some (w.heap.size + 2)) := by
  have hvl := lt_of_heap hv
  have b1 : Below w.heap.size w ((w.alloc (.cells #[.int .i64 M.lvl, .slice A1 n1 c1, .slice B1 m1 d1] 56)).alloc (.cells #[.int .i64 a] 3)) := ((Below.refl _ _).alloc (Nat.le_refl _) _).alloc (by simp) _
  have z1 : ((w.alloc (.cells #[.int .i64 M.lvl, .slice A1 n1 c1, .slice B1 m1 d1] 56)).alloc (.cells #[.int .i64 a] 3)).heap.size = w.heap.size + 2 := by simp
  have h1 := cell_of_one ((((Below.refl w.heap.size w).alloc (Nat.le_refl _) (.cells #[.int .i64 M.lvl, .slice A1 n1 c1, .slice B1 m1 d1] 56)).block vb hvl).trans hv)
  have hlit : Sls ((w.alloc (.cells #[.int .i64 M.lvl, .slice A1 n1 c1, .slice B1 m1 d1] 56)).alloc (.cells #[.int .i64 a] 3)) 1 (some ⟨w.heap.size + 1, 0, none⟩) 1 1 [iv a] := by
    have := lit1_int (w.alloc (.cells #[.int .i64 M.lvl, .slice A1 n1 c1, .slice B1 m1 d1] 56)) a
    rwa [World.size_alloc] at this
  have hown1 := hown.below b1
  have hv1 := (b1.block vb hvl).trans hv
  go_enter Tryz.func45, Tryz.ntmps45
  go_wp2_with (first
    | (at_builtin; refine wp_append_g _ TInt rfl _ _ rfl base A n c xs rfl hown1 (some ⟨w.heap.size + 1, 0, none⟩) 1 1 [iv a] rfl hlit (by omega) (iv_one a) (by omega) (by omega) (by omega) ?_)
    | fail)
  intro A' c' w3 own3 T3 hA' _
  have hv3 := (T3.block vb (by omega) (fun h => hA vb h rfl)).trans hv1
  have h3 := cell_of_one hv3
  have f3 := free_of_one hv3
  have hne : ∀ k, blockOf A' = some k → k ≠ vb := fun k hk => by
    rcases hA' with h | h
    · exact hA k (h ▸ hk)
    · rw [h] at hk
      have := Option.some.inj hk
      omega
  have TS : Turn (fun k => k = vb) w3 (w3.setCell ⟨vb, 0, none⟩ (.slice A' (n + 1) c')) := turn_setCell (a := ⟨vb, 0, none⟩) _ rfl
  clear h1
  go_wp2
  go_end0
  refine ⟨rfl, A', c', one_setCell hv3, OwnS.turned own3 TS hne, ((turn_below (S := fun k => k = vb ∨ blockOf A = some k) b1).trans T3 (fun k h => .inl (.inr h))).trans TS (fun k h => .inl (.inl h)), ?_⟩
  exact hA'
theorem path_visit {w0 : World} {vb : Nat} : Visit w0 45 #[.pointer (some ⟨vb, 0, none⟩)] (PInv w0 vb) where
  ent := fun _ _ => by kernel_rfl
  in_ := fun h k hk => by
    obtain ⟨t, A, n, c, hv, hn, hown, h1, h2, h3, h4⟩ := h
    rcases (h4 k).1 hk with rfl | h5
    · exact ⟨h1, lt_of_heap hv⟩
    · exact hown.blockLt k h5
  keep := fun h tt hS => by
    obtain ⟨t, A, n, c, hv, hn, hown, h1, h2, h3, h4⟩ := h
    exact ⟨t, A, n, c, (tt.block vb (lt_of_heap hv) (fun h => hS _ h ((h4 vb).2 (.inl rfl)))).trans hv, hn, hown.turned tt (fun k hk h => hS k h ((h4 k).2 (.inr hk))), h1, Nat.le_trans h2 tt.size, h3, h4⟩
  call := fun {vs T w lo hi a M A1 n1 c1 B1 m1 d1} h H' hd hlo hvs => by
    obtain ⟨t, A, n, c, hv, hn, hown, h1, h2, h3, h4⟩ := h
    subst hn
    refine (pathClo_any a M A1 n1 c1 B1 m1 d1 hv hown h3 (by omega) h2).mono ?_
    rintro e w' ⟨rfl, A', c', hv', own', X, hA'⟩
    have hz := X.size
    refine ⟨rfl, fun k => k = vb ∨ blockOf A' = some k, ⟨t, A', _, c', hv', by simp, ?_, h1, by omega, fun k hk => ?_, fun _ => Iff.rfl⟩, X.mono fun k hk => (h4 k).2 hk, fun k hk => ?_⟩
    · rw [List.map_append, List.map_append]
      exact own'
    · rcases hA' with h | h
      · exact h3 k (h ▸ hk)
      · rw [h] at hk
        have := Option.some.inj hk
        have := lt_of_heap hv
        omega
    · rcases hk with rfl | hk
      · exact .inl ((h4 k).2 (.inl rfl))
      · rcases hA' with h | h
        · exact .inl ((h4 k).2 (.inr (h ▸ hk)))
        · rw [h] at hk
          have := Option.some.inj hk
          exact .inr (.inl (by omega))

set_option maxRecDepth 100000 in
set_option maxHeartbeats 8000000 in
theorem fpath_any {w : World} {p : Nat} {R : Int → Nd × Int} (H : Src w p R) (ht : Tab w) (root : Int) (k : Kd) :
    Calls Tryz.prog 20 #[.pointer (some ⟨p, 0, none⟩), .int .i64 root, .agg #[.int .i64 k.obj, .int .i64 k.kind, .int .i64 k.off]] w fun e w' => ∃ A n c, e = .returned (.tuple #[.slice A n c, .int .i64 (pathT R k root).2]) ∧ Intl w' A n c (pathT R k root).1 ∧ Below w.heap.size w w' := by
  have K1 : KB ((w.alloc (.cells #[.int .i64 k.obj, .int .i64 k.kind, .int .i64 k.off] 39)).alloc (.cells #[.slice none 0 0] 23)) w.heap.size k := (KB.new w k.obj k.kind k.off _).below ((Below.refl _ _).alloc (Nat.le_refl _) _) (by simp)
  have V1 : ((w.alloc (.cells #[.int .i64 k.obj, .int .i64 k.kind, .int .i64 k.off] 39)).alloc (.cells #[.slice none 0 0] 23)).heap[w.heap.size + 1]? = some (.cells #[.slice none 0 0] 23 (0, 0)) := by
    have := heap_alloc_new (w.alloc (.cells #[.int .i64 k.obj, .int .i64 k.kind, .int .i64 k.off] 39)) (.cells #[.slice none 0 0] 23)
    rwa [World.size_alloc] at this
  have b1 : Below w.heap.size w ((w.alloc (.cells #[.int .i64 k.obj, .int .i64 k.kind, .int .i64 k.off] 39)).alloc (.cells #[.slice none 0 0] 23)) := ((Below.refl _ _).alloc (Nat.le_refl _) _).alloc (by simp) _
  have z1 : ((w.alloc (.cells #[.int .i64 k.obj, .int .i64 k.kind, .int .i64 k.off] 39)).alloc (.cells #[.slice none 0 0] 23)).heap.size = w.heap.size + 2 := by simp
  have hG := Lib.hid (pathT_down R k root)
  obtain ⟨F, hF⟩ : ∃ F, downT R k root = F := ⟨_, rfl⟩
  obtain ⟨G, hGe⟩ : ∃ G, pathT R k root = G := ⟨_, rfl⟩
  rw [hF] at hG
  rw [hGe] at hG ⊢
  have HF := Lib.hid hF
  clear hF hGe
  have k0 := K1.c0
  have k1 := K1.c1
  have k2 := K1.c2
  go_enter Tryz.func20, Tryz.ntmps20
  go_wp2_with fail
  generalize (w.alloc (.cells #[.int .i64 k.obj, .int .i64 k.kind, .int .i64 k.off] 39)).alloc (.cells #[.slice none 0 0] 23) = w1 at K1 V1 b1 z1 k0 k1 k2 ⊢
  have I1 : PInv w (w.heap.size + 1) [] (fun k => k = w.heap.size + 1) w1 := ⟨_, none, 0, 0, V1, rfl, owns_none _ _ _ _, by omega, by omega, fun k h => (by cases h), fun k => ⟨.inl, fun h => h.elim id fun h => (by cases h)⟩⟩
  refine (cdown_any H path_visit b1 ht root k _ I1).mono ?_
  rw [HF.out]
  rintro e w2 ⟨rfl, T, ⟨t, A, _, c, hv, rfl, hown, -, -, -, -⟩, b2, X2⟩
  clear k0 k1 k2 I1
  have hc := cell_of_one hv
  obtain ⟨E, hE⟩ : ∃ E, F.2 = E := ⟨_, rfl⟩
  have hGo := hG.out
  rw [hE] at hGo ⊢
  clear hE HF hG
  by_cases h0 : E = 0
  · subst h0
    rw [if_neg (by simp)] at hGo
    have Hg := Lib.hid hGo
    clear hGo
    go_wp2_with fail
    go_ret2
    exact ⟨A, _, c, by rw [Hg.out]; rfl, by rw [Hg.out]; show Intl _ _ _ _ (F.1.map (·.1)); exact hown.sls (by omega), b2⟩
  · rw [if_pos h0] at hGo
    have g1 : (E == 0) = false := by simp [h0]
    have g2 : (E != 0) = true := by simp [h0]
    subst hGo
    clear h0
    go_wp2_with fail
    go_ret2
    exact ⟨none, 0, 0, rfl, sls_nil _ _, b2⟩
end Go.Proofs.YtgedmodnkiijkaaGreatDoor
