/- The call's own row of items whose values lie anywhere but in the row's own block; plain facts of the reference's loops over a row. The reference's Get over a row of items. The reference's Scan over a row of items. The reference's SameItems, of rows that are the same, and of rows of unlike length. -/
import Derived.Test.YtgedmodnkiijkaaGreatDoorFn5
import Derived.Test.YtgedmodnkiijkaaGreatDoorFn6
import Derived.Test.YtgedmodnkiijkaaGreatDoorGrown
import Derived.Test.YtgedmodnkiijkaaGreatDoorFn9
namespace Go.Proofs.YtgedmodnkiijkaaGreatDoor
open Go Go.RowKit Go.Proofs

/-- The own row of items; the values may be shared. -/
def JRow (w : World) (base : Nat) (A : Option Addr) (n c : Nat) (xs : List Itm) : Prop :=
  ∃ raw, OwnS w base 41 4 A n c raw ∧ raw.length = xs.length ∧ ∀ (j : Nat) r x, raw[j]? = some r → xs[j]? = some x → ∃ V p q, r = itvs x.k V p q ∧ Sl w V p q x.v ∧ (x.v ≠ [] → ∀ g, blockOf V = some g → blockOf A ≠ some g)
section
variable {w w' : World} {base n c : Nat} {A : Option Addr} {xs : List Itm}
theorem jrow_lit0 (w : World) : JRow (w.alloc (.cells #[] 41)) w.heap.size (some ⟨w.heap.size, 0, none⟩) 0 0 [] := ⟨[], owns_lit0 w _ 4, rfl, fun j r x hr => by simp at hr⟩
theorem JRow.below (h : JRow w base A n c xs) (hb : Below w.heap.size w w') : JRow w' base A n c xs := by
  obtain ⟨raw, h1, h2, h3⟩ := h
  refine ⟨raw, h1.below hb, h2, fun j r x hr hx => ?_⟩
  obtain ⟨V, p, q, e, hs, hne⟩ := h3 j r x hr hx
  exact ⟨V, p, q, e, hs.below hb, hne⟩
theorem JRow.itms (h : JRow w base A n c xs) : Itms w A n c xs := by
  obtain ⟨raw, h1, h2, h3⟩ := h
  refine ⟨raw, h1.sls (by omega), h2, fun j r x hr hx => ?_⟩
  obtain ⟨V, p, q, e, hs, _⟩ := h3 j r x hr hx
  exact ⟨V, p, q, e, hs⟩
theorem JRow.less {b : Nat} (h : JRow w base A n c xs) (hb : b ≤ base) : JRow w b A n c xs := by
  obtain ⟨raw, h1, h2⟩ := h
  exact ⟨raw, h1.less hb, h2⟩
theorem JRow.blockLt (h : JRow w base A n c xs) : ∀ k, blockOf A = some k → base ≤ k ∧ k < w.heap.size := by
  obtain ⟨raw, h1, _⟩ := h
  exact h1.blockLt
end
/-- append of one item whose value lies anywhere but in the row's own block. -/
theorem jitem_run {w : World} (ty : TypeId) (base : Nat) (A : Option Addr) (n c : Nat) (xs : List Itm) (hown : JRow w base A n c xs)
    (B : Option Addr) (d : Nat) (it : Itm) (V : Option Addr) (p q : Nat) (hr : Sls w 4 B 1 d [itvs it.k V p q]) (hv : Sl w V p q it.v) (hva : it.v ≠ [] → ∀ g, blockOf V = some g → blockOf A ≠ some g) (hn : n ≤ 100000) (hbase : base ≤ w.heap.size) :
    ∃ A' c' w', (Builtin.append_ #[22, 22] ty #[.slice A n c, .slice B 1 d]).run Tryz.prog w = .ok (.slice A' (n + 1) c') w' ∧ JRow w' base A' (n + 1) c' (xs ++ [it]) ∧ Turn (fun k => blockOf A = some k) w w' ∧ (blockOf A' = blockOf A ∨ blockOf A' = some w.heap.size) := by
  obtain ⟨raw, h1, h2, h3⟩ := hown
  obtain ⟨A', c', w', hrun, own', T, hA', _⟩ := run_append_g (P := Tryz.prog) w TItem ty base A n c raw h1 B 1 d [itvs it.k V p q] hr (by omega) (itvs_one _ _ _ _) (by omega) (by omega) hbase
  refine ⟨A', c', w', hrun, ⟨_, own', by simp [h2], fun j r x hr hx => ?_⟩, T, hA'⟩
  have old : ∀ (V : Option Addr) (p q : Nat) (v : List UInt8), Sl w V p q v → (v ≠ [] → ∀ g, blockOf V = some g → blockOf A ≠ some g) → Sl w' V p q v ∧ (v ≠ [] → ∀ g, blockOf V = some g → blockOf A' ≠ some g) := by
    intro V p q v hs hne
    refine ⟨hs.turned' T (fun hl k hk e => hne hl k hk e), fun hl g hg => fun e => ?_⟩
    rcases hA' with h5 | h5
    · exact (hne hl g hg) (h5.symm.trans e)
    · have := hs.blockLt hl g hg
      rw [h5] at e
      have := Option.some.inj e
      omega
  by_cases hj : j < raw.length
  · rw [List.getElem?_append_left hj] at hr
    rw [List.getElem?_append_left (by omega)] at hx
    obtain ⟨V', p', q', e, hs', hne⟩ := h3 j r x hr hx
    obtain ⟨o1, o2⟩ := old V' p' q' x.v hs' hne
    exact ⟨V', p', q', e, o1, o2⟩
  · rw [List.getElem?_append_right (by omega)] at hr hx
    have hj0 : j - raw.length = 0 := by
      have := (List.getElem?_eq_some_iff.1 hr).1
      simp at this; omega
    rw [hj0] at hr
    rw [← h2, hj0] at hx
    obtain rfl : itvs it.k V p q = r := by simpa using hr
    obtain rfl : it = x := by simpa using hx
    obtain ⟨o1, o2⟩ := old V p q it.v hv hva
    exact ⟨V, p, q, rfl, o1, o2⟩
theorem wp_append_jitem {w : World} {ops : Array Oper} {rest : List Oper} {o : Oper} {a : Act} {Q : Exit → Act → World → Prop} (hgd : o.guard = none) (so x : Operand)
    (ho : o.op = .call { callee := .builtin .append, args := #[so, x], argTypes := #[22, 22] })
    (base : Nat) (A : Option Addr) (n c : Nat) (xs : List Itm) (hs : a.eval so = .slice A n c) (hown : JRow w base A n c xs)
    (B : Option Addr) (d : Nat) (it : Itm) (V : Option Addr) (p q : Nat) (hx : a.eval x = .slice B 1 d) (hr : Sls w 4 B 1 d [itvs it.k V p q]) (hv : Sl w V p q it.v) (hva : it.v ≠ [] → ∀ g, blockOf V = some g → blockOf A ≠ some g) (hn : n ≤ 100000) (hbase : base ≤ w.heap.size)
    (h : ∀ A' c' w', JRow w' base A' (n + 1) c' (xs ++ [it]) → Turn (fun k => blockOf A = some k) w w' → wpList Tryz.prog ops Q rest (a.put o.dst (.slice A' (n + 1) c')) w') : wpList Tryz.prog ops Q (o :: rest) a w :=
  wpList_plain hgd fun K hK => by
    obtain ⟨A', c', w', hrun, h2, h3, h4⟩ := jitem_run o.type base A n c xs hown B d it V p q hr hv hva hn hbase
    unfold Oper.wp execOp
    simp only [ho, resolve, invoke, builtin, Sem.run_bind, Sem.run_pure, Result.andThen_ok, List.map_toArray, List.map_cons, List.map_nil, hs, hx, hrun]
    exact hK _ _ (h A' c' w' h2 h3)
/-- .. in a region that draws. -/
theorem step_append_jitem {w : World} {ops : Array Oper} {o : Oper} {a : Act} {K : Act → World → Prop} {Q : Exit → Act → World → Prop} {E : Prop} (hgd : o.guard = none) (so x : Operand)
    (ho : o.op = .call { callee := .builtin .append, args := #[so, x], argTypes := #[22, 22] })
    (base : Nat) (A : Option Addr) (n c : Nat) (xs : List Itm) (hs : a.eval so = .slice A n c) (hown : JRow w base A n c xs)
    (B : Option Addr) (d : Nat) (it : Itm) (V : Option Addr) (p q : Nat) (hx : a.eval x = .slice B 1 d) (hr : Sls w 4 B 1 d [itvs it.k V p q]) (hv : Sl w V p q it.v) (hva : it.v ≠ [] → ∀ g, blockOf V = some g → blockOf A ≠ some g) (hn : n ≤ 100000) (hbase : base ≤ w.heap.size)
    (h : ∀ A' c' w', JRow w' base A' (n + 1) c' (xs ++ [it]) → Turn (fun k => blockOf A = some k) w w' → K (a.put o.dst (.slice A' (n + 1) c')) w') :
    if Region.wanted o (yielded ops a.tmps) = true then Oper.wp Tryz.prog o a w K Q else E := by
  rw [if_pos (by simp [Region.wanted, hgd])]
  obtain ⟨A', c', w', hrun, h2, h3, h4⟩ := jitem_run o.type base A n c xs hown B d it V p q hr hv hva hn hbase
  unfold Oper.wp execOp
  simp only [ho, resolve, invoke, builtin, Sem.run_bind, Sem.run_pure, Result.andThen_ok, List.map_toArray, List.map_cons, List.map_nil, hs, hx, hrun]
  exact h A' c' w' h2 h3
/-- The rest of a row, from its j-th item on. -/
theorem drop_it {l : List Itm} {j : Nat} (h : j < l.length) : l.drop j = itAt l j :: l.drop (j + 1) := by
  have hx := itAt_get h
  rw [List.getElem?_eq_getElem h] at hx
  rw [← List.getElem_cons_drop (h := h), Option.some.inj hx]
theorem valOf_at {l : List Itm} {k : Kd} {i : Nat} (hi : i < l.length) (h : ∀ j, j < i → (itAt l j).k.same k = false) (hs : (itAt l i).k.same k = true) : valOf l k = some (itAt l i).v := by
  have e : itAt l i = l[i] := by unfold itAt; rw [List.getD_eq_getElem?_getD, List.getElem?_eq_getElem hi]; rfl
  have : l.find? (fun x => x.k.same k) = some l[i] := by
    rw [List.find?_eq_some_iff_getElem]
    refine ⟨by rw [← e]; exact hs, i, hi, rfl, fun q hq => ?_⟩
    have h1 := h q hq
    have e2 : itAt l q = l[q] := by unfold itAt; rw [List.getD_eq_getElem?_getD, List.getElem?_eq_getElem (by omega)]; rfl
    rw [e2] at h1
    rw [h1]; rfl
  unfold valOf
  rw [this, e]
  rfl
theorem valOf_end {l : List Itm} {k : Kd} (h : ∀ j, j < l.length → (itAt l j).k.same k = false) : valOf l k = none := by
  have : l.find? (fun x => x.k.same k) = none := by
    rw [List.find?_eq_none]
    intro x hx
    obtain ⟨q, hq, e⟩ := List.getElem_of_mem hx
    have h1 := h q hq
    have e2 : itAt l q = x := by unfold itAt; rw [List.getD_eq_getElem?_getD, List.getElem?_eq_getElem hq, e]; rfl
    rw [e2] at h1
    rw [h1]; simp
  unfold valOf
  rw [this]
  rfl
end Go.Proofs.YtgedmodnkiijkaaGreatDoor

namespace Go.Proofs.YtgedmodnkiijkaaGreatDoor
open Go Go.RowKit Go.Proofs

set_option maxHeartbeats 8000000 in
theorem rget_any (A : Option Addr) (n c : Nat) (l : List Itm) (k : Kd) (w : World) (hI : Itms w A n c l) (hn : n ≤ 1000) :
    Calls Tryz.prog 15 #[.slice A n c, .agg #[.int .i64 k.obj, .int .i64 k.kind, .int .i64 k.off]] w fun e w' => ∃ B m d, e = .returned (.tuple #[.slice B m d, .int .i64 (gotOf (valOf l k)).2]) ∧ Sl w' B m d (gotOf (valOf l k)).1 ∧ Below w.heap.size w w' := by
  have hl := Lib.hid hI.len
  obtain ⟨K0, bB⟩ := boxes1 w k
  obtain ⟨E, hE⟩ : ∃ E, gotOf (valOf l k) = E := ⟨_, rfl⟩
  rw [hE]
  go_enter Tryz.func15, Tryz.ntmps15
  go_wp2_with fail
  generalize w.alloc (.cells #[.int .i64 k.obj, .int .i64 k.kind, .int .i64 k.off] 39) = w1 at K0 bB ⊢
  have z1 := bB.size
  have zk := K0.lt
  go_loopw [6] (fun i wr => ∃ j : Nat, j ≤ n ∧ i = .int .i64 (j : Int) ∧ (∀ q, q < j → (itAt l q).k.same k = false) ∧ Below w1.heap.size w1 wr) (fun i _ => n - (intOf i).toNat)
  case atStart => exact ⟨0, Nat.zero_le _, rfl, fun q h => absurd h (Nat.not_lt_zero _), Below.refl _ _⟩
  case round =>
    obtain ⟨j, hj, rfl, hno, B⟩ := hrel
    have BB := bB.trans (B.mono z1)
    by_cases hlt : j < n
    · obtain ⟨g, o, V, p, q, rfl, hg, c0, c1, c2, c3, hs⟩ := hI.cell hlt
      have zr := B.size
      have hgr : g < wr.heap.size := by omega
      obtain ⟨x, hx⟩ : ∃ x, itAt l j = x := ⟨_, rfl⟩
      rw [hx] at c0 c1 c2 hs
      have K1 := K0.below B zk
      have hb : w.heap.size < wr.heap.size := by omega
      have d0 := fun u : Grown wr => Grown.cell ((BB.cell (p := ⟨g, _, none⟩) hg).trans c0) hgr u
      have d1 := fun u : Grown wr => Grown.cell ((BB.cell (p := ⟨g, _, none⟩) hg).trans c1) hgr u
      have d2 := fun u : Grown wr => Grown.cell ((BB.cell (p := ⟨g, _, none⟩) hg).trans c2) hgr u
      have k0 := fun u : Grown wr => Grown.cell K1.c0 hb u
      have k1 := fun u : Grown wr => Grown.cell K1.c1 hb u
      have k2 := fun u : Grown wr => Grown.cell K1.c2 hb u
      have e0 : (0 : Int) ≤ (j : Int) := by omega
      have e1 : (j : Int) < (n : Int) := by omega
      have hgd := guard_says
      cases hr : x.k.same k with
      | true =>
        have heq := eql_says x.k k true hr
        have hv : E = (x.v, 0) := by rw [← hE, valOf_at (by rw [hl.out]; exact hlt) hno (by rw [hx]; exact hr), hx]; rfl
        subst hv
        have f3 := fun u : Grown wr => Grown.cell ((BB.cell (p := ⟨g, _, none⟩) hg).trans c3) hgr u
        clear hr hno hE c0 c1 c2 c3
        go_wp2_with fail
        refine wp_region_grown (by kernel_rfl) (by kernel_rfl) ?_
        repeat (go_big_quiet_step (fail))
        refine wpQuiet_nil ?_
        rintro _ ⟨u, rfl⟩
        have f3' := f3 u
        have hsu := (hs.below BB).below (u.ok)
        have hBu := BB.trans (u.ok.mono (by omega))
        go_wp2
        go_ret2
        exact ⟨_, _, _, rfl, hsu, hBu⟩
      | false =>
        have heq := eql_says x.k k false hr
        have hno2 : ∀ q, q < j + 1 → (itAt l q).k.same k = false := fun q hq => by
          by_cases h : q < j
          · exact hno q h
          · obtain rfl : q = j := by omega
            rw [hx]; exact hr
        clear hr hno hE c0 c1 c2 c3
        go_wp2_with fail
        refine wp_region_grown (by kernel_rfl) (by kernel_rfl) ?_
        repeat (go_big_quiet_step (fail))
        refine wpQuiet_nil ?_
        rintro _ ⟨u, rfl⟩
        have hBu := B.trans (u.ok.mono zr)
        go_wp2
        exact ⟨⟨j + 1, by omega, by go_num, hno2, hBu⟩, by simp [intOf]; omega⟩
    · obtain rfl : n = j := by omega
      have hv : E = ([], 10) := by rw [← hE, valOf_end (fun q hq => hno q (by rw [hl.out] at hq; exact hq))]; rfl
      subst hv
      clear hno hE
      go_wp2
      go_ret2
      exact ⟨none, 0, 0, rfl, sl_nil _, BB⟩
end Go.Proofs.YtgedmodnkiijkaaGreatDoor

namespace Go.Proofs.YtgedmodnkiijkaaGreatDoor
open Go Go.RowKit Go.Proofs

theorem lit1_item (w : World) (k : Kd) (V : Option Addr) (p q : Nat) : Sls (w.alloc (.cells #[.int .i64 k.obj, .int .i64 k.kind, .int .i64 k.off, .slice V p q] 41)) 4 (some ⟨w.heap.size, 0, none⟩) 1 1 [itvs k V p q] := (owns_lit1 w 41 4 (itvs k V p q) _ rfl rfl).sls (by omega)
theorem scanR_step {fr to : Kd} {most : Nat} {l out : List Itm} {j : Nat} (hj : j < l.length) (hq : out.length < most) : scanR fr to most (l.drop j) out = scanR fr to most (l.drop (j + 1)) (if (!(itAt l j).k.less fr && !to.less (itAt l j).k) = true then out ++ [itAt l j] else out) := by
  rw [drop_it hj, scanR, if_pos hq]
theorem scanR_stop {fr to : Kd} {most : Nat} {l out : List Itm} {j : Nat} (h : l.length ≤ j ∨ most ≤ out.length) : scanR fr to most (l.drop j) out = out := by
  by_cases hj : j < l.length
  · rw [drop_it hj, scanR, if_neg (by omega)]
  · rw [List.drop_of_length_le (by omega)]
    rfl
theorem JRow.len {w : World} {base n c : Nat} {A : Option Addr} {xs : List Itm} (h : JRow w base A n c xs) : xs.length = n := h.itms.len

set_option maxHeartbeats 16000000 in
theorem rscan_any (A : Option Addr) (n c : Nat) (l : List Itm) (fr to : Kd) (m : Int) (hm : -9223372036854775808 ≤ m ∧ m ≤ 9223372036854775807) (w : World) (hI : Itms w A n c l) (hn : n ≤ 1000) :
    Calls Tryz.prog 18 #[.slice A n c, .agg #[.int .i64 fr.obj, .int .i64 fr.kind, .int .i64 fr.off], .agg #[.int .i64 to.obj, .int .i64 to.kind, .int .i64 to.off], .int .i64 m] w fun e w' => ∃ A' n' c', e = .returned (.slice A' n' c') ∧ Itms w' A' n' c' ((within fr to l).take m.toNat) ∧ Below w.heap.size w w' := by
  have hl := Lib.hid hI.len
  obtain ⟨F0, T0, bB⟩ := boxes2 w fr to
  have hR : scanR fr to m.toNat (l.drop 0) [] = (within fr to l).take m.toNat := scanR_says fr to m.toNat l [] (Nat.zero_le _)
  obtain ⟨R, hRe⟩ : ∃ R, (within fr to l).take m.toNat = R := ⟨_, rfl⟩
  rw [hRe] at hR
  rw [hRe]
  go_enter Tryz.func18, Tryz.ntmps18
  go_wp2_with fail
  generalize hw1 : (w.alloc (.cells #[.int .i64 fr.obj, .int .i64 fr.kind, .int .i64 fr.off] 39)).alloc (.cells #[.int .i64 to.obj, .int .i64 to.kind, .int .i64 to.off] 39) = w1 at F0 T0 bB ⊢
  have zw : w1.heap.size = w.heap.size + 2 := by rw [← hw1]; simp
  clear hw1
  have bl : Below w1.heap.size w1 (w1.alloc (.cells #[] 41)) := (Below.refl _ _).alloc (Nat.le_refl _) _
  have J0 := jrow_lit0 w1
  have F1 := F0.below bl F0.lt
  have T1 := T0.below bl T0.lt
  have B1 := bB.trans (bl.mono bB.size)
  have zl := bl.size
  generalize w1.alloc (.cells #[] 41) = w2 at bl J0 F1 T1 B1 zl ⊢
  rw [zw] at J0
  go_loopw [9, 10] (fun lv i wr => ∃ (j q : Nat) (A' : Option Addr) (c' : Nat) (out : List Itm), j ≤ n ∧ q ≤ j ∧ i = .int .i64 (j : Int) ∧ lv = .slice A' q c' ∧ JRow wr (w.heap.size + 2) A' q c' out ∧ scanR fr to m.toNat (l.drop j) out = R ∧ KB wr w.heap.size fr ∧ KB wr (w.heap.size + 1) to ∧ Below w.heap.size w wr ∧ w.heap.size + 2 ≤ wr.heap.size) (fun _ i _ => n - (intOf i).toNat)
  case atStart => exact ⟨0, 0, _, _, [], Nat.zero_le _, Nat.le_refl _, rfl, rfl, J0, hR, F1, T1, B1, by omega⟩
  case round =>
    clear J0 F1 T1 B1 hR F0 T0 bB bl zl
    obtain ⟨j, q, A', c', out, hj, hqj, rfl, rfl, J, hR, F, T, B, z2⟩ := hrel
    have hql := J.len
    by_cases hgo : j < n ∧ (q : Int) < m
    · obtain ⟨hlt, hqm⟩ := hgo
      have hstep := scanR_step (fr := fr) (to := to) (most := m.toNat) (l := l) (out := out) (j := j) (by rw [hl.out]; exact hlt) (by omega)
      rw [hR] at hstep
      obtain ⟨g, o, V, p, r, rfl, hg, c0, c1, c2, c3, hs⟩ := hI.cell hlt
      obtain ⟨x, hx⟩ : ∃ x, itAt l j = x := ⟨_, rfl⟩
      rw [hx] at c0 c1 c2 hs hstep
      have hgr : g < wr.heap.size := by omega
      have d0 := fun u : Grown wr => Grown.cell ((B.cell (p := ⟨g, _, none⟩) hg).trans c0) hgr u
      have d1 := fun u : Grown wr => Grown.cell ((B.cell (p := ⟨g, _, none⟩) hg).trans c1) hgr u
      have d2 := fun u : Grown wr => Grown.cell ((B.cell (p := ⟨g, _, none⟩) hg).trans c2) hgr u
      have d3 := fun u : Grown wr => Grown.cell ((B.cell (p := ⟨g, _, none⟩) hg).trans c3) hgr u
      have k0 := fun u : Grown wr => Grown.cell F.c0 F.lt u
      have k1 := fun u : Grown wr => Grown.cell F.c1 F.lt u
      have k2 := fun u : Grown wr => Grown.cell F.c2 F.lt u
      have t0 := fun u : Grown wr => Grown.cell T.c0 T.lt u
      have t1 := fun u : Grown wr => Grown.cell T.c1 T.lt u
      have t2 := fun u : Grown wr => Grown.cell T.c2 T.lt u
      have e0 : (0 : Int) ≤ (j : Int) := by omega
      have e1 : (j : Int) < (n : Int) := by omega
      have hsb := hs.below B
      have Hlt := hs.blockLt
      clear c0 c1 c2 c3 hs hx hR
      cases h1 : x.k.less fr with
      | true =>
        rw [h1] at hstep
        replace hstep : R = scanR fr to m.toNat (l.drop (j + 1)) out := hstep
        have H1 := fun w => refless_says x.k fr true h1 w
        clear h1
        go_wp2_with fail
        refine wp_region_grown (by kernel_rfl) (by kernel_rfl) ?_
        repeat (go_big_quiet_step (first | (go_at_call 26; exact Calls.grown (H1 _)) | fail))
        refine wpQuiet_nil ?_
        rintro _ ⟨u, rfl⟩
        have z := u.ok.size
        have J2 := J.below u.ok
        have F2 := F.below u.ok F.lt
        have T2 := T.below u.ok T.lt
        have B2 := B.trans (u.ok.mono B.size)
        clear d0 d1 d2 d3 k0 k1 k2 t0 t1 t2
        go_wp2
        exact ⟨⟨j + 1, q, _, _, out, by omega, by omega, by go_num, rfl, J2, hstep.symm, F2, T2, B2, by omega⟩, by simp [intOf]; omega⟩
      | false =>
        have H1 := fun w => refless_says x.k fr false h1 w
        cases h2 : to.less x.k with
        | true =>
          rw [h1, h2] at hstep
          replace hstep : R = scanR fr to m.toNat (l.drop (j + 1)) out := hstep
          have H2 := fun w => refless_says to x.k true h2 w
          clear h1 h2
          go_wp2_with fail
          refine wp_region_grown (by kernel_rfl) (by kernel_rfl) ?_
          repeat (go_big_quiet_step (fail))
          go_big_quiet_step (first | (go_at_call 26; exact Calls.grown (H1 _)) | fail)
          repeat (go_big_quiet_step (fail))
          go_big_quiet_step (first | (go_at_call 26; exact Calls.grown (H2 _)) | fail)
          repeat (go_big_quiet_step (fail))
          refine wpQuiet_nil ?_
          rintro _ ⟨u, rfl⟩
          have z := u.ok.size
          have J2 := J.below u.ok
          have F2 := F.below u.ok F.lt
          have T2 := T.below u.ok T.lt
          have B2 := B.trans (u.ok.mono B.size)
          clear d0 d1 d2 d3 k0 k1 k2 t0 t1 t2
          go_wp2
          exact ⟨⟨j + 1, q, _, _, out, by omega, by omega, by go_num, rfl, J2, hstep.symm, F2, T2, B2, by omega⟩, by simp [intOf]; omega⟩
        | false =>
          rw [h1, h2] at hstep
          replace hstep : R = scanR fr to m.toNat (l.drop (j + 1)) (out ++ [x]) := hstep
          have H2 := fun w => refless_says to x.k false h2 w
          clear h1 h2
          go_wp2_with fail
          refine wp_region_grown (by kernel_rfl) (by kernel_rfl) ?_
          repeat (go_big_quiet_step (fail))
          go_big_quiet_step (first | (go_at_call 26; exact Calls.grown (H1 _)) | fail)
          repeat (go_big_quiet_step (fail))
          go_big_quiet_step (first | (go_at_call 26; exact Calls.grown (H2 _)) | fail)
          repeat (go_big_quiet_step (fail))
          refine wpQuiet_nil ?_
          rintro _ ⟨u, rfl⟩
          have z := u.ok.size
          have J2 := J.below u.ok
          have F2 := F.below u.ok F.lt
          have T2 := T.below u.ok T.lt
          have B2 := B.trans (u.ok.mono B.size)
          have hs2 := hsb.below u.ok
          have d0' := d0 u
          have d1' := d1 u
          have d2' := d2 u
          have d3' := d3 u
          have hne : x.v ≠ [] → ∀ b, blockOf V = some b → blockOf A' ≠ some b := fun hv b hb e => by have h1 := Hlt hv b hb; have h2 := (J.blockLt b e).1; omega
          clear d0 d1 d2 d3 k0 k1 k2 t0 t1 t2
          have b2 : Below u.to.heap.size u.to (u.to.alloc (.cells #[.int .i64 x.k.obj, .int .i64 x.k.kind, .int .i64 x.k.off, .slice V p r] 41)) := (Below.refl _ _).alloc (Nat.le_refl _) _
          go_wp2_with (first
            | (at_builtin; refine wp_append_jitem rfl _ _ rfl (w.heap.size + 2) A' q c' out rfl (J2.below b2) (some ⟨u.to.heap.size, 0, none⟩) 1 x V p r rfl (lit1_item u.to x.k V p r) (hs2.below b2) hne (by omega) (by have := b2.size; omega) ?_)
            | fail)
          intro A3 c3 w3 J3 T3
          have b3 := T3.below (fun k hk => (J2.blockLt k hk).1) (show w.heap.size + 2 ≤ _ by have := b2.size; omega)
          have z3 := T3.size
          have b23 : Below (w.heap.size + 2) u.to w3 := (b2.mono (by omega)).trans b3
          go_wp2
          exact ⟨⟨j + 1, q + 1, _, _, out ++ [x], by omega, by omega, by go_num, rfl, J3, hstep.symm, F2.below b23 (by omega), T2.below b23 (by omega), B2.trans (b23.mono (by omega)), by have := b23.size; omega⟩, by simp [intOf]; omega⟩
    · have hstop : out = R := by
        rw [← hR]
        exact (scanR_stop (by rw [hl.out]; omega)).symm
      subst hstop
      clear hR
      by_cases h1 : (j : Int) < (n : Int)
      · have h3 : ¬ (q : Int) < m := fun h => hgo ⟨by omega, h⟩
        clear hgo
        go_wp2
        go_ret
        exact ⟨_, _, _, rfl, J.itms, B⟩
      · clear hgo
        go_wp2
        go_ret
        exact ⟨_, _, _, rfl, J.itms, B⟩
end Go.Proofs.YtgedmodnkiijkaaGreatDoor

namespace Go.Proofs.YtgedmodnkiijkaaGreatDoor
open Go Go.RowKit Go.Proofs

set_option maxRecDepth 100000 in
set_option maxHeartbeats 8000000 in
theorem rsameitems_yes (l : List Itm) (A : Option Addr) (n c : Nat) (A2 : Option Addr) (c2 : Nat) (w : World) (hI : Itms w A n c l) (hI2 : Itms w A2 n c2 l) :
    Calls Tryz.prog 17 #[.slice A n c, .slice A2 n c2] w fun e w' => e = .returned (.bool true) ∧ Below w.heap.size w w' := by
  have hg := guard_ne
  obtain ⟨hb1, hb2⟩ := hI.bounds
  unfold maxLen at hb2
  go_enter Tryz.func17, Tryz.ntmps17
  go_wp2_with fail
  have HlI := Lib.hid hI.len
  go_loopw [5] (fun i wr => ∃ j : Nat, j ≤ n ∧ i = .int .i64 (j : Int) ∧ Below w.heap.size w wr) (fun i _ => n - (intOf i).toNat)
  case atStart => exact ⟨0, Nat.zero_le _, rfl, Below.refl _ _⟩
  case round =>
    obtain ⟨j, hj, rfl, hB⟩ := hrel
    by_cases hlt : j < n
    · obtain ⟨g, o, B', m', d', hA, hg', a0, a1, a2, a3, as_⟩ := (hI.below hB).cell hlt
      obtain ⟨g2, o2, B2', m2', d2', hA2, hg2, e0, e1, e2, e3, es⟩ := (hI2.below hB).cell hlt
      subst hA hA2
      obtain ⟨x, hx⟩ : ∃ x, itAt l j = x := ⟨_, rfl⟩
      rw [hx] at a0 a1 a2 as_ e0 e1 e2 es
      clear hx
      obtain ⟨X, hX⟩ : ∃ X, (⟨x.v.toArray⟩ : ByteArray) = X := ⟨_, rfl⟩
      have s1 := fun k => strB (as_.drewN k)
      have s2 := fun k => strB (es.drewN k)
      rw [hX] at s1 s2
      have hq := ne_key x.k
      have hj0 : (0 : Int) ≤ (j : Int) := by omega
      have hj1 : (j : Int) < (n : Int) := by omega
      clear as_ es hX
      go_wp2_with fail
      go_quiet (fail)
      generalize hw5 : World.drewN wr _ = w5
      have hB5 : Below w.heap.size w w5 := by rw [← hw5]; exact below_drewN hB _
      clear hw5 s1 s2
      go_wp2
      exact ⟨⟨j + 1, by omega, by go_num, hB5⟩, by simp [intOf]; omega⟩
    · obtain rfl : n = j := by omega
      go_wp2
      go_ret
      exact ⟨rfl, hB⟩
set_option maxHeartbeats 8000000 in
theorem rsameitems_len (A : Option Addr) (n c : Nat) (A2 : Option Addr) (n2 c2 : Nat) (w : World) (h : n ≠ n2) :
    Calls Tryz.prog 17 #[.slice A n c, .slice A2 n2 c2] w fun e w' => e = .returned (.bool false) ∧ w = w' := by
  have h1 : ((n : Int) == (n2 : Int)) = false := by simp; omega
  have h2 : decide ((n : Int) = (n2 : Int)) = false := decide_eq_false (by omega)
  have h3 : (n == n2) = false := by simp; omega
  go_enter Tryz.func17, Tryz.ntmps17
  go_wp2
  go_ret
  exact ⟨rfl, rfl⟩
end Go.Proofs.YtgedmodnkiijkaaGreatDoor
