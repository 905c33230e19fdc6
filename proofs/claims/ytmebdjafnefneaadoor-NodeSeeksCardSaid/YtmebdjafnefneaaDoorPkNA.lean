/- The reference's may: whether keys may be, and rise. The reference's Keys: a node's keys. The reference's May: whether a node may be. -/
import Derived.Test.YtmebdjafnefneaaDoorNodeIn
import Derived.Test.YtmebdjafnefneaaDoorPkK
import Derived.Deep.RegionHeld3
namespace Go.Proofs.YtmebdjafnefneaaDoor
open Go Go.RowKit Go.Proofs

/-- Whether the i-th key may be, and stands behind the one ahead of it; kept shut. -/
def riseOk (ks : List Kd) (i : Nat) : Bool := (keyAt ks i).may && (decide (i = 0) || (keyAt ks (i - 1)).less (keyAt ks i))
/-- Whether keys may be, and rise. -/
def rises (ks : List Kd) : Bool := (List.range ks.length).all (riseOk ks)
theorem rises_no {ks : List Kd} {j : Nat} (hj : j < ks.length) (h : riseOk ks j = false) : rises ks = false := by
  unfold rises
  rw [List.all_eq_false]
  exact ⟨j, List.mem_range.2 hj, by rw [h]; simp⟩
theorem rises_yes {ks : List Kd} (h : ∀ j, j < ks.length → riseOk ks j = true) : rises ks = true := by
  unfold rises
  rw [List.all_eq_true]
  exact fun j hj => h j (List.mem_range.1 hj)

set_option maxHeartbeats 4000000 in
theorem refrise_any (A : Option Addr) (n c : Nat) (ks : List Kd) (w : World) (h : Keyl w A n c ks) (hn : n ≤ 100000) :
    Calls Tryd.prog 34 #[.slice A n c] w fun e w' => e = .returned (.bool (rises ks)) ∧ Below w.heap.size w w' := by
  have hlen := Lib.hid h.len
  go_enter Tryd.func34, Tryd.ntmps34
  go_wp2_with fail
  go_loopw [3, 4] (fun i ok wr => ∃ j : Nat, j ≤ n ∧ i = .int .i64 (j : Int) ∧ (∀ q, q < j → riseOk ks q = true) ∧ Below w.heap.size w wr) (fun i _ _ => n - (intOf i).toNat)
  case atStart => exact ⟨0, Nat.zero_le _, rfl, fun q hq => by omega, Below.refl _ _⟩
  case round =>
    obtain ⟨j, hj, rfl, hall, hB⟩ := hrel
    by_cases hlt : j < n
    · have hr := h.below hB
      obtain ⟨g, o, hA, hg, c0, c1, c2⟩ := hr.cell hlt
      subst hA
      obtain ⟨b, hb⟩ : ∃ b, keyAt ks j = b := ⟨_, rfl⟩
      rw [hb] at c0 c1 c2
      obtain ⟨r, hm⟩ : ∃ r, b.may = r := ⟨_, rfl⟩
      go_wp2_with fail
      refine (krefmay_says b r hm wr).mono ?_
      cases r
      · rintro e w1 ⟨rfl, hb1⟩
        have hB1 := hB.trans (hb1.mono hB.size)
        go_wp2_with fail
        go_quiet (fail)
        generalize hw2 : World.drewN w1 _ = w2
        have hB2 : Below w.heap.size w w2 := by rw [← hw2]; exact below_drewN hB1 _
        clear hw2
        go_wp2
        go_ret
        have hno : rises ks = false := rises_no (j := j) (by rw [hlen.out]; exact hlt) (by unfold riseOk; rw [hb, hm]; rfl)
        exact ⟨by rw [hno]; rfl, hB2⟩
      · rintro e w1 ⟨rfl, hb1⟩
        have hB1 := hB.trans (hb1.mono hB.size)
        rcases j with _ | q
        · go_wp2_with fail
          go_quiet (fail)
          generalize hw2 : World.drewN w1 _ = w2
          have hB2 : Below w.heap.size w w2 := by rw [← hw2]; exact below_drewN hB1 _
          clear hw2
          go_wp2
          refine ⟨⟨1, by omega, rfl, fun q hq => ?_, hB2⟩, by simp [intOf]; omega⟩
          obtain rfl : q = 0 := by omega
          unfold riseOk
          rw [hb, hm]
          rfl
        · obtain ⟨g', o', hA', _, a0, a1, a2⟩ := hr.cell (show q < n by omega)
          injection hA' with hA'
          injection hA' with e1 e2
          subst e1 e2
          obtain ⟨a, ha⟩ : ∃ a, keyAt ks q = a := ⟨_, rfl⟩
          rw [ha] at a0 a1 a2
          obtain ⟨r, hl⟩ : ∃ r, a.less b = r := ⟨_, rfl⟩
          have hok : riseOk ks (q + 1) = r := by
            unfold riseOk
            rw [hb, hm, show q + 1 - 1 = q by omega, ha, hl]
            simp
          have hg1 : g < w1.heap.size := by have := hb1.size; omega
          have hsub : ((q + 1 : Nat) : Int) - 1 = (q : Int) := by omega
          have hq0 : (0 : Int) ≤ (q : Int) := by omega
          have hqn : (q : Int) < (n : Int) := by omega
          have hq1 : (0 : Int) ≤ ((q + 1 : Nat) : Int) := by omega
          have hqn1 : ((q + 1 : Nat) : Int) < (n : Int) := by omega
          have hq2 : (0 : Int) ≤ (q : Int) + 1 := by omega
          have hqn2 : (q : Int) + 1 < (n : Int) := by omega
          have hw2 : IntKind.i64.wrap (q : Int) = (q : Int) := IntWalk.i64_in _ (by omega)
          have hw3 : IntKind.i64.wrap ((q : Int) + 1 - 1) = (q : Int) := by rw [Int.add_sub_cancel]; exact hw2
          have hw1 : IntKind.i64.wrap (((q + 1 : Nat) : Int) - 1) = (q : Int) := by rw [hsub]; exact IntWalk.i64_in _ (by omega)
          have d0 := (hb1.cell (p := ⟨g, o + q * 3, none⟩) hg).trans a0
          have d1 := (hb1.cell (p := ⟨g, o + q * 3 + 1, none⟩) hg).trans a1
          have d2 := (hb1.cell (p := ⟨g, o + q * 3 + 2, none⟩) hg).trans a2
          have d3 := (hb1.cell (p := ⟨g, o + (q + 1) * 3, none⟩) hg).trans c0
          have d4 := (hb1.cell (p := ⟨g, o + (q + 1) * 3 + 1, none⟩) hg).trans c1
          have d5 := (hb1.cell (p := ⟨g, o + (q + 1) * 3 + 2, none⟩) hg).trans c2
          clear a0 a1 a2 c0 c1 c2 hr
          go_wp2_with fail
          have hS : ∀ w' : World, Below w1.heap.size w1 w' → w'.cell? ⟨g, o + q * 3, none⟩ = some (.int .i64 (a).obj) ∧ w'.cell? ⟨g, o + q * 3 + 1, none⟩ = some (.int .i64 (a).kind) ∧ w'.cell? ⟨g, o + q * 3 + 2, none⟩ = some (.int .i64 (a).off) ∧ w'.cell? ⟨g, o + (q + 1) * 3, none⟩ = some (.int .i64 (b).obj) ∧ w'.cell? ⟨g, o + (q + 1) * 3 + 1, none⟩ = some (.int .i64 (b).kind) ∧ w'.cell? ⟨g, o + (q + 1) * 3 + 2, none⟩ = some (.int .i64 (b).off) ∧ Below w1.heap.size w1 w' :=
            fun w' hb => ⟨(hb.cell (p := ⟨g, _, none⟩) hg1).trans d0, (hb.cell (p := ⟨g, _, none⟩) hg1).trans d1, (hb.cell (p := ⟨g, _, none⟩) hg1).trans d2, (hb.cell (p := ⟨g, _, none⟩) hg1).trans d3, (hb.cell (p := ⟨g, _, none⟩) hg1).trans d4, (hb.cell (p := ⟨g, _, none⟩) hg1).trans d5, hb⟩
          have BD : Below w1.heap.size w1 w1.drew := (Below.refl _ w1).drew
          go_region_held3 (fun w' => w'.cell? ⟨g, o + q * 3, none⟩ = some (.int .i64 (a).obj) ∧ w'.cell? ⟨g, o + q * 3 + 1, none⟩ = some (.int .i64 (a).kind) ∧ w'.cell? ⟨g, o + q * 3 + 2, none⟩ = some (.int .i64 (a).off) ∧ w'.cell? ⟨g, o + (q + 1) * 3, none⟩ = some (.int .i64 (b).obj) ∧ w'.cell? ⟨g, o + (q + 1) * 3 + 1, none⟩ = some (.int .i64 (b).kind) ∧ w'.cell? ⟨g, o + (q + 1) * 3 + 2, none⟩ = some (.int .i64 (b).off) ∧ Below w1.heap.size w1 w')
            (first | assumption | exact hS _ BD | exact hS _ bb2)
            (first
              | (go_at_call 25; refine (refless_says a b r hl _).mono ?_; rintro e w2 ⟨rfl, hb2⟩; have bb2 : Below w1.heap.size w1 w2 := BD.trans (hb2.mono (Nat.le_refl w1.heap.size)))
              | fail)
          all_goals
            have hB2 := hB1.trans (bb2.mono hB1.size)
            clear hS BD
            cases r
            · go_wp2
              go_ret
              have hno : rises ks = false := rises_no (j := q + 1) (by rw [hlen.out]; exact hlt) hok
              exact ⟨by rw [hno]; rfl, hB2⟩
            · go_wp2
              refine ⟨⟨q + 2, by omega, by go_num, fun p hp => ?_, hB2⟩, by simp [intOf]; omega⟩
              rcases (by omega : p < q + 1 ∨ p = q + 1) with h1 | rfl
              · exact hall p h1
              · exact hok
    · obtain rfl : j = n := by omega
      go_wp2
      go_ret
      have hyes : rises ks = true := rises_yes fun i hi => hall i (by rw [hlen.out] at hi; exact hi)
      exact ⟨by rw [hyes]; rfl, hB⟩

end Go.Proofs.YtmebdjafnefneaaDoor

namespace Go.Proofs.YtmebdjafnefneaaDoor
open Go Go.RowKit Go.Proofs

theorem TKey : RowT Tryd.prog 48 39 3 24 (.agg #[.int .i64 0, .int .i64 0, .int .i64 0]) := ⟨Tryd.underlying48, by kernel_rfl, rfl, by omega⟩
def Nd.keys (N : Nd) : List Kd := N.items.map (·.k) ++ N.kids.map (·.k)
/-- The block that holds a node. -/
def NB (w : World) (b : Nat) (l : Int) (A : Option Addr) (n c : Nat) (B : Option Addr) (m d : Nat) : Prop := ∃ t, w.heap[b]? = some (.cells #[.int .i64 l, .slice A n c, .slice B m d] t (0, 0))
section
variable {w w' : World} {b : Nat} {l : Int} {A B : Option Addr} {n c m d : Nat}
theorem NB.new (w : World) (l : Int) (A : Option Addr) (n c : Nat) (B : Option Addr) (m d : Nat) (t : TypeId) : NB (w.alloc (.cells #[.int .i64 l, .slice A n c, .slice B m d] t)) w.heap.size l A n c B m d := ⟨t, heap_alloc_new w _⟩
theorem NB.below (H : NB w b l A n c B m d) {E : Nat} (hb : Below E w w') (hB : b < E) : NB w' b l A n c B m d := by
  obtain ⟨t, H⟩ := H
  exact ⟨t, (hb.block b hB).trans H⟩
theorem NB.lt (H : NB w b l A n c B m d) : b < w.heap.size := by
  obtain ⟨t, H⟩ := H
  exact (Array.getElem?_eq_some_iff.1 H).1
theorem NB.c0 (H : NB w b l A n c B m d) : w.cell? ⟨b, 0, none⟩ = some (.int .i64 l) := by
  obtain ⟨t, H⟩ := H
  rw [cell_of_row _ _ _ _ _ _ H]; rfl
theorem NB.c1 (H : NB w b l A n c B m d) : w.cell? ⟨b, 1, none⟩ = some (.slice A n c) := by
  obtain ⟨t, H⟩ := H
  rw [cell_of_row _ _ _ _ _ _ H]; rfl
theorem NB.c2 (H : NB w b l A n c B m d) : w.cell? ⟨b, 2, none⟩ = some (.slice B m d) := by
  obtain ⟨t, H⟩ := H
  rw [cell_of_row _ _ _ _ _ _ H]; rfl
end
theorem own_keyl {w : World} {base : Nat} {A : Option Addr} {n c : Nat} {ks : List Kd} (h : OwnS w base 39 3 A n c (ks.map kvs)) : Keyl w A n c ks := h.sls (by omega)
theorem lit1_key (w : World) (k : Kd) : Sls (w.alloc (.cells #[.int .i64 k.obj, .int .i64 k.kind, .int .i64 k.off] 39)) 3 (some ⟨w.heap.size, 0, none⟩) 1 1 [kvs k] := (owns_lit1 w 39 3 (kvs k) _ rfl rfl).sls (by omega)
theorem kvs_one (k : Kd) : ∀ y ∈ [kvs k], ∀ u ∈ y, u.oneCell' = true := by
  intro y hy u hu
  obtain rfl : y = kvs k := by simpa using hy
  simp [kvs] at hu
  rcases hu with rfl | rfl | rfl <;> rfl
/-- The first j of a node's keys; kept shut. -/
def keysTo (N : Nd) (j : Nat) : List (List Value) := (N.keys.take j).map kvs
theorem keysTo_zero (N : Nd) : keysTo N 0 = [] := rfl
theorem keysTo_all (N : Nd) (j : Nat) (h : N.keys.length ≤ j) : keysTo N j = N.keys.map kvs := by unfold keysTo; rw [List.take_of_length_le h]
theorem keysTo_item (N : Nd) (j : Nat) (h : j < N.items.length) : keysTo N (j + 1) = keysTo N j ++ [kvs (itAt N.items j).k] := by
  unfold keysTo
  have hj : j < N.keys.length := by unfold Nd.keys; simp; omega
  rw [List.take_succ_eq_append_getElem hj, List.map_append, List.map_cons, List.map_nil]
  congr 3
  have : N.keys[j]? = some (itAt N.items j).k := by
    unfold Nd.keys
    rw [List.getElem?_append_left (by simpa using h), List.getElem?_map, itAt_get h]; rfl
  rw [List.getElem?_eq_getElem hj] at this
  simpa using this
theorem keysTo_kid (N : Nd) (j : Nat) (h : j < N.kids.length) : keysTo N (N.items.length + j + 1) = keysTo N (N.items.length + j) ++ [kvs (kidAt N.kids j).k] := by
  unfold keysTo
  have hj : N.items.length + j < N.keys.length := by unfold Nd.keys; simp; omega
  rw [List.take_succ_eq_append_getElem hj, List.map_append, List.map_cons, List.map_nil]
  congr 3
  have : N.keys[N.items.length + j]? = some (kidAt N.kids j).k := by
    unfold Nd.keys
    rw [List.getElem?_append_right (by simp), List.getElem?_map]
    simp [kidAt_get h]
  rw [List.getElem?_eq_getElem hj] at this
  simpa using this

set_option maxHeartbeats 4000000 in
theorem refkeys_any (N : Nd) (A : Option Addr) (n c : Nat) (B : Option Addr) (m d : Nat) (w : World) (hI : Itms w A n c N.items) (hK : Kidl w B m d N.kids) (hn : n ≤ 1000) (hm : m ≤ 1000) :
    Calls Tryd.prog 24 #[.agg #[.int .i64 N.lvl, .slice A n c, .slice B m d]] w fun e w' => ∃ A' n' c', e = .returned (.slice A' n' c') ∧ n' ≤ n + m ∧ Keyl w' A' n' c' N.keys ∧ Below w.heap.size w w' := by
  have HlI := Lib.hid hI.len
  have HlK := Lib.hid hK.len
  have hkl := Lib.hid (show N.keys.length = n + m by unfold Nd.keys; rw [List.length_append, List.length_map, List.length_map, HlI.out, HlK.out])
  go_enter Tryd.func24, Tryd.ntmps24
  go_wp2_with fail
  have N1 : NB (w.alloc (.cells #[.int .i64 N.lvl, .slice A n c, .slice B m d] 25)) w.heap.size N.lvl A n c B m d := NB.new w _ _ _ _ _ _ _ _
  have b1 : Below w.heap.size w (w.alloc (.cells #[.int .i64 N.lvl, .slice A n c, .slice B m d] 25)) := (Below.refl _ _).alloc (Nat.le_refl _) _
  have z1 := N1.lt
  have N2 := N1.below ((Below.refl _ _).alloc (Nat.le_refl _) (.cells #[] 39)) z1
  have B2 : Below w.heap.size w ((w.alloc (.cells #[.int .i64 N.lvl, .slice A n c, .slice B m d] 25)).alloc (.cells #[] 39)) := b1.trans (((Below.refl _ _).alloc (Nat.le_refl _) _).mono b1.size)
  have o1 : OwnS ((w.alloc (.cells #[.int .i64 N.lvl, .slice A n c, .slice B m d] 25)).alloc (.cells #[] 39)) (w.heap.size + 1) 39 3 (some ⟨w.heap.size + 1, 0, none⟩) 0 0 [] := by
    have := owns_lit0 (w.alloc (.cells #[.int .i64 N.lvl, .slice A n c, .slice B m d] 25)) 39 3
    rwa [World.size_alloc] at this
  generalize (w.alloc (.cells #[.int .i64 N.lvl, .slice A n c, .slice B m d] 25)).alloc (.cells #[] 39) = w2 at N2 B2 o1 ⊢
  go_loopw [3, 4] (fun l i wr => ∃ (j : Nat) (A' : Option Addr) (c' : Nat), j ≤ n ∧ i = .int .i64 (j : Int) ∧ l = .slice A' (j) c' ∧ OwnS wr (w.heap.size + 1) 39 3 A' (j) c' (keysTo N (j)) ∧ NB wr w.heap.size N.lvl A n c B m d ∧ Below w.heap.size w wr) (fun _ i _ => n - (intOf i).toNat)
  case atStart => exact ⟨0, _, _, Nat.zero_le _, rfl, rfl, o1, N2, B2⟩
  case round =>
    obtain ⟨j, A', c', hj, rfl, rfl, own, NN, hB⟩ := hrel
    by_cases hlt : j < n
    · obtain ⟨g, o, B', m', d', hA, hg, c0, c1, c2, _⟩ := (hI.below hB).cell hlt
      subst hA
      obtain ⟨k, hk⟩ : ∃ k, (itAt N.items j).k = k := ⟨_, rfl⟩
      rw [hk] at c0 c1 c2
      have nn := NN.c1
      have hz := NN.lt
      have b2 : Below wr.heap.size wr (wr.alloc (.cells #[.int .i64 (k).obj, .int .i64 (k).kind, .int .i64 (k).off] 39)) := (Below.refl _ _).alloc (Nat.le_refl _) _
      go_wp2_with (first
        | (at_builtin; refine wp_append_s _ TKey rfl _ _ rfl (w.heap.size + 1) A' (j) c' (keysTo N (j)) rfl (own.below b2) (some ⟨wr.heap.size, 0, none⟩) 1 1 [kvs k] rfl (lit1_key wr k) (by omega) (kvs_one k) (by omega) (by omega) (by have := b2.size; omega) ?_)
        | fail)
      intro A2 c2' w2 own2 hb2
      have hb3 : Below (w.heap.size + 1) wr w2 := (b2.mono (by omega)).trans hb2
      have NN2 := NN.below hb3 (by omega)
      have hB2 := hB.trans (hb3.mono (by omega))
      have e2 := keysTo_item N j (by rw [HlI.out]; exact hlt)
      rw [hk] at e2
      rw [← e2] at own2
      go_wp2
      exact ⟨⟨j + 1, _, _, by omega, by go_num, rfl, own2, NN2, hB2⟩, by simp [intOf]; omega⟩
    · obtain rfl : n = j := by omega
      have nn := NN.c1
      go_wp2_with fail
      go_loopw [3, 5] (fun l i wr => ∃ (j : Nat) (A' : Option Addr) (c' : Nat), j ≤ m ∧ i = .int .i64 (j : Int) ∧ l = .slice A' (n + j) c' ∧ OwnS wr (w.heap.size + 1) 39 3 A' (n + j) c' (keysTo N (n + j)) ∧ NB wr w.heap.size N.lvl A n c B m d ∧ Below w.heap.size w wr) (fun _ i _ => m - (intOf i).toNat)
      case atStart => exact ⟨0, _, _, Nat.zero_le _, rfl, rfl, own, NN, hB⟩
      case round =>
        obtain ⟨j, A', c', hj, rfl, rfl, own, NN, hB⟩ := hrel
        by_cases hlt : j < m
        · obtain ⟨g, o, hA, hg, c0, c1, c2, _⟩ := (hK.below hB).cell hlt
          subst hA
          obtain ⟨k, hk⟩ : ∃ k, (kidAt N.kids j).k = k := ⟨_, rfl⟩
          rw [hk] at c0 c1 c2
          have nn := NN.c2
          have hz := NN.lt
          have b2 : Below wr.heap.size wr (wr.alloc (.cells #[.int .i64 (k).obj, .int .i64 (k).kind, .int .i64 (k).off] 39)) := (Below.refl _ _).alloc (Nat.le_refl _) _
          go_wp2_with (first
            | (at_builtin; refine wp_append_s _ TKey rfl _ _ rfl (w.heap.size + 1) A' (n + j) c' (keysTo N (n + j)) rfl (own.below b2) (some ⟨wr.heap.size, 0, none⟩) 1 1 [kvs k] rfl (lit1_key wr k) (by omega) (kvs_one k) (by omega) (by omega) (by have := b2.size; omega) ?_)
            | fail)
          intro A2 c2' w2 own2 hb2
          have hb3 : Below (w.heap.size + 1) wr w2 := (b2.mono (by omega)).trans hb2
          have NN2 := NN.below hb3 (by omega)
          have hB2 := hB.trans (hb3.mono (by omega))
          have e2 := keysTo_kid N j (by rw [HlK.out]; exact hlt)
          rw [hk] at e2
          rw [HlI.out] at e2
          rw [← e2] at own2
          go_wp2
          exact ⟨⟨j + 1, _, _, by omega, by go_num, rfl, own2, NN2, hB2⟩, by simp [intOf]; omega⟩
        · obtain rfl : m = j := by omega
          have nn := NN.c2
          rw [keysTo_all N (n + m) (by rw [hkl.out]; omega)] at own
          go_wp2
          go_ret
          exact ⟨_, _, _, rfl, Nat.le_refl _, own_keyl own, hB⟩

end Go.Proofs.YtmebdjafnefneaaDoor

namespace Go.Proofs.YtmebdjafnefneaaDoor
open Go Go.RowKit Go.Proofs

def itemsOk (N : Nd) : Bool := N.items.all fun x => decide (x.v.length ≤ 28)
def kidsOk (N : Nd) : Bool := N.kids.all fun x => decide (1 ≤ x.a ∧ x.a < 2048)
/-- P6.1. -/
def Nd.may (N : Nd) : Bool :=
  if N.lvl = 0 then itemsOk N && (rises N.keys && decide (N.kids.length = 0 ∧ 1 ≤ N.items.length ∧ N.items.length ≤ 6))
  else kidsOk N && (rises N.keys && decide (1 ≤ N.lvl ∧ N.lvl < 8 ∧ N.items.length = 0 ∧ 2 ≤ N.kids.length ∧ N.kids.length ≤ 12))
theorem itemsOk_no {N : Nd} {j : Nat} (hj : j < N.items.length) (h : ¬ (itAt N.items j).v.length ≤ 28) : itemsOk N = false := by
  unfold itemsOk
  rw [List.all_eq_false]
  exact ⟨_, List.mem_of_getElem? (itAt_get hj), by simpa using h⟩
theorem itemsOk_yes {N : Nd} (h : ∀ j, j < N.items.length → (itAt N.items j).v.length ≤ 28) : itemsOk N = true := by
  unfold itemsOk
  rw [List.all_eq_true]
  intro x hx
  obtain ⟨j, hj⟩ := List.mem_iff_getElem?.1 hx
  have hl := (List.getElem?_eq_some_iff.1 hj).1
  have := itAt_get hl
  rw [hj] at this
  obtain rfl := Option.some.inj this
  exact decide_eq_true (h j hl)
theorem kidsOk_no {N : Nd} {j : Nat} (hj : j < N.kids.length) (h : ¬ (1 ≤ (kidAt N.kids j).a ∧ (kidAt N.kids j).a < 2048)) : kidsOk N = false := by
  unfold kidsOk
  rw [List.all_eq_false]
  exact ⟨_, List.mem_of_getElem? (kidAt_get hj), by rw [decide_eq_false h]; simp⟩
theorem kidsOk_yes {N : Nd} (h : ∀ j, j < N.kids.length → 1 ≤ (kidAt N.kids j).a ∧ (kidAt N.kids j).a < 2048) : kidsOk N = true := by
  unfold kidsOk
  rw [List.all_eq_true]
  intro x hx
  obtain ⟨j, hj⟩ := List.mem_iff_getElem?.1 hx
  have hl := (List.getElem?_eq_some_iff.1 hj).1
  have := kidAt_get hl
  rw [hj] at this
  obtain rfl := Option.some.inj this
  exact decide_eq_true (h j hl)

set_option maxHeartbeats 8000000 in
theorem refnmay_any (N : Nd) (A : Option Addr) (n c : Nat) (B : Option Addr) (m d : Nat) (w : World) (hI : Itms w A n c N.items) (hK : Kidl w B m d N.kids) (hn : n ≤ 1000) (hm : m ≤ 1000) :
    Calls Tryd.prog 12 #[.agg #[.int .i64 N.lvl, .slice A n c, .slice B m d]] w fun e w' => e = .returned (.bool N.may) ∧ Below w.heap.size w w' := by
  have HlI := Lib.hid hI.len
  have HlK := Lib.hid hK.len
  obtain ⟨r, hr⟩ : ∃ r, rises N.keys = r := ⟨_, rfl⟩
  by_cases hl : N.lvl = 0
  · have hmay : N.may = (itemsOk N && (r && decide (m = 0 ∧ 1 ≤ n ∧ n ≤ 6))) := by unfold Nd.may; rw [if_pos hl, hr, HlI.out, HlK.out]
    have Hmay := Lib.hid hmay
    clear hmay
    have hlb : decide (N.lvl = 0) = true := decide_eq_true hl
    have hlb2 : (N.lvl == 0) = true := by simp [hl]
    clear hl
    go_enter Tryd.func12, Tryd.ntmps12
    go_wp2_with fail
    have N1 : NB (w.alloc (.cells #[.int .i64 N.lvl, .slice A n c, .slice B m d] 25)) w.heap.size N.lvl A n c B m d := NB.new w _ _ _ _ _ _ _ _
    have b1 : Below w.heap.size w (w.alloc (.cells #[.int .i64 N.lvl, .slice A n c, .slice B m d] 25)) := (Below.refl _ _).alloc (Nat.le_refl _) _
    generalize w.alloc (.cells #[.int .i64 N.lvl, .slice A n c, .slice B m d] 25) = w1 at N1 b1 ⊢
    refine (refkeys_any N A n c B m d w1 (hI.below b1) (hK.below b1) hn hm).mono ?_
    rintro e w2 ⟨A2, n2, c2, rfl, hn2, hk2, hb2⟩
    have N2 := N1.below hb2 N1.lt
    have B2 := b1.trans (hb2.mono b1.size)
    clear N1 b1 hb2
    go_wp2_with fail
    refine (refrise_any A2 n2 c2 _ w2 hk2 (by omega)).mono ?_
    rw [hr]
    rintro e w3 ⟨rfl, hb3⟩
    have N3 := N2.below hb3 N2.lt
    have B3 := B2.trans (hb3.mono B2.size)
    have q0 := N3.c0
    have q1 := N3.c1
    have q2 := N3.c2
    have hI3 := hI.below B3
    have hK3 := hK.below B3
    clear N2 B2 hb3 hk2
    go_wp2_with fail
    go_loop [4] (fun i => ∃ j : Nat, j ≤ n ∧ i = .int .i64 (j : Int) ∧ ∀ q, q < j → (itAt N.items q).v.length ≤ 28) (fun i => n - (intOf i).toNat)
    case atStart => exact ⟨0, Nat.zero_le _, rfl, fun q hq => by omega⟩
    case round =>
      obtain ⟨j, hj, rfl, hall⟩ := hrel
      by_cases hlt : j < n
      · obtain ⟨g, o, B', m', d', hA, hg, _, _, _, c3, hsl⟩ := hI3.cell hlt
        subst hA
        have hl2 := Lib.hid hsl.len
        by_cases h28 : m' ≤ 28
        · have hm' : ¬ (28 : Int) < (m' : Int) := by omega
          go_wp2
          refine ⟨⟨j + 1, by omega, by go_num, fun q hq => ?_⟩, by simp [intOf]; omega⟩
          rcases (by omega : q < j ∨ q = j) with h1 | rfl
          · exact hall q h1
          · rw [hl2.out]; exact h28
        · have hm' : (28 : Int) < (m' : Int) := by omega
          go_wp2
          go_ret
          have hno : N.may = false := by rw [Hmay.out, itemsOk_no (j := j) (by rw [HlI.out]; exact hlt) (by rw [hl2.out]; exact h28)]; rfl
          exact ⟨by rw [hno]; rfl, B3⟩
      · obtain rfl : n = j := by omega
        have hyes : itemsOk N = true := itemsOk_yes fun q hq => hall q (by rw [HlI.out] at hq; exact hq)
        cases r
        · have hno := Lib.hid (show N.may = false by rw [Hmay.out, hyes]; rfl)
          go_wp2
          go_ret
          exact ⟨by rw [hno.out]; rfl, B3⟩
        · have Hfin := Lib.hid (show N.may = decide (m = 0 ∧ 1 ≤ n ∧ n ≤ 6) by rw [Hmay.out, hyes, Bool.true_and, Bool.true_and])
          clear hyes
          by_cases h1 : m = 0
          · subst h1
            by_cases h2 : 1 ≤ n
            · have h2' : (1 : Int) ≤ (n : Int) := by omega
              go_wp2
              go_ret
              exact ⟨by rw [Hfin.out]; exact congrArg (fun x => Ending.returned (Value.bool x)) (show decide ((n : Int) ≤ 6) = _ from decide_eq_decide.2 ⟨fun h => ⟨trivial, h2, by omega⟩, fun h => by have := h.2.2; omega⟩), B3⟩
            · have h2' : ¬ (1 : Int) ≤ (n : Int) := by omega
              go_wp2
              go_ret
              exact ⟨by rw [Hfin.out, decide_eq_false (by omega)]; rfl, B3⟩
          · have h1a : ((m : Int) == 0) = false := by simp; omega
            have h1b : decide ((m : Int) = 0) = false := decide_eq_false (by omega)
            have h1c : ¬ (m : Int) = 0 := by omega
            go_wp2
            go_ret
            exact ⟨by rw [Hfin.out, decide_eq_false (by omega)]; rfl, B3⟩
  · have hmay : N.may = (kidsOk N && (r && decide (1 ≤ N.lvl ∧ N.lvl < 8 ∧ n = 0 ∧ 2 ≤ m ∧ m ≤ 12))) := by unfold Nd.may; rw [if_neg hl, hr, HlI.out, HlK.out]
    have Hmay := Lib.hid hmay
    clear hmay
    have hlb : decide (N.lvl = 0) = false := decide_eq_false hl
    have hlb2 : (N.lvl == 0) = false := by simp [hl]
    go_enter Tryd.func12, Tryd.ntmps12
    go_wp2_with fail
    have N1 : NB (w.alloc (.cells #[.int .i64 N.lvl, .slice A n c, .slice B m d] 25)) w.heap.size N.lvl A n c B m d := NB.new w _ _ _ _ _ _ _ _
    have b1 : Below w.heap.size w (w.alloc (.cells #[.int .i64 N.lvl, .slice A n c, .slice B m d] 25)) := (Below.refl _ _).alloc (Nat.le_refl _) _
    generalize w.alloc (.cells #[.int .i64 N.lvl, .slice A n c, .slice B m d] 25) = w1 at N1 b1 ⊢
    refine (refkeys_any N A n c B m d w1 (hI.below b1) (hK.below b1) hn hm).mono ?_
    rintro e w2 ⟨A2, n2, c2, rfl, hn2, hk2, hb2⟩
    have N2 := N1.below hb2 N1.lt
    have B2 := b1.trans (hb2.mono b1.size)
    clear N1 b1 hb2
    go_wp2_with fail
    refine (refrise_any A2 n2 c2 _ w2 hk2 (by omega)).mono ?_
    rw [hr]
    rintro e w3 ⟨rfl, hb3⟩
    have N3 := N2.below hb3 N2.lt
    have B3 := B2.trans (hb3.mono B2.size)
    have q0 := N3.c0
    have q1 := N3.c1
    have q2 := N3.c2
    have hI3 := hI.below B3
    have hK3 := hK.below B3
    clear N2 B2 hb3 hk2
    go_wp2_with fail
    go_loop [5] (fun i => ∃ j : Nat, j ≤ m ∧ i = .int .i64 (j : Int) ∧ ∀ q, q < j → 1 ≤ (kidAt N.kids q).a ∧ (kidAt N.kids q).a < 2048) (fun i => m - (intOf i).toNat)
    case atStart => exact ⟨0, Nat.zero_le _, rfl, fun q hq => by omega⟩
    case round =>
      obtain ⟨j, hj, rfl, hall⟩ := hrel
      by_cases hlt : j < m
      · obtain ⟨g, o, hA, hg, _, _, _, c3⟩ := hK3.cell hlt
        subst hA
        obtain ⟨a, ha⟩ : ∃ a, (kidAt N.kids j).a = a := ⟨_, rfl⟩
        rw [ha] at c3
        have Ha := Lib.hid ha
        clear ha
        by_cases h1 : 1 ≤ a
        · have h1' : ¬ a < 1 := by omega
          by_cases h2 : a < 2048
          · have h2' : ¬ (2048 : Int) ≤ a := by omega
            go_wp2
            refine ⟨⟨j + 1, by omega, by go_num, fun q hq => ?_⟩, by simp [intOf]; omega⟩
            rcases (by omega : q < j ∨ q = j) with h3 | rfl
            · exact hall q h3
            · rw [Ha.out]; exact ⟨h1, h2⟩
          · have h2' : (2048 : Int) ≤ a := by omega
            go_wp2
            go_ret
            have hno : N.may = false := by rw [Hmay.out, kidsOk_no (j := j) (by rw [HlK.out]; exact hlt) (by rw [Ha.out]; omega)]; rfl
            exact ⟨by rw [hno]; rfl, B3⟩
        · have h1' : a < 1 := by omega
          go_wp2
          go_ret
          have hno : N.may = false := by rw [Hmay.out, kidsOk_no (j := j) (by rw [HlK.out]; exact hlt) (by rw [Ha.out]; omega)]; rfl
          exact ⟨by rw [hno]; rfl, B3⟩
      · obtain rfl : m = j := by omega
        have hyes : kidsOk N = true := kidsOk_yes fun q hq => hall q (by rw [HlK.out] at hq; exact hq)
        cases r
        · have hno := Lib.hid (show N.may = false by rw [Hmay.out, hyes]; rfl)
          go_wp2
          go_ret
          exact ⟨by rw [hno.out]; rfl, B3⟩
        · have Hfin := Lib.hid (show N.may = decide (1 ≤ N.lvl ∧ N.lvl < 8 ∧ n = 0 ∧ 2 ≤ m ∧ m ≤ 12) by rw [Hmay.out, hyes, Bool.true_and, Bool.true_and])
          clear hyes
          by_cases h1 : 1 ≤ N.lvl
          · by_cases h2 : N.lvl < 8
            · by_cases h3 : n = 0
              · subst h3
                by_cases h4 : 2 ≤ m
                · have h4' : (2 : Int) ≤ (m : Int) := by omega
                  go_wp2
                  go_ret
                  exact ⟨by rw [Hfin.out]; exact congrArg (fun x => Ending.returned (Value.bool x)) (show decide ((m : Int) ≤ 12) = _ from decide_eq_decide.2 ⟨fun h => ⟨h1, h2, trivial, h4, by omega⟩, fun h => by have := h.2.2.2.2; omega⟩), B3⟩
                · have h4' : ¬ (2 : Int) ≤ (m : Int) := by omega
                  go_wp2
                  go_ret
                  exact ⟨by rw [Hfin.out, decide_eq_false (by omega)]; rfl, B3⟩
              · have h3a : ((n : Int) == 0) = false := by simp; omega
                have h3b : decide ((n : Int) = 0) = false := decide_eq_false (by omega)
                have h3c : ¬ (n : Int) = 0 := by omega
                go_wp2
                go_ret
                exact ⟨by rw [Hfin.out, decide_eq_false (by omega)]; rfl, B3⟩
            · go_wp2
              go_ret
              exact ⟨by rw [Hfin.out, decide_eq_false (by omega)]; rfl, B3⟩
          · go_wp2
            go_ret
            exact ⟨by rw [Hfin.out, decide_eq_false (by omega)]; rfl, B3⟩
end Go.Proofs.YtmebdjafnefneaaDoor
