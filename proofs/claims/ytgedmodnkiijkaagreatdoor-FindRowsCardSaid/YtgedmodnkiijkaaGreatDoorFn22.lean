/- The code's node: may, for items and for kids. The code's node: May. The code's node: Seek and Least, whole. The code's node: Write. -/
import Derived.Test.YtgedmodnkiijkaaGreatDoorFn3
import Derived.Test.YtgedmodnkiijkaaGreatDoorFn6
import Derived.Test.YtgedmodnkiijkaaGreatDoorFn7
import Derived.Test.YtgedmodnkiijkaaGreatDoorGrown
import Derived.Test.YtgedmodnkiijkaaGreatDoorFn8
import Derived.Test.YtgedmodnkiijkaaGreatDoorFn12
import Derived.Test.YtgedmodnkiijkaaGreatDoorFn13
namespace Go.Proofs.YtgedmodnkiijkaaGreatDoor
open Go Go.RowKit Go.Proofs

def fitI (x : Itm) : Bool := decide (x.v.length ≤ 28)
def fitK (x : Kidd) : Bool := decide (1 ≤ x.a ∧ x.a ≤ 2047)
def okI (xs : List Itm) (j : Nat) : Bool := riseOk (xs.map (·.k)) j && fitI (itAt xs j)
def okK (xs : List Kidd) (j : Nat) : Bool := riseOk (xs.map (·.k)) j && fitK (kidAt xs j)
/-- What the code's may answers; kept shut. -/
def mayI (xs : List Itm) (lo hi : Int) : Bool := decide (lo ≤ (xs.length : Int) ∧ (xs.length : Int) ≤ hi) && (List.range xs.length).all (okI xs)
def mayK (xs : List Kidd) (lo hi : Int) : Bool := decide (lo ≤ (xs.length : Int) ∧ (xs.length : Int) ≤ hi) && (List.range xs.length).all (okK xs)
theorem all_no {n : Nat} {f : Nat → Bool} {j : Nat} (hj : j < n) (h : f j = false) : (List.range n).all f = false := by
  rw [List.all_eq_false]
  exact ⟨j, List.mem_range.2 hj, by rw [h]; simp⟩
theorem all_yes {n : Nat} {f : Nat → Bool} (h : ∀ j, j < n → f j = true) : (List.range n).all f = true := by
  rw [List.all_eq_true]
  exact fun j hj => h j (List.mem_range.1 hj)
theorem keyAt_it (xs : List Itm) (j : Nat) : keyAt (xs.map (·.k)) j = (itAt xs j).k := by
  unfold keyAt itAt
  rw [List.getD_eq_getElem?_getD, List.getD_eq_getElem?_getD, List.getElem?_map]
  cases xs[j]? <;> rfl
theorem keyAt_kid (xs : List Kidd) (j : Nat) : keyAt (xs.map (·.k)) j = (kidAt xs j).k := by
  unfold keyAt kidAt
  rw [List.getD_eq_getElem?_getD, List.getD_eq_getElem?_getD, List.getElem?_map]
  cases xs[j]? <;> rfl


set_option maxRecDepth 100000 in
set_option maxHeartbeats 8000000 in
theorem cmayI_any (xs : List Itm) (A : Option Addr) (n c : Nat) (lo hi : Int) (w : World) (hI : Itms w A n c xs) (hn : n ≤ 100000) :
    Calls Tryz.prog 92 #[.slice A n c, .int .i64 lo, .int .i64 hi, .func (.func 74) #[] #[], .func (.func 93) #[] #[]] w fun e w' => e = .returned (.bool (mayI xs lo hi)) ∧ Below w.heap.size w w' := by
  have Hlen := Lib.hid hI.len
  obtain ⟨hb1, hb2⟩ := hI.bounds
  unfold maxLen at hb2
  go_enter Tryz.func92, Tryz.ntmps92
  go_wp2_with fail
  refine (cwithin_any (n : Int) lo hi _ rfl _).mono ?_
  cases hr : decide (lo ≤ (n : Int) ∧ (n : Int) ≤ hi)
  · rintro e w1 ⟨rfl, rfl⟩
    go_wp2
    go_ret
    exact ⟨by unfold mayI; rw [Hlen.out, hr]; rfl, Below.refl _ _⟩
  · rintro e w1 ⟨rfl, rfl⟩
    have Hmay := Lib.hid (show mayI xs lo hi = (List.range n).all (okI xs) by unfold mayI; rw [Hlen.out, hr]; rfl)
    clear hr
    go_wp2_with fail
    go_loopw [21] (fun i wr => ∃ j : Nat, j ≤ n ∧ i = .int .i64 (j : Int) ∧ (∀ q, q < j → okI xs q = true) ∧ Below w.heap.size w wr) (fun i _ => n - (intOf i).toNat)
    case atStart => exact ⟨0, Nat.zero_le _, rfl, fun q hq => by omega, Below.refl _ _⟩
    case round =>
      obtain ⟨j, hj, rfl, hall, hB⟩ := hrel
      by_cases hlt : j < n
      · have hIr := hI.below hB
        obtain ⟨g, o, B', m', d', hA, hg, c0, c1, c2, c3, hsl⟩ := hIr.cell hlt
        subst hA
        obtain ⟨x, hx⟩ : ∃ x, itAt xs j = x := ⟨_, rfl⟩
        have hok := Lib.hid (show okI xs j = ((x.k.may && (decide (j = 0) || (itAt xs (j - 1)).k.less x.k)) && fitI x) by unfold okI riseOk; rw [keyAt_it, keyAt_it, hx])
        rw [hx] at c0 c1 c2 hsl
        have hvl := hsl.len
        obtain ⟨f, hfit⟩ : ∃ f, decide (m' ≤ 28) = f := ⟨_, rfl⟩
        have Hfit := Lib.hid (show fitI x = f by unfold fitI; rw [hvl, hfit])
        clear hvl
        obtain ⟨k, hk⟩ : ∃ k, x.k = k := ⟨_, rfl⟩
        rw [hk] at c0 c1 c2
        obtain ⟨r, hm⟩ : ∃ r, k.may = r := ⟨_, rfl⟩
        have Hk := Lib.hid hk
        clear hk hx
        go_wp2_with fail
        have bx : Below wr.heap.size wr (wr.alloc (.cells #[.int .i64 k.obj, .int .i64 k.kind, .int .i64 k.off, .slice B' m' d'] 41)) := (Below.refl _ _).alloc (Nat.le_refl _) _
        have x0 : (wr.alloc (.cells #[.int .i64 k.obj, .int .i64 k.kind, .int .i64 k.off, .slice B' m' d'] 41)).heap[wr.heap.size]? = some (.cells #[.int .i64 k.obj, .int .i64 k.kind, .int .i64 k.off, .slice B' m' d'] 41 (0, 0)) := heap_alloc_new wr _
        have zx : wr.heap.size < (wr.alloc (.cells #[.int .i64 k.obj, .int .i64 k.kind, .int .i64 k.off, .slice B' m' d'] 41)).heap.size := by simp
        generalize wr.alloc (.cells #[.int .i64 k.obj, .int .i64 k.kind, .int .i64 k.off, .slice B' m' d'] 41) = wx at bx x0 zx ⊢
        have q0 : ∀ u : Grown wx, u.to.cell? ⟨wr.heap.size, 0, none⟩ = some (.int .i64 k.obj) := Grown.cell (by rw [cell_of_row _ _ _ _ _ _ x0]; rfl) zx
        have q1 : ∀ u : Grown wx, u.to.cell? ⟨wr.heap.size, 1, none⟩ = some (.int .i64 k.kind) := Grown.cell (by rw [cell_of_row _ _ _ _ _ _ x0]; rfl) zx
        have q2 : ∀ u : Grown wx, u.to.cell? ⟨wr.heap.size, 2, none⟩ = some (.int .i64 k.off) := Grown.cell (by rw [cell_of_row _ _ _ _ _ _ x0]; rfl) zx
        have q3 : ∀ u : Grown wx, u.to.cell? ⟨wr.heap.size, 3, none⟩ = some (.slice B' m' d') := Grown.cell (by rw [cell_of_row _ _ _ _ _ _ x0]; rfl) zx
        have hBx := hB.trans (bx.mono hB.size)
        clear c0 c1 c2 c3 x0
        have fin : ∀ b, okI xs j = b → b = false → mayI xs lo hi = false := fun b h1 h2 => by rw [Hmay.out]; exact all_no hlt (h1.trans h2)
        have Fin := Lib.hid fin
        clear fin
        cases r
        · refine wp_region_grown (by kernel_rfl) (by kernel_rfl) ?_
          repeat (go_big_quiet_step (first
            | (go_at_call 74; exact Calls.grown (ckeyi_any k B' m' d' _))
            | (go_at_call 123; exact Calls.grown (may_says k false hm _))
            | fail))
          refine wpQuiet_nil ?_
          rintro _ ⟨u, rfl⟩
          have hBu := hBx.trans (u.ok.mono hBx.size)
          go_wp2
          go_ret
          exact ⟨by rw [Fin.out _ hok.out (by rw [Hk.out, hm]; rfl)]; rfl, hBu⟩
        · cases f
          · refine wp_region_grown (by kernel_rfl) (by kernel_rfl) ?_
            repeat (go_big_quiet_step (first
              | (go_at_call 74; exact Calls.grown (ckeyi_any k B' m' d' _))
              | (go_at_call 93; exact Calls.grown (cmayi_any k B' m' d' _ hfit _))
              | (go_at_call 123; exact Calls.grown (may_says k true hm _))
              | fail))
            refine wpQuiet_nil ?_
            rintro _ ⟨u, rfl⟩
            have hBu := hBx.trans (u.ok.mono hBx.size)
            go_wp2
            go_ret
            exact ⟨by rw [Fin.out _ hok.out (by rw [Hfit.out, Bool.and_false])]; rfl, hBu⟩
          · rcases j with _ | q
            · refine wp_region_grown (by kernel_rfl) (by kernel_rfl) ?_
              repeat (go_big_quiet_step (first
                | (go_at_call 74; exact Calls.grown (ckeyi_any k B' m' d' _))
                | (go_at_call 93; exact Calls.grown (cmayi_any k B' m' d' _ hfit _))
                | (go_at_call 123; exact Calls.grown (may_says k true hm _))
                | fail))
              refine wpQuiet_nil ?_
              rintro _ ⟨u, rfl⟩
              have hBu := hBx.trans (u.ok.mono hBx.size)
              go_wp2
              refine ⟨⟨1, by omega, rfl, fun q hq => ?_, hBu⟩, by simp [intOf]; omega⟩
              obtain rfl : q = 0 := by omega
              rw [hok.out, Hk.out, hm, Hfit.out]; rfl
            · obtain ⟨g', o', B2, m2, d2, hA', _, a0, a1, a2, a3, _⟩ := hIr.cell (show q < n by omega)
              injection hA' with hA'
              injection hA' with e1 e2
              subst e1 e2
              obtain ⟨y, hy⟩ : ∃ y, itAt xs q = y := ⟨_, rfl⟩
              rw [hy] at a0 a1 a2
              obtain ⟨l, hyk⟩ : ∃ l, y.k = l := ⟨_, rfl⟩
              rw [hyk] at a0 a1 a2
              obtain ⟨s, hl⟩ : ∃ s, l.less k = s := ⟨_, rfl⟩
              have hoks := Lib.hid (show okI xs (q + 1) = s by rw [hok.out, Hk.out, hm, Hfit.out, show q + 1 - 1 = q by omega, hy, hyk, hl]; simp)
              clear hy hyk
              have hgx : g < wx.heap.size := by have := bx.size; omega
              have p0 : ∀ u : Grown wx, u.to.cell? ⟨g, o + q * 4, none⟩ = some (.int .i64 l.obj) := Grown.cell ((bx.cell (p := ⟨g, _, none⟩) hg).trans a0) hgx
              have p1 : ∀ u : Grown wx, u.to.cell? ⟨g, o + q * 4 + 1, none⟩ = some (.int .i64 l.kind) := Grown.cell ((bx.cell (p := ⟨g, _, none⟩) hg).trans a1) hgx
              have p2 : ∀ u : Grown wx, u.to.cell? ⟨g, o + q * 4 + 2, none⟩ = some (.int .i64 l.off) := Grown.cell ((bx.cell (p := ⟨g, _, none⟩) hg).trans a2) hgx
              have p3 : ∀ u : Grown wx, u.to.cell? ⟨g, o + q * 4 + 3, none⟩ = some (.slice B2 m2 d2) := Grown.cell ((bx.cell (p := ⟨g, _, none⟩) hg).trans a3) hgx
              clear a0 a1 a2 a3
              have hq0 : (0 : Int) ≤ (q : Int) := by omega
              have hqn : (q : Int) < (n : Int) := by omega
              have hpos : (0 : Int) < (q : Int) + 1 := by omega
              have hw2 : IntKind.i64.wrap (q : Int) = (q : Int) := IntWalk.i64_in _ (by omega)
              have hw3 : IntKind.i64.wrap ((q : Int) + 1 - 1) = (q : Int) := by rw [Int.add_sub_cancel]; exact hw2
              have hw1 : IntKind.i64.wrap (((q + 1 : Nat) : Int) - 1) = (q : Int) := by rw [show ((q + 1 : Nat) : Int) - 1 = (q : Int) by omega]; exact hw2
              refine wp_region_grown (by kernel_rfl) (by kernel_rfl) ?_
              repeat (go_big_quiet_step (first
                | (go_at_call 74; exact Calls.grown (ckeyi_any k B' m' d' _))
                | (go_at_call 74; exact Calls.grown (ckeyi_any l B2 m2 d2 _))
                | (go_at_call 93; exact Calls.grown (cmayi_any k B' m' d' _ hfit _))
                | (go_at_call 123; exact Calls.grown (may_says k true hm _))
                | (go_at_call 42; exact Calls.grown (less_says l k s hl _))
                | fail))
              refine wpQuiet_nil ?_
              rintro _ ⟨u, rfl⟩
              have hBu := hBx.trans (u.ok.mono hBx.size)
              cases s
              · go_wp2
                go_ret
                exact ⟨by rw [Fin.out _ hoks.out rfl]; rfl, hBu⟩
              · go_wp2
                refine ⟨⟨q + 2, by omega, by go_num, fun p hp => ?_, hBu⟩, by simp [intOf]; omega⟩
                rcases (by omega : p < q + 1 ∨ p = q + 1) with h1 | rfl
                · exact hall p h1
                · exact hoks.out
      · obtain rfl : j = n := by omega
        have hyes := Lib.hid (show mayI xs lo hi = true by rw [Hmay.out]; exact all_yes hall)
        go_wp2
        go_ret
        exact ⟨by rw [hyes.out]; rfl, hB⟩

set_option maxRecDepth 100000 in
set_option maxHeartbeats 8000000 in
theorem cmayK_any (xs : List Kidd) (A : Option Addr) (n c : Nat) (lo hi : Int) (w : World) (hI : Kidl w A n c xs) (hn : n ≤ 100000) :
    Calls Tryz.prog 95 #[.slice A n c, .int .i64 lo, .int .i64 hi, .func (.func 77) #[] #[], .func (.func 96) #[] #[]] w fun e w' => e = .returned (.bool (mayK xs lo hi)) ∧ Below w.heap.size w w' := by
  have Hlen := Lib.hid hI.len
  obtain ⟨hb1, hb2⟩ := hI.bounds
  unfold maxLen at hb2
  go_enter Tryz.func95, Tryz.ntmps95
  go_wp2_with fail
  refine (cwithin_any (n : Int) lo hi _ rfl _).mono ?_
  cases hr : decide (lo ≤ (n : Int) ∧ (n : Int) ≤ hi)
  · rintro e w1 ⟨rfl, rfl⟩
    go_wp2
    go_ret
    exact ⟨by unfold mayK; rw [Hlen.out, hr]; rfl, Below.refl _ _⟩
  · rintro e w1 ⟨rfl, rfl⟩
    have Hmay := Lib.hid (show mayK xs lo hi = (List.range n).all (okK xs) by unfold mayK; rw [Hlen.out, hr]; rfl)
    clear hr
    go_wp2_with fail
    go_loopw [21] (fun i wr => ∃ j : Nat, j ≤ n ∧ i = .int .i64 (j : Int) ∧ (∀ q, q < j → okK xs q = true) ∧ Below w.heap.size w wr) (fun i _ => n - (intOf i).toNat)
    case atStart => exact ⟨0, Nat.zero_le _, rfl, fun q hq => by omega, Below.refl _ _⟩
    case round =>
      obtain ⟨j, hj, rfl, hall, hB⟩ := hrel
      by_cases hlt : j < n
      · have hIr := hI.below hB
        obtain ⟨g, o, hA, hg, c0, c1, c2, c3⟩ := hIr.cell hlt
        subst hA
        obtain ⟨x, hx⟩ : ∃ x, kidAt xs j = x := ⟨_, rfl⟩
        have hok := Lib.hid (show okK xs j = ((x.k.may && (decide (j = 0) || (kidAt xs (j - 1)).k.less x.k)) && fitK x) by unfold okK riseOk; rw [keyAt_kid, keyAt_kid, hx])
        rw [hx] at c0 c1 c2 c3
        obtain ⟨v, hv⟩ : ∃ v, x.a = v := ⟨_, rfl⟩
        rw [hv] at c3
        obtain ⟨f, hfit⟩ : ∃ f, decide (1 ≤ v ∧ v ≤ 2047) = f := ⟨_, rfl⟩
        have Hfit := Lib.hid (show fitK x = f by unfold fitK; rw [hv, hfit])
        clear hv
        obtain ⟨k, hk⟩ : ∃ k, x.k = k := ⟨_, rfl⟩
        rw [hk] at c0 c1 c2
        obtain ⟨r, hm⟩ : ∃ r, k.may = r := ⟨_, rfl⟩
        have Hk := Lib.hid hk
        clear hk hx
        go_wp2_with fail
        have bx : Below wr.heap.size wr (wr.alloc (.cells #[.int .i64 k.obj, .int .i64 k.kind, .int .i64 k.off, .int .i64 v] 62)) := (Below.refl _ _).alloc (Nat.le_refl _) _
        have x0 : (wr.alloc (.cells #[.int .i64 k.obj, .int .i64 k.kind, .int .i64 k.off, .int .i64 v] 62)).heap[wr.heap.size]? = some (.cells #[.int .i64 k.obj, .int .i64 k.kind, .int .i64 k.off, .int .i64 v] 62 (0, 0)) := heap_alloc_new wr _
        have zx : wr.heap.size < (wr.alloc (.cells #[.int .i64 k.obj, .int .i64 k.kind, .int .i64 k.off, .int .i64 v] 62)).heap.size := by simp
        generalize wr.alloc (.cells #[.int .i64 k.obj, .int .i64 k.kind, .int .i64 k.off, .int .i64 v] 62) = wx at bx x0 zx ⊢
        have q0 : ∀ u : Grown wx, u.to.cell? ⟨wr.heap.size, 0, none⟩ = some (.int .i64 k.obj) := Grown.cell (by rw [cell_of_row _ _ _ _ _ _ x0]; rfl) zx
        have q1 : ∀ u : Grown wx, u.to.cell? ⟨wr.heap.size, 1, none⟩ = some (.int .i64 k.kind) := Grown.cell (by rw [cell_of_row _ _ _ _ _ _ x0]; rfl) zx
        have q2 : ∀ u : Grown wx, u.to.cell? ⟨wr.heap.size, 2, none⟩ = some (.int .i64 k.off) := Grown.cell (by rw [cell_of_row _ _ _ _ _ _ x0]; rfl) zx
        have q3 : ∀ u : Grown wx, u.to.cell? ⟨wr.heap.size, 3, none⟩ = some (.int .i64 v) := Grown.cell (by rw [cell_of_row _ _ _ _ _ _ x0]; rfl) zx
        have hBx := hB.trans (bx.mono hB.size)
        clear c0 c1 c2 c3 x0
        have fin : ∀ b, okK xs j = b → b = false → mayK xs lo hi = false := fun b h1 h2 => by rw [Hmay.out]; exact all_no hlt (h1.trans h2)
        have Fin := Lib.hid fin
        clear fin
        cases r
        · refine wp_region_grown (by kernel_rfl) (by kernel_rfl) ?_
          repeat (go_big_quiet_step (first
            | (go_at_call 77; exact Calls.grown (ckeyk_any k v _))
            | (go_at_call 123; exact Calls.grown (may_says k false hm _))
            | fail))
          refine wpQuiet_nil ?_
          rintro _ ⟨u, rfl⟩
          have hBu := hBx.trans (u.ok.mono hBx.size)
          go_wp2
          go_ret
          exact ⟨by rw [Fin.out _ hok.out (by rw [Hk.out, hm]; rfl)]; rfl, hBu⟩
        · cases f
          · refine wp_region_grown (by kernel_rfl) (by kernel_rfl) ?_
            repeat (go_big_quiet_step (first
              | (go_at_call 77; exact Calls.grown (ckeyk_any k v _))
              | (go_at_call 96; exact Calls.grown (cmayk_any k v _ hfit _))
              | (go_at_call 123; exact Calls.grown (may_says k true hm _))
              | fail))
            refine wpQuiet_nil ?_
            rintro _ ⟨u, rfl⟩
            have hBu := hBx.trans (u.ok.mono hBx.size)
            go_wp2
            go_ret
            exact ⟨by rw [Fin.out _ hok.out (by rw [Hfit.out, Bool.and_false])]; rfl, hBu⟩
          · rcases j with _ | q
            · refine wp_region_grown (by kernel_rfl) (by kernel_rfl) ?_
              repeat (go_big_quiet_step (first
                | (go_at_call 77; exact Calls.grown (ckeyk_any k v _))
                | (go_at_call 96; exact Calls.grown (cmayk_any k v _ hfit _))
                | (go_at_call 123; exact Calls.grown (may_says k true hm _))
                | fail))
              refine wpQuiet_nil ?_
              rintro _ ⟨u, rfl⟩
              have hBu := hBx.trans (u.ok.mono hBx.size)
              go_wp2
              refine ⟨⟨1, by omega, rfl, fun q hq => ?_, hBu⟩, by simp [intOf]; omega⟩
              obtain rfl : q = 0 := by omega
              rw [hok.out, Hk.out, hm, Hfit.out]; rfl
            · obtain ⟨g', o', hA', _, a0, a1, a2, a3⟩ := hIr.cell (show q < n by omega)
              injection hA' with hA'
              injection hA' with e1 e2
              subst e1 e2
              obtain ⟨y, hy⟩ : ∃ y, kidAt xs q = y := ⟨_, rfl⟩
              rw [hy] at a0 a1 a2 a3
              obtain ⟨v2, hv2⟩ : ∃ v2, y.a = v2 := ⟨_, rfl⟩
              rw [hv2] at a3
              clear hv2
              obtain ⟨l, hyk⟩ : ∃ l, y.k = l := ⟨_, rfl⟩
              rw [hyk] at a0 a1 a2
              obtain ⟨s, hl⟩ : ∃ s, l.less k = s := ⟨_, rfl⟩
              have hoks := Lib.hid (show okK xs (q + 1) = s by rw [hok.out, Hk.out, hm, Hfit.out, show q + 1 - 1 = q by omega, hy, hyk, hl]; simp)
              clear hy hyk
              have hgx : g < wx.heap.size := by have := bx.size; omega
              have p0 : ∀ u : Grown wx, u.to.cell? ⟨g, o + q * 4, none⟩ = some (.int .i64 l.obj) := Grown.cell ((bx.cell (p := ⟨g, _, none⟩) hg).trans a0) hgx
              have p1 : ∀ u : Grown wx, u.to.cell? ⟨g, o + q * 4 + 1, none⟩ = some (.int .i64 l.kind) := Grown.cell ((bx.cell (p := ⟨g, _, none⟩) hg).trans a1) hgx
              have p2 : ∀ u : Grown wx, u.to.cell? ⟨g, o + q * 4 + 2, none⟩ = some (.int .i64 l.off) := Grown.cell ((bx.cell (p := ⟨g, _, none⟩) hg).trans a2) hgx
              have p3 : ∀ u : Grown wx, u.to.cell? ⟨g, o + q * 4 + 3, none⟩ = some (.int .i64 v2) := Grown.cell ((bx.cell (p := ⟨g, _, none⟩) hg).trans a3) hgx
              clear a0 a1 a2 a3
              have hq0 : (0 : Int) ≤ (q : Int) := by omega
              have hqn : (q : Int) < (n : Int) := by omega
              have hpos : (0 : Int) < (q : Int) + 1 := by omega
              have hw2 : IntKind.i64.wrap (q : Int) = (q : Int) := IntWalk.i64_in _ (by omega)
              have hw3 : IntKind.i64.wrap ((q : Int) + 1 - 1) = (q : Int) := by rw [Int.add_sub_cancel]; exact hw2
              have hw1 : IntKind.i64.wrap (((q + 1 : Nat) : Int) - 1) = (q : Int) := by rw [show ((q + 1 : Nat) : Int) - 1 = (q : Int) by omega]; exact hw2
              refine wp_region_grown (by kernel_rfl) (by kernel_rfl) ?_
              repeat (go_big_quiet_step (first
                | (go_at_call 77; exact Calls.grown (ckeyk_any k v _))
                | (go_at_call 77; exact Calls.grown (ckeyk_any l v2 _))
                | (go_at_call 96; exact Calls.grown (cmayk_any k v _ hfit _))
                | (go_at_call 123; exact Calls.grown (may_says k true hm _))
                | (go_at_call 42; exact Calls.grown (less_says l k s hl _))
                | fail))
              refine wpQuiet_nil ?_
              rintro _ ⟨u, rfl⟩
              have hBu := hBx.trans (u.ok.mono hBx.size)
              cases s
              · go_wp2
                go_ret
                exact ⟨by rw [Fin.out _ hoks.out rfl]; rfl, hBu⟩
              · go_wp2
                refine ⟨⟨q + 2, by omega, by go_num, fun p hp => ?_, hBu⟩, by simp [intOf]; omega⟩
                rcases (by omega : p < q + 1 ∨ p = q + 1) with h1 | rfl
                · exact hall p h1
                · exact hoks.out
      · obtain rfl : j = n := by omega
        have hyes := Lib.hid (show mayK xs lo hi = true by rw [Hmay.out]; exact all_yes hall)
        go_wp2
        go_ret
        exact ⟨by rw [hyes.out]; rfl, hB⟩
end Go.Proofs.YtgedmodnkiijkaaGreatDoor

namespace Go.Proofs.YtgedmodnkiijkaaGreatDoor
open Go Go.RowKit Go.Proofs

theorem all_iff {n : Nat} {f : Nat → Bool} : (List.range n).all f = true ↔ ∀ j, j < n → f j = true := by
  rw [List.all_eq_true]
  exact ⟨fun h j hj => h j (List.mem_range.2 hj), fun h j hj => h j (List.mem_range.1 hj)⟩
theorem itemsOk_iff (N : Nd) : itemsOk N = true ↔ ∀ j, j < N.items.length → fitI (itAt N.items j) = true := by
  constructor
  · intro h j hj
    unfold itemsOk at h
    exact List.all_eq_true.1 h _ (List.mem_of_getElem? (itAt_get hj))
  · intro h
    exact itemsOk_yes fun j hj => of_decide_eq_true (h j hj)
theorem kidsOk_iff (N : Nd) : kidsOk N = true ↔ ∀ j, j < N.kids.length → fitK (kidAt N.kids j) = true := by
  constructor
  · intro h j hj
    unfold kidsOk at h
    have := of_decide_eq_true (List.all_eq_true.1 h _ (List.mem_of_getElem? (kidAt_get hj)))
    exact decide_eq_true (by omega)
  · intro h
    refine kidsOk_yes fun j hj => ?_
    have := of_decide_eq_true (h j hj)
    omega
theorem may_leaf (N : Nd) (h : N.lvl = 0) (hk : N.kids.length = 0) : N.may = mayI N.items 1 6 := by
  have hks : N.keys = N.items.map (·.k) := by unfold Nd.keys; rw [List.eq_nil_of_length_eq_zero hk]; simp
  unfold Nd.may mayI
  rw [if_pos h, hks, Bool.eq_iff_iff]
  simp only [Bool.and_eq_true, decide_eq_true_eq, itemsOk_iff, rises, okI, all_iff, List.length_map]
  constructor
  · rintro ⟨h1, h2, h3⟩
    exact ⟨by omega, fun j hj => ⟨h2 j hj, h1 j hj⟩⟩
  · rintro ⟨h1, h2⟩
    exact ⟨fun j hj => (h2 j hj).2, fun j hj => (h2 j hj).1, by omega⟩
theorem may_leaf_no (N : Nd) (h : N.lvl = 0) (hk : ¬ N.kids.length = 0) : N.may = false := by
  unfold Nd.may
  rw [if_pos h, decide_eq_false (by omega), Bool.and_false, Bool.and_false]
theorem may_inner (N : Nd) (h : ¬ N.lvl = 0) (hl : 1 ≤ N.lvl ∧ N.lvl ≤ 7) (hi : N.items.length = 0) : N.may = mayK N.kids 2 12 := by
  have hks : N.keys = N.kids.map (·.k) := by unfold Nd.keys; rw [List.eq_nil_of_length_eq_zero hi]; simp
  unfold Nd.may mayK
  rw [if_neg h, hks, Bool.eq_iff_iff]
  simp only [Bool.and_eq_true, decide_eq_true_eq, kidsOk_iff, rises, okK, all_iff, List.length_map]
  constructor
  · rintro ⟨h1, h2, h3⟩
    exact ⟨by omega, fun j hj => ⟨h2 j hj, h1 j hj⟩⟩
  · rintro ⟨h1, h2⟩
    exact ⟨fun j hj => (h2 j hj).2, fun j hj => (h2 j hj).1, by omega⟩
theorem may_inner_no (N : Nd) (h : ¬ N.lvl = 0) (hl : ¬ ((1 ≤ N.lvl ∧ N.lvl ≤ 7) ∧ N.items.length = 0)) : N.may = false := by
  unfold Nd.may
  rw [if_neg h, decide_eq_false (by omega), Bool.and_false, Bool.and_false]

set_option maxRecDepth 100000 in
set_option maxHeartbeats 8000000 in
theorem cnmay_any (N : Nd) (r : Bool) (hr : N.may = r) (A : Option Addr) (n c : Nat) (B : Option Addr) (m d : Nat) (w : World) (hI : Itms w A n c N.items) (hK : Kidl w B m d N.kids) (hn : n ≤ 1000) (hm : m ≤ 1000) :
    Calls Tryz.prog 54 #[.agg #[.int .i64 N.lvl, .slice A n c, .slice B m d]] w fun e w' => e = .returned (.bool r) ∧ Below w.heap.size w w' := by
  have HlI := Lib.hid hI.len
  have HlK := Lib.hid hK.len
  go_enter Tryz.func54, Tryz.ntmps54
  go_wp2_with fail
  have N1 : NB (w.alloc (.cells #[.int .i64 N.lvl, .slice A n c, .slice B m d] 56)) w.heap.size N.lvl A n c B m d := NB.new w _ _ _ _ _ _ _ _
  have b1 : Below w.heap.size w (w.alloc (.cells #[.int .i64 N.lvl, .slice A n c, .slice B m d] 56)) := (Below.refl _ _).alloc (Nat.le_refl _) _
  generalize w.alloc (.cells #[.int .i64 N.lvl, .slice A n c, .slice B m d] 56) = w1 at N1 b1 ⊢
  by_cases hl : N.lvl = 0
  · refine (cleaf_any N.lvl true (decide_eq_true hl) A n c B m d w1).mono ?_
    rintro e w2 ⟨rfl, hb2⟩
    have N2 := N1.below hb2 N1.lt
    have B2 := b1.trans (hb2.mono b1.size)
    have q0 := N2.c0
    have q1 := N2.c1
    have q2 := N2.c2
    clear N1 b1 hb2
    by_cases hk : m = 0
    · have Hmay := Lib.hid (show r = mayI N.items 1 6 by rw [← hr]; exact may_leaf N hl (by rw [HlK.out]; exact hk))
      subst hk
      go_wp2_with fail
      refine (cmayI_any N.items A n c 1 6 w2 (hI.below B2) (by omega)).mono ?_
      rintro e w3 ⟨rfl, hb3⟩
      have B3 := B2.trans (hb3.mono B2.size)
      go_wp2
      go_ret
      exact ⟨by rw [Hmay.out]; rfl, B3⟩
    · have Hmay := Lib.hid (show r = false by rw [← hr]; exact may_leaf_no N hl (by rw [HlK.out]; exact hk))
      have h1 : ((m : Int) == 0) = false := by simp; omega
      have h2 : decide ((m : Int) = 0) = false := decide_eq_false (by omega)
      go_wp2
      go_ret
      exact ⟨by rw [Hmay.out]; rfl, B2⟩
  · refine (cleaf_any N.lvl false (decide_eq_false hl) A n c B m d w1).mono ?_
    rintro e w2 ⟨rfl, hb2⟩
    have N2 := N1.below hb2 N1.lt
    have B2 := b1.trans (hb2.mono b1.size)
    have q0 := N2.c0
    have q1 := N2.c1
    have q2 := N2.c2
    clear N1 b1 hb2
    go_wp2_with fail
    by_cases hw : 1 ≤ N.lvl ∧ N.lvl ≤ 7
    · refine (cwithin_any N.lvl 1 7 true (decide_eq_true hw) _).mono ?_
      rintro e w3 ⟨rfl, rfl⟩
      by_cases hi : n = 0
      · have Hmay := Lib.hid (show r = mayK N.kids 2 12 by rw [← hr]; exact may_inner N hl hw (by rw [HlI.out]; exact hi))
        subst hi
        go_wp2_with fail
        refine (cmayK_any N.kids B m d 2 12 _ (hK.below B2) (by omega)).mono ?_
        rintro e w3 ⟨rfl, hb3⟩
        have B3 := B2.trans (hb3.mono B2.size)
        go_wp2
        go_ret
        exact ⟨by rw [Hmay.out]; rfl, B3⟩
      · have Hmay := Lib.hid (show r = false by rw [← hr]; exact may_inner_no N hl (by rw [HlI.out]; omega))
        have h1 : ((n : Int) == 0) = false := by simp; omega
        have h2 : decide ((n : Int) = 0) = false := decide_eq_false (by omega)
        go_wp2
        go_ret
        exact ⟨by rw [Hmay.out]; rfl, B2⟩
    · refine (cwithin_any N.lvl 1 7 false (decide_eq_false hw) _).mono ?_
      rintro e w3 ⟨rfl, rfl⟩
      have Hmay := Lib.hid (show r = false by rw [← hr]; exact may_inner_no N hl (by omega))
      go_wp2
      go_ret
      exact ⟨by rw [Hmay.out]; rfl, B2⟩
end Go.Proofs.YtgedmodnkiijkaaGreatDoor

namespace Go.Proofs.YtgedmodnkiijkaaGreatDoor
open Go Go.RowKit Go.Proofs

/-- What a node that may be is like. -/
def Nd.fit (N : Nd) : Prop := (N.lvl = 0 → N.kids = []) ∧ (¬ N.lvl = 0 → N.items = [])
theorem may_fit {N : Nd} (hm : N.may = true) : N.fit := by
  constructor
  · intro hl
    refine List.eq_nil_of_length_eq_zero ?_
    unfold Nd.may at hm
    rw [if_pos hl, Bool.and_eq_true, Bool.and_eq_true] at hm
    exact (of_decide_eq_true hm.2.2).1
  · intro hl
    refine List.eq_nil_of_length_eq_zero ?_
    unfold Nd.may at hm
    rw [if_neg hl, Bool.and_eq_true, Bool.and_eq_true] at hm
    exact (of_decide_eq_true hm.2.2).2.2.1
theorem fit_leaf {N : Nd} (h : N.fit) (hl : N.lvl = 0) : N.keys = N.items.map (·.k) := by unfold Nd.keys; rw [h.1 hl]; simp
theorem fit_inner {N : Nd} (h : N.fit) (hl : ¬ N.lvl = 0) : N.keys = N.kids.map (·.k) := by unfold Nd.keys; rw [h.2 hl]; simp


set_option maxRecDepth 100000 in
set_option maxHeartbeats 8000000 in
theorem cseek_any (N : Nd) (hfit : N.fit) (k : Kd) (t : Nat) (ht : N.seek k = t) (r : Bool) (hr : foundAt N.keys k t = r) (A : Option Addr) (n c : Nat) (B : Option Addr) (m d : Nat) (w : World) (hI : Itms w A n c N.items) (hK : Kidl w B m d N.kids) (hn : n ≤ 1000) (hm : m ≤ 1000) :
    Calls Tryz.prog 40 #[.agg #[.int .i64 N.lvl, .slice A n c, .slice B m d], .agg #[.int .i64 k.obj, .int .i64 k.kind, .int .i64 k.off]] w fun e w' => e = .returned (.tuple #[.int .i64 (t : Int), .bool r]) ∧ Below w.heap.size w w' := by
  have HlK := Lib.hid hK.len
  go_enter Tryz.func40, Tryz.ntmps40
  go_wp2_with fail
  have N1 : NB ((w.alloc (.cells #[.int .i64 N.lvl, .slice A n c, .slice B m d] 56)).alloc (.cells #[.int .i64 k.obj, .int .i64 k.kind, .int .i64 k.off] 39)) w.heap.size N.lvl A n c B m d := (NB.new w _ _ _ _ _ _ _ _).below ((Below.refl _ _).alloc (Nat.le_refl _) _) (by simp)
  have K1 : KB ((w.alloc (.cells #[.int .i64 N.lvl, .slice A n c, .slice B m d] 56)).alloc (.cells #[.int .i64 k.obj, .int .i64 k.kind, .int .i64 k.off] 39)) (w.heap.size + 1) k := KB.new2 w _ k.obj k.kind k.off _
  have b1 : Below w.heap.size w ((w.alloc (.cells #[.int .i64 N.lvl, .slice A n c, .slice B m d] 56)).alloc (.cells #[.int .i64 k.obj, .int .i64 k.kind, .int .i64 k.off] 39)) := ((Below.refl _ _).alloc (Nat.le_refl _) _).alloc (by simp) _
  generalize (w.alloc (.cells #[.int .i64 N.lvl, .slice A n c, .slice B m d] 56)).alloc (.cells #[.int .i64 k.obj, .int .i64 k.kind, .int .i64 k.off] 39) = w1 at N1 K1 b1 ⊢
  by_cases hl : N.lvl = 0
  · have hks := fit_leaf hfit hl
    have Hseek := Lib.hid (show lead (N.items.map (·.k)) k = t by rw [← ht]; unfold Nd.seek; rw [if_pos hl, hks])
    have Hfound := Lib.hid (show foundAt (N.items.map (·.k)) k t = r by rw [← hr, hks])
    refine (cleaf_any N.lvl true (decide_eq_true hl) A n c B m d w1).mono ?_
    rintro e w2 ⟨rfl, hb2⟩
    have N2 := N1.below hb2 N1.lt
    have K2 := K1.below hb2 K1.lt
    have B2 := b1.trans (hb2.mono b1.size)
    have q1 := N2.c1
    have k0 := K2.c0
    have k1 := K2.c1
    have k2 := K2.c2
    clear hl hks ht hr N1 K1 b1 hb2
    go_wp2_with fail
    refine (clead_any N.items k A n c w2 (hI.below B2) (by omega)).mono ?_
    rw [Hseek.out]
    rintro e w3 ⟨rfl, hb3⟩
    have N3 := N2.below hb3 N2.lt
    have K3 := K2.below hb3 K2.lt
    have B3 := B2.trans (hb3.mono B2.size)
    clear q1 k0 k1 k2
    have q1 := N3.c1
    have k0 := K3.c0
    have k1 := K3.c1
    have k2 := K3.c2
    clear N2 K2 hb3
    go_wp2_with fail
    refine (cstandsI_any N.items t k r Hfound.out A n c w3 (hI.below B3) (by omega)).mono ?_
    rintro e w4 ⟨rfl, hb4⟩
    have B4 := B3.trans (hb4.mono B3.size)
    go_wp2
    go_ret2
    exact ⟨rfl, B4⟩
  · have hks := fit_inner hfit hl
    have Hseek := Lib.hid (show lastTo (N.kids.map (·.k)) k m = t by rw [← ht]; unfold Nd.seek; rw [if_neg hl, hks, List.length_map, HlK.out])
    have Hfound := Lib.hid (show foundAt (N.kids.map (·.k)) k t = r by rw [← hr, hks])
    refine (cleaf_any N.lvl false (decide_eq_false hl) A n c B m d w1).mono ?_
    rintro e w2 ⟨rfl, hb2⟩
    have N2 := N1.below hb2 N1.lt
    have K2 := K1.below hb2 K1.lt
    have B2 := b1.trans (hb2.mono b1.size)
    have q2 := N2.c2
    have k0 := K2.c0
    have k1 := K2.c1
    have k2 := K2.c2
    clear hl hks ht hr N1 K1 b1 hb2
    go_wp2_with fail
    refine (clast_any N.kids k B m d w2 (hK.below B2) (by omega)).mono ?_
    rw [Hseek.out]
    rintro e w3 ⟨rfl, hb3⟩
    have N3 := N2.below hb3 N2.lt
    have K3 := K2.below hb3 K2.lt
    have B3 := B2.trans (hb3.mono B2.size)
    clear q2 k0 k1 k2
    have q2 := N3.c2
    have k0 := K3.c0
    have k1 := K3.c1
    have k2 := K3.c2
    clear N2 K2 hb3
    go_wp2_with fail
    refine (cstandsK_any N.kids t k r Hfound.out B m d w3 (hK.below B3) (by omega)).mono ?_
    rintro e w4 ⟨rfl, hb4⟩
    have B4 := B3.trans (hb4.mono B3.size)
    go_wp2
    go_ret2
    exact ⟨rfl, B4⟩


end Go.Proofs.YtgedmodnkiijkaaGreatDoor

namespace Go.Proofs.YtgedmodnkiijkaaGreatDoor
open Go Go.RowKit Go.Proofs

theorem head_leaf {N : Nd} (addr gen : Int) {n : Nat} {K : Int} (hl : N.lvl = 0) (hm : N.may = true) (hn : N.items.length = n) (hK : (if N.lvl = 0 then 3 else 4) = K) : N.head addr gen = ⟨K, addr, (n : Int), N.lvl, gen⟩ ∧ N.body = N.items.flatMap itBytes := by
  rw [if_pos hl] at hK
  have hk : N.kids = [] := by
    refine List.eq_nil_of_length_eq_zero ?_
    unfold Nd.may at hm
    rw [if_pos hl, Bool.and_eq_true, Bool.and_eq_true] at hm
    exact (of_decide_eq_true hm.2.2).1
  unfold Nd.head Nd.body
  rw [hk, hn, if_neg (by omega), hK]
  simp
theorem head_inner {N : Nd} (addr gen : Int) {m : Nat} {K : Int} (hl : ¬ N.lvl = 0) (hm : N.may = true) (hn : N.kids.length = m) (hK : (if N.lvl = 0 then 3 else 4) = K) : N.head addr gen = ⟨K, addr, (m : Int), N.lvl, gen⟩ ∧ N.body = N.kids.flatMap kidBytes := by
  rw [if_neg hl] at hK
  unfold Nd.may at hm
  rw [if_neg hl, Bool.and_eq_true, Bool.and_eq_true] at hm
  have h2 := of_decide_eq_true hm.2.2
  have hk : N.items = [] := List.eq_nil_of_length_eq_zero h2.2.2.1
  unfold Nd.head Nd.body
  rw [hk, hn, if_pos (by omega), hK]
  simp
theorem set_count {w : World} {b : Nat} {K addr lvl gen x y : Int} (H : HB w b ⟨K, addr, x, lvl, gen⟩) : HB (w.setCell ⟨b, 2, none⟩ (.int .i64 y)) b ⟨K, addr, y, lvl, gen⟩ := H.set_ 3 y

set_option maxRecDepth 100000 in
set_option maxHeartbeats 8000000 in
theorem cwrite_own (N : Nd) (addr gen : Int) (A : Option Addr) (n c : Nat) (B : Option Addr) (m d : Nat) (w : World) (hI : Itms w A n c N.items) (hK : Kidl w B m d N.kids) (hn : n ≤ 1000) (hm : m ≤ 1000) (ht : Tab w) :
    Calls Tryz.prog 56 #[.agg #[.int .i64 N.lvl, .slice A n c, .slice B m d], .int .i64 addr, .int .i64 gen] w fun e w' => ∃ A' n' c', e = .returned (.tuple #[.slice A' n' c', .int .i64 (writeE N addr gen)]) ∧ Own w' w.heap.size 5 A' n' c' (writeB N addr gen) ∧ (writeE N addr gen = 0 → ∃ g, A' = some ⟨g, 0, none⟩ ∧ n' = 256 ∧ c' = 256) ∧ Below w.heap.size w w' := by
  have HlI := Lib.hid hI.len
  have HlK := Lib.hid hK.len
  go_enter Tryz.func56, Tryz.ntmps56
  go_wp2_with fail
  have N1 : NB (w.alloc (.cells #[.int .i64 N.lvl, .slice A n c, .slice B m d] 56)) w.heap.size N.lvl A n c B m d := NB.new w _ _ _ _ _ _ _ _
  have b1 : Below w.heap.size w (w.alloc (.cells #[.int .i64 N.lvl, .slice A n c, .slice B m d] 56)) := (Below.refl _ _).alloc (Nat.le_refl _) _
  generalize w.alloc (.cells #[.int .i64 N.lvl, .slice A n c, .slice B m d] 56) = w1 at N1 b1 ⊢
  cases hmay : N.may
  · refine (cnmay_any N false hmay A n c B m d w1 (hI.below b1) (hK.below b1) hn hm).mono ?_
    rintro e w2 ⟨rfl, hb2⟩
    go_wp2
    go_ret2
    have h1 : writeE N addr gen = 1 := by unfold writeE; rw [hmay]; rfl
    have h2 : writeB N addr gen = [] := by unfold writeB; rw [hmay]; rfl
    rw [h1, h2]
    exact ⟨_, _, _, rfl, own_none _ _ _, (fun h => by cases h), b1.trans (hb2.mono b1.size)⟩
  · refine (cnmay_any N true hmay A n c B m d w1 (hI.below b1) (hK.below b1) hn hm).mono ?_
    rintro e w2 ⟨rfl, hb2⟩
    have N2 := N1.below hb2 N1.lt
    have B2 := b1.trans (hb2.mono b1.size)
    have n0 := N2.c0
    obtain ⟨_, _, hvals, _⟩ := may_sizes hmay
    have Hv := Lib.hid hvals
    have hmayH := Lib.hid hmay
    clear hvals
    obtain ⟨K, hK3'⟩ : ∃ K : Int, (if N.lvl = 0 then 3 else 4) = K := ⟨_, rfl⟩
    have hK3 := Lib.hid hK3'
    clear hK3'
    have zn := N2.lt
    have hS : ∀ w' : World, Below w2.heap.size w2 w' → w'.cell? ⟨w.heap.size, 0, none⟩ = some (.int .i64 N.lvl) ∧ Below w2.heap.size w2 w' :=
      fun w' hb => ⟨(hb.cell (p := ⟨w.heap.size, _, none⟩) zn).trans n0, hb⟩
    have BD : Below w2.heap.size w2 w2.drew := (Below.refl _ w2).drew
    go_wp2_with fail
    go_region_held3 (fun w' => w'.cell? ⟨w.heap.size, 0, none⟩ = some (.int .i64 N.lvl) ∧ Below w2.heap.size w2 w')
      (first | assumption | exact hS _ BD | exact hS _ (BD.alloc (Nat.le_refl _) _))
      (first
        | (go_at_call 82; refine (cblock_says N.lvl K hK3.out _).mono ?_; rintro e w3 ⟨rfl, rfl⟩)
        | fail)
    all_goals
      have H3 : HB (w2.alloc (.cells #[.int .i64 K, .int .i64 addr, .int .i64 0, .int .i64 N.lvl, .int .i64 gen] 133)).drew w2.heap.size ⟨K, addr, 0, N.lvl, gen⟩ := ⟨_, heap_alloc_new w2 _⟩
      have b3 : Below w2.heap.size w2 (w2.alloc (.cells #[.int .i64 K, .int .i64 addr, .int .i64 0, .int .i64 N.lvl, .int .i64 gen] 133)).drew := ((Below.refl _ w2).alloc (Nat.le_refl _) _).drew
      have h3lt : w2.heap.size < (w2.alloc (.cells #[.int .i64 K, .int .i64 addr, .int .i64 0, .int .i64 N.lvl, .int .i64 gen] 133)).drew.heap.size := by simp
      clear hS BD
      generalize (w2.alloc (.cells #[.int .i64 K, .int .i64 addr, .int .i64 0, .int .i64 N.lvl, .int .i64 gen] 133)).drew = w3 at *
      have N3 := N2.below b3 zn
      have B3 := B2.trans (b3.mono B2.size)
      clear N2 B2 b3 n0 N1 b1
      by_cases hl : N.lvl = 0
      · have hhb := head_leaf addr gen hl hmayH.out HlI.out hK3.out
        have Hhead := Lib.hid hhb.1
        have Hbody := Lib.hid hhb.2
        clear hhb
        have Hl := Lib.hid hl
        clear hl
        have q0 := N3.c0
        have q1 := N3.c1
        have q2 := N3.c2
        go_wp2_with fail
        refine (cleaf_any N.lvl true (decide_eq_true Hl.out) A n c B m d w3).mono ?_
        rintro e w4 ⟨rfl, hb4⟩
        have N4 := N3.below hb4 N3.lt
        have H4 := H3.below hb4 h3lt
        have B4 := B3.trans (hb4.mono B3.size)
        have z4 : w2.heap.size < w4.heap.size := Nat.lt_of_lt_of_le h3lt hb4.size
        clear hb4 N3 H3 B3 h3lt q0 q1 q2
        have nn := N4.c1
        have hw2 : w.heap.size < w2.heap.size := zn
        have hS : ∀ w' : World, Below w2.heap.size w4 w' → w'.cell? ⟨w.heap.size, 1, none⟩ = some (.slice A n c) ∧ Below w2.heap.size w4 w' :=
          fun w' hb => ⟨(hb.cell (p := ⟨w.heap.size, _, none⟩) hw2).trans nn, hb⟩
        have BD : Below w2.heap.size w4 w4.drew := (Below.refl _ w4).drew
        have hIW : ∀ w' : World, Below w2.heap.size w4 w' → Itms w' A n c N.items := fun w' hb => hI.below (B4.trans (hb.mono (Nat.le_of_lt hw2)))
        have h2 := H4.at_ 3
        have f2 := H4.fz 3
        have BS : Below w2.heap.size w4 ((w4.setCell ⟨w2.heap.size, 2, none⟩ (.int .i64 (n : Int))).drew) := ((Below.refl _ w4).setCell (p := ⟨w2.heap.size, 2, none⟩) (Nat.le_refl w2.heap.size) _).drew
        have zS : w4.heap.size ≤ (w4.setCell ⟨w2.heap.size, 2, none⟩ (.int .i64 (n : Int))).drew.heap.size := by simp
        have zD : w4.heap.size ≤ w4.drew.heap.size := Nat.le_refl _
        simp only [foff] at h2 f2
        go_wp2_with fail
        go_region_held3 (fun w' => w'.cell? ⟨w.heap.size, 1, none⟩ = some (.slice A n c) ∧ Below w2.heap.size w4 w')
          (first | assumption | exact hS _ BD | exact hS _ BS | exact hS _ bb5 | exact hS _ (bb5.setCell (p := ⟨w2.heap.size, 2, none⟩) (Nat.le_refl w2.heap.size) _))
          (first
            | (go_at_call 98; refine (cputI_any N.items A n c _ (hIW _ (by first | exact BD | exact BS)) (by omega) (fun j hj => Hv.out j (by rw [HlI.out]; exact hj))).mono ?_; rintro e w5 ⟨A5, n5, c5, rfl, hn5, s5, o5, hb5⟩; have bb5 : Below w2.heap.size w4 w5 := (by first | exact BD.trans (hb5.mono (Nat.le_trans (Nat.le_of_lt z4) zD)) | exact BS.trans (hb5.mono (Nat.le_trans (Nat.le_of_lt z4) zS))); have g5 := (show w5.cell? ⟨w2.heap.size, 2, none⟩ = _ from hb5.cell (p := ⟨w2.heap.size, 2, none⟩) (by first | exact Nat.lt_of_lt_of_le z4 zD | exact Nat.lt_of_lt_of_le z4 zS)); have k5 := (show w5.frozen? ⟨w2.heap.size, 2, none⟩ = _ from hb5.frozen (p := ⟨w2.heap.size, 2, none⟩) (by first | exact Nat.lt_of_lt_of_le z4 zD | exact Nat.lt_of_lt_of_le z4 zS)))
            | fail)
        all_goals
          simp only [Hd.fld] at h2
          have H5 : HB w5 w2.heap.size ⟨K, addr, 0, N.lvl, gen⟩ := (show HB w4.drew _ _ from H4).below hb5 z4
          have H6 := set_count (y := (n : Int)) H5
          have s6 := s5.turned (turn_setCell (S := fun k => k = w2.heap.size) (w := w5) (a := ⟨w2.heap.size, 2, none⟩) (.int .i64 (n : Int)) rfl) (fun k hk e => by
            cases A5 with
            | none => cases hk
            | some ad =>
              have e1 := o5 ad rfl
              have e2 : ad.block = k := Option.some.inj hk
              have e3 : w4.heap.size ≤ ad.block := e1
              omega)
          have B6 := B4.trans ((bb5.setCell (p := ⟨w2.heap.size, 2, none⟩) (Nat.le_refl w2.heap.size) (.int .i64 (n : Int))).mono (Nat.le_of_lt hw2))
          clear s5
          generalize w5.setCell ⟨w2.heap.size, 2, none⟩ (.int .i64 (n : Int)) = w6 at H6 s6 B6 ⊢
          clear hS BD BS hIW h2 f2 g5 k5 hb5 bb5 nn zS zD N4 H4
          go_wp2_with (first
            | (refine wp_load_hd rfl (.tmp 8) rfl w2.heap.size rfl _ H6 ?_)
            | fail)
          refine (seal_any _ A5 n5 c5 _ _ s6 (ht.below B6 ht.1)).mono ?_
          rintro e w7 ⟨A7, n7, c7, rfl, own7, hf7, hb7⟩
          rw [← Hbody.out, ← Hhead.out] at own7
          have s7 := own7.less B6.size
          have B7 := B6.trans (hb7.mono B6.size)
          have hE := Lib.hid (show writeE N addr gen = sealE (N.head addr gen) N.body by unfold writeE; rw [hmayH.out]; rfl)
          have hBy : sealB (N.head addr gen) N.body = writeB N addr gen := by unfold writeB; rw [hmayH.out]; rfl
          rw [hBy] at s7
          clear hBy
          go_wp2
          go_ret2
          rw [hE.out, Hhead.out, Hbody.out]
          exact ⟨_, _, _, rfl, s7, hf7, B7⟩
      · have hhb := head_inner addr gen hl hmayH.out HlK.out hK3.out
        have Hhead := Lib.hid hhb.1
        have Hbody := Lib.hid hhb.2
        clear hhb
        have Hl := Lib.hid hl
        clear hl
        have q0 := N3.c0
        have q1 := N3.c1
        have q2 := N3.c2
        go_wp2_with fail
        refine (cleaf_any N.lvl false (decide_eq_false Hl.out) A n c B m d w3).mono ?_
        rintro e w4 ⟨rfl, hb4⟩
        have N4 := N3.below hb4 N3.lt
        have H4 := H3.below hb4 h3lt
        have B4 := B3.trans (hb4.mono B3.size)
        have z4 : w2.heap.size < w4.heap.size := Nat.lt_of_lt_of_le h3lt hb4.size
        clear hb4 N3 H3 B3 h3lt q0 q1 q2
        have nn := N4.c2
        have hw2 : w.heap.size < w2.heap.size := zn
        have hS : ∀ w' : World, Below w2.heap.size w4 w' → w'.cell? ⟨w.heap.size, 2, none⟩ = some (.slice B m d) ∧ Below w2.heap.size w4 w' :=
          fun w' hb => ⟨(hb.cell (p := ⟨w.heap.size, _, none⟩) hw2).trans nn, hb⟩
        have BD : Below w2.heap.size w4 w4.drew := (Below.refl _ w4).drew
        have hIW : ∀ w' : World, Below w2.heap.size w4 w' → Kidl w' B m d N.kids := fun w' hb => hK.below (B4.trans (hb.mono (Nat.le_of_lt hw2)))
        have h2 := H4.at_ 3
        have f2 := H4.fz 3
        have BS : Below w2.heap.size w4 ((w4.setCell ⟨w2.heap.size, 2, none⟩ (.int .i64 (m : Int))).drew) := ((Below.refl _ w4).setCell (p := ⟨w2.heap.size, 2, none⟩) (Nat.le_refl w2.heap.size) _).drew
        have zS : w4.heap.size ≤ (w4.setCell ⟨w2.heap.size, 2, none⟩ (.int .i64 (m : Int))).drew.heap.size := by simp
        have zD : w4.heap.size ≤ w4.drew.heap.size := Nat.le_refl _
        simp only [foff] at h2 f2
        go_wp2_with fail
        go_region_held3 (fun w' => w'.cell? ⟨w.heap.size, 2, none⟩ = some (.slice B m d) ∧ Below w2.heap.size w4 w')
          (first | assumption | exact hS _ BD | exact hS _ BS | exact hS _ bb5 | exact hS _ (bb5.setCell (p := ⟨w2.heap.size, 2, none⟩) (Nat.le_refl w2.heap.size) _))
          (first
            | (go_at_call 100; refine (cputK_any N.kids B m d _ (hIW _ (by first | exact BD | exact BS)) (by omega)).mono ?_; rintro e w5 ⟨A5, n5, c5, rfl, hn5, s5, o5, hb5⟩; have bb5 : Below w2.heap.size w4 w5 := (by first | exact BD.trans (hb5.mono (Nat.le_trans (Nat.le_of_lt z4) zD)) | exact BS.trans (hb5.mono (Nat.le_trans (Nat.le_of_lt z4) zS))); have g5 := (show w5.cell? ⟨w2.heap.size, 2, none⟩ = _ from hb5.cell (p := ⟨w2.heap.size, 2, none⟩) (by first | exact Nat.lt_of_lt_of_le z4 zD | exact Nat.lt_of_lt_of_le z4 zS)); have k5 := (show w5.frozen? ⟨w2.heap.size, 2, none⟩ = _ from hb5.frozen (p := ⟨w2.heap.size, 2, none⟩) (by first | exact Nat.lt_of_lt_of_le z4 zD | exact Nat.lt_of_lt_of_le z4 zS)))
            | fail)
        all_goals
          simp only [Hd.fld] at h2
          have H5 : HB w5 w2.heap.size ⟨K, addr, 0, N.lvl, gen⟩ := (show HB w4.drew _ _ from H4).below hb5 z4
          have H6 := set_count (y := (m : Int)) H5
          have s6 := s5.turned (turn_setCell (S := fun k => k = w2.heap.size) (w := w5) (a := ⟨w2.heap.size, 2, none⟩) (.int .i64 (m : Int)) rfl) (fun k hk e => by
            cases A5 with
            | none => cases hk
            | some ad =>
              have e1 := o5 ad rfl
              have e2 : ad.block = k := Option.some.inj hk
              have e3 : w4.heap.size ≤ ad.block := e1
              omega)
          have B6 := B4.trans ((bb5.setCell (p := ⟨w2.heap.size, 2, none⟩) (Nat.le_refl w2.heap.size) (.int .i64 (m : Int))).mono (Nat.le_of_lt hw2))
          clear s5
          generalize w5.setCell ⟨w2.heap.size, 2, none⟩ (.int .i64 (m : Int)) = w6 at H6 s6 B6 ⊢
          clear hS BD BS hIW h2 f2 g5 k5 hb5 bb5 nn zS zD N4 H4
          go_wp2_with (first
            | (refine wp_load_hd rfl (.tmp 8) rfl w2.heap.size rfl _ H6 ?_)
            | fail)
          refine (seal_any _ A5 n5 c5 _ _ s6 (ht.below B6 ht.1)).mono ?_
          rintro e w7 ⟨A7, n7, c7, rfl, own7, hf7, hb7⟩
          rw [← Hbody.out, ← Hhead.out] at own7
          have s7 := own7.less B6.size
          have B7 := B6.trans (hb7.mono B6.size)
          have hE := Lib.hid (show writeE N addr gen = sealE (N.head addr gen) N.body by unfold writeE; rw [hmayH.out]; rfl)
          have hBy : sealB (N.head addr gen) N.body = writeB N addr gen := by unfold writeB; rw [hmayH.out]; rfl
          rw [hBy] at s7
          clear hBy
          go_wp2
          go_ret2
          rw [hE.out, Hhead.out, Hbody.out]
          exact ⟨_, _, _, rfl, s7, hf7, B7⟩
end Go.Proofs.YtgedmodnkiijkaaGreatDoor
