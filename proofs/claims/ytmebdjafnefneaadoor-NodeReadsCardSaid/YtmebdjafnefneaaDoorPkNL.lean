/- The code's node: its small functions. The code's node: may, for items and for kids. The code's node: May. -/
import Derived.Test.YtmebdjafnefneaaDoorPkNA
import Derived.Deep.RegionHeld3
import Derived.Deep.QuietTactic
import Derived.BigQuiet
import Derived.Test.YtmebdjafnefneaaDoorGrown
namespace Go.Proofs.YtmebdjafnefneaaDoor
open Go Go.RowKit Go.Proofs

theorem cleaf_any (l : Int) (r : Bool) (h : decide (l = 0) = r) (A : Option Addr) (n c : Nat) (B : Option Addr) (m d : Nat) (w : World) :
    Calls Tryd.prog 26 #[.agg #[.int .i64 l, .slice A n c, .slice B m d]] w fun e w' => e = .returned (.bool r) ∧ Below w.heap.size w w' := by
  go_enter Tryd.func26, Tryd.ntmps26
  go_wp2
  go_ret
  refine ⟨?_, (Below.refl _ _).alloc (Nat.le_refl _) _⟩
  rw [← h]
  first | rfl | (refine congrArg (fun x => Ending.returned (Value.bool x)) ?_; rw [Bool.eq_iff_iff]; simp)
theorem cwithin_any (x a b : Int) (r : Bool) (h : decide (a ≤ x ∧ x ≤ b) = r) (w : World) :
    Calls Tryd.prog 30 #[.int .i64 x, .int .i64 a, .int .i64 b] w fun e w' => e = .returned (.bool r) ∧ w = w' := by
  subst h
  go_enter Tryd.func30, Tryd.ntmps30
  go_wp2
  all_goals
    go_ret
    refine ⟨congrArg (fun x => Ending.returned (Value.bool x)) ?_, rfl⟩
    first
      | exact (decide_eq_false (by omega)).symm
      | exact decide_eq_decide.2 (by omega)
      | (rw [Bool.eq_iff_iff]; simp; omega)
theorem cblock_any (x : Int) (w : World) :
    Calls Tryd.prog 35 #[.int .i64 x] w fun e w' => e = .returned (.int .i64 (if x = 0 then 3 else 4)) ∧ w = w' := by
  by_cases h : x = 0
  · rw [if_pos h]
    go_enter Tryd.func35, Tryd.ntmps35
    go_wp2
    go_ret
    exact ⟨rfl, rfl⟩
  · rw [if_neg h]
    go_enter Tryd.func35, Tryd.ntmps35
    go_wp2
    go_ret
    exact ⟨rfl, rfl⟩
theorem cblock_says (x k : Int) (h : (if x = 0 then 3 else 4) = k) (w : World) :
    Calls Tryd.prog 35 #[.int .i64 x] w fun e w' => e = .returned (.int .i64 k) ∧ w = w' := by
  subst h
  exact cblock_any x w
theorem ckeyi_any (k : Kd) (B : Option Addr) (m d : Nat) (w : World) :
    Calls Tryd.prog 28 #[.agg #[.int .i64 k.obj, .int .i64 k.kind, .int .i64 k.off, .slice B m d]] w fun e w' => e = .returned (.agg #[.int .i64 k.obj, .int .i64 k.kind, .int .i64 k.off]) ∧ Below w.heap.size w w' := by
  go_enter Tryd.func28, Tryd.ntmps28
  go_wp2
  refine bodyPost_ret (res_c1 Tryd.results28 rfl (load_kd (KB.new2 w _ k.obj k.kind k.off _))) rfl ?_
  exact ⟨rfl, ((Below.refl _ _).alloc (Nat.le_refl _) _).alloc (by simp) _⟩
theorem ckeyk_any (k : Kd) (a : Int) (w : World) :
    Calls Tryd.prog 32 #[.agg #[.int .i64 k.obj, .int .i64 k.kind, .int .i64 k.off, .int .i64 a]] w fun e w' => e = .returned (.agg #[.int .i64 k.obj, .int .i64 k.kind, .int .i64 k.off]) ∧ Below w.heap.size w w' := by
  go_enter Tryd.func32, Tryd.ntmps32
  go_wp2
  refine bodyPost_ret (res_c1 Tryd.results32 rfl (load_kd (KB.new2 w _ k.obj k.kind k.off _))) rfl ?_
  exact ⟨rfl, ((Below.refl _ _).alloc (Nat.le_refl _) _).alloc (by simp) _⟩
theorem cmayi_any (k : Kd) (B : Option Addr) (m d : Nat) (r : Bool) (h : decide (m ≤ 28) = r) (w : World) :
    Calls Tryd.prog 29 #[.agg #[.int .i64 k.obj, .int .i64 k.kind, .int .i64 k.off, .slice B m d]] w fun e w' => e = .returned (.bool r) ∧ Below w.heap.size w w' := by
  go_enter Tryd.func29, Tryd.ntmps29
  go_wp2
  go_ret
  refine ⟨?_, (Below.refl _ _).alloc (Nat.le_refl _) _⟩
  rw [← h]
  exact congrArg (fun x => Ending.returned (Value.bool x)) (decide_eq_decide.2 (by omega))
theorem cmayk_any (k : Kd) (a : Int) (r : Bool) (h : decide (1 ≤ a ∧ a ≤ 2047) = r) (w : World) :
    Calls Tryd.prog 33 #[.agg #[.int .i64 k.obj, .int .i64 k.kind, .int .i64 k.off, .int .i64 a]] w fun e w' => e = .returned (.bool r) ∧ Below w.heap.size w w' := by
  go_enter Tryd.func33, Tryd.ntmps33
  go_wp2_with fail
  refine (cwithin_any a 1 2047 r h _).mono ?_
  rintro e w1 ⟨rfl, rfl⟩
  go_wp2
  go_ret
  exact ⟨rfl, (Below.refl _ _).alloc (Nat.le_refl _) _⟩
end Go.Proofs.YtmebdjafnefneaaDoor

namespace Go.Proofs.YtmebdjafnefneaaDoor
open Go Go.RowKit Go.Proofs

def fitI (x : Itm) : Bool := decide (x.v.length ≤ 28)
def fitK (x : Kidd) : Bool := decide (1 ≤ x.a ∧ x.a ≤ 2047)
def okI (xs : List Itm) (j : Nat) : Bool := riseOk (xs.map (·.k)) j && fitI (itAt xs j)
def okK (xs : List Kidd) (j : Nat) : Bool := riseOk (xs.map (·.k)) j && fitK (kidAt xs j)
/-- What the code's may answers; kept shut. -/
def mayI (xs : List Itm) (lo hi : Int) : Bool := decide (lo ≤ (xs.length : Int) ∧ (xs.length : Int) ≤ hi) && (List.range xs.length).all (okI xs)
def mayK (xs : List Kidd) (lo hi : Int) : Bool := decide (lo ≤ (xs.length : Int) ∧ (xs.length : Int) ≤ hi) && (List.range xs.length).all (okK xs)
theorem all_no {n : Nat} {f : Nat → Bool} {j : Nat} (hj : j < n) (h : f j = false) : (List.range n).all f = false := by
  rw [List.all_eq_false]
  exact ⟨j, List.mem_range.2 hj, by rw [h]; simp⟩
theorem all_yes {n : Nat} {f : Nat → Bool} (h : ∀ j, j < n → f j = true) : (List.range n).all f = true := by
  rw [List.all_eq_true]
  exact fun j hj => h j (List.mem_range.1 hj)
theorem keyAt_it (xs : List Itm) (j : Nat) : keyAt (xs.map (·.k)) j = (itAt xs j).k := by
  unfold keyAt itAt
  rw [List.getD_eq_getElem?_getD, List.getD_eq_getElem?_getD, List.getElem?_map]
  cases xs[j]? <;> rfl
theorem keyAt_kid (xs : List Kidd) (j : Nat) : keyAt (xs.map (·.k)) j = (kidAt xs j).k := by
  unfold keyAt kidAt
  rw [List.getD_eq_getElem?_getD, List.getD_eq_getElem?_getD, List.getElem?_map]
  cases xs[j]? <;> rfl


set_option maxRecDepth 100000 in
set_option maxHeartbeats 8000000 in
theorem cmayI_any (xs : List Itm) (A : Option Addr) (n c : Nat) (lo hi : Int) (w : World) (hI : Itms w A n c xs) (hn : n ≤ 100000) :
    Calls Tryd.prog 27 #[.slice A n c, .int .i64 lo, .int .i64 hi, .func (.func 28) #[] #[], .func (.func 29) #[] #[]] w fun e w' => e = .returned (.bool (mayI xs lo hi)) ∧ Below w.heap.size w w' := by
  have Hlen := Lib.hid hI.len
  obtain ⟨hb1, hb2⟩ := hI.bounds
  unfold maxLen at hb2
  go_enter Tryd.func27, Tryd.ntmps27
  go_wp2_with fail
  refine (cwithin_any (n : Int) lo hi _ rfl _).mono ?_
  cases hr : decide (lo ≤ (n : Int) ∧ (n : Int) ≤ hi)
  · rintro e w1 ⟨rfl, rfl⟩
    go_wp2
    go_ret
    exact ⟨by unfold mayI; rw [Hlen.out, hr]; rfl, Below.refl _ _⟩
  · rintro e w1 ⟨rfl, rfl⟩
    have Hmay := Lib.hid (show mayI xs lo hi = (List.range n).all (okI xs) by unfold mayI; rw [Hlen.out, hr]; rfl)
    clear hr
    go_wp2_with fail
    go_loopw [21] (fun i wr => ∃ j : Nat, j ≤ n ∧ i = .int .i64 (j : Int) ∧ (∀ q, q < j → okI xs q = true) ∧ Below w.heap.size w wr) (fun i _ => n - (intOf i).toNat)
    case atStart => exact ⟨0, Nat.zero_le _, rfl, fun q hq => by omega, Below.refl _ _⟩
    case round =>
      obtain ⟨j, hj, rfl, hall, hB⟩ := hrel
      by_cases hlt : j < n
      · have hIr := hI.below hB
        obtain ⟨g, o, B', m', d', hA, hg, c0, c1, c2, c3, hsl⟩ := hIr.cell hlt
        subst hA
        obtain ⟨x, hx⟩ : ∃ x, itAt xs j = x := ⟨_, rfl⟩
        have hok := Lib.hid (show okI xs j = ((x.k.may && (decide (j = 0) || (itAt xs (j - 1)).k.less x.k)) && fitI x) by unfold okI riseOk; rw [keyAt_it, keyAt_it, hx])
        rw [hx] at c0 c1 c2 hsl
        have hvl := hsl.len
        obtain ⟨f, hfit⟩ : ∃ f, decide (m' ≤ 28) = f := ⟨_, rfl⟩
        have Hfit := Lib.hid (show fitI x = f by unfold fitI; rw [hvl, hfit])
        clear hvl
        obtain ⟨k, hk⟩ : ∃ k, x.k = k := ⟨_, rfl⟩
        rw [hk] at c0 c1 c2
        obtain ⟨r, hm⟩ : ∃ r, k.may = r := ⟨_, rfl⟩
        have Hk := Lib.hid hk
        clear hk hx
        go_wp2_with fail
        have bx : Below wr.heap.size wr (wr.alloc (.cells #[.int .i64 k.obj, .int .i64 k.kind, .int .i64 k.off, .slice B' m' d'] 52)) := (Below.refl _ _).alloc (Nat.le_refl _) _
        have x0 : (wr.alloc (.cells #[.int .i64 k.obj, .int .i64 k.kind, .int .i64 k.off, .slice B' m' d'] 52)).heap[wr.heap.size]? = some (.cells #[.int .i64 k.obj, .int .i64 k.kind, .int .i64 k.off, .slice B' m' d'] 52 (0, 0)) := heap_alloc_new wr _
        have zx : wr.heap.size < (wr.alloc (.cells #[.int .i64 k.obj, .int .i64 k.kind, .int .i64 k.off, .slice B' m' d'] 52)).heap.size := by simp
        generalize wr.alloc (.cells #[.int .i64 k.obj, .int .i64 k.kind, .int .i64 k.off, .slice B' m' d'] 52) = wx at bx x0 zx ⊢
        have q0 : ∀ u : Grown wx, u.to.cell? ⟨wr.heap.size, 0, none⟩ = some (.int .i64 k.obj) := Grown.cell (by rw [cell_of_row _ _ _ _ _ _ x0]; rfl) zx
        have q1 : ∀ u : Grown wx, u.to.cell? ⟨wr.heap.size, 1, none⟩ = some (.int .i64 k.kind) := Grown.cell (by rw [cell_of_row _ _ _ _ _ _ x0]; rfl) zx
        have q2 : ∀ u : Grown wx, u.to.cell? ⟨wr.heap.size, 2, none⟩ = some (.int .i64 k.off) := Grown.cell (by rw [cell_of_row _ _ _ _ _ _ x0]; rfl) zx
        have q3 : ∀ u : Grown wx, u.to.cell? ⟨wr.heap.size, 3, none⟩ = some (.slice B' m' d') := Grown.cell (by rw [cell_of_row _ _ _ _ _ _ x0]; rfl) zx
        have hBx := hB.trans (bx.mono hB.size)
        clear c0 c1 c2 c3 x0
        have fin : ∀ b, okI xs j = b → b = false → mayI xs lo hi = false := fun b h1 h2 => by rw [Hmay.out]; exact all_no hlt (h1.trans h2)
        have Fin := Lib.hid fin
        clear fin
        cases r
        · refine wp_region_grown (by kernel_rfl) (by kernel_rfl) ?_
          repeat (go_big_quiet_step (first
            | (go_at_call 28; exact Calls.grown (ckeyi_any k B' m' d' _))
            | (go_at_call 62; exact Calls.grown (may_says k false hm _))
            | fail))
          refine wpQuiet_nil ?_
          rintro _ ⟨u, rfl⟩
          have hBu := hBx.trans (u.ok.mono hBx.size)
          go_wp2
          go_ret
          exact ⟨by rw [Fin.out _ hok.out (by rw [Hk.out, hm]; rfl)]; rfl, hBu⟩
        · cases f
          · refine wp_region_grown (by kernel_rfl) (by kernel_rfl) ?_
            repeat (go_big_quiet_step (first
              | (go_at_call 28; exact Calls.grown (ckeyi_any k B' m' d' _))
              | (go_at_call 29; exact Calls.grown (cmayi_any k B' m' d' _ hfit _))
              | (go_at_call 62; exact Calls.grown (may_says k true hm _))
              | fail))
            refine wpQuiet_nil ?_
            rintro _ ⟨u, rfl⟩
            have hBu := hBx.trans (u.ok.mono hBx.size)
            go_wp2
            go_ret
            exact ⟨by rw [Fin.out _ hok.out (by rw [Hfit.out, Bool.and_false])]; rfl, hBu⟩
          · rcases j with _ | q
            · refine wp_region_grown (by kernel_rfl) (by kernel_rfl) ?_
              repeat (go_big_quiet_step (first
                | (go_at_call 28; exact Calls.grown (ckeyi_any k B' m' d' _))
                | (go_at_call 29; exact Calls.grown (cmayi_any k B' m' d' _ hfit _))
                | (go_at_call 62; exact Calls.grown (may_says k true hm _))
                | fail))
              refine wpQuiet_nil ?_
              rintro _ ⟨u, rfl⟩
              have hBu := hBx.trans (u.ok.mono hBx.size)
              go_wp2
              refine ⟨⟨1, by omega, rfl, fun q hq => ?_, hBu⟩, by simp [intOf]; omega⟩
              obtain rfl : q = 0 := by omega
              rw [hok.out, Hk.out, hm, Hfit.out]; rfl
            · obtain ⟨g', o', B2, m2, d2, hA', _, a0, a1, a2, a3, _⟩ := hIr.cell (show q < n by omega)
              injection hA' with hA'
              injection hA' with e1 e2
              subst e1 e2
              obtain ⟨y, hy⟩ : ∃ y, itAt xs q = y := ⟨_, rfl⟩
              rw [hy] at a0 a1 a2
              obtain ⟨l, hyk⟩ : ∃ l, y.k = l := ⟨_, rfl⟩
              rw [hyk] at a0 a1 a2
              obtain ⟨s, hl⟩ : ∃ s, l.less k = s := ⟨_, rfl⟩
              have hoks := Lib.hid (show okI xs (q + 1) = s by rw [hok.out, Hk.out, hm, Hfit.out, show q + 1 - 1 = q by omega, hy, hyk, hl]; simp)
              clear hy hyk
              have hgx : g < wx.heap.size := by have := bx.size; omega
              have p0 : ∀ u : Grown wx, u.to.cell? ⟨g, o + q * 4, none⟩ = some (.int .i64 l.obj) := Grown.cell ((bx.cell (p := ⟨g, _, none⟩) hg).trans a0) hgx
              have p1 : ∀ u : Grown wx, u.to.cell? ⟨g, o + q * 4 + 1, none⟩ = some (.int .i64 l.kind) := Grown.cell ((bx.cell (p := ⟨g, _, none⟩) hg).trans a1) hgx
              have p2 : ∀ u : Grown wx, u.to.cell? ⟨g, o + q * 4 + 2, none⟩ = some (.int .i64 l.off) := Grown.cell ((bx.cell (p := ⟨g, _, none⟩) hg).trans a2) hgx
              have p3 : ∀ u : Grown wx, u.to.cell? ⟨g, o + q * 4 + 3, none⟩ = some (.slice B2 m2 d2) := Grown.cell ((bx.cell (p := ⟨g, _, none⟩) hg).trans a3) hgx
              clear a0 a1 a2 a3
              have hq0 : (0 : Int) ≤ (q : Int) := by omega
              have hqn : (q : Int) < (n : Int) := by omega
              have hpos : (0 : Int) < (q : Int) + 1 := by omega
              have hw2 : IntKind.i64.wrap (q : Int) = (q : Int) := IntWalk.i64_in _ (by omega)
              have hw3 : IntKind.i64.wrap ((q : Int) + 1 - 1) = (q : Int) := by rw [Int.add_sub_cancel]; exact hw2
              have hw1 : IntKind.i64.wrap (((q + 1 : Nat) : Int) - 1) = (q : Int) := by rw [show ((q + 1 : Nat) : Int) - 1 = (q : Int) by omega]; exact hw2
              refine wp_region_grown (by kernel_rfl) (by kernel_rfl) ?_
              repeat (go_big_quiet_step (first
                | (go_at_call 28; exact Calls.grown (ckeyi_any k B' m' d' _))
                | (go_at_call 28; exact Calls.grown (ckeyi_any l B2 m2 d2 _))
                | (go_at_call 29; exact Calls.grown (cmayi_any k B' m' d' _ hfit _))
                | (go_at_call 62; exact Calls.grown (may_says k true hm _))
                | (go_at_call 63; exact Calls.grown (less_says l k s hl _))
                | fail))
              refine wpQuiet_nil ?_
              rintro _ ⟨u, rfl⟩
              have hBu := hBx.trans (u.ok.mono hBx.size)
              cases s
              · go_wp2
                go_ret
                exact ⟨by rw [Fin.out _ hoks.out rfl]; rfl, hBu⟩
              · go_wp2
                refine ⟨⟨q + 2, by omega, by go_num, fun p hp => ?_, hBu⟩, by simp [intOf]; omega⟩
                rcases (by omega : p < q + 1 ∨ p = q + 1) with h1 | rfl
                · exact hall p h1
                · exact hoks.out
      · obtain rfl : j = n := by omega
        have hyes := Lib.hid (show mayI xs lo hi = true by rw [Hmay.out]; exact all_yes hall)
        go_wp2
        go_ret
        exact ⟨by rw [hyes.out]; rfl, hB⟩

set_option maxRecDepth 100000 in
set_option maxHeartbeats 8000000 in
theorem cmayK_any (xs : List Kidd) (A : Option Addr) (n c : Nat) (lo hi : Int) (w : World) (hI : Kidl w A n c xs) (hn : n ≤ 100000) :
    Calls Tryd.prog 31 #[.slice A n c, .int .i64 lo, .int .i64 hi, .func (.func 32) #[] #[], .func (.func 33) #[] #[]] w fun e w' => e = .returned (.bool (mayK xs lo hi)) ∧ Below w.heap.size w w' := by
  have Hlen := Lib.hid hI.len
  obtain ⟨hb1, hb2⟩ := hI.bounds
  unfold maxLen at hb2
  go_enter Tryd.func31, Tryd.ntmps31
  go_wp2_with fail
  refine (cwithin_any (n : Int) lo hi _ rfl _).mono ?_
  cases hr : decide (lo ≤ (n : Int) ∧ (n : Int) ≤ hi)
  · rintro e w1 ⟨rfl, rfl⟩
    go_wp2
    go_ret
    exact ⟨by unfold mayK; rw [Hlen.out, hr]; rfl, Below.refl _ _⟩
  · rintro e w1 ⟨rfl, rfl⟩
    have Hmay := Lib.hid (show mayK xs lo hi = (List.range n).all (okK xs) by unfold mayK; rw [Hlen.out, hr]; rfl)
    clear hr
    go_wp2_with fail
    go_loopw [21] (fun i wr => ∃ j : Nat, j ≤ n ∧ i = .int .i64 (j : Int) ∧ (∀ q, q < j → okK xs q = true) ∧ Below w.heap.size w wr) (fun i _ => n - (intOf i).toNat)
    case atStart => exact ⟨0, Nat.zero_le _, rfl, fun q hq => by omega, Below.refl _ _⟩
    case round =>
      obtain ⟨j, hj, rfl, hall, hB⟩ := hrel
      by_cases hlt : j < n
      · have hIr := hI.below hB
        obtain ⟨g, o, hA, hg, c0, c1, c2, c3⟩ := hIr.cell hlt
        subst hA
        obtain ⟨x, hx⟩ : ∃ x, kidAt xs j = x := ⟨_, rfl⟩
        have hok := Lib.hid (show okK xs j = ((x.k.may && (decide (j = 0) || (kidAt xs (j - 1)).k.less x.k)) && fitK x) by unfold okK riseOk; rw [keyAt_kid, keyAt_kid, hx])
        rw [hx] at c0 c1 c2 c3
        obtain ⟨v, hv⟩ : ∃ v, x.a = v := ⟨_, rfl⟩
        rw [hv] at c3
        obtain ⟨f, hfit⟩ : ∃ f, decide (1 ≤ v ∧ v ≤ 2047) = f := ⟨_, rfl⟩
        have Hfit := Lib.hid (show fitK x = f by unfold fitK; rw [hv, hfit])
        clear hv
        obtain ⟨k, hk⟩ : ∃ k, x.k = k := ⟨_, rfl⟩
        rw [hk] at c0 c1 c2
        obtain ⟨r, hm⟩ : ∃ r, k.may = r := ⟨_, rfl⟩
        have Hk := Lib.hid hk
        clear hk hx
        go_wp2_with fail
        have bx : Below wr.heap.size wr (wr.alloc (.cells #[.int .i64 k.obj, .int .i64 k.kind, .int .i64 k.off, .int .i64 v] 59)) := (Below.refl _ _).alloc (Nat.le_refl _) _
        have x0 : (wr.alloc (.cells #[.int .i64 k.obj, .int .i64 k.kind, .int .i64 k.off, .int .i64 v] 59)).heap[wr.heap.size]? = some (.cells #[.int .i64 k.obj, .int .i64 k.kind, .int .i64 k.off, .int .i64 v] 59 (0, 0)) := heap_alloc_new wr _
        have zx : wr.heap.size < (wr.alloc (.cells #[.int .i64 k.obj, .int .i64 k.kind, .int .i64 k.off, .int .i64 v] 59)).heap.size := by simp
        generalize wr.alloc (.cells #[.int .i64 k.obj, .int .i64 k.kind, .int .i64 k.off, .int .i64 v] 59) = wx at bx x0 zx ⊢
        have q0 : ∀ u : Grown wx, u.to.cell? ⟨wr.heap.size, 0, none⟩ = some (.int .i64 k.obj) := Grown.cell (by rw [cell_of_row _ _ _ _ _ _ x0]; rfl) zx
        have q1 : ∀ u : Grown wx, u.to.cell? ⟨wr.heap.size, 1, none⟩ = some (.int .i64 k.kind) := Grown.cell (by rw [cell_of_row _ _ _ _ _ _ x0]; rfl) zx
        have q2 : ∀ u : Grown wx, u.to.cell? ⟨wr.heap.size, 2, none⟩ = some (.int .i64 k.off) := Grown.cell (by rw [cell_of_row _ _ _ _ _ _ x0]; rfl) zx
        have q3 : ∀ u : Grown wx, u.to.cell? ⟨wr.heap.size, 3, none⟩ = some (.int .i64 v) := Grown.cell (by rw [cell_of_row _ _ _ _ _ _ x0]; rfl) zx
        have hBx := hB.trans (bx.mono hB.size)
        clear c0 c1 c2 c3 x0
        have fin : ∀ b, okK xs j = b → b = false → mayK xs lo hi = false := fun b h1 h2 => by rw [Hmay.out]; exact all_no hlt (h1.trans h2)
        have Fin := Lib.hid fin
        clear fin
        cases r
        · refine wp_region_grown (by kernel_rfl) (by kernel_rfl) ?_
          repeat (go_big_quiet_step (first
            | (go_at_call 32; exact Calls.grown (ckeyk_any k v _))
            | (go_at_call 62; exact Calls.grown (may_says k false hm _))
            | fail))
          refine wpQuiet_nil ?_
          rintro _ ⟨u, rfl⟩
          have hBu := hBx.trans (u.ok.mono hBx.size)
          go_wp2
          go_ret
          exact ⟨by rw [Fin.out _ hok.out (by rw [Hk.out, hm]; rfl)]; rfl, hBu⟩
        · cases f
          · refine wp_region_grown (by kernel_rfl) (by kernel_rfl) ?_
            repeat (go_big_quiet_step (first
              | (go_at_call 32; exact Calls.grown (ckeyk_any k v _))
              | (go_at_call 33; exact Calls.grown (cmayk_any k v _ hfit _))
              | (go_at_call 62; exact Calls.grown (may_says k true hm _))
              | fail))
            refine wpQuiet_nil ?_
            rintro _ ⟨u, rfl⟩
            have hBu := hBx.trans (u.ok.mono hBx.size)
            go_wp2
            go_ret
            exact ⟨by rw [Fin.out _ hok.out (by rw [Hfit.out, Bool.and_false])]; rfl, hBu⟩
          · rcases j with _ | q
            · refine wp_region_grown (by kernel_rfl) (by kernel_rfl) ?_
              repeat (go_big_quiet_step (first
                | (go_at_call 32; exact Calls.grown (ckeyk_any k v _))
                | (go_at_call 33; exact Calls.grown (cmayk_any k v _ hfit _))
                | (go_at_call 62; exact Calls.grown (may_says k true hm _))
                | fail))
              refine wpQuiet_nil ?_
              rintro _ ⟨u, rfl⟩
              have hBu := hBx.trans (u.ok.mono hBx.size)
              go_wp2
              refine ⟨⟨1, by omega, rfl, fun q hq => ?_, hBu⟩, by simp [intOf]; omega⟩
              obtain rfl : q = 0 := by omega
              rw [hok.out, Hk.out, hm, Hfit.out]; rfl
            · obtain ⟨g', o', hA', _, a0, a1, a2, a3⟩ := hIr.cell (show q < n by omega)
              injection hA' with hA'
              injection hA' with e1 e2
              subst e1 e2
              obtain ⟨y, hy⟩ : ∃ y, kidAt xs q = y := ⟨_, rfl⟩
              rw [hy] at a0 a1 a2 a3
              obtain ⟨v2, hv2⟩ : ∃ v2, y.a = v2 := ⟨_, rfl⟩
              rw [hv2] at a3
              clear hv2
              obtain ⟨l, hyk⟩ : ∃ l, y.k = l := ⟨_, rfl⟩
              rw [hyk] at a0 a1 a2
              obtain ⟨s, hl⟩ : ∃ s, l.less k = s := ⟨_, rfl⟩
              have hoks := Lib.hid (show okK xs (q + 1) = s by rw [hok.out, Hk.out, hm, Hfit.out, show q + 1 - 1 = q by omega, hy, hyk, hl]; simp)
              clear hy hyk
              have hgx : g < wx.heap.size := by have := bx.size; omega
              have p0 : ∀ u : Grown wx, u.to.cell? ⟨g, o + q * 4, none⟩ = some (.int .i64 l.obj) := Grown.cell ((bx.cell (p := ⟨g, _, none⟩) hg).trans a0) hgx
              have p1 : ∀ u : Grown wx, u.to.cell? ⟨g, o + q * 4 + 1, none⟩ = some (.int .i64 l.kind) := Grown.cell ((bx.cell (p := ⟨g, _, none⟩) hg).trans a1) hgx
              have p2 : ∀ u : Grown wx, u.to.cell? ⟨g, o + q * 4 + 2, none⟩ = some (.int .i64 l.off) := Grown.cell ((bx.cell (p := ⟨g, _, none⟩) hg).trans a2) hgx
              have p3 : ∀ u : Grown wx, u.to.cell? ⟨g, o + q * 4 + 3, none⟩ = some (.int .i64 v2) := Grown.cell ((bx.cell (p := ⟨g, _, none⟩) hg).trans a3) hgx
              clear a0 a1 a2 a3
              have hq0 : (0 : Int) ≤ (q : Int) := by omega
              have hqn : (q : Int) < (n : Int) := by omega
              have hpos : (0 : Int) < (q : Int) + 1 := by omega
              have hw2 : IntKind.i64.wrap (q : Int) = (q : Int) := IntWalk.i64_in _ (by omega)
              have hw3 : IntKind.i64.wrap ((q : Int) + 1 - 1) = (q : Int) := by rw [Int.add_sub_cancel]; exact hw2
              have hw1 : IntKind.i64.wrap (((q + 1 : Nat) : Int) - 1) = (q : Int) := by rw [show ((q + 1 : Nat) : Int) - 1 = (q : Int) by omega]; exact hw2
              refine wp_region_grown (by kernel_rfl) (by kernel_rfl) ?_
              repeat (go_big_quiet_step (first
                | (go_at_call 32; exact Calls.grown (ckeyk_any k v _))
                | (go_at_call 32; exact Calls.grown (ckeyk_any l v2 _))
                | (go_at_call 33; exact Calls.grown (cmayk_any k v _ hfit _))
                | (go_at_call 62; exact Calls.grown (may_says k true hm _))
                | (go_at_call 63; exact Calls.grown (less_says l k s hl _))
                | fail))
              refine wpQuiet_nil ?_
              rintro _ ⟨u, rfl⟩
              have hBu := hBx.trans (u.ok.mono hBx.size)
              cases s
              · go_wp2
                go_ret
                exact ⟨by rw [Fin.out _ hoks.out rfl]; rfl, hBu⟩
              · go_wp2
                refine ⟨⟨q + 2, by omega, by go_num, fun p hp => ?_, hBu⟩, by simp [intOf]; omega⟩
                rcases (by omega : p < q + 1 ∨ p = q + 1) with h1 | rfl
                · exact hall p h1
                · exact hoks.out
      · obtain rfl : j = n := by omega
        have hyes := Lib.hid (show mayK xs lo hi = true by rw [Hmay.out]; exact all_yes hall)
        go_wp2
        go_ret
        exact ⟨by rw [hyes.out]; rfl, hB⟩
end Go.Proofs.YtmebdjafnefneaaDoor

namespace Go.Proofs.YtmebdjafnefneaaDoor
open Go Go.RowKit Go.Proofs

theorem all_iff {n : Nat} {f : Nat → Bool} : (List.range n).all f = true ↔ ∀ j, j < n → f j = true := by
  rw [List.all_eq_true]
  exact ⟨fun h j hj => h j (List.mem_range.2 hj), fun h j hj => h j (List.mem_range.1 hj)⟩
theorem itemsOk_iff (N : Nd) : itemsOk N = true ↔ ∀ j, j < N.items.length → fitI (itAt N.items j) = true := by
  constructor
  · intro h j hj
    unfold itemsOk at h
    exact List.all_eq_true.1 h _ (List.mem_of_getElem? (itAt_get hj))
  · intro h
    exact itemsOk_yes fun j hj => of_decide_eq_true (h j hj)
theorem kidsOk_iff (N : Nd) : kidsOk N = true ↔ ∀ j, j < N.kids.length → fitK (kidAt N.kids j) = true := by
  constructor
  · intro h j hj
    unfold kidsOk at h
    have := of_decide_eq_true (List.all_eq_true.1 h _ (List.mem_of_getElem? (kidAt_get hj)))
    exact decide_eq_true (by omega)
  · intro h
    refine kidsOk_yes fun j hj => ?_
    have := of_decide_eq_true (h j hj)
    omega
theorem may_leaf (N : Nd) (h : N.lvl = 0) (hk : N.kids.length = 0) : N.may = mayI N.items 1 6 := by
  have hks : N.keys = N.items.map (·.k) := by unfold Nd.keys; rw [List.eq_nil_of_length_eq_zero hk]; simp
  unfold Nd.may mayI
  rw [if_pos h, hks, Bool.eq_iff_iff]
  simp only [Bool.and_eq_true, decide_eq_true_eq, itemsOk_iff, rises, okI, all_iff, List.length_map]
  constructor
  · rintro ⟨h1, h2, h3⟩
    exact ⟨by omega, fun j hj => ⟨h2 j hj, h1 j hj⟩⟩
  · rintro ⟨h1, h2⟩
    exact ⟨fun j hj => (h2 j hj).2, fun j hj => (h2 j hj).1, by omega⟩
theorem may_leaf_no (N : Nd) (h : N.lvl = 0) (hk : ¬ N.kids.length = 0) : N.may = false := by
  unfold Nd.may
  rw [if_pos h, decide_eq_false (by omega), Bool.and_false, Bool.and_false]
theorem may_inner (N : Nd) (h : ¬ N.lvl = 0) (hl : 1 ≤ N.lvl ∧ N.lvl ≤ 7) (hi : N.items.length = 0) : N.may = mayK N.kids 2 12 := by
  have hks : N.keys = N.kids.map (·.k) := by unfold Nd.keys; rw [List.eq_nil_of_length_eq_zero hi]; simp
  unfold Nd.may mayK
  rw [if_neg h, hks, Bool.eq_iff_iff]
  simp only [Bool.and_eq_true, decide_eq_true_eq, kidsOk_iff, rises, okK, all_iff, List.length_map]
  constructor
  · rintro ⟨h1, h2, h3⟩
    exact ⟨by omega, fun j hj => ⟨h2 j hj, h1 j hj⟩⟩
  · rintro ⟨h1, h2⟩
    exact ⟨fun j hj => (h2 j hj).2, fun j hj => (h2 j hj).1, by omega⟩
theorem may_inner_no (N : Nd) (h : ¬ N.lvl = 0) (hl : ¬ ((1 ≤ N.lvl ∧ N.lvl ≤ 7) ∧ N.items.length = 0)) : N.may = false := by
  unfold Nd.may
  rw [if_neg h, decide_eq_false (by omega), Bool.and_false, Bool.and_false]

set_option maxRecDepth 100000 in
set_option maxHeartbeats 8000000 in
theorem cnmay_any (N : Nd) (r : Bool) (hr : N.may = r) (A : Option Addr) (n c : Nat) (B : Option Addr) (m d : Nat) (w : World) (hI : Itms w A n c N.items) (hK : Kidl w B m d N.kids) (hn : n ≤ 1000) (hm : m ≤ 1000) :
    Calls Tryd.prog 11 #[.agg #[.int .i64 N.lvl, .slice A n c, .slice B m d]] w fun e w' => e = .returned (.bool r) ∧ Below w.heap.size w w' := by
  have HlI := Lib.hid hI.len
  have HlK := Lib.hid hK.len
  go_enter Tryd.func11, Tryd.ntmps11
  go_wp2_with fail
  have N1 : NB (w.alloc (.cells #[.int .i64 N.lvl, .slice A n c, .slice B m d] 25)) w.heap.size N.lvl A n c B m d := NB.new w _ _ _ _ _ _ _ _
  have b1 : Below w.heap.size w (w.alloc (.cells #[.int .i64 N.lvl, .slice A n c, .slice B m d] 25)) := (Below.refl _ _).alloc (Nat.le_refl _) _
  generalize w.alloc (.cells #[.int .i64 N.lvl, .slice A n c, .slice B m d] 25) = w1 at N1 b1 ⊢
  by_cases hl : N.lvl = 0
  · refine (cleaf_any N.lvl true (decide_eq_true hl) A n c B m d w1).mono ?_
    rintro e w2 ⟨rfl, hb2⟩
    have N2 := N1.below hb2 N1.lt
    have B2 := b1.trans (hb2.mono b1.size)
    have q0 := N2.c0
    have q1 := N2.c1
    have q2 := N2.c2
    clear N1 b1 hb2
    by_cases hk : m = 0
    · have Hmay := Lib.hid (show r = mayI N.items 1 6 by rw [← hr]; exact may_leaf N hl (by rw [HlK.out]; exact hk))
      subst hk
      go_wp2_with fail
      refine (cmayI_any N.items A n c 1 6 w2 (hI.below B2) (by omega)).mono ?_
      rintro e w3 ⟨rfl, hb3⟩
      have B3 := B2.trans (hb3.mono B2.size)
      go_wp2
      go_ret
      exact ⟨by rw [Hmay.out]; rfl, B3⟩
    · have Hmay := Lib.hid (show r = false by rw [← hr]; exact may_leaf_no N hl (by rw [HlK.out]; exact hk))
      have h1 : ((m : Int) == 0) = false := by simp; omega
      have h2 : decide ((m : Int) = 0) = false := decide_eq_false (by omega)
      go_wp2
      go_ret
      exact ⟨by rw [Hmay.out]; rfl, B2⟩
  · refine (cleaf_any N.lvl false (decide_eq_false hl) A n c B m d w1).mono ?_
    rintro e w2 ⟨rfl, hb2⟩
    have N2 := N1.below hb2 N1.lt
    have B2 := b1.trans (hb2.mono b1.size)
    have q0 := N2.c0
    have q1 := N2.c1
    have q2 := N2.c2
    clear N1 b1 hb2
    go_wp2_with fail
    by_cases hw : 1 ≤ N.lvl ∧ N.lvl ≤ 7
    · refine (cwithin_any N.lvl 1 7 true (decide_eq_true hw) _).mono ?_
      rintro e w3 ⟨rfl, rfl⟩
      by_cases hi : n = 0
      · have Hmay := Lib.hid (show r = mayK N.kids 2 12 by rw [← hr]; exact may_inner N hl hw (by rw [HlI.out]; exact hi))
        subst hi
        go_wp2_with fail
        refine (cmayK_any N.kids B m d 2 12 _ (hK.below B2) (by omega)).mono ?_
        rintro e w3 ⟨rfl, hb3⟩
        have B3 := B2.trans (hb3.mono B2.size)
        go_wp2
        go_ret
        exact ⟨by rw [Hmay.out]; rfl, B3⟩
      · have Hmay := Lib.hid (show r = false by rw [← hr]; exact may_inner_no N hl (by rw [HlI.out]; omega))
        have h1 : ((n : Int) == 0) = false := by simp; omega
        have h2 : decide ((n : Int) = 0) = false := decide_eq_false (by omega)
        go_wp2
        go_ret
        exact ⟨by rw [Hmay.out]; rfl, B2⟩
    · refine (cwithin_any N.lvl 1 7 false (decide_eq_false hw) _).mono ?_
      rintro e w3 ⟨rfl, rfl⟩
      have Hmay := Lib.hid (show r = false by rw [← hr]; exact may_inner_no N hl (by omega))
      go_wp2
      go_ret
      exact ⟨by rw [Hmay.out]; rfl, B2⟩
end Go.Proofs.YtmebdjafnefneaaDoor
