/- The code's node: Seek and Least. The code's node: Seek and Least, whole. -/
import Derived.Test.YtmebdjafnefneaaDoorPkNL
import Derived.Test.YtmebdjafnefneaaDoorPkNE
import Derived.Test.YtmebdjafnefneaaDoorGrown
namespace Go.Proofs.YtmebdjafnefneaaDoor
open Go Go.RowKit Go.Proofs

theorem kat_it (xs : List Itm) (j : Nat) : keyAt (xs.map (·.k)) j = (itAt xs j).k := by
  unfold keyAt itAt
  rw [List.getD_eq_getElem?_getD, List.getD_eq_getElem?_getD, List.getElem?_map]
  cases xs[j]? <;> rfl
theorem kat_kid (xs : List Kidd) (j : Nat) : keyAt (xs.map (·.k)) j = (kidAt xs j).k := by
  unfold keyAt kidAt
  rw [List.getD_eq_getElem?_getD, List.getD_eq_getElem?_getD, List.getElem?_map]
  cases xs[j]? <;> rfl


set_option maxRecDepth 100000 in
set_option maxHeartbeats 8000000 in
theorem cstandsI_any (xs : List Itm) (i : Nat) (k : Kd) (r : Bool) (hr : foundAt (xs.map (·.k)) k i = r) (A : Option Addr) (n c : Nat) (w : World) (hI : Itms w A n c xs) (_hn : n ≤ 100000) :
    Calls Tryd.prog 55 #[.slice A n c, .int .i64 (i : Int), .func (.func 28) #[] #[], .agg #[.int .i64 k.obj, .int .i64 k.kind, .int .i64 k.off]] w fun e w' => e = .returned (.bool r) ∧ Below w.heap.size w w' := by
  have hg0 := guard_says
  have hlen := hI.len
  obtain ⟨hb1, hb2⟩ := hI.bounds
  unfold maxLen at hb2
  have b1 := (boxes1 w k).2
  have K1 := (boxes1 w k).1
  have hIr := hI.below b1
  by_cases hlt : i < n
  · obtain ⟨s, hs⟩ : ∃ s, (keyAt (xs.map (·.k)) i).same k = s := ⟨_, rfl⟩
    obtain rfl : s = r := by rw [← hr, ← hs]; unfold foundAt; rw [decide_eq_true (by rw [List.length_map, hlen]; exact hlt), Bool.true_and]
    clear hr hlen
    go_enter Tryd.func55, Tryd.ntmps55
    go_wp2_with fail
    generalize w.alloc (.cells #[.int .i64 k.obj, .int .i64 k.kind, .int .i64 k.off] 39) = wr at b1 K1 hIr ⊢
    have Kr := K1
    obtain ⟨g, o, B', m', d', hA, hg, c0, c1, c2, c3, _⟩ := hIr.cell hlt
    subst hA
    have ha0 := kat_it xs i
    obtain ⟨a, ha⟩ : ∃ a, (itAt xs i).k = a := ⟨_, rfl⟩
    rw [ha] at c0 c1 c2 ha0
    have Ha := Lib.hid ha0
    clear ha ha0
    rw [Ha.out] at hs
    have hq := eql_says a k _ hs
    clear hs
    have p0 : ∀ u : Grown wr, u.to.cell? ⟨g, o + i * 4, none⟩ = some (.int .i64 a.obj) := Grown.cell c0 hg
    have p1 : ∀ u : Grown wr, u.to.cell? ⟨g, o + i * 4 + 1, none⟩ = some (.int .i64 a.kind) := Grown.cell c1 hg
    have p2 : ∀ u : Grown wr, u.to.cell? ⟨g, o + i * 4 + 2, none⟩ = some (.int .i64 a.off) := Grown.cell c2 hg
    have p3 : ∀ u : Grown wr, u.to.cell? ⟨g, o + i * 4 + 3, none⟩ = some (.slice B' m' d') := Grown.cell c3 hg
    have q0 : ∀ u : Grown wr, u.to.cell? ⟨w.heap.size, 0, none⟩ = some (.int .i64 k.obj) := Grown.cell Kr.c0 Kr.lt
    have q1 : ∀ u : Grown wr, u.to.cell? ⟨w.heap.size, 1, none⟩ = some (.int .i64 k.kind) := Grown.cell Kr.c1 Kr.lt
    have q2 : ∀ u : Grown wr, u.to.cell? ⟨w.heap.size, 2, none⟩ = some (.int .i64 k.off) := Grown.cell Kr.c2 Kr.lt
    clear c0 c1 c2 c3
    have hi0 : (0 : Int) ≤ (i : Int) := by omega
    have hi1 : (i : Int) < (n : Int) := by omega
    refine wp_region_grown (by kernel_rfl) (by kernel_rfl) ?_
    repeat (go_big_quiet_step (first
      | (go_at_call 28; exact Calls.grown (ckeyi_any a B' m' d' _))
      | fail))
    refine wpQuiet_nil ?_
    rintro _ ⟨u, rfl⟩
    have hBu := b1.trans (u.ok.mono b1.size)
    go_wp2
    go_ret
    exact ⟨rfl, hBu⟩
  · obtain rfl : r = false := by rw [← hr]; unfold foundAt; rw [decide_eq_false (by rw [List.length_map, hlen]; exact hlt), Bool.false_and]
    clear hr hlen K1 hIr
    have hi1 : ¬ (i : Int) < (n : Int) := by omega
    have hi2 : decide ((i : Int) < (n : Int)) = false := decide_eq_false hi1
    go_enter Tryd.func55, Tryd.ntmps55
    go_wp2_with fail
    generalize w.alloc (.cells #[.int .i64 k.obj, .int .i64 k.kind, .int .i64 k.off] 39) = wr at b1 ⊢
    refine wp_region_grown (by kernel_rfl) (by kernel_rfl) ?_
    repeat (go_big_quiet_step (fail))
    refine wpQuiet_nil ?_
    rintro _ ⟨u, rfl⟩
    have hBu := b1.trans (u.ok.mono b1.size)
    go_wp2
    go_ret
    exact ⟨rfl, hBu⟩

set_option maxRecDepth 100000 in
set_option maxHeartbeats 8000000 in
theorem cstandsK_any (xs : List Kidd) (i : Nat) (k : Kd) (r : Bool) (hr : foundAt (xs.map (·.k)) k i = r) (A : Option Addr) (n c : Nat) (w : World) (hI : Kidl w A n c xs) (_hn : n ≤ 100000) :
    Calls Tryd.prog 57 #[.slice A n c, .int .i64 (i : Int), .func (.func 32) #[] #[], .agg #[.int .i64 k.obj, .int .i64 k.kind, .int .i64 k.off]] w fun e w' => e = .returned (.bool r) ∧ Below w.heap.size w w' := by
  have hg0 := guard_says
  have hlen := hI.len
  obtain ⟨hb1, hb2⟩ := hI.bounds
  unfold maxLen at hb2
  have b1 := (boxes1 w k).2
  have K1 := (boxes1 w k).1
  have hIr := hI.below b1
  by_cases hlt : i < n
  · obtain ⟨s, hs⟩ : ∃ s, (keyAt (xs.map (·.k)) i).same k = s := ⟨_, rfl⟩
    obtain rfl : s = r := by rw [← hr, ← hs]; unfold foundAt; rw [decide_eq_true (by rw [List.length_map, hlen]; exact hlt), Bool.true_and]
    clear hr hlen
    go_enter Tryd.func57, Tryd.ntmps57
    go_wp2_with fail
    generalize w.alloc (.cells #[.int .i64 k.obj, .int .i64 k.kind, .int .i64 k.off] 39) = wr at b1 K1 hIr ⊢
    have Kr := K1
    obtain ⟨g, o, hA, hg, c0, c1, c2, c3⟩ := hIr.cell hlt
    subst hA
    obtain ⟨v, hv⟩ : ∃ v, (kidAt xs i).a = v := ⟨_, rfl⟩
    rw [hv] at c3
    clear hv
    have ha0 := kat_kid xs i
    obtain ⟨a, ha⟩ : ∃ a, (kidAt xs i).k = a := ⟨_, rfl⟩
    rw [ha] at c0 c1 c2 ha0
    have Ha := Lib.hid ha0
    clear ha ha0
    rw [Ha.out] at hs
    have hq := eql_says a k _ hs
    clear hs
    have p0 : ∀ u : Grown wr, u.to.cell? ⟨g, o + i * 4, none⟩ = some (.int .i64 a.obj) := Grown.cell c0 hg
    have p1 : ∀ u : Grown wr, u.to.cell? ⟨g, o + i * 4 + 1, none⟩ = some (.int .i64 a.kind) := Grown.cell c1 hg
    have p2 : ∀ u : Grown wr, u.to.cell? ⟨g, o + i * 4 + 2, none⟩ = some (.int .i64 a.off) := Grown.cell c2 hg
    have p3 : ∀ u : Grown wr, u.to.cell? ⟨g, o + i * 4 + 3, none⟩ = some (.int .i64 v) := Grown.cell c3 hg
    have q0 : ∀ u : Grown wr, u.to.cell? ⟨w.heap.size, 0, none⟩ = some (.int .i64 k.obj) := Grown.cell Kr.c0 Kr.lt
    have q1 : ∀ u : Grown wr, u.to.cell? ⟨w.heap.size, 1, none⟩ = some (.int .i64 k.kind) := Grown.cell Kr.c1 Kr.lt
    have q2 : ∀ u : Grown wr, u.to.cell? ⟨w.heap.size, 2, none⟩ = some (.int .i64 k.off) := Grown.cell Kr.c2 Kr.lt
    clear c0 c1 c2 c3
    have hi0 : (0 : Int) ≤ (i : Int) := by omega
    have hi1 : (i : Int) < (n : Int) := by omega
    refine wp_region_grown (by kernel_rfl) (by kernel_rfl) ?_
    repeat (go_big_quiet_step (first
      | (go_at_call 32; exact Calls.grown (ckeyk_any a v _))
      | fail))
    refine wpQuiet_nil ?_
    rintro _ ⟨u, rfl⟩
    have hBu := b1.trans (u.ok.mono b1.size)
    go_wp2
    go_ret
    exact ⟨rfl, hBu⟩
  · obtain rfl : r = false := by rw [← hr]; unfold foundAt; rw [decide_eq_false (by rw [List.length_map, hlen]; exact hlt), Bool.false_and]
    clear hr hlen K1 hIr
    have hi1 : ¬ (i : Int) < (n : Int) := by omega
    have hi2 : decide ((i : Int) < (n : Int)) = false := decide_eq_false hi1
    go_enter Tryd.func57, Tryd.ntmps57
    go_wp2_with fail
    generalize w.alloc (.cells #[.int .i64 k.obj, .int .i64 k.kind, .int .i64 k.off] 39) = wr at b1 ⊢
    refine wp_region_grown (by kernel_rfl) (by kernel_rfl) ?_
    repeat (go_big_quiet_step (fail))
    refine wpQuiet_nil ?_
    rintro _ ⟨u, rfl⟩
    have hBu := b1.trans (u.ok.mono b1.size)
    go_wp2
    go_ret
    exact ⟨rfl, hBu⟩

set_option maxRecDepth 100000 in
set_option maxHeartbeats 8000000 in
theorem clead_any (xs : List Itm) (k : Kd) (A : Option Addr) (n c : Nat) (w : World) (hI : Itms w A n c xs) (_hn : n ≤ 100000) :
    Calls Tryd.prog 54 #[.slice A n c, .func (.func 28) #[] #[], .agg #[.int .i64 k.obj, .int .i64 k.kind, .int .i64 k.off]] w fun e w' => e = .returned (.int .i64 (lead (xs.map (·.k)) k : Nat)) ∧ Below w.heap.size w w' := by
  have Hlen := Lib.hid (show (xs.map (·.k)).length = n by rw [List.length_map]; exact hI.len)
  obtain ⟨hb1, hb2⟩ := hI.bounds
  unfold maxLen at hb2
  have b1 := (boxes1 w k).2
  have K1 := (boxes1 w k).1
  go_enter Tryd.func54, Tryd.ntmps54
  go_wp2_with fail
  generalize w.alloc (.cells #[.int .i64 k.obj, .int .i64 k.kind, .int .i64 k.off] 39) = w1 at b1 K1 ⊢
  go_loopw [7] (fun i wr => ∃ j : Nat, j ≤ n ∧ i = .int .i64 (j : Int) ∧ (∀ q, q < j → (keyAt (xs.map (·.k)) q).less k = true) ∧ Below w1.heap.size w1 wr) (fun i _ => n - (intOf i).toNat)
  case atStart => exact ⟨0, Nat.zero_le _, rfl, fun q hq => by omega, Below.refl _ _⟩
  case round =>
    obtain ⟨j, hj, rfl, hall, hB⟩ := hrel
    have Kr := K1.below hB K1.lt
    have hBB := b1.trans (hB.mono b1.size)
    by_cases hlt : j < n
    · have hIr := hI.below hBB
      obtain ⟨g, o, B', m', d', hA, hg, c0, c1, c2, c3, _⟩ := hIr.cell hlt
      subst hA
      have ha0 := kat_it xs j
      obtain ⟨a, ha⟩ : ∃ a, (itAt xs j).k = a := ⟨_, rfl⟩
      rw [ha] at c0 c1 c2 ha0
      have Ha := Lib.hid ha0
      clear ha ha0
      obtain ⟨r, hr⟩ : ∃ r, a.less k = r := ⟨_, rfl⟩
      have p0 : ∀ u : Grown wr, u.to.cell? ⟨g, o + j * 4, none⟩ = some (.int .i64 a.obj) := Grown.cell c0 hg
      have p1 : ∀ u : Grown wr, u.to.cell? ⟨g, o + j * 4 + 1, none⟩ = some (.int .i64 a.kind) := Grown.cell c1 hg
      have p2 : ∀ u : Grown wr, u.to.cell? ⟨g, o + j * 4 + 2, none⟩ = some (.int .i64 a.off) := Grown.cell c2 hg
      have p3 : ∀ u : Grown wr, u.to.cell? ⟨g, o + j * 4 + 3, none⟩ = some (.slice B' m' d') := Grown.cell c3 hg
      have q0 : ∀ u : Grown wr, u.to.cell? ⟨w.heap.size, 0, none⟩ = some (.int .i64 k.obj) := Grown.cell Kr.c0 Kr.lt
      have q1 : ∀ u : Grown wr, u.to.cell? ⟨w.heap.size, 1, none⟩ = some (.int .i64 k.kind) := Grown.cell Kr.c1 Kr.lt
      have q2 : ∀ u : Grown wr, u.to.cell? ⟨w.heap.size, 2, none⟩ = some (.int .i64 k.off) := Grown.cell Kr.c2 Kr.lt
      clear c0 c1 c2 c3
      have hi0 : (0 : Int) ≤ (j : Int) := by omega
      have hi1 : (j : Int) < (n : Int) := by omega
      go_wp2_with fail
      refine wp_region_grown (by kernel_rfl) (by kernel_rfl) ?_
      repeat (go_big_quiet_step (first
        | (go_at_call 28; exact Calls.grown (ckeyi_any a B' m' d' _))
        | (go_at_call 63; exact Calls.grown (less_says a k r hr _))
        | fail))
      refine wpQuiet_nil ?_
      rintro _ ⟨u, rfl⟩
      have hBu := hB.trans (u.ok.mono hB.size)
      have hBBu := hBB.trans (u.ok.mono hBB.size)
      cases r
      · have hlead := Lib.hid (lead_eq (xs.map (·.k)) k j hall (by rw [Hlen.out]; exact hj) (.inr (by rw [Ha.out]; exact hr)))
        go_wp2
        go_ret
        exact ⟨by rw [hlead.out]; rfl, hBBu⟩
      · go_wp2
        refine ⟨⟨j + 1, by omega, by go_num, fun p hp => ?_, hBu⟩, by simp [intOf]; omega⟩
        rcases (by omega : p < j ∨ p = j) with h1 | rfl
        · exact hall p h1
        · rw [Ha.out]; exact hr
    · obtain rfl : n = j := by omega
      have hlead := Lib.hid (lead_eq (xs.map (·.k)) k n hall (by rw [Hlen.out]; exact hj) (.inl Hlen.out.symm))
      go_wp2_with fail
      refine wp_region_grown (by kernel_rfl) (by kernel_rfl) ?_
      repeat (go_big_quiet_step (fail))
      refine wpQuiet_nil ?_
      rintro _ ⟨u, rfl⟩
      have hBBu := hBB.trans (u.ok.mono hBB.size)
      go_wp2
      go_ret
      exact ⟨by rw [hlead.out]; rfl, hBBu⟩

set_option maxRecDepth 100000 in
set_option maxHeartbeats 8000000 in
theorem clast_any (xs : List Kidd) (k : Kd) (A : Option Addr) (n c : Nat) (w : World) (hI : Kidl w A n c xs) (_hn : n ≤ 100000) :
    Calls Tryd.prog 56 #[.slice A n c, .func (.func 32) #[] #[], .agg #[.int .i64 k.obj, .int .i64 k.kind, .int .i64 k.off]] w fun e w' => e = .returned (.int .i64 (lastTo (xs.map (·.k)) k n : Nat)) ∧ Below w.heap.size w w' := by
  obtain ⟨hb1, hb2⟩ := hI.bounds
  unfold maxLen at hb2
  have b1 := (boxes1 w k).2
  have K1 := (boxes1 w k).1
  obtain ⟨T, hT⟩ : ∃ T, lastTo (xs.map (·.k)) k n = T := ⟨_, rfl⟩
  have HT := Lib.hid hT
  rw [hT]
  clear hT
  rcases n with _ | p
  · have hw1 : IntKind.i64.wrap (((0 : Nat) : Int) - 1) = -1 := by decide
    have hT0 : T = 0 := by rw [← HT.out]; rfl
    subst hT0
    go_enter Tryd.func56, Tryd.ntmps56
    go_wp2_with fail
    generalize w.alloc (.cells #[.int .i64 k.obj, .int .i64 k.kind, .int .i64 k.off] 39) = w1 at b1 K1 ⊢
    go_loopw [7] (fun i wr => i = .int .i64 0 ∧ Below w1.heap.size w1 wr) (fun i _ => (intOf i).toNat)
    case atStart => exact ⟨rfl, Below.refl _ _⟩
    case round =>
      obtain ⟨rfl, hB⟩ := hrel
      have hBB := b1.trans (hB.mono b1.size)
      go_wp2_with fail
      refine wp_region_grown (by kernel_rfl) (by kernel_rfl) ?_
      repeat (go_big_quiet_step (fail))
      refine wpQuiet_nil ?_
      rintro _ ⟨u, rfl⟩
      have hBBu := hBB.trans (u.ok.mono hBB.size)
      go_wp2
      go_ret
      exact ⟨rfl, hBBu⟩
  · have hw1 : IntKind.i64.wrap (((p + 1 : Nat) : Int) - 1) = (p : Int) := by rw [show ((p + 1 : Nat) : Int) - 1 = (p : Int) by omega]; exact IntWalk.i64_in _ (by omega)
    have hp0 : (0 : Int) ≤ (p : Int) := by omega
    go_enter Tryd.func56, Tryd.ntmps56
    go_wp2_with fail
    generalize w.alloc (.cells #[.int .i64 k.obj, .int .i64 k.kind, .int .i64 k.off] 39) = w1 at b1 K1 ⊢
    clear hw1
    go_loopw [7] (fun i wr => ∃ j : Nat, j ≤ p ∧ i = .int .i64 (j : Int) ∧ lastTo (xs.map (·.k)) k (j + 1) = T ∧ Below w1.heap.size w1 wr) (fun i _ => (intOf i).toNat)
    case atStart => exact ⟨p, Nat.le_refl _, rfl, HT.out, Below.refl _ _⟩
    case round =>
      obtain ⟨j, hj, rfl, hall, hB⟩ := hrel
      have Kr := K1.below hB K1.lt
      have hBB := b1.trans (hB.mono b1.size)
      have Hall := Lib.hid hall
      clear hall
      rcases j with _ | q
      · have hT0 : T = 0 := by rw [← Hall.out]; show (if _ then _ else _) = _; split <;> rfl
        subst hT0
        go_wp2_with fail
        refine wp_region_grown (by kernel_rfl) (by kernel_rfl) ?_
        repeat (go_big_quiet_step (fail))
        refine wpQuiet_nil ?_
        rintro _ ⟨u, rfl⟩
        have hBBu := hBB.trans (u.ok.mono hBB.size)
        go_wp2
        go_ret
        exact ⟨rfl, hBBu⟩
      · have hIr := hI.below hBB
        obtain ⟨j, hjq⟩ : ∃ j, q + 1 = j := ⟨_, rfl⟩
        rw [hjq] at Hall hj ⊢
        obtain ⟨g, o, hA, hg, c0, c1, c2, c3⟩ := hIr.cell (show j < p + 1 by omega)
        subst hA
        obtain ⟨v, hv⟩ : ∃ v, (kidAt xs j).a = v := ⟨_, rfl⟩
        rw [hv] at c3
        clear hv
        have ha0 := kat_kid xs j
        obtain ⟨a, ha⟩ : ∃ a, (kidAt xs j).k = a := ⟨_, rfl⟩
        rw [ha] at c0 c1 c2 ha0
        have Ha := Lib.hid ha0
        clear ha ha0
        obtain ⟨r, hr⟩ : ∃ r, k.less a = r := ⟨_, rfl⟩
        have hnext := Lib.hid (show (if r = true then lastTo (xs.map (·.k)) k j else j) = T by rw [← Hall.out]; show _ = (if k.less (keyAt (xs.map (·.k)) j) = true then lastTo (xs.map (·.k)) k j else j); rw [Ha.out, hr])
        have p0 : ∀ u : Grown wr, u.to.cell? ⟨g, o + j * 4, none⟩ = some (.int .i64 a.obj) := Grown.cell c0 hg
        have p1 : ∀ u : Grown wr, u.to.cell? ⟨g, o + j * 4 + 1, none⟩ = some (.int .i64 a.kind) := Grown.cell c1 hg
        have p2 : ∀ u : Grown wr, u.to.cell? ⟨g, o + j * 4 + 2, none⟩ = some (.int .i64 a.off) := Grown.cell c2 hg
        have p3 : ∀ u : Grown wr, u.to.cell? ⟨g, o + j * 4 + 3, none⟩ = some (.int .i64 v) := Grown.cell c3 hg
        have q0 : ∀ u : Grown wr, u.to.cell? ⟨w.heap.size, 0, none⟩ = some (.int .i64 k.obj) := Grown.cell Kr.c0 Kr.lt
        have q1 : ∀ u : Grown wr, u.to.cell? ⟨w.heap.size, 1, none⟩ = some (.int .i64 k.kind) := Grown.cell Kr.c1 Kr.lt
        have q2 : ∀ u : Grown wr, u.to.cell? ⟨w.heap.size, 2, none⟩ = some (.int .i64 k.off) := Grown.cell Kr.c2 Kr.lt
        clear c0 c1 c2 c3
        have hj0 : (0 : Int) < (j : Int) := by omega
        have hj4 : 0 < j := by omega
        have hj5 : decide (0 < j) = true := decide_eq_true hj4
        have hj1 : (0 : Int) ≤ (j : Int) := by omega
        have hj2 : (j : Int) < ((p + 1 : Nat) : Int) := by omega
        have hj3 : (j : Int) < (p : Int) + 1 := by omega
        have hw2 : IntKind.i64.wrap ((j : Int) - 1) = (q : Int) := by rw [show (j : Int) - 1 = (q : Int) by omega]; exact IntWalk.i64_in _ (by omega)
        have Hjq := Lib.hid hjq
        clear hjq
        go_wp2_with fail
        refine wp_region_grown (by kernel_rfl) (by kernel_rfl) ?_
        repeat (go_big_quiet_step (first
          | (go_at_call 32; exact Calls.grown (ckeyk_any a v _))
          | (go_at_call 63; exact Calls.grown (less_says k a r hr _))
          | fail))
        refine wpQuiet_nil ?_
        rintro _ ⟨u, rfl⟩
        have hBu := hB.trans (u.ok.mono hB.size)
        have hBBu := hBB.trans (u.ok.mono hBB.size)
        cases r
        · obtain rfl : j = T := hnext.out
          go_wp2
          go_ret
          exact ⟨rfl, hBBu⟩
        · have hT2 : lastTo (xs.map (·.k)) k j = T := hnext.out
          have HT2 := Lib.hid hT2
          clear hT2
          go_wp2
          exact ⟨⟨q, by have := Hjq.out; omega, rfl, by rw [Hjq.out]; exact HT2.out, hBu⟩, by have := Hjq.out; simp [intOf]; omega⟩

end Go.Proofs.YtmebdjafnefneaaDoor

namespace Go.Proofs.YtmebdjafnefneaaDoor
open Go Go.RowKit Go.Proofs

/-- What a node that may be is like. -/
def Nd.fit (N : Nd) : Prop := (N.lvl = 0 → N.kids = []) ∧ (¬ N.lvl = 0 → N.items = [])
theorem may_fit {N : Nd} (hm : N.may = true) : N.fit := by
  constructor
  · intro hl
    refine List.eq_nil_of_length_eq_zero ?_
    unfold Nd.may at hm
    rw [if_pos hl, Bool.and_eq_true, Bool.and_eq_true] at hm
    exact (of_decide_eq_true hm.2.2).1
  · intro hl
    refine List.eq_nil_of_length_eq_zero ?_
    unfold Nd.may at hm
    rw [if_neg hl, Bool.and_eq_true, Bool.and_eq_true] at hm
    exact (of_decide_eq_true hm.2.2).2.2.1
theorem fit_leaf {N : Nd} (h : N.fit) (hl : N.lvl = 0) : N.keys = N.items.map (·.k) := by unfold Nd.keys; rw [h.1 hl]; simp
theorem fit_inner {N : Nd} (h : N.fit) (hl : ¬ N.lvl = 0) : N.keys = N.kids.map (·.k) := by unfold Nd.keys; rw [h.2 hl]; simp


set_option maxRecDepth 100000 in
set_option maxHeartbeats 8000000 in
theorem cseek_any (N : Nd) (hfit : N.fit) (k : Kd) (t : Nat) (ht : N.seek k = t) (r : Bool) (hr : foundAt N.keys k t = r) (A : Option Addr) (n c : Nat) (B : Option Addr) (m d : Nat) (w : World) (hI : Itms w A n c N.items) (hK : Kidl w B m d N.kids) (hn : n ≤ 1000) (hm : m ≤ 1000) :
    Calls Tryd.prog 18 #[.agg #[.int .i64 N.lvl, .slice A n c, .slice B m d], .agg #[.int .i64 k.obj, .int .i64 k.kind, .int .i64 k.off]] w fun e w' => e = .returned (.tuple #[.int .i64 (t : Int), .bool r]) ∧ Below w.heap.size w w' := by
  have HlK := Lib.hid hK.len
  go_enter Tryd.func18, Tryd.ntmps18
  go_wp2_with fail
  have N1 : NB ((w.alloc (.cells #[.int .i64 N.lvl, .slice A n c, .slice B m d] 25)).alloc (.cells #[.int .i64 k.obj, .int .i64 k.kind, .int .i64 k.off] 39)) w.heap.size N.lvl A n c B m d := (NB.new w _ _ _ _ _ _ _ _).below ((Below.refl _ _).alloc (Nat.le_refl _) _) (by simp)
  have K1 : KB ((w.alloc (.cells #[.int .i64 N.lvl, .slice A n c, .slice B m d] 25)).alloc (.cells #[.int .i64 k.obj, .int .i64 k.kind, .int .i64 k.off] 39)) (w.heap.size + 1) k := KB.new2 w _ k.obj k.kind k.off _
  have b1 : Below w.heap.size w ((w.alloc (.cells #[.int .i64 N.lvl, .slice A n c, .slice B m d] 25)).alloc (.cells #[.int .i64 k.obj, .int .i64 k.kind, .int .i64 k.off] 39)) := ((Below.refl _ _).alloc (Nat.le_refl _) _).alloc (by simp) _
  generalize (w.alloc (.cells #[.int .i64 N.lvl, .slice A n c, .slice B m d] 25)).alloc (.cells #[.int .i64 k.obj, .int .i64 k.kind, .int .i64 k.off] 39) = w1 at N1 K1 b1 ⊢
  by_cases hl : N.lvl = 0
  · have hks := fit_leaf hfit hl
    have Hseek := Lib.hid (show lead (N.items.map (·.k)) k = t by rw [← ht]; unfold Nd.seek; rw [if_pos hl, hks])
    have Hfound := Lib.hid (show foundAt (N.items.map (·.k)) k t = r by rw [← hr, hks])
    refine (cleaf_any N.lvl true (decide_eq_true hl) A n c B m d w1).mono ?_
    rintro e w2 ⟨rfl, hb2⟩
    have N2 := N1.below hb2 N1.lt
    have K2 := K1.below hb2 K1.lt
    have B2 := b1.trans (hb2.mono b1.size)
    have q1 := N2.c1
    have k0 := K2.c0
    have k1 := K2.c1
    have k2 := K2.c2
    clear hl hks ht hr N1 K1 b1 hb2
    go_wp2_with fail
    refine (clead_any N.items k A n c w2 (hI.below B2) (by omega)).mono ?_
    rw [Hseek.out]
    rintro e w3 ⟨rfl, hb3⟩
    have N3 := N2.below hb3 N2.lt
    have K3 := K2.below hb3 K2.lt
    have B3 := B2.trans (hb3.mono B2.size)
    clear q1 k0 k1 k2
    have q1 := N3.c1
    have k0 := K3.c0
    have k1 := K3.c1
    have k2 := K3.c2
    clear N2 K2 hb3
    go_wp2_with fail
    refine (cstandsI_any N.items t k r Hfound.out A n c w3 (hI.below B3) (by omega)).mono ?_
    rintro e w4 ⟨rfl, hb4⟩
    have B4 := B3.trans (hb4.mono B3.size)
    go_wp2
    go_ret2
    exact ⟨rfl, B4⟩
  · have hks := fit_inner hfit hl
    have Hseek := Lib.hid (show lastTo (N.kids.map (·.k)) k m = t by rw [← ht]; unfold Nd.seek; rw [if_neg hl, hks, List.length_map, HlK.out])
    have Hfound := Lib.hid (show foundAt (N.kids.map (·.k)) k t = r by rw [← hr, hks])
    refine (cleaf_any N.lvl false (decide_eq_false hl) A n c B m d w1).mono ?_
    rintro e w2 ⟨rfl, hb2⟩
    have N2 := N1.below hb2 N1.lt
    have K2 := K1.below hb2 K1.lt
    have B2 := b1.trans (hb2.mono b1.size)
    have q2 := N2.c2
    have k0 := K2.c0
    have k1 := K2.c1
    have k2 := K2.c2
    clear hl hks ht hr N1 K1 b1 hb2
    go_wp2_with fail
    refine (clast_any N.kids k B m d w2 (hK.below B2) (by omega)).mono ?_
    rw [Hseek.out]
    rintro e w3 ⟨rfl, hb3⟩
    have N3 := N2.below hb3 N2.lt
    have K3 := K2.below hb3 K2.lt
    have B3 := B2.trans (hb3.mono B2.size)
    clear q2 k0 k1 k2
    have q2 := N3.c2
    have k0 := K3.c0
    have k1 := K3.c1
    have k2 := K3.c2
    clear N2 K2 hb3
    go_wp2_with fail
    refine (cstandsK_any N.kids t k r Hfound.out B m d w3 (hK.below B3) (by omega)).mono ?_
    rintro e w4 ⟨rfl, hb4⟩
    have B4 := B3.trans (hb4.mono B3.size)
    go_wp2
    go_ret2
    exact ⟨rfl, B4⟩


/-- The first key of a row, or none. -/
theorem cleastI_any (xs : List Itm) (z : Kd) (hz : (if (xs.map (·.k)).length = 0 then ⟨0, 0, 0⟩ else keyAt (xs.map (·.k)) 0) = z) (A : Option Addr) (n c : Nat) (w : World) (hI : Itms w A n c xs) :
    Calls Tryd.prog 60 #[.slice A n c, .func (.func 28) #[] #[]] w fun e w' => e = .returned (.agg #[.int .i64 z.obj, .int .i64 z.kind, .int .i64 z.off]) ∧ Below w.heap.size w w' := by
  have hlen := hI.len
  obtain ⟨hb1, hb2⟩ := hI.bounds
  unfold maxLen at hb2
  have R1 : KB (w.alloc (.cells #[.int .i64 0, .int .i64 0, .int .i64 0] 39)) w.heap.size ⟨0, 0, 0⟩ := KB.new w 0 0 0 _
  have b1 : Below w.heap.size w (w.alloc (.cells #[.int .i64 0, .int .i64 0, .int .i64 0] 39)) := (Below.refl _ _).alloc (Nat.le_refl _) _
  by_cases h0 : n = 0
  · obtain rfl : (⟨0, 0, 0⟩ : Kd) = z := by rw [← hz, if_pos (by rw [List.length_map, hlen]; exact h0)]
    subst h0
    clear hz hlen
    go_enter Tryd.func60, Tryd.ntmps60
    go_wp2_with (first
      | (refine wp_store_kd rfl (.tmp 4) (.tmp 8) rfl w.heap.size rfl ⟨0, 0, 0⟩ _ rfl R1 ?_; intro wz Rz Tz)
      | fail)
    refine bodyPost_ret (res_c1 Tryd.results60 rfl (load_kd Rz)) rfl ?_
    exact ⟨rfl, b1.trans ((Tz.belowOne R1.lt).mono (Nat.le_refl _))⟩
  · have hz2 : keyAt (xs.map (·.k)) 0 = z := by rw [← hz, if_neg (by rw [List.length_map, hlen]; exact h0)]
    rw [kat_it] at hz2
    obtain ⟨g, o, B', m', d', hA, hg, c0, c1, c2, c3, _⟩ := (hI.below b1).cell (show 0 < n by omega)
    subst hA
    rw [Nat.zero_mul, Nat.add_zero] at c0 c1 c2 c3
    rw [hz2] at c0 c1 c2
    clear hz hz2 hlen
    have h1 : ((n : Int) == 0) = false := by simp; omega
    have h2 : decide ((n : Int) = 0) = false := decide_eq_false (by omega)
    have h3 : (0 : Int) < (n : Int) := by omega
    go_enter Tryd.func60, Tryd.ntmps60
    go_wp2_with fail
    generalize w.alloc (.cells #[.int .i64 0, .int .i64 0, .int .i64 0] 39) = w1 at R1 b1 hg c0 c1 c2 c3 ⊢
    go_wp2_with fail
    refine (ckeyi_any z B' m' d' w1).mono ?_
    rintro e w2 ⟨rfl, hb2'⟩
    have R2 := R1.below hb2' R1.lt
    have B2 := b1.trans (hb2'.mono b1.size)
    go_wp2_with (first
      | (refine wp_store_kd rfl (.tmp 4) (.tmp 13) rfl w.heap.size rfl z _ rfl R2 ?_; intro wz Rz Tz)
      | fail)
    refine bodyPost_ret (res_c1 Tryd.results60 rfl (load_kd Rz)) rfl ?_
    exact ⟨rfl, B2.trans ((Tz.belowOne R2.lt).mono (Nat.le_refl _))⟩

/-- The first key of a row, or none. -/
theorem cleastK_any (xs : List Kidd) (z : Kd) (hz : (if (xs.map (·.k)).length = 0 then ⟨0, 0, 0⟩ else keyAt (xs.map (·.k)) 0) = z) (A : Option Addr) (n c : Nat) (w : World) (hI : Kidl w A n c xs) :
    Calls Tryd.prog 61 #[.slice A n c, .func (.func 32) #[] #[]] w fun e w' => e = .returned (.agg #[.int .i64 z.obj, .int .i64 z.kind, .int .i64 z.off]) ∧ Below w.heap.size w w' := by
  have hlen := hI.len
  obtain ⟨hb1, hb2⟩ := hI.bounds
  unfold maxLen at hb2
  have R1 : KB (w.alloc (.cells #[.int .i64 0, .int .i64 0, .int .i64 0] 39)) w.heap.size ⟨0, 0, 0⟩ := KB.new w 0 0 0 _
  have b1 : Below w.heap.size w (w.alloc (.cells #[.int .i64 0, .int .i64 0, .int .i64 0] 39)) := (Below.refl _ _).alloc (Nat.le_refl _) _
  by_cases h0 : n = 0
  · obtain rfl : (⟨0, 0, 0⟩ : Kd) = z := by rw [← hz, if_pos (by rw [List.length_map, hlen]; exact h0)]
    subst h0
    clear hz hlen
    go_enter Tryd.func61, Tryd.ntmps61
    go_wp2_with (first
      | (refine wp_store_kd rfl (.tmp 4) (.tmp 8) rfl w.heap.size rfl ⟨0, 0, 0⟩ _ rfl R1 ?_; intro wz Rz Tz)
      | fail)
    refine bodyPost_ret (res_c1 Tryd.results61 rfl (load_kd Rz)) rfl ?_
    exact ⟨rfl, b1.trans ((Tz.belowOne R1.lt).mono (Nat.le_refl _))⟩
  · have hz2 : keyAt (xs.map (·.k)) 0 = z := by rw [← hz, if_neg (by rw [List.length_map, hlen]; exact h0)]
    rw [kat_kid] at hz2
    obtain ⟨g, o, hA, hg, c0, c1, c2, c3⟩ := (hI.below b1).cell (show 0 < n by omega)
    subst hA
    rw [Nat.zero_mul, Nat.add_zero] at c0 c1 c2 c3
    obtain ⟨v, hv⟩ : ∃ v, (kidAt xs 0).a = v := ⟨_, rfl⟩
    rw [hv] at c3
    clear hv
    rw [hz2] at c0 c1 c2
    clear hz hz2 hlen
    have h1 : ((n : Int) == 0) = false := by simp; omega
    have h2 : decide ((n : Int) = 0) = false := decide_eq_false (by omega)
    have h3 : (0 : Int) < (n : Int) := by omega
    go_enter Tryd.func61, Tryd.ntmps61
    go_wp2_with fail
    generalize w.alloc (.cells #[.int .i64 0, .int .i64 0, .int .i64 0] 39) = w1 at R1 b1 hg c0 c1 c2 c3 ⊢
    go_wp2_with fail
    refine (ckeyk_any z v w1).mono ?_
    rintro e w2 ⟨rfl, hb2'⟩
    have R2 := R1.below hb2' R1.lt
    have B2 := b1.trans (hb2'.mono b1.size)
    go_wp2_with (first
      | (refine wp_store_kd rfl (.tmp 4) (.tmp 13) rfl w.heap.size rfl z _ rfl R2 ?_; intro wz Rz Tz)
      | fail)
    refine bodyPost_ret (res_c1 Tryd.results61 rfl (load_kd Rz)) rfl ?_
    exact ⟨rfl, B2.trans ((Tz.belowOne R2.lt).mono (Nat.le_refl _))⟩

set_option maxRecDepth 100000 in
set_option maxHeartbeats 8000000 in
theorem cnleast_any (N : Nd) (hfit : N.fit) (z : Kd) (hz : N.least = z) (A : Option Addr) (n c : Nat) (B : Option Addr) (m d : Nat) (w : World) (hI : Itms w A n c N.items) (hK : Kidl w B m d N.kids) :
    Calls Tryd.prog 22 #[.agg #[.int .i64 N.lvl, .slice A n c, .slice B m d]] w fun e w' => e = .returned (.agg #[.int .i64 z.obj, .int .i64 z.kind, .int .i64 z.off]) ∧ Below w.heap.size w w' := by
  go_enter Tryd.func22, Tryd.ntmps22
  go_wp2_with fail
  have N1 : NB ((w.alloc (.cells #[.int .i64 N.lvl, .slice A n c, .slice B m d] 25)).alloc (.cells #[.int .i64 0, .int .i64 0, .int .i64 0] 39)) w.heap.size N.lvl A n c B m d := (NB.new w _ _ _ _ _ _ _ _).below ((Below.refl _ _).alloc (Nat.le_refl _) _) (by simp)
  have R1 : KB ((w.alloc (.cells #[.int .i64 N.lvl, .slice A n c, .slice B m d] 25)).alloc (.cells #[.int .i64 0, .int .i64 0, .int .i64 0] 39)) (w.heap.size + 1) ⟨0, 0, 0⟩ := KB.new2 w _ 0 0 0 _
  have b1 : Below w.heap.size w ((w.alloc (.cells #[.int .i64 N.lvl, .slice A n c, .slice B m d] 25)).alloc (.cells #[.int .i64 0, .int .i64 0, .int .i64 0] 39)) := ((Below.refl _ _).alloc (Nat.le_refl _) _).alloc (by simp) _
  generalize (w.alloc (.cells #[.int .i64 N.lvl, .slice A n c, .slice B m d] 25)).alloc (.cells #[.int .i64 0, .int .i64 0, .int .i64 0] 39) = w1 at N1 R1 b1 ⊢
  by_cases hl : N.lvl = 0
  · have Hz := Lib.hid (show (if (N.items.map (·.k)).length = 0 then ⟨0, 0, 0⟩ else keyAt (N.items.map (·.k)) 0) = z by rw [← hz, ← fit_leaf hfit hl]; rfl)
    refine (cleaf_any N.lvl true (decide_eq_true hl) A n c B m d w1).mono ?_
    rintro e w2 ⟨rfl, hb2⟩
    have N2 := N1.below hb2 N1.lt
    have R2 := R1.below hb2 R1.lt
    have B2 := b1.trans (hb2.mono b1.size)
    have q1 := N2.c1
    clear hl hz N1 R1 b1 hb2
    go_wp2_with fail
    refine (cleastI_any N.items z Hz.out A n c w2 (hI.below B2)).mono ?_
    rintro e w3 ⟨rfl, hb3⟩
    have R3 := R2.below hb3 R2.lt
    have B3 := B2.trans (hb3.mono B2.size)
    go_wp2_with (first
      | (refine wp_store_kd rfl (.tmp 2) (.tmp 7) rfl (w.heap.size + 1) rfl z _ rfl R3 ?_; intro wz Rz Tz)
      | fail)
    refine bodyPost_ret (res_c1 Tryd.results22 rfl (load_kd Rz)) rfl ?_
    exact ⟨rfl, B3.trans ((Tz.belowOne R3.lt).mono (by omega))⟩
  · have Hz := Lib.hid (show (if (N.kids.map (·.k)).length = 0 then ⟨0, 0, 0⟩ else keyAt (N.kids.map (·.k)) 0) = z by rw [← hz, ← fit_inner hfit hl]; rfl)
    refine (cleaf_any N.lvl false (decide_eq_false hl) A n c B m d w1).mono ?_
    rintro e w2 ⟨rfl, hb2⟩
    have N2 := N1.below hb2 N1.lt
    have R2 := R1.below hb2 R1.lt
    have B2 := b1.trans (hb2.mono b1.size)
    have q2 := N2.c2
    clear hl hz N1 R1 b1 hb2
    go_wp2_with fail
    refine (cleastK_any N.kids z Hz.out B m d w2 (hK.below B2)).mono ?_
    rintro e w3 ⟨rfl, hb3⟩
    have R3 := R2.below hb3 R2.lt
    have B3 := B2.trans (hb3.mono B2.size)
    go_wp2_with (first
      | (refine wp_store_kd rfl (.tmp 2) (.tmp 10) rfl (w.heap.size + 1) rfl z _ rfl R3 ?_; intro wz Rz Tz)
      | fail)
    refine bodyPost_ret (res_c1 Tryd.results22 rfl (load_kd Rz)) rfl ?_
    exact ⟨rfl, B3.trans ((Tz.belowOne R3.lt).mono (by omega))⟩
end Go.Proofs.YtmebdjafnefneaaDoor
