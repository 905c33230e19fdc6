/- Superblocks: the reference's May. -/
import Derived.Test.YtljlliiedbedeaaDoorSupD
namespace Go.Proofs.YtljlliiedbedeaaDoor
open Go Go.RowKit Go.Proofs

theorem SB.four {w : World} {b : Nat} {S : Sp} (H : SB w b S) {k : Nat} (hk : k < 8) : w.cell? ⟨b, 3 + k * 4, none⟩ = some (.string (S.at_ k).name) ∧ w.cell? ⟨b, 3 + k * 4 + 1, none⟩ = some (.bool (S.at_ k).ro) ∧ w.cell? ⟨b, 3 + k * 4 + 2, none⟩ = some (.int .i64 (S.at_ k).root) ∧ w.cell? ⟨b, 3 + k * 4 + 3, none⟩ = some (.int .i64 (S.at_ k).next) := by
  have h := H.vol hk
  rw [show 3 + 4 * k = 3 + k * 4 by omega] at h
  exact ⟨h 0 _ rfl, h 1 _ rfl, h 2 _ rfl, h 3 _ rfl⟩
theorem vlAt_take (S : Sp) {k q : Nat} (hq : q < k) : vlAt (S.vols.take k) q = S.at_ q := by
  unfold vlAt Sp.at_
  rw [List.getD_eq_getElem?_getD, List.getD_eq_getElem?_getD, List.getElem?_take_of_lt hq]
theorem take_len (S : Sp) {k : Nat} (hk : k < 8) : (S.vols.take k).length = k := by rw [List.length_take, S.len]; omega
theorem decide_and_no {a b : Prop} [Decidable a] [Decidable b] (h : ¬ (a ∧ b)) : (decide a && decide b) = false := by
  rw [Bool.eq_false_iff]
  intro h2
  rw [Bool.and_eq_true, decide_eq_true_eq, decide_eq_true_eq] at h2
  exact h h2

set_option maxRecDepth 100000 in
set_option maxHeartbeats 8000000 in
theorem srefmay_any (S : Sp) (r : Bool) (hr : S.may = r) (hf : S.fine) (w : World) :
    Calls Tryd.prog 14 #[.agg S.vs.toArray] w fun e w' => e = .returned (.bool r) ∧ Below w.heap.size w w' := by
  subst hr
  have H1 := SB.new w S 26
  have b1 : Below w.heap.size w (w.alloc (.cells S.vs.toArray 26)) := (Below.refl _ _).alloc (Nat.le_refl _) _
  have q0 := H1.c0
  have q1 := H1.c1
  have q2 := H1.c2
  rcases (by omega : (S.gen < 1) ∨ (¬ (S.gen < 1) ∧ 1099511627775 < S.gen) ∨ (¬ (S.gen < 1) ∧ ¬ (1099511627775 < S.gen) ∧ S.sectors < 32) ∨ (¬ (S.gen < 1) ∧ ¬ (1099511627775 < S.gen) ∧ ¬ (S.sectors < 32) ∧ 2048 < S.sectors) ∨ (¬ (S.gen < 1) ∧ ¬ (1099511627775 < S.gen) ∧ ¬ (S.sectors < 32) ∧ ¬ (2048 < S.sectors) ∧ S.log < 0) ∨ (¬ (S.gen < 1) ∧ ¬ (1099511627775 < S.gen) ∧ ¬ (S.sectors < 32) ∧ ¬ (2048 < S.sectors) ∧ ¬ (S.log < 0) ∧ S.sectors ≤ S.log) ∨ (¬ (S.gen < 1) ∧ ¬ (1099511627775 < S.gen) ∧ ¬ (S.sectors < 32) ∧ ¬ (2048 < S.sectors) ∧ ¬ (S.log < 0) ∧ ¬ (S.sectors ≤ S.log))) with h | h | h | h | h | h | h
  all_goals go_enter Tryd.func14, Tryd.ntmps14
  · have d0 : decide (S.gen < 1) = true := decide_eq_true (by omega)
    have Hno := Lib.hid (may_hd (S := S) (decide_eq_false (by omega)))
    clear h
    go_wp2_with fail
    go_ret
    exact ⟨by rw [Hno.out]; rfl, b1⟩
  · have d0 : decide (S.gen < 1) = false := decide_eq_false (by omega)
    have d1 : decide (1099511627775 < S.gen) = true := decide_eq_true (by omega)
    have Hno := Lib.hid (may_hd (S := S) (decide_eq_false (by omega)))
    clear h
    go_wp2_with fail
    go_ret
    exact ⟨by rw [Hno.out]; rfl, b1⟩
  · have d0 : decide (S.gen < 1) = false := decide_eq_false (by omega)
    have d1 : decide (1099511627775 < S.gen) = false := decide_eq_false (by omega)
    have d2 : decide (S.sectors < 32) = true := decide_eq_true (by omega)
    have Hno := Lib.hid (may_hd (S := S) (decide_eq_false (by omega)))
    clear h
    go_wp2_with fail
    go_ret
    exact ⟨by rw [Hno.out]; rfl, b1⟩
  · have d0 : decide (S.gen < 1) = false := decide_eq_false (by omega)
    have d1 : decide (1099511627775 < S.gen) = false := decide_eq_false (by omega)
    have d2 : decide (S.sectors < 32) = false := decide_eq_false (by omega)
    have d3 : decide (2048 < S.sectors) = true := decide_eq_true (by omega)
    have Hno := Lib.hid (may_hd (S := S) (decide_eq_false (by omega)))
    clear h
    go_wp2_with fail
    go_ret
    exact ⟨by rw [Hno.out]; rfl, b1⟩
  · have d0 : decide (S.gen < 1) = false := decide_eq_false (by omega)
    have d1 : decide (1099511627775 < S.gen) = false := decide_eq_false (by omega)
    have d2 : decide (S.sectors < 32) = false := decide_eq_false (by omega)
    have d3 : decide (2048 < S.sectors) = false := decide_eq_false (by omega)
    have d4 : decide (S.log < 0) = true := decide_eq_true (by omega)
    have Hno := Lib.hid (may_hd (S := S) (decide_eq_false (by omega)))
    clear h
    go_wp2_with fail
    go_ret
    exact ⟨by rw [Hno.out]; rfl, b1⟩
  · have d0 : decide (S.gen < 1) = false := decide_eq_false (by omega)
    have d1 : decide (1099511627775 < S.gen) = false := decide_eq_false (by omega)
    have d2 : decide (S.sectors < 32) = false := decide_eq_false (by omega)
    have d3 : decide (2048 < S.sectors) = false := decide_eq_false (by omega)
    have d4 : decide (S.log < 0) = false := decide_eq_false (by omega)
    have d5 : decide (S.sectors ≤ S.log) = true := decide_eq_true (by omega)
    have Hno := Lib.hid (may_hd (S := S) (decide_eq_false (by omega)))
    clear h
    go_wp2_with fail
    go_ret
    exact ⟨by rw [Hno.out]; rfl, b1⟩
  · have d0 : decide (S.gen < 1) = false := decide_eq_false (by omega)
    have d1 : decide (1099511627775 < S.gen) = false := decide_eq_false (by omega)
    have d2 : decide (S.sectors < 32) = false := decide_eq_false (by omega)
    have d3 : decide (2048 < S.sectors) = false := decide_eq_false (by omega)
    have d4 : decide (S.log < 0) = false := decide_eq_false (by omega)
    have d5 : decide (S.sectors ≤ S.log) = false := decide_eq_false (by omega)
    have hhd : S.hd = true := decide_eq_true (by omega)
    have Hyes := Lib.hid (fun h => may_yes (S := S) hhd h)
    go_wp2_with fail
    generalize w.alloc (.cells S.vs.toArray 26) = w1 at H1 b1 q0 q1 q2 ⊢
    go_loopw [3] (fun i wr => ∃ k : Nat, k ≤ 8 ∧ i = .int .i64 (k : Int) ∧ (∀ j < k, S.ok1 j = true) ∧ Below w1.heap.size w1 wr) (fun i _ => 8 - (intOf i).toNat)
    case atStart => exact ⟨0, by omega, rfl, fun j hj => by omega, Below.refl _ _⟩
    case round =>
      obtain ⟨k, hk, rfl, hall, hB⟩ := hrel
      by_cases hlt : k < 8
      · have hk0 : (0 : Int) ≤ (k : Int) := by omega
        have Hr := H1.below hB H1.lt
        obtain ⟨c0, c1, c2, c3⟩ := Hr.four hlt
        obtain ⟨x, hx⟩ : ∃ x, S.at_ k = x := ⟨_, rfl⟩
        have hsz := hf k hlt
        rw [hx] at c0 c1 c2 c3 hsz
        have hok1 := Lib.hid (show S.ok1 k = (x.same Vl.zero || (x.ok S.sectors && !namedL (S.vols.take k) x.name)) by unfold Sp.ok1; rw [hx])
        clear hx
        have hG := grd_vl
        have bx : Below wr.heap.size wr (wr.alloc (.cells #[.string x.name, .bool x.ro, .int .i64 x.root, .int .i64 x.next] 23)) := (Below.refl _ _).alloc (Nat.le_refl _) _
        have hBx := hB.trans (bx.mono hB.size)
        obtain ⟨z, hz⟩ : ∃ z, x.same Vl.zero = z := ⟨_, rfl⟩
        have heql := eql_v0 x z hz
        cases z
        · go_wp2_with fail
          have x0 : (wr.alloc (.cells #[.string x.name, .bool x.ro, .int .i64 x.root, .int .i64 x.next] 23)).heap[wr.heap.size]? = some (.cells #[.string x.name, .bool x.ro, .int .i64 x.root, .int .i64 x.next] 23 (0, 0)) := heap_alloc_new wr _
          have zx : wr.heap.size < (wr.alloc (.cells #[.string x.name, .bool x.ro, .int .i64 x.root, .int .i64 x.next] 23)).heap.size := by simp
          have Hx := Hr.below bx Hr.lt
          generalize wr.alloc (.cells #[.string x.name, .bool x.ro, .int .i64 x.root, .int .i64 x.next] 23) = wx at bx x0 zx hBx Hx ⊢
          have p0 : wx.cell? ⟨wr.heap.size, 0, none⟩ = some (.string x.name) := by rw [cell_of_row _ _ _ _ _ _ x0]; rfl
          have p1 : wx.cell? ⟨wr.heap.size, 1, none⟩ = some (.bool x.ro) := by rw [cell_of_row _ _ _ _ _ _ x0]; rfl
          have p2 : wx.cell? ⟨wr.heap.size, 2, none⟩ = some (.int .i64 x.root) := by rw [cell_of_row _ _ _ _ _ _ x0]; rfl
          have p3 : wx.cell? ⟨wr.heap.size, 3, none⟩ = some (.int .i64 x.next) := by rw [cell_of_row _ _ _ _ _ _ x0]; rfl
          have p4 := Hx.c1
          obtain ⟨bk, hbk⟩ : ∃ bk, wr.heap.size = bk := ⟨_, rfl⟩
          rw [hbk] at p0 p1 p2 p3 zx ⊢
          have hBl := hBx
          clear c0 c1 c2 c3 x0 q0 q1 q2 heql
          obtain ⟨a, hlab⟩ : ∃ a, labL x.name = a := ⟨_, rfl⟩
          refine (reflabel_any x.name a hlab wx hsz).mono ?_
          rintro e w2 ⟨rfl, rfl⟩
          cases a
          · have hno := Lib.hid (may_no (S := S) hlt (by rw [hok1.out, hz]; unfold Vl.ok; rw [hlab]; rfl))
            go_wp2_with fail
            go_ret
            exact ⟨by rw [hno.out]; rfl, b1.trans (hBl.mono b1.size)⟩
          · rcases (by omega : (x.root < 0) ∨ (¬ (x.root < 0) ∧ S.sectors ≤ x.root) ∨ (¬ (x.root < 0) ∧ ¬ (S.sectors ≤ x.root) ∧ x.next < 2) ∨ (¬ (x.root < 0) ∧ ¬ (S.sectors ≤ x.root) ∧ ¬ (x.next < 2) ∧ 2147483647 < x.next) ∨ (¬ (x.root < 0) ∧ ¬ (S.sectors ≤ x.root) ∧ ¬ (x.next < 2) ∧ ¬ (2147483647 < x.next))) with h9 | h9 | h9 | h9 | h9
            · have e0 : decide (x.root < 0) = true := decide_eq_true (by omega)
              have hno := Lib.hid (may_no (S := S) hlt (by rw [hok1.out, hz]; unfold Vl.ok; rw [hlab, decide_and_no (by omega)]; rfl))
              clear h9
              go_wp2_with fail
              go_ret
              exact ⟨by rw [hno.out]; rfl, b1.trans (hBl.mono b1.size)⟩
            · have e0 : decide (x.root < 0) = false := decide_eq_false (by omega)
              have e1 : decide (S.sectors ≤ x.root) = true := decide_eq_true (by omega)
              have hno := Lib.hid (may_no (S := S) hlt (by rw [hok1.out, hz]; unfold Vl.ok; rw [hlab, decide_and_no (by omega)]; rfl))
              clear h9
              go_wp2_with fail
              go_ret
              exact ⟨by rw [hno.out]; rfl, b1.trans (hBl.mono b1.size)⟩
            · have e0 : decide (x.root < 0) = false := decide_eq_false (by omega)
              have e1 : decide (S.sectors ≤ x.root) = false := decide_eq_false (by omega)
              have e2 : decide (x.next < 2) = true := decide_eq_true (by omega)
              have hno := Lib.hid (may_no (S := S) hlt (by rw [hok1.out, hz]; unfold Vl.ok; rw [hlab, decide_and_no (by omega)]; rfl))
              clear h9
              go_wp2_with fail
              go_ret
              exact ⟨by rw [hno.out]; rfl, b1.trans (hBl.mono b1.size)⟩
            · have e0 : decide (x.root < 0) = false := decide_eq_false (by omega)
              have e1 : decide (S.sectors ≤ x.root) = false := decide_eq_false (by omega)
              have e2 : decide (x.next < 2) = false := decide_eq_false (by omega)
              have e3 : decide (2147483647 < x.next) = true := decide_eq_true (by omega)
              have hno := Lib.hid (may_no (S := S) hlt (by rw [hok1.out, hz]; unfold Vl.ok; rw [hlab, decide_and_no (by omega)]; rfl))
              clear h9
              go_wp2_with fail
              go_ret
              exact ⟨by rw [hno.out]; rfl, b1.trans (hBl.mono b1.size)⟩
            · have e0 : decide (x.root < 0) = false := decide_eq_false (by omega)
              have e1 : decide (S.sectors ≤ x.root) = false := decide_eq_false (by omega)
              have e2 : decide (x.next < 2) = false := decide_eq_false (by omega)
              have e3 : decide (2147483647 < x.next) = false := decide_eq_false (by omega)
              have hok := Lib.hid (show x.ok S.sectors = true by unfold Vl.ok; rw [hlab, decide_eq_true (by omega), decide_eq_true (by omega)]; rfl)
              clear h9
              go_wp2_with fail
              go_loopw [6] (fun i wq => ∃ q : Nat, q ≤ k ∧ i = .int .i64 (q : Int) ∧ (∀ j < q, ((S.at_ j).name.toList == x.name.toList) = false) ∧ Below wx.heap.size wx wq) (fun i _ => k - (intOf i).toNat)
              case atStart => exact ⟨0, by omega, rfl, fun j hj => by omega, Below.refl _ _⟩
              case round =>
                obtain ⟨q, hq, rfl, hqa, hBq⟩ := hrel
                have hq0 : (0 : Int) ≤ (q : Int) := by omega
                have hBw := hBl.trans (hBq.mono hBl.size)
                by_cases hlq : q < k
                · have hq8 : (q : Int) < 8 := by omega
                  have n0 := ((Hx.below hBq Hx.lt).four (show q < 8 by omega)).1
                  have n1 := (hBq.cell (p := ⟨bk, 0, none⟩) zx).trans p0
                  have hnm := named_yes (l := S.vols.take k) (s := x.name) (j := q) (by rw [take_len S hlt]; exact hlq)
                  rw [vlAt_take S hlq] at hnm
                  obtain ⟨y, hy⟩ : ∃ y, S.at_ q = y := ⟨_, rfl⟩
                  have Hy := Lib.hid hy
                  rw [hy] at n0 hnm
                  clear hy
                  cases hs : y.name.toList == x.name.toList
                  · go_wp2_with fail
                    go_quiet (fail)
                    generalize hwz : World.drewN wr _ = wz
                    have hBz : Below wx.heap.size wx wz := by rw [← hwz]; exact below_drewN hBq _
                    clear hwz
                    go_wp2
                    refine ⟨⟨q + 1, by omega, by go_num, fun j hj => ?_, hBz⟩, by simp [intOf]; omega⟩
                    by_cases hjq : j = q
                    · rw [hjq, Hy.out]; exact hs
                    · exact hqa j (by omega)
                  · have hno := Lib.hid (may_no (S := S) hlt (by rw [hok1.out, hz, hok.out, hnm hs]; rfl))
                    go_wp2_with fail
                    go_quiet (fail)
                    generalize hwz : World.drewN wr _ = wz
                    have hBz : Below w1.heap.size w1 wz := by rw [← hwz]; exact below_drewN hBw _
                    clear hwz
                    go_wp2
                    go_ret
                    exact ⟨by rw [hno.out]; rfl, b1.trans (hBz.mono b1.size)⟩
                · have hqk : q = k := by omega
                  have hnn : namedL (S.vols.take k) x.name = false := named_no fun j hj => by
                    rw [take_len S hlt] at hj
                    rw [vlAt_take S hj]
                    exact hqa j (by omega)
                  have hyes := Lib.hid (show S.ok1 k = true by rw [hok1.out, hok.out, hnn]; simp)
                  go_wp2
                  refine ⟨⟨k + 1, by omega, by go_num, fun j hj => ?_, hBw⟩, by simp [intOf]; omega⟩
                  by_cases hjk : j = k
                  · rw [hjk]; exact hyes.out
                  · exact hall j (by omega)
        · have HZ := Lib.hid (show S.ok1 k = true by rw [hok1.out, hz]; rfl)
          go_wp2
          refine ⟨⟨k + 1, by omega, by go_num, fun j hj => ?_, hBx⟩, by simp [intOf]; omega⟩
          by_cases hjk : j = k
          · rw [hjk]; exact HZ.out
          · exact hall j (by omega)
      · have hk8 : k = 8 := by omega
        have hyes := Lib.hid (Hyes.out (by rw [← hk8]; exact hall))
        go_wp2
        go_ret
        exact ⟨by rw [hyes.out]; rfl, b1.trans (hB.mono b1.size)⟩
end Go.Proofs.YtljlliiedbedeaaDoor
