/- Superblocks: the code's May. -/
import Derived.Test.YtljlliiedbedeaaDoorSupC
import Derived.BigQuiet
namespace Go.Proofs.YtljlliiedbedeaaDoor
open Go Go.RowKit Go.Proofs

theorem grd_vl (op : BinOp) (x y : Operand) (xs ys : Array Value) (w : World) : (eqGuard op 23 x y (.agg xs) (.agg ys)).run Tryd.prog w = .ok () w :=
  run_eqGuard_agg w op 23 x y xs ys (by kernel_rfl)
theorem grd_sp (op : BinOp) (x y : Operand) (xs ys : Array Value) (w : World) : (eqGuard op 26 x y (.agg xs) (.agg ys)).run Tryd.prog w = .ok () w :=
  run_eqGuard_agg w op 26 x y xs ys (by kernel_rfl)
theorem neq_v0 (x : Vl) (r : Bool) (h : x.same Vl.zero = r) (w : World) : (binOp .neq 23 (.agg #[.string x.name, .bool x.ro, .int .i64 x.root, .int .i64 x.next]) (.agg #[.string ⟨#[]⟩, .bool false, .int .i64 0, .int .i64 0])).run Tryd.prog w = .ok (.bool (!r)) w := neq_vl x Vl.zero r h w
theorem eql_v0 (x : Vl) (r : Bool) (h : x.same Vl.zero = r) (w : World) : (binOp .eql 23 (.agg #[.string x.name, .bool x.ro, .int .i64 x.root, .int .i64 x.next]) (.agg #[.string ⟨#[]⟩, .bool false, .int .i64 0, .int .i64 0])).run Tryd.prog w = .ok (.bool r) w := eql_vl x Vl.zero r h w
theorem SB.volsl {w : World} {b : Nat} {S : Sp} (H : SB w b S) {k : Nat} (hk : k ≤ 8) : Vols w (some ⟨b, 3, none⟩) k 8 (S.vols.take k) := by
  have := H.sls.take hk
  unfold Vols
  rwa [List.map_take]

theorem sl_va (b k : Nat) (hk : k ≤ 8) (w : World) : (Instr.sliceAt 24 (.pointer (some ⟨b, 3, none⟩)) none (some (.int .i64 (k : Int))) none).run Tryd.prog w = .ok (.slice (some ⟨b, 3, none⟩) k 8) w := by
  have hl : Tryd.prog.arrayLen 24 = 8 := by kernel_rfl
  have hs : (sizeOf (Tryd.prog.elem 24)).run Tryd.prog w = .ok 4 w := by kernel_rfl
  rw [run_sliceAt_array_h w 24 _ (by kernel_rfl) .i64 _ (by omega) (by rw [hl]; omega), hs, hl]
  simp [slicedAt, Result.andThen, Addr.add_mid]

set_option maxRecDepth 100000 in
set_option maxHeartbeats 4000000 in
theorem smay_any (S : Sp) (r : Bool) (hr : S.may = r) (hf : S.fine) (w : World) :
    Calls Tryd.prog 13 #[.agg S.vs.toArray] w fun e w' => e = .returned (.bool r) ∧ Below w.heap.size w w' := by
  subst hr
  have H1 := SB.new w S 26
  have b1 : Below w.heap.size w (w.alloc (.cells S.vs.toArray 26)) := (Below.refl _ _).alloc (Nat.le_refl _) _
  have q0 := H1.c0
  have q1 := H1.c1
  have q2 := H1.c2
  go_enter Tryd.func13, Tryd.ntmps13
  go_wp2_with fail
  generalize w.alloc (.cells S.vs.toArray 26) = w1 at H1 b1 q0 q1 q2 ⊢
  by_cases hg : 1 ≤ S.gen ∧ S.gen ≤ 1099511627775
  · refine (swithin_any S.gen 1 1099511627775 true (decide_eq_true hg) _).mono ?_
    rintro e w2 ⟨rfl, rfl⟩
    go_wp2_with fail
    by_cases hs : 32 ≤ S.sectors ∧ S.sectors ≤ 2048
    · refine (swithin_any S.sectors 32 2048 true (decide_eq_true hs) _).mono ?_
      rintro e w2 ⟨rfl, rfl⟩
      go_wp2_with fail
      by_cases hl : 0 ≤ S.log ∧ S.log ≤ S.sectors - 1
      · refine (swithin_any S.log 0 (S.sectors - 1) true (decide_eq_true hl) _).mono ?_
        rintro e w2 ⟨rfl, rfl⟩
        have hhd : S.hd = true := decide_eq_true (by omega)
        have Hyes := Lib.hid (fun h => may_yes (S := S) hhd h)
        go_wp2_with (first
          | (refine wp_load_va rfl (.tmp 24) rfl w.heap.size rfl S H1 ?_)
          | fail)
        go_loopw [26] (fun i wr => ∃ k : Nat, k ≤ 8 ∧ i = .int .i64 (k : Int) ∧ (∀ j < k, S.ok1 j = true) ∧ Below w1.heap.size w1 wr) (fun i _ => 8 - (intOf i).toNat)
        case atStart => exact ⟨0, by omega, rfl, fun j hj => by omega, Below.refl _ _⟩
        case round =>
          obtain ⟨k, hk, rfl, hall, hB⟩ := hrel
          by_cases hlt : k < 8
          · have hix := ix_vl S hlt
            have hk0 : (0 : Int) ≤ (k : Int) := by omega
            obtain ⟨x, hx⟩ : ∃ x, S.at_ k = x := ⟨_, rfl⟩
            have hsz := hf k hlt
            rw [hx] at hix hsz
            have hok1 := Lib.hid (show S.ok1 k = (x.same Vl.zero || (x.ok S.sectors && !namedL (S.vols.take k) x.name)) by unfold Sp.ok1; rw [hx])
            clear hx
            have Hr := H1.below hB H1.lt
            go_wp2_with fail
            have bx : Below wr.heap.size wr (wr.alloc (.cells #[.string x.name, .bool x.ro, .int .i64 x.root, .int .i64 x.next] 23)) := (Below.refl _ _).alloc (Nat.le_refl _) _
            have x0 : (wr.alloc (.cells #[.string x.name, .bool x.ro, .int .i64 x.root, .int .i64 x.next] 23)).heap[wr.heap.size]? = some (.cells #[.string x.name, .bool x.ro, .int .i64 x.root, .int .i64 x.next] 23 (0, 0)) := heap_alloc_new wr _
            have zx : wr.heap.size < (wr.alloc (.cells #[.string x.name, .bool x.ro, .int .i64 x.root, .int .i64 x.next] 23)).heap.size := by simp
            generalize wr.alloc (.cells #[.string x.name, .bool x.ro, .int .i64 x.root, .int .i64 x.next] 23) = wx at bx x0 zx ⊢
            have Hx := Hr.below bx Hr.lt
            have q0 : ∀ u : Grown wx, u.to.cell? ⟨wr.heap.size, 0, none⟩ = some (.string x.name) := Grown.cell (by rw [cell_of_row _ _ _ _ _ _ x0]; rfl) zx
            have q1 : ∀ u : Grown wx, u.to.cell? ⟨wr.heap.size, 1, none⟩ = some (.bool x.ro) := Grown.cell (by rw [cell_of_row _ _ _ _ _ _ x0]; rfl) zx
            have q2 : ∀ u : Grown wx, u.to.cell? ⟨wr.heap.size, 2, none⟩ = some (.int .i64 x.root) := Grown.cell (by rw [cell_of_row _ _ _ _ _ _ x0]; rfl) zx
            have q3 : ∀ u : Grown wx, u.to.cell? ⟨wr.heap.size, 3, none⟩ = some (.int .i64 x.next) := Grown.cell (by rw [cell_of_row _ _ _ _ _ _ x0]; rfl) zx
            have q4 : ∀ u : Grown wx, u.to.cell? ⟨w.heap.size, 1, none⟩ = some (.int .i64 S.sectors) := Grown.cell Hx.c1 Hx.lt
            have hBx := hB.trans (bx.mono hB.size)
            have hG := grd_vl
            have hsv := sl_va w.heap.size k (by omega)
            clear x0 hix
            obtain ⟨z, hz⟩ : ∃ z, x.same Vl.zero = z := ⟨_, rfl⟩
            have hneq := neq_v0 x z hz
            cases z
            · obtain ⟨m, hmv⟩ : ∃ m, x.ok S.sectors = m := ⟨_, rfl⟩
              cases m
              · have hno := Lib.hid (may_no (S := S) hlt (by rw [hok1.out, hz, hmv]; rfl))
                refine wp_region_grown (by kernel_rfl) (by kernel_rfl) ?_
                repeat (go_big_quiet_step (first
                  | (go_at_call 28; exact Calls.grown (smayvol_any x S.sectors hs.1 hs.2 false hmv hsz _))
                  | fail))
                refine wpQuiet_nil ?_
                rintro _ ⟨u, rfl⟩
                have hBu := hBx.trans (u.ok.mono hBx.size)
                go_wp2
                go_ret
                exact ⟨by rw [hno.out]; rfl, b1.trans (hBu.mono b1.size)⟩
              · obtain ⟨nm, hnm⟩ : ∃ nm, namedL (S.vols.take k) x.name = nm := ⟨_, rfl⟩
                cases nm
                · have HZ := Lib.hid (show (x.same Vl.zero || (x.ok S.sectors && !namedL (S.vols.take k) x.name)) = true by rw [hmv, hnm]; simp)
                  refine wp_region_grown (by kernel_rfl) (by kernel_rfl) ?_
                  repeat (go_big_quiet_step (first
                    | (go_at_call 28; exact Calls.grown (smayvol_any x S.sectors hs.1 hs.2 true hmv hsz _))
                    | (go_at_call 29; exact Calls.grown (snamed_any (S.vols.take k) x.name false hnm _ k 8 _ ((Hx.below (Grown.ok _) Hx.lt).volsl (by omega)) (by omega)))
                    | fail))
                  refine wpQuiet_nil ?_
                  rintro _ ⟨u, rfl⟩
                  have hBu := hBx.trans (u.ok.mono hBx.size)
                  go_wp2
                  refine ⟨⟨k + 1, by omega, by go_num, fun j hj => ?_, hBu⟩, by simp [intOf]; omega⟩
                  by_cases hjk : j = k
                  · rw [hjk, hok1.out, HZ.out]
                  · exact hall j (by omega)
                · have hno := Lib.hid (may_no (S := S) hlt (by rw [hok1.out, hz, hmv, hnm]; rfl))
                  refine wp_region_grown (by kernel_rfl) (by kernel_rfl) ?_
                  repeat (go_big_quiet_step (first
                    | (go_at_call 28; exact Calls.grown (smayvol_any x S.sectors hs.1 hs.2 true hmv hsz _))
                    | (go_at_call 29; exact Calls.grown (snamed_any (S.vols.take k) x.name true hnm _ k 8 _ ((Hx.below (Grown.ok _) Hx.lt).volsl (by omega)) (by omega)))
                    | fail))
                  refine wpQuiet_nil ?_
                  rintro _ ⟨u, rfl⟩
                  have hBu := hBx.trans (u.ok.mono hBx.size)
                  go_wp2
                  go_ret
                  exact ⟨by rw [hno.out]; rfl, b1.trans (hBu.mono b1.size)⟩
            · have HZ := Lib.hid (show (x.same Vl.zero || (x.ok S.sectors && !namedL (S.vols.take k) x.name)) = true by rw [hz]; rfl)
              refine wp_region_grown (by kernel_rfl) (by kernel_rfl) ?_
              repeat (go_big_quiet_step (first
                | fail))
              refine wpQuiet_nil ?_
              rintro _ ⟨u, rfl⟩
              have hBu := hBx.trans (u.ok.mono hBx.size)
              go_wp2
              refine ⟨⟨k + 1, by omega, by go_num, fun j hj => ?_, hBu⟩, by simp [intOf]; omega⟩
              by_cases hjk : j = k
              · rw [hjk, hok1.out, HZ.out]
              · exact hall j (by omega)
          · have hk8 : k = 8 := by omega
            have hyes := Lib.hid (Hyes.out (by rw [← hk8]; exact hall))
            go_wp2
            go_ret
            exact ⟨by rw [hyes.out]; rfl, b1.trans (hB.mono b1.size)⟩
      · refine (swithin_any S.log 0 (S.sectors - 1) false (decide_eq_false hl) _).mono ?_
        rintro e w2 ⟨rfl, rfl⟩
        have Hno := Lib.hid (may_hd (S := S) (decide_eq_false (by omega)))
        go_wp2
        go_ret
        exact ⟨by rw [Hno.out]; rfl, b1⟩
    · refine (swithin_any S.sectors 32 2048 false (decide_eq_false hs) _).mono ?_
      rintro e w2 ⟨rfl, rfl⟩
      have Hno := Lib.hid (may_hd (S := S) (decide_eq_false (by omega)))
      go_wp2
      go_ret
      exact ⟨by rw [Hno.out]; rfl, b1⟩
  · refine (swithin_any S.gen 1 1099511627775 false (decide_eq_false hg) _).mono ?_
    rintro e w2 ⟨rfl, rfl⟩
    have Hno := Lib.hid (may_hd (S := S) (decide_eq_false (by omega)))
    go_wp2
    go_ret
    exact ⟨by rw [Hno.out]; rfl, b1⟩
end Go.Proofs.YtljlliiedbedeaaDoor
