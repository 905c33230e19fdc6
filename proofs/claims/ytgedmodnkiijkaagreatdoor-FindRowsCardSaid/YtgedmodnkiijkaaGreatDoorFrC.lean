/- The reference's Put into a row of items. -/
import Derived.Test.YtgedmodnkiijkaaGreatDoorFn5
import Derived.Test.YtgedmodnkiijkaaGreatDoorGrown
import Derived.Test.YtgedmodnkiijkaaGreatDoorFn30
import Derived.Deep.RegionHeld3
namespace Go.Proofs.YtgedmodnkiijkaaGreatDoor
open Go Go.RowKit Go.Proofs

theorem neq_of_eql {r : Result Bool} {s : Bool} {w : World} (h : r.andThen (fun b w' => .ok (Value.bool b) w') = .ok (.bool s) w) : r.andThen (fun b w' => .ok (Value.bool (!b)) w') = .ok (.bool (!s)) w := by
  cases r with
  | ok b w' =>
    simp only [Result.andThen_ok] at h ⊢
    injection h with h1 h2
    injection h1 with h1
    rw [h1, h2]
  | _ => simp [Result.andThen] at h
theorem nguard_says (x y : Operand) (xs ys : Array Value) (w : World) : (eqGuard .neq 39 x y (.agg xs) (.agg ys)).run Tryz.prog w = .ok () w :=
  run_eqGuard_agg w .neq 39 x y xs ys (by kernel_rfl)
theorem neq_says (a b : Kd) (r r' : Bool) (h : a.same b = r) (hr : r' = !r) (w : World) : (binOp .neq 39 (.agg #[.int .i64 a.obj, .int .i64 a.kind, .int .i64 a.off]) (.agg #[.int .i64 b.obj, .int .i64 b.kind, .int .i64 b.off])).run Tryz.prog w = .ok (.bool r') w := by
  have h1 := eql_says a b r h w
  rw [run_eql_struct] at h1
  rw [run_neq_struct, hr]
  exact neq_of_eql h1
theorem own_block {w : World} {base n c : Nat} {e : TypeId} {A : Option Addr} {l : List UInt8} (h : Own w base e A n c l) (b : Nat) (hb : blockOf A = some b) : base ≤ b ∧ b < w.heap.size := by
  match A, hb, h with
  | some ad, hb, h =>
    obtain rfl : ad.block = b := Option.some.inj hb
    exact h.block ad rfl
theorem putR_step {k : Kd} {v : List UInt8} {done : Bool} {l : List Itm} {j : Nat} (hj : j < l.length) : putR k v done (l.drop j) = (if (!done && (k.less (itAt l j).k || (itAt l j).k.same k)) = true then [⟨k, v⟩] else []) ++ ((if (itAt l j).k.same k = true then [] else [itAt l j]) ++ putR k v (done || (k.less (itAt l j).k || (itAt l j).k.same k)) (l.drop (j + 1))) := by
  rw [drop_it hj, putR]
theorem putR_stop {k : Kd} {v : List UInt8} {done : Bool} {l : List Itm} {j : Nat} (h : l.length ≤ j) : putR k v done (l.drop j) = if done = true then [] else [⟨k, v⟩] := by
  rw [List.drop_of_length_le h, putR]

set_option maxRecDepth 100000 in
set_option maxHeartbeats 32000000 in
theorem rput_any (A : Option Addr) (n c : Nat) (l : List Itm) (k : Kd) (V : Option Addr) (p q : Nat) (v : List UInt8) (w : World) (hI : Itms w A n c l) (hV : Sl w V p q v) (hn : n ≤ 400) (hp0 : p ≤ 1000) :
    Calls Tryz.prog 30 #[.slice A n c, .agg #[.int .i64 k.obj, .int .i64 k.kind, .int .i64 k.off], .slice V p q] w fun e w' => ∃ A' n' c', e = .returned (.slice A' n' c') ∧ Itms w' A' n' c' (putR k v false l) ∧ Below w.heap.size w w' := by
  have hl := Lib.hid hI.len
  have hp : p ≤ 140737488355328 := by omega
  obtain ⟨K0, bB⟩ := boxes1 w k
  obtain ⟨R, hRe⟩ : ∃ R, putR k v false l = R := ⟨_, rfl⟩
  have hR : ([] : List Itm) ++ putR k v false (l.drop 0) = R := hRe
  rw [hRe]
  clear hRe
  go_enter Tryz.func30, Tryz.ntmps30
  go_wp2_with fail
  generalize hw1 : w.alloc (.cells #[.int .i64 k.obj, .int .i64 k.kind, .int .i64 k.off] 39) = w1 at K0 bB ⊢
  have zw : w1.heap.size = w.heap.size + 1 := by rw [← hw1]; simp
  clear hw1
  have bl : Below w1.heap.size w1 (w1.alloc (.cells #[] 41)) := (Below.refl _ _).alloc (Nat.le_refl _) _
  have J0 := jrow_lit0 w1
  have K1 := K0.below bl K0.lt
  have B1 := bB.trans (bl.mono bB.size)
  have zl := bl.size
  generalize w1.alloc (.cells #[] 41) = w2 at bl J0 K1 B1 zl ⊢
  rw [zw] at J0
  go_loopw [7, 8, 9, 10] (fun lv dn i _ wr => ∃ (j m : Nat) (A' : Option Addr) (c' : Nat) (out : List Itm) (done : Bool), j ≤ n ∧ m ≤ 2 * j ∧ i = .int .i64 (j : Int) ∧ lv = .slice A' m c' ∧ dn = .bool done ∧ JRow wr (w.heap.size + 1) A' m c' out ∧ out ++ putR k v done (l.drop j) = R ∧ KB wr w.heap.size k ∧ Below w.heap.size w wr ∧ w.heap.size + 1 ≤ wr.heap.size) (fun _ _ i _ _ => n - (intOf i).toNat)
  case atStart => exact ⟨0, 0, _, _, [], false, Nat.zero_le _, Nat.le_refl _, rfl, rfl, rfl, J0, hR, K1, B1, by omega⟩
  case round =>
    clear J0 K1 B1 hR K0 bB bl zl
    obtain ⟨j, m, A', c', out, done, hj, hm, rfl, rfl, rfl, J, hR, K, B, z2⟩ := hrel
    have HV := Lib.hid (fun (w' : World) (b : Below w.heap.size w w') => hV.below b)
    have hVlt := hV.blockLt
    by_cases hlt : j < n
    · have hstep := putR_step (k := k) (v := v) (done := done) (l := l) (j := j) (by rw [hl.out]; exact hlt)
      rw [hstep] at hR
      obtain ⟨g, o, X, xp, xq, rfl, hg, c0, c1, c2, c3, hs⟩ := hI.cell hlt
      obtain ⟨x, hx⟩ : ∃ x, itAt l j = x := ⟨_, rfl⟩
      rw [hx] at c0 c1 c2 hs hR
      have HX := Lib.hid (fun (w' : World) (b : Below w.heap.size w w') => show w'.cell? ⟨g, o + j * 4, none⟩ = some (.int .i64 x.k.obj) ∧ w'.cell? ⟨g, o + j * 4 + 1, none⟩ = some (.int .i64 x.k.kind) ∧ w'.cell? ⟨g, o + j * 4 + 2, none⟩ = some (.int .i64 x.k.off) ∧ w'.cell? ⟨g, o + j * 4 + 3, none⟩ = some (.slice X xp xq) ∧ Sl w' X xp xq x.v from
        ⟨(b.cell (p := ⟨g, _, none⟩) hg).trans c0, (b.cell (p := ⟨g, _, none⟩) hg).trans c1, (b.cell (p := ⟨g, _, none⟩) hg).trans c2, (b.cell (p := ⟨g, _, none⟩) hg).trans c3, hs.below b⟩)
      have e0 : (0 : Int) ≤ (j : Int) := by omega
      have e1 : (j : Int) < (n : Int) := by omega
      have Hlt := hs.blockLt
      clear c0 c1 c2 c3 hs hx hstep
      have hgd := guard_says
      have hng := nguard_says
      cases h2 : x.k.same k with
      | true =>
        cases h1 : k.less x.k with
        | true =>
          cases done with
          | true =>
            have H1 := fun w => refless_says k x.k true h1 w
            have heq := eql_says x.k k true h2
            have hnq := neq_says x.k k true false h2 rfl
            rw [h1, h2] at hR
            clear h1 h2
            have hR2 : (out) ++ putR k v true (l.drop (j + 1)) = R := by rw [← hR]; simp
            clear hR
            have d0 := fun u : Grown wr => (HX.out u.to (B.trans (u.ok.mono B.size))).1
            have d1 := fun u : Grown wr => (HX.out u.to (B.trans (u.ok.mono B.size))).2.1
            have d2 := fun u : Grown wr => (HX.out u.to (B.trans (u.ok.mono B.size))).2.2.1
            have k0 := fun u : Grown wr => Grown.cell K.c0 K.lt u
            have k1 := fun u : Grown wr => Grown.cell K.c1 K.lt u
            have k2 := fun u : Grown wr => Grown.cell K.c2 K.lt u
            go_wp2_with fail
            refine wp_region_grown (by kernel_rfl) (by kernel_rfl) ?_
            repeat (go_big_quiet_step (fail))
            go_big_quiet_step (first | (go_at_call 26; exact Calls.grown (H1 _)) | fail)
            repeat (go_big_quiet_step (fail))
            refine wpQuiet_nil ?_
            rintro _ ⟨u, rfl⟩
            clear d0 d1 d2 k0 k1 k2
            replace J := J.below u.ok
            replace K := K.below u.ok K.lt
            replace B := B.trans (u.ok.mono B.size)
            replace z2 := Nat.le_trans z2 u.ok.size
            generalize u.to = w6 at J K B z2 ⊢
            clear u
            have d0 := fun u : Grown w6 => (HX.out u.to (B.trans (u.ok.mono B.size))).1
            have d1 := fun u : Grown w6 => (HX.out u.to (B.trans (u.ok.mono B.size))).2.1
            have d2 := fun u : Grown w6 => (HX.out u.to (B.trans (u.ok.mono B.size))).2.2.1
            have k0 := fun u : Grown w6 => Grown.cell K.c0 K.lt u
            have k1 := fun u : Grown w6 => Grown.cell K.c1 K.lt u
            have k2 := fun u : Grown w6 => Grown.cell K.c2 K.lt u
            go_wp2_with fail
            refine wp_region_grown (by kernel_rfl) (by kernel_rfl) ?_
            repeat (go_big_quiet_step (fail))
            refine wpQuiet_nil ?_
            rintro _ ⟨u, rfl⟩
            clear d0 d1 d2 k0 k1 k2
            replace J := J.below u.ok
            replace K := K.below u.ok K.lt
            replace B := B.trans (u.ok.mono B.size)
            replace z2 := Nat.le_trans z2 u.ok.size
            generalize u.to = w7 at J K B z2 ⊢
            clear u
            have d0 := fun u : Grown w7 => (HX.out u.to (B.trans (u.ok.mono B.size))).1
            have d1 := fun u : Grown w7 => (HX.out u.to (B.trans (u.ok.mono B.size))).2.1
            have d2 := fun u : Grown w7 => (HX.out u.to (B.trans (u.ok.mono B.size))).2.2.1
            have k0 := fun u : Grown w7 => Grown.cell K.c0 K.lt u
            have k1 := fun u : Grown w7 => Grown.cell K.c1 K.lt u
            have k2 := fun u : Grown w7 => Grown.cell K.c2 K.lt u
            go_wp2_with fail
            refine wp_region_grown (by kernel_rfl) (by kernel_rfl) ?_
            repeat (go_big_quiet_step (fail))
            refine wpQuiet_nil ?_
            rintro _ ⟨u, rfl⟩
            clear d0 d1 d2 k0 k1 k2
            replace J := J.below u.ok
            replace K := K.below u.ok K.lt
            replace B := B.trans (u.ok.mono B.size)
            replace z2 := Nat.le_trans z2 u.ok.size
            generalize u.to = w10 at J K B z2 ⊢
            clear u
            go_wp2
            exact ⟨⟨j + 1, m, _, _, out, true, by omega, by omega, by go_num, rfl, rfl, J, hR2, K, B, z2⟩, by simp [intOf]; omega⟩
          | false =>
            have H1 := fun w => refless_says k x.k true h1 w
            have heq := eql_says x.k k true h2
            have hnq := neq_says x.k k true false h2 rfl
            rw [h1, h2] at hR
            clear h1 h2
            have hR2 : (out ++ [⟨k, v⟩]) ++ putR k v true (l.drop (j + 1)) = R := by rw [← hR]; simp
            clear hR
            have d0 := fun u : Grown wr => (HX.out u.to (B.trans (u.ok.mono B.size))).1
            have d1 := fun u : Grown wr => (HX.out u.to (B.trans (u.ok.mono B.size))).2.1
            have d2 := fun u : Grown wr => (HX.out u.to (B.trans (u.ok.mono B.size))).2.2.1
            have k0 := fun u : Grown wr => Grown.cell K.c0 K.lt u
            have k1 := fun u : Grown wr => Grown.cell K.c1 K.lt u
            have k2 := fun u : Grown wr => Grown.cell K.c2 K.lt u
            go_wp2_with fail
            refine wp_region_grown (by kernel_rfl) (by kernel_rfl) ?_
            repeat (go_big_quiet_step (fail))
            go_big_quiet_step (first | (go_at_call 26; exact Calls.grown (H1 _)) | fail)
            repeat (go_big_quiet_step (fail))
            refine wpQuiet_nil ?_
            rintro _ ⟨u, rfl⟩
            clear d0 d1 d2 k0 k1 k2
            replace J := J.below u.ok
            replace K := K.below u.ok K.lt
            replace B := B.trans (u.ok.mono B.size)
            replace z2 := Nat.le_trans z2 u.ok.size
            generalize u.to = w6 at J K B z2 ⊢
            clear u
            have d0 := fun u : Grown w6 => (HX.out u.to (B.trans (u.ok.mono B.size))).1
            have d1 := fun u : Grown w6 => (HX.out u.to (B.trans (u.ok.mono B.size))).2.1
            have d2 := fun u : Grown w6 => (HX.out u.to (B.trans (u.ok.mono B.size))).2.2.1
            have k0 := fun u : Grown w6 => Grown.cell K.c0 K.lt u
            have k1 := fun u : Grown w6 => Grown.cell K.c1 K.lt u
            have k2 := fun u : Grown w6 => Grown.cell K.c2 K.lt u
            go_wp2_with fail
            refine wp_region_grown (by kernel_rfl) (by kernel_rfl) ?_
            repeat (go_big_quiet_step (fail))
            refine wpQuiet_nil ?_
            rintro _ ⟨u, rfl⟩
            clear d0 d1 d2 k0 k1 k2
            replace J := J.below u.ok
            replace K := K.below u.ok K.lt
            replace B := B.trans (u.ok.mono B.size)
            replace z2 := Nat.le_trans z2 u.ok.size
            generalize u.to = w7 at J K B z2 ⊢
            clear u
            go_wp2_with fail
            have hF : ∀ w', Below (w.heap.size + 1) w7 w' → w'.cell? ⟨w.heap.size, 0, none⟩ = some (.int .i64 k.obj) ∧ w'.cell? ⟨w.heap.size, 1, none⟩ = some (.int .i64 k.kind) ∧ w'.cell? ⟨w.heap.size, 2, none⟩ = some (.int .i64 k.off) := fun w' hb => ⟨(K.below hb (by omega)).c0, (K.below hb (by omega)).c1, (K.below hb (by omega)).c2⟩
            have BD : Below w7.heap.size w7 w7.drew := (Below.refl _ _).drew
            have OE : Own (w7.alloc (.cells #[] 5)).drew w7.heap.size 5 (some ⟨w7.heap.size, 0, none⟩) 0 0 [] := own_empty w7 5
            have BE : Below w7.heap.size w7 (w7.alloc (.cells #[] 5)).drew := ((Below.refl _ _).alloc (Nat.le_refl _) _).drew
            have zE : (w7.alloc (.cells #[] 5)).drew.heap.size = w7.heap.size + 1 := by simp
            have hVE := HV.out _ (B.trans (BE.mono B.size))
            have BA : ∀ o, Below w7.heap.size w7 (w7.alloc o) := fun o => (Below.refl _ _).alloc (Nat.le_refl _) o
            have zE2 : w7.heap.size ≤ (w7.alloc (.cells #[] 5)).drew.heap.size := by omega
            go_region_held3 (fun w' => w'.cell? ⟨w.heap.size, 0, none⟩ = some (.int .i64 k.obj) ∧ w'.cell? ⟨w.heap.size, 1, none⟩ = some (.int .i64 k.kind) ∧ w'.cell? ⟨w.heap.size, 2, none⟩ = some (.int .i64 k.off))
              (first | assumption | exact hF _ (BD.mono z2) | exact hF _ (BE.mono z2) | exact hF _ ((BA _).mono z2) | exact hF _ bb5 | exact hF _ bb6 | exact hF _ bb7)
              (first
                | (refine step_append_lit _ T22 rfl (.tmp 41) (.tmp 42) rfl w7.heap.size w7.heap.size rfl OE V p q v rfl hVE hp zE2 ?_; intro A5 c5 w5 own5 hb5; have bb5 : Below (w.heap.size + 1) w7 w5 := (BE.mono z2).trans (hb5.mono (by omega)); have z5 := hb5.size; have ba : Below w5.heap.size w5 (w5.alloc (.cells #[.int .i64 k.obj, .int .i64 k.kind, .int .i64 k.off, .slice A5 p c5] 41)) := (Below.refl _ _).alloc (Nat.le_refl _) _; have bb6 := bb5.trans (ba.mono (by omega)); have J5 := J.below (BE.trans (hb5.mono (by omega))); have z6 := ba.size; have z56 : w.heap.size + 1 ≤ (w5.alloc (.cells #[.int .i64 k.obj, .int .i64 k.kind, .int .i64 k.off, .slice A5 p c5] 41)).heap.size := (by omega); have hA5 : v ≠ [] → ∀ b, blockOf A5 = some b → blockOf A' ≠ some b := fun _ b hb e => by have h1 := own_block own5 b hb; have h2 := (J.blockLt b e).2; omega)
                | (refine step_append_jitem rfl (.tmp 39) (.tmp 45) rfl (w.heap.size + 1) A' m c' out rfl (J5.below ba) (some ⟨w5.heap.size, 0, none⟩) 1 ⟨k, v⟩ A5 p c5 rfl (lit1_item w5 k A5 p c5) (own5.sl.below ba) hA5 (by omega) z56 ?_; intro A6 c6 w8 J7 T7; have bb7 : Below (w.heap.size + 1) w7 w8 := bb6.trans (T7.below (fun k hk => (J5.blockLt k hk).1) z56))
                | fail)
            replace K := K.below bb7 (by omega)
            replace B := B.trans (bb7.mono (by omega))
            replace z2 := Nat.le_trans z2 bb7.size
            clear J hF BD OE BE BA zE hVE zE2
            have J := J7
            clear J7
            have d0 := fun u : Grown w8 => (HX.out u.to (B.trans (u.ok.mono B.size))).1
            have d1 := fun u : Grown w8 => (HX.out u.to (B.trans (u.ok.mono B.size))).2.1
            have d2 := fun u : Grown w8 => (HX.out u.to (B.trans (u.ok.mono B.size))).2.2.1
            have k0 := fun u : Grown w8 => Grown.cell K.c0 K.lt u
            have k1 := fun u : Grown w8 => Grown.cell K.c1 K.lt u
            have k2 := fun u : Grown w8 => Grown.cell K.c2 K.lt u
            go_wp2_with fail
            refine wp_region_grown (by kernel_rfl) (by kernel_rfl) ?_
            repeat (go_big_quiet_step (fail))
            refine wpQuiet_nil ?_
            rintro _ ⟨u, rfl⟩
            clear d0 d1 d2 k0 k1 k2
            replace J := J.below u.ok
            replace K := K.below u.ok K.lt
            replace B := B.trans (u.ok.mono B.size)
            replace z2 := Nat.le_trans z2 u.ok.size
            generalize u.to = w10 at J K B z2 ⊢
            clear u
            go_wp2
            exact ⟨⟨j + 1, m + 1, _, _, out ++ [⟨k, v⟩], true, by omega, by omega, by go_num, rfl, rfl, J, hR2, K, B, z2⟩, by simp [intOf]; omega⟩
        | false =>
          cases done with
          | true =>
            have H1 := fun w => refless_says k x.k false h1 w
            have heq := eql_says x.k k true h2
            have hnq := neq_says x.k k true false h2 rfl
            rw [h1, h2] at hR
            clear h1 h2
            have hR2 : (out) ++ putR k v true (l.drop (j + 1)) = R := by rw [← hR]; simp
            clear hR
            have d0 := fun u : Grown wr => (HX.out u.to (B.trans (u.ok.mono B.size))).1
            have d1 := fun u : Grown wr => (HX.out u.to (B.trans (u.ok.mono B.size))).2.1
            have d2 := fun u : Grown wr => (HX.out u.to (B.trans (u.ok.mono B.size))).2.2.1
            have k0 := fun u : Grown wr => Grown.cell K.c0 K.lt u
            have k1 := fun u : Grown wr => Grown.cell K.c1 K.lt u
            have k2 := fun u : Grown wr => Grown.cell K.c2 K.lt u
            go_wp2_with fail
            refine wp_region_grown (by kernel_rfl) (by kernel_rfl) ?_
            repeat (go_big_quiet_step (fail))
            go_big_quiet_step (first | (go_at_call 26; exact Calls.grown (H1 _)) | fail)
            repeat (go_big_quiet_step (fail))
            refine wpQuiet_nil ?_
            rintro _ ⟨u, rfl⟩
            clear d0 d1 d2 k0 k1 k2
            replace J := J.below u.ok
            replace K := K.below u.ok K.lt
            replace B := B.trans (u.ok.mono B.size)
            replace z2 := Nat.le_trans z2 u.ok.size
            generalize u.to = w6 at J K B z2 ⊢
            clear u
            have d0 := fun u : Grown w6 => (HX.out u.to (B.trans (u.ok.mono B.size))).1
            have d1 := fun u : Grown w6 => (HX.out u.to (B.trans (u.ok.mono B.size))).2.1
            have d2 := fun u : Grown w6 => (HX.out u.to (B.trans (u.ok.mono B.size))).2.2.1
            have k0 := fun u : Grown w6 => Grown.cell K.c0 K.lt u
            have k1 := fun u : Grown w6 => Grown.cell K.c1 K.lt u
            have k2 := fun u : Grown w6 => Grown.cell K.c2 K.lt u
            go_wp2_with fail
            refine wp_region_grown (by kernel_rfl) (by kernel_rfl) ?_
            repeat (go_big_quiet_step (fail))
            refine wpQuiet_nil ?_
            rintro _ ⟨u, rfl⟩
            clear d0 d1 d2 k0 k1 k2
            replace J := J.below u.ok
            replace K := K.below u.ok K.lt
            replace B := B.trans (u.ok.mono B.size)
            replace z2 := Nat.le_trans z2 u.ok.size
            generalize u.to = w7 at J K B z2 ⊢
            clear u
            have d0 := fun u : Grown w7 => (HX.out u.to (B.trans (u.ok.mono B.size))).1
            have d1 := fun u : Grown w7 => (HX.out u.to (B.trans (u.ok.mono B.size))).2.1
            have d2 := fun u : Grown w7 => (HX.out u.to (B.trans (u.ok.mono B.size))).2.2.1
            have k0 := fun u : Grown w7 => Grown.cell K.c0 K.lt u
            have k1 := fun u : Grown w7 => Grown.cell K.c1 K.lt u
            have k2 := fun u : Grown w7 => Grown.cell K.c2 K.lt u
            go_wp2_with fail
            refine wp_region_grown (by kernel_rfl) (by kernel_rfl) ?_
            repeat (go_big_quiet_step (fail))
            refine wpQuiet_nil ?_
            rintro _ ⟨u, rfl⟩
            clear d0 d1 d2 k0 k1 k2
            replace J := J.below u.ok
            replace K := K.below u.ok K.lt
            replace B := B.trans (u.ok.mono B.size)
            replace z2 := Nat.le_trans z2 u.ok.size
            generalize u.to = w10 at J K B z2 ⊢
            clear u
            go_wp2
            exact ⟨⟨j + 1, m, _, _, out, true, by omega, by omega, by go_num, rfl, rfl, J, hR2, K, B, z2⟩, by simp [intOf]; omega⟩
          | false =>
            have H1 := fun w => refless_says k x.k false h1 w
            have heq := eql_says x.k k true h2
            have hnq := neq_says x.k k true false h2 rfl
            rw [h1, h2] at hR
            clear h1 h2
            have hR2 : (out ++ [⟨k, v⟩]) ++ putR k v true (l.drop (j + 1)) = R := by rw [← hR]; simp
            clear hR
            have d0 := fun u : Grown wr => (HX.out u.to (B.trans (u.ok.mono B.size))).1
            have d1 := fun u : Grown wr => (HX.out u.to (B.trans (u.ok.mono B.size))).2.1
            have d2 := fun u : Grown wr => (HX.out u.to (B.trans (u.ok.mono B.size))).2.2.1
            have k0 := fun u : Grown wr => Grown.cell K.c0 K.lt u
            have k1 := fun u : Grown wr => Grown.cell K.c1 K.lt u
            have k2 := fun u : Grown wr => Grown.cell K.c2 K.lt u
            go_wp2_with fail
            refine wp_region_grown (by kernel_rfl) (by kernel_rfl) ?_
            repeat (go_big_quiet_step (fail))
            go_big_quiet_step (first | (go_at_call 26; exact Calls.grown (H1 _)) | fail)
            repeat (go_big_quiet_step (fail))
            refine wpQuiet_nil ?_
            rintro _ ⟨u, rfl⟩
            clear d0 d1 d2 k0 k1 k2
            replace J := J.below u.ok
            replace K := K.below u.ok K.lt
            replace B := B.trans (u.ok.mono B.size)
            replace z2 := Nat.le_trans z2 u.ok.size
            generalize u.to = w6 at J K B z2 ⊢
            clear u
            have d0 := fun u : Grown w6 => (HX.out u.to (B.trans (u.ok.mono B.size))).1
            have d1 := fun u : Grown w6 => (HX.out u.to (B.trans (u.ok.mono B.size))).2.1
            have d2 := fun u : Grown w6 => (HX.out u.to (B.trans (u.ok.mono B.size))).2.2.1
            have k0 := fun u : Grown w6 => Grown.cell K.c0 K.lt u
            have k1 := fun u : Grown w6 => Grown.cell K.c1 K.lt u
            have k2 := fun u : Grown w6 => Grown.cell K.c2 K.lt u
            go_wp2_with fail
            refine wp_region_grown (by kernel_rfl) (by kernel_rfl) ?_
            repeat (go_big_quiet_step (fail))
            refine wpQuiet_nil ?_
            rintro _ ⟨u, rfl⟩
            clear d0 d1 d2 k0 k1 k2
            replace J := J.below u.ok
            replace K := K.below u.ok K.lt
            replace B := B.trans (u.ok.mono B.size)
            replace z2 := Nat.le_trans z2 u.ok.size
            generalize u.to = w7 at J K B z2 ⊢
            clear u
            go_wp2_with fail
            have hF : ∀ w', Below (w.heap.size + 1) w7 w' → w'.cell? ⟨w.heap.size, 0, none⟩ = some (.int .i64 k.obj) ∧ w'.cell? ⟨w.heap.size, 1, none⟩ = some (.int .i64 k.kind) ∧ w'.cell? ⟨w.heap.size, 2, none⟩ = some (.int .i64 k.off) := fun w' hb => ⟨(K.below hb (by omega)).c0, (K.below hb (by omega)).c1, (K.below hb (by omega)).c2⟩
            have BD : Below w7.heap.size w7 w7.drew := (Below.refl _ _).drew
            have OE : Own (w7.alloc (.cells #[] 5)).drew w7.heap.size 5 (some ⟨w7.heap.size, 0, none⟩) 0 0 [] := own_empty w7 5
            have BE : Below w7.heap.size w7 (w7.alloc (.cells #[] 5)).drew := ((Below.refl _ _).alloc (Nat.le_refl _) _).drew
            have zE : (w7.alloc (.cells #[] 5)).drew.heap.size = w7.heap.size + 1 := by simp
            have hVE := HV.out _ (B.trans (BE.mono B.size))
            have BA : ∀ o, Below w7.heap.size w7 (w7.alloc o) := fun o => (Below.refl _ _).alloc (Nat.le_refl _) o
            have zE2 : w7.heap.size ≤ (w7.alloc (.cells #[] 5)).drew.heap.size := by omega
            go_region_held3 (fun w' => w'.cell? ⟨w.heap.size, 0, none⟩ = some (.int .i64 k.obj) ∧ w'.cell? ⟨w.heap.size, 1, none⟩ = some (.int .i64 k.kind) ∧ w'.cell? ⟨w.heap.size, 2, none⟩ = some (.int .i64 k.off))
              (first | assumption | exact hF _ (BD.mono z2) | exact hF _ (BE.mono z2) | exact hF _ ((BA _).mono z2) | exact hF _ bb5 | exact hF _ bb6 | exact hF _ bb7)
              (first
                | (refine step_append_lit _ T22 rfl (.tmp 41) (.tmp 42) rfl w7.heap.size w7.heap.size rfl OE V p q v rfl hVE hp zE2 ?_; intro A5 c5 w5 own5 hb5; have bb5 : Below (w.heap.size + 1) w7 w5 := (BE.mono z2).trans (hb5.mono (by omega)); have z5 := hb5.size; have ba : Below w5.heap.size w5 (w5.alloc (.cells #[.int .i64 k.obj, .int .i64 k.kind, .int .i64 k.off, .slice A5 p c5] 41)) := (Below.refl _ _).alloc (Nat.le_refl _) _; have bb6 := bb5.trans (ba.mono (by omega)); have J5 := J.below (BE.trans (hb5.mono (by omega))); have z6 := ba.size; have z56 : w.heap.size + 1 ≤ (w5.alloc (.cells #[.int .i64 k.obj, .int .i64 k.kind, .int .i64 k.off, .slice A5 p c5] 41)).heap.size := (by omega); have hA5 : v ≠ [] → ∀ b, blockOf A5 = some b → blockOf A' ≠ some b := fun _ b hb e => by have h1 := own_block own5 b hb; have h2 := (J.blockLt b e).2; omega)
                | (refine step_append_jitem rfl (.tmp 39) (.tmp 45) rfl (w.heap.size + 1) A' m c' out rfl (J5.below ba) (some ⟨w5.heap.size, 0, none⟩) 1 ⟨k, v⟩ A5 p c5 rfl (lit1_item w5 k A5 p c5) (own5.sl.below ba) hA5 (by omega) z56 ?_; intro A6 c6 w8 J7 T7; have bb7 : Below (w.heap.size + 1) w7 w8 := bb6.trans (T7.below (fun k hk => (J5.blockLt k hk).1) z56))
                | fail)
            replace K := K.below bb7 (by omega)
            replace B := B.trans (bb7.mono (by omega))
            replace z2 := Nat.le_trans z2 bb7.size
            clear J hF BD OE BE BA zE hVE zE2
            have J := J7
            clear J7
            have d0 := fun u : Grown w8 => (HX.out u.to (B.trans (u.ok.mono B.size))).1
            have d1 := fun u : Grown w8 => (HX.out u.to (B.trans (u.ok.mono B.size))).2.1
            have d2 := fun u : Grown w8 => (HX.out u.to (B.trans (u.ok.mono B.size))).2.2.1
            have k0 := fun u : Grown w8 => Grown.cell K.c0 K.lt u
            have k1 := fun u : Grown w8 => Grown.cell K.c1 K.lt u
            have k2 := fun u : Grown w8 => Grown.cell K.c2 K.lt u
            go_wp2_with fail
            refine wp_region_grown (by kernel_rfl) (by kernel_rfl) ?_
            repeat (go_big_quiet_step (fail))
            refine wpQuiet_nil ?_
            rintro _ ⟨u, rfl⟩
            clear d0 d1 d2 k0 k1 k2
            replace J := J.below u.ok
            replace K := K.below u.ok K.lt
            replace B := B.trans (u.ok.mono B.size)
            replace z2 := Nat.le_trans z2 u.ok.size
            generalize u.to = w10 at J K B z2 ⊢
            clear u
            go_wp2
            exact ⟨⟨j + 1, m + 1, _, _, out ++ [⟨k, v⟩], true, by omega, by omega, by go_num, rfl, rfl, J, hR2, K, B, z2⟩, by simp [intOf]; omega⟩
      | false =>
        cases h1 : k.less x.k with
        | true =>
          cases done with
          | true =>
            have H1 := fun w => refless_says k x.k true h1 w
            have heq := eql_says x.k k false h2
            have hnq := neq_says x.k k false true h2 rfl
            rw [h1, h2] at hR
            clear h1 h2
            have hR2 : ((out) ++ [x]) ++ putR k v true (l.drop (j + 1)) = R := by rw [← hR]; simp
            clear hR
            have d0 := fun u : Grown wr => (HX.out u.to (B.trans (u.ok.mono B.size))).1
            have d1 := fun u : Grown wr => (HX.out u.to (B.trans (u.ok.mono B.size))).2.1
            have d2 := fun u : Grown wr => (HX.out u.to (B.trans (u.ok.mono B.size))).2.2.1
            have k0 := fun u : Grown wr => Grown.cell K.c0 K.lt u
            have k1 := fun u : Grown wr => Grown.cell K.c1 K.lt u
            have k2 := fun u : Grown wr => Grown.cell K.c2 K.lt u
            go_wp2_with fail
            refine wp_region_grown (by kernel_rfl) (by kernel_rfl) ?_
            repeat (go_big_quiet_step (fail))
            go_big_quiet_step (first | (go_at_call 26; exact Calls.grown (H1 _)) | fail)
            repeat (go_big_quiet_step (fail))
            refine wpQuiet_nil ?_
            rintro _ ⟨u, rfl⟩
            clear d0 d1 d2 k0 k1 k2
            replace J := J.below u.ok
            replace K := K.below u.ok K.lt
            replace B := B.trans (u.ok.mono B.size)
            replace z2 := Nat.le_trans z2 u.ok.size
            generalize u.to = w6 at J K B z2 ⊢
            clear u
            have d0 := fun u : Grown w6 => (HX.out u.to (B.trans (u.ok.mono B.size))).1
            have d1 := fun u : Grown w6 => (HX.out u.to (B.trans (u.ok.mono B.size))).2.1
            have d2 := fun u : Grown w6 => (HX.out u.to (B.trans (u.ok.mono B.size))).2.2.1
            have k0 := fun u : Grown w6 => Grown.cell K.c0 K.lt u
            have k1 := fun u : Grown w6 => Grown.cell K.c1 K.lt u
            have k2 := fun u : Grown w6 => Grown.cell K.c2 K.lt u
            go_wp2_with fail
            refine wp_region_grown (by kernel_rfl) (by kernel_rfl) ?_
            repeat (go_big_quiet_step (fail))
            refine wpQuiet_nil ?_
            rintro _ ⟨u, rfl⟩
            clear d0 d1 d2 k0 k1 k2
            replace J := J.below u.ok
            replace K := K.below u.ok K.lt
            replace B := B.trans (u.ok.mono B.size)
            replace z2 := Nat.le_trans z2 u.ok.size
            generalize u.to = w7 at J K B z2 ⊢
            clear u
            have d0 := fun u : Grown w7 => (HX.out u.to (B.trans (u.ok.mono B.size))).1
            have d1 := fun u : Grown w7 => (HX.out u.to (B.trans (u.ok.mono B.size))).2.1
            have d2 := fun u : Grown w7 => (HX.out u.to (B.trans (u.ok.mono B.size))).2.2.1
            have k0 := fun u : Grown w7 => Grown.cell K.c0 K.lt u
            have k1 := fun u : Grown w7 => Grown.cell K.c1 K.lt u
            have k2 := fun u : Grown w7 => Grown.cell K.c2 K.lt u
            go_wp2_with fail
            refine wp_region_grown (by kernel_rfl) (by kernel_rfl) ?_
            repeat (go_big_quiet_step (fail))
            refine wpQuiet_nil ?_
            rintro _ ⟨u, rfl⟩
            clear d0 d1 d2 k0 k1 k2
            replace J := J.below u.ok
            replace K := K.below u.ok K.lt
            replace B := B.trans (u.ok.mono B.size)
            replace z2 := Nat.le_trans z2 u.ok.size
            generalize u.to = w10 at J K B z2 ⊢
            clear u
            obtain ⟨d0, d1, d2, d3, hxs⟩ := HX.out w10 B
            have hne : x.v ≠ [] → ∀ b, blockOf X = some b → blockOf A' ≠ some b := fun hv b hb e => by have h1 := Hlt hv b hb; have h2 := (J.blockLt b e).1; omega
            have b2 : Below w10.heap.size w10 (w10.alloc (.cells #[.int .i64 x.k.obj, .int .i64 x.k.kind, .int .i64 x.k.off, .slice X xp xq] 41)) := (Below.refl _ _).alloc (Nat.le_refl _) _
            have zb2 := b2.size
            go_wp2_with (first
              | (at_builtin; refine wp_append_jitem rfl _ _ rfl (w.heap.size + 1) A' (m) c' (out) rfl (J.below b2) (some ⟨w10.heap.size, 0, none⟩) 1 x X xp xq rfl (lit1_item w10 x.k X xp xq) (hxs.below b2) hne (by omega) (by omega) ?_)
              | fail)
            intro A3 c3 w9 J3 T3
            have b3 := T3.below (fun k hk => (J.blockLt k hk).1) (show w.heap.size + 1 ≤ _ by omega)
            have b23 : Below (w.heap.size + 1) w10 w9 := (b2.mono (by omega)).trans b3
            go_wp2
            exact ⟨⟨j + 1, m + 1, _, _, (out) ++ [x], true, by omega, by omega, by go_num, rfl, rfl, J3, hR2, K.below b23 (by omega), B.trans (b23.mono (by omega)), by have := b23.size; omega⟩, by simp [intOf]; omega⟩
          | false =>
            have H1 := fun w => refless_says k x.k true h1 w
            have heq := eql_says x.k k false h2
            have hnq := neq_says x.k k false true h2 rfl
            rw [h1, h2] at hR
            clear h1 h2
            have hR2 : ((out ++ [⟨k, v⟩]) ++ [x]) ++ putR k v true (l.drop (j + 1)) = R := by rw [← hR]; simp
            clear hR
            have d0 := fun u : Grown wr => (HX.out u.to (B.trans (u.ok.mono B.size))).1
            have d1 := fun u : Grown wr => (HX.out u.to (B.trans (u.ok.mono B.size))).2.1
            have d2 := fun u : Grown wr => (HX.out u.to (B.trans (u.ok.mono B.size))).2.2.1
            have k0 := fun u : Grown wr => Grown.cell K.c0 K.lt u
            have k1 := fun u : Grown wr => Grown.cell K.c1 K.lt u
            have k2 := fun u : Grown wr => Grown.cell K.c2 K.lt u
            go_wp2_with fail
            refine wp_region_grown (by kernel_rfl) (by kernel_rfl) ?_
            repeat (go_big_quiet_step (fail))
            go_big_quiet_step (first | (go_at_call 26; exact Calls.grown (H1 _)) | fail)
            repeat (go_big_quiet_step (fail))
            refine wpQuiet_nil ?_
            rintro _ ⟨u, rfl⟩
            clear d0 d1 d2 k0 k1 k2
            replace J := J.below u.ok
            replace K := K.below u.ok K.lt
            replace B := B.trans (u.ok.mono B.size)
            replace z2 := Nat.le_trans z2 u.ok.size
            generalize u.to = w6 at J K B z2 ⊢
            clear u
            have d0 := fun u : Grown w6 => (HX.out u.to (B.trans (u.ok.mono B.size))).1
            have d1 := fun u : Grown w6 => (HX.out u.to (B.trans (u.ok.mono B.size))).2.1
            have d2 := fun u : Grown w6 => (HX.out u.to (B.trans (u.ok.mono B.size))).2.2.1
            have k0 := fun u : Grown w6 => Grown.cell K.c0 K.lt u
            have k1 := fun u : Grown w6 => Grown.cell K.c1 K.lt u
            have k2 := fun u : Grown w6 => Grown.cell K.c2 K.lt u
            go_wp2_with fail
            refine wp_region_grown (by kernel_rfl) (by kernel_rfl) ?_
            repeat (go_big_quiet_step (fail))
            refine wpQuiet_nil ?_
            rintro _ ⟨u, rfl⟩
            clear d0 d1 d2 k0 k1 k2
            replace J := J.below u.ok
            replace K := K.below u.ok K.lt
            replace B := B.trans (u.ok.mono B.size)
            replace z2 := Nat.le_trans z2 u.ok.size
            generalize u.to = w7 at J K B z2 ⊢
            clear u
            go_wp2_with fail
            have hF : ∀ w', Below (w.heap.size + 1) w7 w' → w'.cell? ⟨w.heap.size, 0, none⟩ = some (.int .i64 k.obj) ∧ w'.cell? ⟨w.heap.size, 1, none⟩ = some (.int .i64 k.kind) ∧ w'.cell? ⟨w.heap.size, 2, none⟩ = some (.int .i64 k.off) := fun w' hb => ⟨(K.below hb (by omega)).c0, (K.below hb (by omega)).c1, (K.below hb (by omega)).c2⟩
            have BD : Below w7.heap.size w7 w7.drew := (Below.refl _ _).drew
            have OE : Own (w7.alloc (.cells #[] 5)).drew w7.heap.size 5 (some ⟨w7.heap.size, 0, none⟩) 0 0 [] := own_empty w7 5
            have BE : Below w7.heap.size w7 (w7.alloc (.cells #[] 5)).drew := ((Below.refl _ _).alloc (Nat.le_refl _) _).drew
            have zE : (w7.alloc (.cells #[] 5)).drew.heap.size = w7.heap.size + 1 := by simp
            have hVE := HV.out _ (B.trans (BE.mono B.size))
            have BA : ∀ o, Below w7.heap.size w7 (w7.alloc o) := fun o => (Below.refl _ _).alloc (Nat.le_refl _) o
            have zE2 : w7.heap.size ≤ (w7.alloc (.cells #[] 5)).drew.heap.size := by omega
            go_region_held3 (fun w' => w'.cell? ⟨w.heap.size, 0, none⟩ = some (.int .i64 k.obj) ∧ w'.cell? ⟨w.heap.size, 1, none⟩ = some (.int .i64 k.kind) ∧ w'.cell? ⟨w.heap.size, 2, none⟩ = some (.int .i64 k.off))
              (first | assumption | exact hF _ (BD.mono z2) | exact hF _ (BE.mono z2) | exact hF _ ((BA _).mono z2) | exact hF _ bb5 | exact hF _ bb6 | exact hF _ bb7)
              (first
                | (refine step_append_lit _ T22 rfl (.tmp 41) (.tmp 42) rfl w7.heap.size w7.heap.size rfl OE V p q v rfl hVE hp zE2 ?_; intro A5 c5 w5 own5 hb5; have bb5 : Below (w.heap.size + 1) w7 w5 := (BE.mono z2).trans (hb5.mono (by omega)); have z5 := hb5.size; have ba : Below w5.heap.size w5 (w5.alloc (.cells #[.int .i64 k.obj, .int .i64 k.kind, .int .i64 k.off, .slice A5 p c5] 41)) := (Below.refl _ _).alloc (Nat.le_refl _) _; have bb6 := bb5.trans (ba.mono (by omega)); have J5 := J.below (BE.trans (hb5.mono (by omega))); have z6 := ba.size; have z56 : w.heap.size + 1 ≤ (w5.alloc (.cells #[.int .i64 k.obj, .int .i64 k.kind, .int .i64 k.off, .slice A5 p c5] 41)).heap.size := (by omega); have hA5 : v ≠ [] → ∀ b, blockOf A5 = some b → blockOf A' ≠ some b := fun _ b hb e => by have h1 := own_block own5 b hb; have h2 := (J.blockLt b e).2; omega)
                | (refine step_append_jitem rfl (.tmp 39) (.tmp 45) rfl (w.heap.size + 1) A' m c' out rfl (J5.below ba) (some ⟨w5.heap.size, 0, none⟩) 1 ⟨k, v⟩ A5 p c5 rfl (lit1_item w5 k A5 p c5) (own5.sl.below ba) hA5 (by omega) z56 ?_; intro A6 c6 w8 J7 T7; have bb7 : Below (w.heap.size + 1) w7 w8 := bb6.trans (T7.below (fun k hk => (J5.blockLt k hk).1) z56))
                | fail)
            replace K := K.below bb7 (by omega)
            replace B := B.trans (bb7.mono (by omega))
            replace z2 := Nat.le_trans z2 bb7.size
            clear J hF BD OE BE BA zE hVE zE2
            have J := J7
            clear J7
            have d0 := fun u : Grown w8 => (HX.out u.to (B.trans (u.ok.mono B.size))).1
            have d1 := fun u : Grown w8 => (HX.out u.to (B.trans (u.ok.mono B.size))).2.1
            have d2 := fun u : Grown w8 => (HX.out u.to (B.trans (u.ok.mono B.size))).2.2.1
            have k0 := fun u : Grown w8 => Grown.cell K.c0 K.lt u
            have k1 := fun u : Grown w8 => Grown.cell K.c1 K.lt u
            have k2 := fun u : Grown w8 => Grown.cell K.c2 K.lt u
            go_wp2_with fail
            refine wp_region_grown (by kernel_rfl) (by kernel_rfl) ?_
            repeat (go_big_quiet_step (fail))
            refine wpQuiet_nil ?_
            rintro _ ⟨u, rfl⟩
            clear d0 d1 d2 k0 k1 k2
            replace J := J.below u.ok
            replace K := K.below u.ok K.lt
            replace B := B.trans (u.ok.mono B.size)
            replace z2 := Nat.le_trans z2 u.ok.size
            generalize u.to = w10 at J K B z2 ⊢
            clear u
            obtain ⟨d0, d1, d2, d3, hxs⟩ := HX.out w10 B
            have hne : x.v ≠ [] → ∀ b, blockOf X = some b → blockOf A6 ≠ some b := fun hv b hb e => by have h1 := Hlt hv b hb; have h2 := (J.blockLt b e).1; omega
            have b2 : Below w10.heap.size w10 (w10.alloc (.cells #[.int .i64 x.k.obj, .int .i64 x.k.kind, .int .i64 x.k.off, .slice X xp xq] 41)) := (Below.refl _ _).alloc (Nat.le_refl _) _
            have zb2 := b2.size
            go_wp2_with (first
              | (at_builtin; refine wp_append_jitem rfl _ _ rfl (w.heap.size + 1) A6 (m + 1) c6 (out ++ [⟨k, v⟩]) rfl (J.below b2) (some ⟨w10.heap.size, 0, none⟩) 1 x X xp xq rfl (lit1_item w10 x.k X xp xq) (hxs.below b2) hne (by omega) (by omega) ?_)
              | fail)
            intro A3 c3 w9 J3 T3
            have b3 := T3.below (fun k hk => (J.blockLt k hk).1) (show w.heap.size + 1 ≤ _ by omega)
            have b23 : Below (w.heap.size + 1) w10 w9 := (b2.mono (by omega)).trans b3
            go_wp2
            exact ⟨⟨j + 1, m + 1 + 1, _, _, (out ++ [⟨k, v⟩]) ++ [x], true, by omega, by omega, by go_num, rfl, rfl, by rw [List.append_assoc]; exact J3, hR2, K.below b23 (by omega), B.trans (b23.mono (by omega)), by have := b23.size; omega⟩, by simp [intOf]; omega⟩
        | false =>
          cases done with
          | true =>
            have H1 := fun w => refless_says k x.k false h1 w
            have heq := eql_says x.k k false h2
            have hnq := neq_says x.k k false true h2 rfl
            rw [h1, h2] at hR
            clear h1 h2
            have hR2 : ((out) ++ [x]) ++ putR k v true (l.drop (j + 1)) = R := by rw [← hR]; simp
            clear hR
            have d0 := fun u : Grown wr => (HX.out u.to (B.trans (u.ok.mono B.size))).1
            have d1 := fun u : Grown wr => (HX.out u.to (B.trans (u.ok.mono B.size))).2.1
            have d2 := fun u : Grown wr => (HX.out u.to (B.trans (u.ok.mono B.size))).2.2.1
            have k0 := fun u : Grown wr => Grown.cell K.c0 K.lt u
            have k1 := fun u : Grown wr => Grown.cell K.c1 K.lt u
            have k2 := fun u : Grown wr => Grown.cell K.c2 K.lt u
            go_wp2_with fail
            refine wp_region_grown (by kernel_rfl) (by kernel_rfl) ?_
            repeat (go_big_quiet_step (fail))
            go_big_quiet_step (first | (go_at_call 26; exact Calls.grown (H1 _)) | fail)
            repeat (go_big_quiet_step (fail))
            refine wpQuiet_nil ?_
            rintro _ ⟨u, rfl⟩
            clear d0 d1 d2 k0 k1 k2
            replace J := J.below u.ok
            replace K := K.below u.ok K.lt
            replace B := B.trans (u.ok.mono B.size)
            replace z2 := Nat.le_trans z2 u.ok.size
            generalize u.to = w6 at J K B z2 ⊢
            clear u
            have d0 := fun u : Grown w6 => (HX.out u.to (B.trans (u.ok.mono B.size))).1
            have d1 := fun u : Grown w6 => (HX.out u.to (B.trans (u.ok.mono B.size))).2.1
            have d2 := fun u : Grown w6 => (HX.out u.to (B.trans (u.ok.mono B.size))).2.2.1
            have k0 := fun u : Grown w6 => Grown.cell K.c0 K.lt u
            have k1 := fun u : Grown w6 => Grown.cell K.c1 K.lt u
            have k2 := fun u : Grown w6 => Grown.cell K.c2 K.lt u
            go_wp2_with fail
            refine wp_region_grown (by kernel_rfl) (by kernel_rfl) ?_
            repeat (go_big_quiet_step (fail))
            refine wpQuiet_nil ?_
            rintro _ ⟨u, rfl⟩
            clear d0 d1 d2 k0 k1 k2
            replace J := J.below u.ok
            replace K := K.below u.ok K.lt
            replace B := B.trans (u.ok.mono B.size)
            replace z2 := Nat.le_trans z2 u.ok.size
            generalize u.to = w7 at J K B z2 ⊢
            clear u
            have d0 := fun u : Grown w7 => (HX.out u.to (B.trans (u.ok.mono B.size))).1
            have d1 := fun u : Grown w7 => (HX.out u.to (B.trans (u.ok.mono B.size))).2.1
            have d2 := fun u : Grown w7 => (HX.out u.to (B.trans (u.ok.mono B.size))).2.2.1
            have k0 := fun u : Grown w7 => Grown.cell K.c0 K.lt u
            have k1 := fun u : Grown w7 => Grown.cell K.c1 K.lt u
            have k2 := fun u : Grown w7 => Grown.cell K.c2 K.lt u
            go_wp2_with fail
            refine wp_region_grown (by kernel_rfl) (by kernel_rfl) ?_
            repeat (go_big_quiet_step (fail))
            refine wpQuiet_nil ?_
            rintro _ ⟨u, rfl⟩
            clear d0 d1 d2 k0 k1 k2
            replace J := J.below u.ok
            replace K := K.below u.ok K.lt
            replace B := B.trans (u.ok.mono B.size)
            replace z2 := Nat.le_trans z2 u.ok.size
            generalize u.to = w10 at J K B z2 ⊢
            clear u
            obtain ⟨d0, d1, d2, d3, hxs⟩ := HX.out w10 B
            have hne : x.v ≠ [] → ∀ b, blockOf X = some b → blockOf A' ≠ some b := fun hv b hb e => by have h1 := Hlt hv b hb; have h2 := (J.blockLt b e).1; omega
            have b2 : Below w10.heap.size w10 (w10.alloc (.cells #[.int .i64 x.k.obj, .int .i64 x.k.kind, .int .i64 x.k.off, .slice X xp xq] 41)) := (Below.refl _ _).alloc (Nat.le_refl _) _
            have zb2 := b2.size
            go_wp2_with (first
              | (at_builtin; refine wp_append_jitem rfl _ _ rfl (w.heap.size + 1) A' (m) c' (out) rfl (J.below b2) (some ⟨w10.heap.size, 0, none⟩) 1 x X xp xq rfl (lit1_item w10 x.k X xp xq) (hxs.below b2) hne (by omega) (by omega) ?_)
              | fail)
            intro A3 c3 w9 J3 T3
            have b3 := T3.below (fun k hk => (J.blockLt k hk).1) (show w.heap.size + 1 ≤ _ by omega)
            have b23 : Below (w.heap.size + 1) w10 w9 := (b2.mono (by omega)).trans b3
            go_wp2
            exact ⟨⟨j + 1, m + 1, _, _, (out) ++ [x], true, by omega, by omega, by go_num, rfl, rfl, J3, hR2, K.below b23 (by omega), B.trans (b23.mono (by omega)), by have := b23.size; omega⟩, by simp [intOf]; omega⟩
          | false =>
            have H1 := fun w => refless_says k x.k false h1 w
            have heq := eql_says x.k k false h2
            have hnq := neq_says x.k k false true h2 rfl
            rw [h1, h2] at hR
            clear h1 h2
            have hR2 : ((out) ++ [x]) ++ putR k v false (l.drop (j + 1)) = R := by rw [← hR]; simp
            clear hR
            have d0 := fun u : Grown wr => (HX.out u.to (B.trans (u.ok.mono B.size))).1
            have d1 := fun u : Grown wr => (HX.out u.to (B.trans (u.ok.mono B.size))).2.1
            have d2 := fun u : Grown wr => (HX.out u.to (B.trans (u.ok.mono B.size))).2.2.1
            have k0 := fun u : Grown wr => Grown.cell K.c0 K.lt u
            have k1 := fun u : Grown wr => Grown.cell K.c1 K.lt u
            have k2 := fun u : Grown wr => Grown.cell K.c2 K.lt u
            go_wp2_with fail
            refine wp_region_grown (by kernel_rfl) (by kernel_rfl) ?_
            repeat (go_big_quiet_step (fail))
            go_big_quiet_step (first | (go_at_call 26; exact Calls.grown (H1 _)) | fail)
            repeat (go_big_quiet_step (fail))
            refine wpQuiet_nil ?_
            rintro _ ⟨u, rfl⟩
            clear d0 d1 d2 k0 k1 k2
            replace J := J.below u.ok
            replace K := K.below u.ok K.lt
            replace B := B.trans (u.ok.mono B.size)
            replace z2 := Nat.le_trans z2 u.ok.size
            generalize u.to = w6 at J K B z2 ⊢
            clear u
            have d0 := fun u : Grown w6 => (HX.out u.to (B.trans (u.ok.mono B.size))).1
            have d1 := fun u : Grown w6 => (HX.out u.to (B.trans (u.ok.mono B.size))).2.1
            have d2 := fun u : Grown w6 => (HX.out u.to (B.trans (u.ok.mono B.size))).2.2.1
            have k0 := fun u : Grown w6 => Grown.cell K.c0 K.lt u
            have k1 := fun u : Grown w6 => Grown.cell K.c1 K.lt u
            have k2 := fun u : Grown w6 => Grown.cell K.c2 K.lt u
            go_wp2_with fail
            refine wp_region_grown (by kernel_rfl) (by kernel_rfl) ?_
            repeat (go_big_quiet_step (fail))
            refine wpQuiet_nil ?_
            rintro _ ⟨u, rfl⟩
            clear d0 d1 d2 k0 k1 k2
            replace J := J.below u.ok
            replace K := K.below u.ok K.lt
            replace B := B.trans (u.ok.mono B.size)
            replace z2 := Nat.le_trans z2 u.ok.size
            generalize u.to = w7 at J K B z2 ⊢
            clear u
            have d0 := fun u : Grown w7 => (HX.out u.to (B.trans (u.ok.mono B.size))).1
            have d1 := fun u : Grown w7 => (HX.out u.to (B.trans (u.ok.mono B.size))).2.1
            have d2 := fun u : Grown w7 => (HX.out u.to (B.trans (u.ok.mono B.size))).2.2.1
            have k0 := fun u : Grown w7 => Grown.cell K.c0 K.lt u
            have k1 := fun u : Grown w7 => Grown.cell K.c1 K.lt u
            have k2 := fun u : Grown w7 => Grown.cell K.c2 K.lt u
            go_wp2_with fail
            refine wp_region_grown (by kernel_rfl) (by kernel_rfl) ?_
            repeat (go_big_quiet_step (fail))
            refine wpQuiet_nil ?_
            rintro _ ⟨u, rfl⟩
            clear d0 d1 d2 k0 k1 k2
            replace J := J.below u.ok
            replace K := K.below u.ok K.lt
            replace B := B.trans (u.ok.mono B.size)
            replace z2 := Nat.le_trans z2 u.ok.size
            generalize u.to = w10 at J K B z2 ⊢
            clear u
            obtain ⟨d0, d1, d2, d3, hxs⟩ := HX.out w10 B
            have hne : x.v ≠ [] → ∀ b, blockOf X = some b → blockOf A' ≠ some b := fun hv b hb e => by have h1 := Hlt hv b hb; have h2 := (J.blockLt b e).1; omega
            have b2 : Below w10.heap.size w10 (w10.alloc (.cells #[.int .i64 x.k.obj, .int .i64 x.k.kind, .int .i64 x.k.off, .slice X xp xq] 41)) := (Below.refl _ _).alloc (Nat.le_refl _) _
            have zb2 := b2.size
            go_wp2_with (first
              | (at_builtin; refine wp_append_jitem rfl _ _ rfl (w.heap.size + 1) A' (m) c' (out) rfl (J.below b2) (some ⟨w10.heap.size, 0, none⟩) 1 x X xp xq rfl (lit1_item w10 x.k X xp xq) (hxs.below b2) hne (by omega) (by omega) ?_)
              | fail)
            intro A3 c3 w9 J3 T3
            have b3 := T3.below (fun k hk => (J.blockLt k hk).1) (show w.heap.size + 1 ≤ _ by omega)
            have b23 : Below (w.heap.size + 1) w10 w9 := (b2.mono (by omega)).trans b3
            go_wp2
            exact ⟨⟨j + 1, m + 1, _, _, (out) ++ [x], false, by omega, by omega, by go_num, rfl, rfl, J3, hR2, K.below b23 (by omega), B.trans (b23.mono (by omega)), by have := b23.size; omega⟩, by simp [intOf]; omega⟩
    · have hend := putR_stop (k := k) (v := v) (done := done) (l := l) (j := j) (by rw [hl.out]; omega)
      rw [hend] at hR
      clear hend
      cases done with
      | true =>
        have hR2 : out = R := by rw [← hR]; simp
        subst hR2
        clear hR
        go_wp2
        go_ret
        exact ⟨_, _, _, rfl, J.itms, B⟩
      | false =>
        have hR2 : out ++ [⟨k, v⟩] = R := hR
        clear hR
        go_wp2_with fail
        have hF : ∀ w', Below (w.heap.size + 1) wr w' → w'.cell? ⟨w.heap.size, 0, none⟩ = some (.int .i64 k.obj) ∧ w'.cell? ⟨w.heap.size, 1, none⟩ = some (.int .i64 k.kind) ∧ w'.cell? ⟨w.heap.size, 2, none⟩ = some (.int .i64 k.off) := fun w' hb => ⟨(K.below hb (by omega)).c0, (K.below hb (by omega)).c1, (K.below hb (by omega)).c2⟩
        have BD : Below wr.heap.size wr wr.drew := (Below.refl _ _).drew
        have OE : Own (wr.alloc (.cells #[] 5)).drew wr.heap.size 5 (some ⟨wr.heap.size, 0, none⟩) 0 0 [] := own_empty wr 5
        have BE : Below wr.heap.size wr (wr.alloc (.cells #[] 5)).drew := ((Below.refl _ _).alloc (Nat.le_refl _) _).drew
        have zE : (wr.alloc (.cells #[] 5)).drew.heap.size = wr.heap.size + 1 := by simp
        have hVE := HV.out _ (B.trans (BE.mono B.size))
        have BA : ∀ o, Below wr.heap.size wr (wr.alloc o) := fun o => (Below.refl _ _).alloc (Nat.le_refl _) o
        have zE2 : wr.heap.size ≤ (wr.alloc (.cells #[] 5)).drew.heap.size := by omega
        go_region_held3 (fun w' => w'.cell? ⟨w.heap.size, 0, none⟩ = some (.int .i64 k.obj) ∧ w'.cell? ⟨w.heap.size, 1, none⟩ = some (.int .i64 k.kind) ∧ w'.cell? ⟨w.heap.size, 2, none⟩ = some (.int .i64 k.off))
          (first | assumption | exact hF _ (BD.mono z2) | exact hF _ (BE.mono z2) | exact hF _ ((BA _).mono z2) | exact hF _ bb5 | exact hF _ bb6 | exact hF _ bb7)
          (first
            | (refine step_append_lit _ T22 rfl (.tmp 65) (.tmp 66) rfl wr.heap.size wr.heap.size rfl OE V p q v rfl hVE hp zE2 ?_; intro A5 c5 w5 own5 hb5; have bb5 : Below (w.heap.size + 1) wr w5 := (BE.mono z2).trans (hb5.mono (by omega)); have z5 := hb5.size; have ba : Below w5.heap.size w5 (w5.alloc (.cells #[.int .i64 k.obj, .int .i64 k.kind, .int .i64 k.off, .slice A5 p c5] 41)) := (Below.refl _ _).alloc (Nat.le_refl _) _; have bb6 := bb5.trans (ba.mono (by omega)); have J5 := J.below (BE.trans (hb5.mono (by omega))); have z6 := ba.size; have z56 : w.heap.size + 1 ≤ (w5.alloc (.cells #[.int .i64 k.obj, .int .i64 k.kind, .int .i64 k.off, .slice A5 p c5] 41)).heap.size := (by omega); have hA5 : v ≠ [] → ∀ b, blockOf A5 = some b → blockOf A' ≠ some b := fun _ b hb e => by have h1 := own_block own5 b hb; have h2 := (J.blockLt b e).2; omega)
            | (refine step_append_jitem rfl (.tmp 63) (.tmp 69) rfl (w.heap.size + 1) A' m c' out rfl (J5.below ba) (some ⟨w5.heap.size, 0, none⟩) 1 ⟨k, v⟩ A5 p c5 rfl (lit1_item w5 k A5 p c5) (own5.sl.below ba) hA5 (by omega) z56 ?_; intro A6 c6 w8 J7 T7; have bb7 : Below (w.heap.size + 1) wr w8 := bb6.trans (T7.below (fun k hk => (J5.blockLt k hk).1) z56))
            | fail)
        replace K := K.below bb7 (by omega)
        replace B := B.trans (bb7.mono (by omega))
        replace z2 := Nat.le_trans z2 bb7.size
        clear J hF BD OE BE BA zE hVE zE2
        go_wp2
        go_ret
        exact ⟨_, _, _, rfl, by rw [← hR2]; exact J7.itms, B⟩
end Go.Proofs.YtgedmodnkiijkaaGreatDoor
