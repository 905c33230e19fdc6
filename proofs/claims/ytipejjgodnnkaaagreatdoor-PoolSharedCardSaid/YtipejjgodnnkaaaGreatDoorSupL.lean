/- Superblocks: the code's Read. -/
import Derived.Test.YtipejjgodnnkaaaGreatDoorPy7
import Derived.Laws.Cover3
namespace Go.Proofs.YtipejjgodnnkaaaGreatDoor
open Go Go.RowKit Go.Proofs

/-- The superblock that a block says; P7.1's Read. -/
def rdL (l : List UInt8) : Sp := rdS (opH l).gen (opB l)
def srOk (l : List UInt8) (slot : Int) : Bool := okB l && (swOk (rdL l) slot && decide (l = swB (rdL l) slot))
def srS (l : List UInt8) (slot : Int) : Sp := if srOk l slot = true then rdL l else Sp.zero
def srE (l : List UInt8) (slot : Int) : Int := if srOk l slot = true then 0 else 3
theorem sr_no {l : List UInt8} {slot : Int} (h : srOk l slot = false) : srS l slot = Sp.zero ∧ srE l slot = 3 := by
  unfold srS srE
  rw [h]
  exact ⟨rfl, rfl⟩
theorem sr_yes {l : List UInt8} {slot : Int} (h : srOk l slot = true) : srS l slot = rdL l ∧ srE l slot = 0 := by
  unfold srS srE
  rw [if_pos h, if_pos h]
  exact ⟨rfl, rfl⟩
/-- A sector's load as an array, kept shut. -/
def ldX (p : Value) : Sem Value := Instr.loadAt 124 p
theorem ldX_shut (p : Value) : Instr.loadAt 124 p = ldX p := rfl
theorem run_loadVar_any {P : Program} (w : World) (a : Addr) (ty : TypeId) (cs : List Value) (d : TypeDesc) (hc : ∀ (j : Nat) v, cs[j]? = some v → w.cell? (a.add j) = some v)
    (hu : P.underlying ty = some d) (hd : d.isRow = true) (hi : (P.info? ty).map (·.size) = some cs.length) :
    (loadVar ty a).run P w = .ok (.agg cs.toArray) w := by
  have hl : (loadCells a cs.length).run P w = .ok cs.toArray w := run_loadCells_list (P := P) w a cs hc
  cases hq : P.info? ty with
  | none => simp [hq] at hi
  | some i =>
    have hs : i.size = cs.length := by simpa [hq] using hi
    have hagg : (isAgg ty).run P w = .ok true w := by
      unfold isAgg
      rw [Sem.run_bind, run_underlying hu w]
      cases d <;> simp_all
    simp [loadVar, Sem.run_bind, hagg, sizeOf, typeInfo, hq, hs, hl]
theorem ldX_run {w : World} {ad : Addr} {c : Nat} {l : List UInt8} (h : Sl w (some ad) 256 c l) : (ldX (.pointer (some ad))).run Tryz.prog w = .ok (.agg (l.map bv).toArray) w := by
  have hl := h.len
  unfold ldX
  simp only [Instr.loadAt, Instr.sureAddr, Sem.run_bind, Sem.run_pure, Result.andThen_ok, run_loadVar_any w ad 124 (l.map bv) _ (fun j v hv => by
    obtain ⟨ad', e, _, hc⟩ := h.2.2.2 j v hv
    injection e with e
    subst e
    exact hc) Tryz.underlying124 rfl (by rw [List.length_map, hl]; kernel_rfl)]
theorem arr_run (ad : Option Addr) (c : Nat) (w : World) : (Instr.arrayAt 124 (.slice ad 256 c)).run Tryz.prog w = .ok (.pointer ad) w :=
  run_arrayAt w 124 _ 256 ad 256 c Tryz.underlying124 (Nat.le_refl _)
theorem grd_bytes (op : BinOp) (x y : Operand) (xs ys : Array Value) (w : World) : (eqGuard op 124 x y (.agg xs) (.agg ys)).run Tryz.prog w = .ok () w :=
  run_eqGuard_agg w op 124 x y xs ys (by kernel_rfl)
theorem ok_len {l : List UInt8} (h : okB l = true) : l.length = 256 := (of_decide_eq_true h).1
def SReadSays (A : Option Addr) (n c : Nat) (l : List UInt8) (slot : Int) (w : World) : Prop :=
    Calls Tryz.prog 151 #[.slice A n c, .int .i64 slot] w fun e w' => e = .returned (.tuple #[.agg (srS l slot).vs.toArray, .int .i64 (srE l slot)]) ∧ Below w.heap.size w w'

attribute [local go_sem ↓] ldS_shut ldA_shut alS_shut bdS_shut ldX_shut
set_option maxRecDepth 100000 in
set_option maxHeartbeats 4000000 in
theorem sread_any (A : Option Addr) (n c : Nat) (l : List UInt8) (slot : Int) (w : World) (hs : Sl w A n c l) (ht : Tab w) : SReadSays A n c l slot w := by
  unfold SReadSays
  have hal := alS_run true
  have hbd := bdS_zero
  have Z1 := SB.new w Sp.zero 56
  have b1 : Below w.heap.size w (w.alloc (.cells Sp.zero.vs.toArray 56)) := (Below.refl _ _).alloc (Nat.le_refl _) _
  go_enter Tryz.func151, Tryz.ntmps151
  go_wp2_with fail
  generalize w.alloc (.cells Sp.zero.vs.toArray 56) = w1 at Z1 b1 ⊢
  refine (open_any A n c l w1 (hs.below b1) (ht.below b1 ht.1)).mono ?_
  rintro e w3 ⟨A3, n3, c3, rfl, own3, hb3⟩
  have Z3 := Z1.below hb3 Z1.lt
  have B3 := b1.trans (hb3.mono b1.size)
  have HZ := HB.zero w3 118
  have hz3 : w3.heap.size < (w3.alloc (.cells #[.int .i64 0, .int .i64 0, .int .i64 0, .int .i64 0, .int .i64 0] 118)).heap.size := by simp
  have b3 : Below w3.heap.size w3 (w3.alloc (.cells #[.int .i64 0, .int .i64 0, .int .i64 0, .int .i64 0, .int .i64 0] 118)) := (Below.refl _ _).alloc (Nat.le_refl _) _
  obtain ⟨o, ho⟩ : ∃ o, okB l = o := ⟨_, rfl⟩
  cases o
  · obtain ⟨s1, s2⟩ := sr_no (l := l) (slot := slot) (by unfold srOk; rw [ho]; rfl)
    have hE := (op_no ho).2.2
    rw [hE]
    go_wp2_with (first
      | (refine wp_store_hd rfl _ _ rfl w3.heap.size rfl (opH l) _ rfl HZ hz3 ?_; intro w4 hr4 hb4 T4; have B4 := B3.trans ((b3.trans (hb4 _ (Nat.le_refl _))).mono B3.size); have Z4 := Z3.below (b3.trans (hb4 _ (Nat.le_refl _))) Z3.lt)
      | (refine wp_store_sp rfl _ _ rfl w.heap.size rfl Sp.zero Sp.zero rfl Z4 ?_; intro w9 H9 hb9 T9)
      | fail)
    refine bodyPost_ret (results_cell2 Tryz.results151 rfl (load_sp H9)) rfl ?_
    rw [s1, s2]
    exact ⟨rfl, B4.trans (hb9 _ (Nat.le_refl _))⟩
  · have hE := (op_yes ho).2.2
    rw [hE]
    have hB : opB l = l.drop 20 := (op_yes ho).2.1
    have hlen := ok_len ho
    go_wp2_with (first
      | (refine wp_store_hd rfl _ _ rfl w3.heap.size rfl (opH l) _ rfl HZ hz3 ?_; intro w4 hr4 hb4 T4; have bb4 := b3.trans (hb4 _ (Nat.le_refl _)); have B4 := B3.trans (bb4.mono B3.size); have Z4 := Z3.below bb4 Z3.lt; have g4 := hr4 4 _ rfl)
      | fail)
    have own4 := own3.sl.below bb4
    clear hr4 hb4 T4 HZ hz3 b3 own3 Z3 B3 hb3 Z1 b1 bb4
    have hsp : Sl w4 A3 n3 c3 (opB l) := own4
    have hln : n3 = 236 := by have := hsp.len; rw [hB, List.length_drop, hlen] at this; omega
    have hn1 : 148 ≤ n3 := by omega
    have hn2 : n3 ≤ 1000 := by omega
    clear hln own4 hB
    refine (sunpacked_any (opH l).gen A3 n3 c3 (opB l) w4 hsp hn1 hn2).mono ?_
    rintro e w5 ⟨rfl, hb5⟩
    have Z5 := Z4.below hb5 Z4.lt
    have B5 := B4.trans (hb5.mono B4.size)
    have hf := rdS_fine (opH l).gen (opB l)
    have hrl : rdS (opH l).gen (opB l) = rdL l := rfl
    rw [hrl] at hf ⊢
    obtain ⟨R, hR⟩ : ∃ R, rdL l = R := ⟨_, rfl⟩
    rw [hR] at hf ⊢
    clear hrl hb5 hsp Z4 B4 g4
    have H6 := SB.new w5 Sp.zero 56
    have b6 : Below w5.heap.size w5 (w5.alloc (.cells Sp.zero.vs.toArray 56)) := (Below.refl _ _).alloc (Nat.le_refl _) _
    go_wp2_with (first
      | (refine wp_store_sp rfl _ _ rfl w5.heap.size rfl R Sp.zero rfl H6 ?_; intro w6 H7 hb7 T7; have bb6 := b6.trans (hb7 _ (Nat.le_refl _)); have B6 := B5.trans (bb6.mono B5.size); have Z6 := Z5.below bb6 Z5.lt; have hld6 := H7.ld)
      | fail)
    clear H6 b6 hb7 T7 bb6
    refine (swrite_any R slot hf w6 (ht.below B6 ht.1)).mono ?_
    rintro e w7 ⟨A7, n7, c7, rfl, own7, hg7, hb7⟩
    have Z7 := Z6.below hb7 Z6.lt
    have B7 := B6.trans (hb7.mono B6.size)
    have H8 := H7.below hb7 H7.lt
    obtain ⟨k, hk⟩ : ∃ k, swOk R slot = k := ⟨_, rfl⟩
    have hld8 := H8.ld
    clear hld6 Z6 H7 hb7 B6
    cases k
    · obtain ⟨h1, h2⟩ := sw_no hk
      obtain ⟨s1, s2⟩ := sr_no (l := l) (slot := slot) (by unfold srOk; rw [hR, hk, Bool.false_and, Bool.and_false])
      rw [h1]
      go_wp2_with fail
      refine wp_region_grown (by kernel_rfl) (by kernel_rfl) ?_
      repeat (go_big_quiet_step (fail))
      refine wpQuiet_nil ?_
      rintro _ ⟨u, rfl⟩
      have Z9 := Z7.below u.ok Z7.lt
      have B9 := B7.trans (u.ok.mono B7.size)
      go_wp2_with (first
        | (refine wp_store_sp rfl _ _ rfl w.heap.size rfl Sp.zero Sp.zero rfl Z9 ?_; intro w9 H9 hb9 T9)
        | fail)
      refine bodyPost_ret (results_cell2 Tryz.results151 rfl (load_sp H9)) rfl ?_
      rw [s1, s2]
      exact ⟨rfl, B9.trans (hb9 _ (Nat.le_refl _))⟩
    · obtain ⟨h1, h2, _, _⟩ := sw_yes hk
      obtain ⟨g7, rfl, rfl, rfl⟩ := hg7 hk
      rw [h1]
      have hs7 := hs.below B7
      have hnn : n = 256 := by have := hs7.len; omega
      subst hnn
      obtain ⟨ad, rfl, _⟩ := hs.cell (k := 0) (by omega)
      have hsw := own7.sl
      obtain ⟨X, hX⟩ : ∃ X, swB R slot = X := ⟨_, rfl⟩
      rw [hX] at hsw
      have hXl := hsw.len
      obtain ⟨r, hr⟩ : ∃ r, decide (l = X) = r := ⟨_, rfl⟩
      have hx1 : ∀ u : Grown w7, (ldX (.pointer (some ad))).run Tryz.prog u.to = .ok (.agg (l.map bv).toArray) u.to := fun u => ldX_run (hs7.below u.ok)
      have hx2 : ∀ u : Grown w7, (ldX (.pointer (some ⟨g7, 0, none⟩))).run Tryz.prog u.to = .ok (.agg (X.map bv).toArray) u.to := fun u => ldX_run (hsw.below u.ok)
      have ha1 := arr_run (some ad) c
      have ha2 := arr_run (some ⟨g7, 0, none⟩) 256
      have hne := neq_bytes l X hlen hXl r hr
      have hgb := grd_bytes
      have hok := Lib.hid (show srOk l slot = r by unfold srOk; rw [ho, hR, hk, hX, hr]; rfl)
      obtain ⟨LB, hLB⟩ : ∃ LB, (l.map bv).toArray = LB := ⟨_, rfl⟩
      obtain ⟨XB, hXB⟩ : ∃ XB, (X.map bv).toArray = XB := ⟨_, rfl⟩
      rw [hLB] at hx1
      rw [hXB] at hx2
      rw [hLB, hXB] at hne
      clear hlen hXl hLB hXB hX hr hsw own7 hg7 hs7 h1 h2
      cases r
      all_goals
        go_wp2_with fail
        refine wp_region_grown (by kernel_rfl) (by kernel_rfl) ?_
        repeat (go_big_quiet_step (fail))
        refine wpQuiet_nil ?_
        rintro _ ⟨u, rfl⟩
        have Z9 := Z7.below u.ok Z7.lt
        have B9 := B7.trans (u.ok.mono B7.size)
        have H9' := H8.below u.ok H8.lt
        have hld9 := H9'.ld
        clear hld8
      · obtain ⟨s1, s2⟩ := sr_no hok.out
        go_wp2_with (first
          | (refine wp_store_sp rfl _ _ rfl w.heap.size rfl Sp.zero Sp.zero rfl Z9 ?_; intro w9 H9 hb9 T9)
          | fail)
        refine bodyPost_ret (results_cell2 Tryz.results151 rfl (load_sp H9)) rfl ?_
        rw [s1, s2]
        exact ⟨rfl, B9.trans (hb9 _ (Nat.le_refl _))⟩
      · obtain ⟨s1, s2⟩ := sr_yes hok.out
        go_wp2_with (first
          | (refine wp_store_sp rfl _ _ rfl w.heap.size rfl R Sp.zero rfl Z9 ?_; intro w9 H9 hb9 T9)
          | fail)
        refine bodyPost_ret (results_cell2 Tryz.results151 rfl (load_sp H9)) rfl ?_
        rw [s1, s2, hR]
        exact ⟨rfl, B9.trans (hb9 _ (Nat.le_refl _))⟩
end Go.Proofs.YtipejjgodnnkaaaGreatDoor
