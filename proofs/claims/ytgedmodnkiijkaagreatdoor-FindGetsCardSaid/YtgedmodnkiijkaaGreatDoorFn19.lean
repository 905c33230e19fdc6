/- Superblocks: the code's Read. Plain facts of superblocks: what was written is read as it was, by the code's way and by the reference's; in its slot alone; not with a byte turned. Superblocks: which of two counts: plain facts. A pool's disk: what is mounted of it, and what its blocks hold: plain facts. Superblocks: the code's and the reference's Newer and Areas; the document's examples. -/
import Derived.Test.YtgedmodnkiijkaaGreatDoorFn13
import Derived.Test.YtgedmodnkiijkaaGreatDoorFn15
import Derived.Test.YtgedmodnkiijkaaGreatDoorFn16
import Derived.Test.YtgedmodnkiijkaaGreatDoorFn18
import Derived.Laws.Cover3
namespace Go.Proofs.YtgedmodnkiijkaaGreatDoor
open Go Go.RowKit Go.Proofs

/-- The superblock that a block says; P7.1's Read. -/
def rdL (l : List UInt8) : Sp := rdS (opH l).gen (opB l)
def srOk (l : List UInt8) (slot : Int) : Bool := okB l && (swOk (rdL l) slot && decide (l = swB (rdL l) slot))
def srS (l : List UInt8) (slot : Int) : Sp := if srOk l slot = true then rdL l else Sp.zero
def srE (l : List UInt8) (slot : Int) : Int := if srOk l slot = true then 0 else 3
theorem sr_no {l : List UInt8} {slot : Int} (h : srOk l slot = false) : srS l slot = Sp.zero ∧ srE l slot = 3 := by
  unfold srS srE
  rw [h]
  exact ⟨rfl, rfl⟩
theorem sr_yes {l : List UInt8} {slot : Int} (h : srOk l slot = true) : srS l slot = rdL l ∧ srE l slot = 0 := by
  unfold srS srE
  rw [if_pos h, if_pos h]
  exact ⟨rfl, rfl⟩
/-- A sector's load as an array, kept shut. -/
def ldX (p : Value) : Sem Value := Instr.loadAt 105 p
theorem ldX_shut (p : Value) : Instr.loadAt 105 p = ldX p := rfl
theorem run_loadVar_any {P : Program} (w : World) (a : Addr) (ty : TypeId) (cs : List Value) (d : TypeDesc) (hc : ∀ (j : Nat) v, cs[j]? = some v → w.cell? (a.add j) = some v)
    (hu : P.underlying ty = some d) (hd : d.isRow = true) (hi : (P.info? ty).map (·.size) = some cs.length) :
    (loadVar ty a).run P w = .ok (.agg cs.toArray) w := by
  have hl : (loadCells a cs.length).run P w = .ok cs.toArray w := run_loadCells_list (P := P) w a cs hc
  cases hq : P.info? ty with
  | none => simp [hq] at hi
  | some i =>
    have hs : i.size = cs.length := by simpa [hq] using hi
    have hagg : (isAgg ty).run P w = .ok true w := by
      unfold isAgg
      rw [Sem.run_bind, run_underlying hu w]
      cases d <;> simp_all
    simp [loadVar, Sem.run_bind, hagg, sizeOf, typeInfo, hq, hs, hl]
theorem ldX_run {w : World} {ad : Addr} {c : Nat} {l : List UInt8} (h : Sl w (some ad) 256 c l) : (ldX (.pointer (some ad))).run Tryz.prog w = .ok (.agg (l.map bv).toArray) w := by
  have hl := h.len
  unfold ldX
  simp only [Instr.loadAt, Instr.sureAddr, Sem.run_bind, Sem.run_pure, Result.andThen_ok, run_loadVar_any w ad 105 (l.map bv) _ (fun j v hv => by
    obtain ⟨ad', e, _, hc⟩ := h.2.2.2 j v hv
    injection e with e
    subst e
    exact hc) Tryz.underlying105 rfl (by rw [List.length_map, hl]; kernel_rfl)]
theorem arr_run (ad : Option Addr) (c : Nat) (w : World) : (Instr.arrayAt 105 (.slice ad 256 c)).run Tryz.prog w = .ok (.pointer ad) w :=
  run_arrayAt w 105 _ 256 ad 256 c Tryz.underlying105 (Nat.le_refl _)
theorem grd_bytes (op : BinOp) (x y : Operand) (xs ys : Array Value) (w : World) : (eqGuard op 105 x y (.agg xs) (.agg ys)).run Tryz.prog w = .ok () w :=
  run_eqGuard_agg w op 105 x y xs ys (by kernel_rfl)
theorem ok_len {l : List UInt8} (h : okB l = true) : l.length = 256 := (of_decide_eq_true h).1
def SReadSays (A : Option Addr) (n c : Nat) (l : List UInt8) (slot : Int) (w : World) : Prop :=
    Calls Tryz.prog 121 #[.slice A n c, .int .i64 slot] w fun e w' => e = .returned (.tuple #[.agg (srS l slot).vs.toArray, .int .i64 (srE l slot)]) ∧ Below w.heap.size w w'

attribute [local go_sem ↓] ldS_shut ldA_shut alS_shut bdS_shut ldX_shut
set_option maxRecDepth 100000 in
set_option maxHeartbeats 4000000 in
theorem sread_any (A : Option Addr) (n c : Nat) (l : List UInt8) (slot : Int) (w : World) (hs : Sl w A n c l) (ht : Tab w) : SReadSays A n c l slot w := by
  unfold SReadSays
  have hal := alS_run true
  have hbd := bdS_zero
  have Z1 := SB.new w Sp.zero 87
  have b1 : Below w.heap.size w (w.alloc (.cells Sp.zero.vs.toArray 87)) := (Below.refl _ _).alloc (Nat.le_refl _) _
  go_enter Tryz.func121, Tryz.ntmps121
  go_wp2_with fail
  generalize w.alloc (.cells Sp.zero.vs.toArray 87) = w1 at Z1 b1 ⊢
  refine (open_any A n c l w1 (hs.below b1) (ht.below b1 ht.1)).mono ?_
  rintro e w3 ⟨A3, n3, c3, rfl, own3, hb3⟩
  have Z3 := Z1.below hb3 Z1.lt
  have B3 := b1.trans (hb3.mono b1.size)
  have HZ := HB.zero w3 133
  have hz3 : w3.heap.size < (w3.alloc (.cells #[.int .i64 0, .int .i64 0, .int .i64 0, .int .i64 0, .int .i64 0] 133)).heap.size := by simp
  have b3 : Below w3.heap.size w3 (w3.alloc (.cells #[.int .i64 0, .int .i64 0, .int .i64 0, .int .i64 0, .int .i64 0] 133)) := (Below.refl _ _).alloc (Nat.le_refl _) _
  obtain ⟨o, ho⟩ : ∃ o, okB l = o := ⟨_, rfl⟩
  cases o
  · obtain ⟨s1, s2⟩ := sr_no (l := l) (slot := slot) (by unfold srOk; rw [ho]; rfl)
    have hE := (op_no ho).2.2
    rw [hE]
    go_wp2_with (first
      | (refine wp_store_hd rfl _ _ rfl w3.heap.size rfl (opH l) _ rfl HZ hz3 ?_; intro w4 hr4 hb4 T4; have B4 := B3.trans ((b3.trans (hb4 _ (Nat.le_refl _))).mono B3.size); have Z4 := Z3.below (b3.trans (hb4 _ (Nat.le_refl _))) Z3.lt)
      | (refine wp_store_sp rfl _ _ rfl w.heap.size rfl Sp.zero Sp.zero rfl Z4 ?_; intro w9 H9 hb9 T9)
      | fail)
    refine bodyPost_ret (results_cell2 Tryz.results121 rfl (load_sp H9)) rfl ?_
    rw [s1, s2]
    exact ⟨rfl, B4.trans (hb9 _ (Nat.le_refl _))⟩
  · have hE := (op_yes ho).2.2
    rw [hE]
    have hB : opB l = l.drop 20 := (op_yes ho).2.1
    have hlen := ok_len ho
    go_wp2_with (first
      | (refine wp_store_hd rfl _ _ rfl w3.heap.size rfl (opH l) _ rfl HZ hz3 ?_; intro w4 hr4 hb4 T4; have bb4 := b3.trans (hb4 _ (Nat.le_refl _)); have B4 := B3.trans (bb4.mono B3.size); have Z4 := Z3.below bb4 Z3.lt; have g4 := hr4 4 _ rfl)
      | fail)
    have own4 := own3.sl.below bb4
    clear hr4 hb4 T4 HZ hz3 b3 own3 Z3 B3 hb3 Z1 b1 bb4
    have hsp : Sl w4 A3 n3 c3 (opB l) := own4
    have hln : n3 = 236 := by have := hsp.len; rw [hB, List.length_drop, hlen] at this; omega
    have hn1 : 148 ≤ n3 := by omega
    have hn2 : n3 ≤ 1000 := by omega
    clear hln own4 hB
    refine (sunpacked_any (opH l).gen A3 n3 c3 (opB l) w4 hsp hn1 hn2).mono ?_
    rintro e w5 ⟨rfl, hb5⟩
    have Z5 := Z4.below hb5 Z4.lt
    have B5 := B4.trans (hb5.mono B4.size)
    have hf := rdS_fine (opH l).gen (opB l)
    have hrl : rdS (opH l).gen (opB l) = rdL l := rfl
    rw [hrl] at hf ⊢
    obtain ⟨R, hR⟩ : ∃ R, rdL l = R := ⟨_, rfl⟩
    rw [hR] at hf ⊢
    clear hrl hb5 hsp Z4 B4 g4
    have H6 := SB.new w5 Sp.zero 87
    have b6 : Below w5.heap.size w5 (w5.alloc (.cells Sp.zero.vs.toArray 87)) := (Below.refl _ _).alloc (Nat.le_refl _) _
    go_wp2_with (first
      | (refine wp_store_sp rfl _ _ rfl w5.heap.size rfl R Sp.zero rfl H6 ?_; intro w6 H7 hb7 T7; have bb6 := b6.trans (hb7 _ (Nat.le_refl _)); have B6 := B5.trans (bb6.mono B5.size); have Z6 := Z5.below bb6 Z5.lt; have hld6 := H7.ld)
      | fail)
    clear H6 b6 hb7 T7 bb6
    refine (swrite_any R slot hf w6 (ht.below B6 ht.1)).mono ?_
    rintro e w7 ⟨A7, n7, c7, rfl, own7, hg7, hb7⟩
    have Z7 := Z6.below hb7 Z6.lt
    have B7 := B6.trans (hb7.mono B6.size)
    have H8 := H7.below hb7 H7.lt
    obtain ⟨k, hk⟩ : ∃ k, swOk R slot = k := ⟨_, rfl⟩
    have hld8 := H8.ld
    clear hld6 Z6 H7 hb7 B6
    cases k
    · obtain ⟨h1, h2⟩ := sw_no hk
      obtain ⟨s1, s2⟩ := sr_no (l := l) (slot := slot) (by unfold srOk; rw [hR, hk, Bool.false_and, Bool.and_false])
      rw [h1]
      go_wp2_with fail
      refine wp_region_grown (by kernel_rfl) (by kernel_rfl) ?_
      repeat (go_big_quiet_step (fail))
      refine wpQuiet_nil ?_
      rintro _ ⟨u, rfl⟩
      have Z9 := Z7.below u.ok Z7.lt
      have B9 := B7.trans (u.ok.mono B7.size)
      go_wp2_with (first
        | (refine wp_store_sp rfl _ _ rfl w.heap.size rfl Sp.zero Sp.zero rfl Z9 ?_; intro w9 H9 hb9 T9)
        | fail)
      refine bodyPost_ret (results_cell2 Tryz.results121 rfl (load_sp H9)) rfl ?_
      rw [s1, s2]
      exact ⟨rfl, B9.trans (hb9 _ (Nat.le_refl _))⟩
    · obtain ⟨h1, h2, _, _⟩ := sw_yes hk
      obtain ⟨g7, rfl, rfl, rfl⟩ := hg7 hk
      rw [h1]
      have hs7 := hs.below B7
      have hnn : n = 256 := by have := hs7.len; omega
      subst hnn
      obtain ⟨ad, rfl, _⟩ := hs.cell (k := 0) (by omega)
      have hsw := own7.sl
      obtain ⟨X, hX⟩ : ∃ X, swB R slot = X := ⟨_, rfl⟩
      rw [hX] at hsw
      have hXl := hsw.len
      obtain ⟨r, hr⟩ : ∃ r, decide (l = X) = r := ⟨_, rfl⟩
      have hx1 : ∀ u : Grown w7, (ldX (.pointer (some ad))).run Tryz.prog u.to = .ok (.agg (l.map bv).toArray) u.to := fun u => ldX_run (hs7.below u.ok)
      have hx2 : ∀ u : Grown w7, (ldX (.pointer (some ⟨g7, 0, none⟩))).run Tryz.prog u.to = .ok (.agg (X.map bv).toArray) u.to := fun u => ldX_run (hsw.below u.ok)
      have ha1 := arr_run (some ad) c
      have ha2 := arr_run (some ⟨g7, 0, none⟩) 256
      have hne := neq_bytes l X hlen hXl r hr
      have hgb := grd_bytes
      have hok := Lib.hid (show srOk l slot = r by unfold srOk; rw [ho, hR, hk, hX, hr]; rfl)
      obtain ⟨LB, hLB⟩ : ∃ LB, (l.map bv).toArray = LB := ⟨_, rfl⟩
      obtain ⟨XB, hXB⟩ : ∃ XB, (X.map bv).toArray = XB := ⟨_, rfl⟩
      rw [hLB] at hx1
      rw [hXB] at hx2
      rw [hLB, hXB] at hne
      clear hlen hXl hLB hXB hX hr hsw own7 hg7 hs7 h1 h2
      cases r
      all_goals
        go_wp2_with fail
        refine wp_region_grown (by kernel_rfl) (by kernel_rfl) ?_
        repeat (go_big_quiet_step (fail))
        refine wpQuiet_nil ?_
        rintro _ ⟨u, rfl⟩
        have Z9 := Z7.below u.ok Z7.lt
        have B9 := B7.trans (u.ok.mono B7.size)
        have H9' := H8.below u.ok H8.lt
        have hld9 := H9'.ld
        clear hld8
      · obtain ⟨s1, s2⟩ := sr_no hok.out
        go_wp2_with (first
          | (refine wp_store_sp rfl _ _ rfl w.heap.size rfl Sp.zero Sp.zero rfl Z9 ?_; intro w9 H9 hb9 T9)
          | fail)
        refine bodyPost_ret (results_cell2 Tryz.results121 rfl (load_sp H9)) rfl ?_
        rw [s1, s2]
        exact ⟨rfl, B9.trans (hb9 _ (Nat.le_refl _))⟩
      · obtain ⟨s1, s2⟩ := sr_yes hok.out
        go_wp2_with (first
          | (refine wp_store_sp rfl _ _ rfl w.heap.size rfl R Sp.zero rfl Z9 ?_; intro w9 H9 hb9 T9)
          | fail)
        refine bodyPost_ret (results_cell2 Tryz.results121 rfl (load_sp H9)) rfl ?_
        rw [s1, s2, hR]
        exact ⟨rfl, B9.trans (hb9 _ (Nat.le_refl _))⟩
end Go.Proofs.YtgedmodnkiijkaaGreatDoor

namespace Go.Proofs.YtgedmodnkiijkaaGreatDoor
open Go Go.RowKit Go.Proofs

/-- The reference's way to read a subvolume; its superblock, the first k of them. -/
def rfV (l : List UInt8) : Vl := ⟨rdN l, decide (gN l 11 1 = 1), (gN l 12 2 : Int), (gN l 14 4 : Int)⟩
def rfTo (g : Int) (l : List UInt8) (k : Nat) : Sp := ⟨g, (gN l 0 2 : Int), (gN l 2 2 : Int), (List.range 8).map (fun i => if i < k then rfV (l.drop (4 + 18 * i)) else Vl.zero), by simp⟩
def rfL (l : List UInt8) : Sp := rfTo (opH l).gen (opB l) 8
/-- A subvolume that fits its bytes. -/
def Vl.fits (v : Vl) : Prop := v.name.size ≤ 10 ∧ (0 ≤ v.root ∧ v.root < 65536) ∧ (0 ≤ v.next ∧ v.next < 4294967296)
theorem gN_mid (X Y Z : List UInt8) (p m : Nat) (hX : X.length = p) (hY : Y.length = m) : gN (X ++ (Y ++ Z)) p m = numL Y := by
  unfold gN
  rw [List.drop_left' hX, List.take_left' hY]
theorem vol_parts (v : Vl) (hv : v.fits) (Z : List UInt8) : gN (volB v ++ Z) 0 1 = v.name.size ∧ rdN (volB v ++ Z) = v.name ∧ (gN (volB v ++ Z) 11 1 : Int) = dgt v.ro ∧ (gN (volB v ++ Z) 12 2 : Int) = v.root ∧ (gN (volB v ++ Z) 14 4 : Int) = v.next := by
  obtain ⟨h1, ⟨h2, h3⟩, h4, h5⟩ := hv
  have e0 : gN (volB v ++ Z) 0 1 = v.name.size := by
    unfold volB
    have := gN_mid [] (dig (v.name.size : Int) 1) (padL v.name ++ (dig (dgt v.ro) 1 ++ (dig v.root 2 ++ dig v.next 4)) ++ Z) 0 1 rfl (dig_len _ _)
    rw [List.nil_append] at this
    rw [List.append_assoc, this]
    have := numL_one (v.name.size : Int) 1 (by omega) (by omega)
    omega
  have hd : dgt v.ro = 0 ∨ dgt v.ro = 1 := by unfold dgt; split <;> simp
  refine ⟨e0, ?_, ?_, ?_, ?_⟩
  · unfold rdN
    rw [e0, Nat.min_eq_left h1]
    have : (volB v ++ Z).drop 1 = padL v.name ++ ((dig (dgt v.ro) 1 ++ (dig v.root 2 ++ dig v.next 4)) ++ Z) := by
      unfold volB
      rw [List.append_assoc, List.drop_left' (dig_len _ _), List.append_assoc]
    rw [this]
    unfold padL
    rw [List.append_assoc, List.take_left' (by simp)]
  · have : volB v ++ Z = (dig (v.name.size : Int) 1 ++ padL v.name) ++ (dig (dgt v.ro) 1 ++ ((dig v.root 2 ++ dig v.next 4) ++ Z)) := by unfold volB; simp only [List.append_assoc]
    rw [this, gN_mid _ _ _ 11 1 (by simp [dig_len, padL_len _ h1]) (dig_len _ _)]
    exact numL_one _ 1 (by omega) (by omega)
  · have : volB v ++ Z = (dig (v.name.size : Int) 1 ++ (padL v.name ++ dig (dgt v.ro) 1)) ++ (dig v.root 2 ++ (dig v.next 4 ++ Z)) := by unfold volB; simp only [List.append_assoc]
    rw [this, gN_mid _ _ _ 12 2 (by simp [dig_len, padL_len _ h1]) (dig_len _ _)]
    exact numL_one _ 2 h2 (by omega)
  · have : volB v ++ Z = (dig (v.name.size : Int) 1 ++ (padL v.name ++ (dig (dgt v.ro) 1 ++ dig v.root 2))) ++ (dig v.next 4 ++ Z) := by unfold volB; simp only [List.append_assoc]
    rw [this, gN_mid _ _ _ 14 4 (by simp [dig_len, padL_len _ h1]) (dig_len _ _)]
    exact numL_one _ 4 h4 (by omega)
theorem vol_back (v : Vl) (hv : v.fits) (Z : List UInt8) : rdV (volB v ++ Z) = v ∧ rfV (volB v ++ Z) = v ∧ gN (volB v ++ Z) 0 1 ≤ 10 := by
  obtain ⟨e0, e1, e2, e3, e4⟩ := vol_parts v hv Z
  have hro : decide (gN (volB v ++ Z) 11 1 ≠ 0) = v.ro ∧ decide (gN (volB v ++ Z) 11 1 = 1) = v.ro := by
    unfold dgt at e2
    cases hr : v.ro
    · rw [hr] at e2
      simp at e2
      rw [e2]
      decide
    · rw [hr] at e2
      simp at e2
      have : gN (volB v ++ Z) 11 1 = 1 := by omega
      rw [this]
      decide
  refine ⟨?_, ?_, by rw [e0]; exact hv.1⟩
  · unfold rdV
    rw [e1, e3, e4, hro.1]
  · unfold rfV
    rw [e1, e3, e4, hro.2]
theorem may_fits {S : Sp} (h : S.may = true) : ∀ j, j < 8 → (S.at_ j).fits := fun j hj => by
  have hp := (may_parts h).1
  rcases ok1_parts ((may_parts h).2 j hj) with e | ⟨h1, h2, h3⟩
  · rw [e]
    exact ⟨by show 0 ≤ 10; omega, ⟨by show (0 : Int) ≤ 0; omega, by show (0 : Int) < 65536; omega⟩, by show (0 : Int) ≤ 0; omega, by show (0 : Int) < 4294967296; omega⟩
  · exact ⟨(lab_size h1).2, ⟨by omega, by omega⟩, by omega, by omega⟩
theorem body_at (S : Sp) (hn : ∀ j, j < 8 → (S.at_ j).name.size ≤ 10) (Z : List UInt8) {k : Nat} (hk : k < 8) : ∃ R, (bodyB S ++ Z).drop (4 + 18 * k) = volB (S.at_ k) ++ R := by
  have hl : k < S.vols.length := by rw [S.len]; exact hk
  have e : bodyB S = bodyTo S k ++ (volB (S.at_ k) ++ (S.vols.drop (k + 1)).flatMap volB) := by
    unfold bodyB bodyTo
    have h := S.get hk
    rw [List.getElem?_eq_getElem hl] at h
    have h2 : S.vols.take 8 = S.vols.take k ++ (S.at_ k :: S.vols.drop (k + 1)) := by
      rw [← Option.some.inj h, List.getElem_cons_drop, List.take_append_drop, List.take_of_length_le (by rw [S.len]; omega)]
    rw [h2, List.flatMap_append, List.flatMap_cons]
    simp only [List.append_assoc]
  rw [e, List.append_assoc, List.drop_left' (bodyTo_len S k (by omega) hn), List.append_assoc]
  exact ⟨_, rfl⟩
theorem body_head (S : Sp) (h : S.may = true) (Z : List UInt8) : (gN (bodyB S ++ Z) 0 2 : Int) = S.sectors ∧ (gN (bodyB S ++ Z) 2 2 : Int) = S.log := by
  have hp := (may_parts h).1
  have e : bodyB S ++ Z = [] ++ (dig S.sectors 2 ++ (dig S.log 2 ++ ((S.vols.take 8).flatMap volB ++ Z))) := by unfold bodyB bodyTo; simp only [List.append_assoc, List.nil_append]
  have e2 : bodyB S ++ Z = dig S.sectors 2 ++ (dig S.log 2 ++ ((S.vols.take 8).flatMap volB ++ Z)) := by rw [e, List.nil_append]
  constructor
  · rw [e, gN_mid _ _ _ 0 2 rfl (dig_len _ _)]
    exact numL_one _ 2 (by omega) (by omega)
  · rw [e2, gN_mid _ _ _ 2 2 (dig_len _ _) (dig_len _ _)]
    exact numL_one _ 2 (by omega) (by omega)
/-- What was written is read as it was, both ways. -/
theorem sw_back {S : Sp} {slot : Int} (h : swOk S slot = true) : okB (swB S slot) = true ∧ opH (swB S slot) = hdS S slot ∧ rdL (swB S slot) = S ∧ rfL (swB S slot) = S ∧ (∀ k, k < 8 → gN ((opB (swB S slot)).drop (4 + 18 * k)) 0 1 ≤ 10) := by
  have hm : S.may = true := by unfold swOk at h; rw [Bool.and_eq_true] at h; exact h.1
  have hk := hdS_ok h
  have hl : (bodyB S).length ≤ 236 := by rw [bodyB_len hm]; omega
  obtain ⟨o1, o2, o3⟩ := blk_open (hdS S slot) (bodyB S) hk hl
  have hB := (sw_yes h).2.1
  rw [hB]
  have hn := may_names hm
  have hf := may_fits hm
  obtain ⟨g1, g2⟩ := body_head S hm (List.replicate (236 - (bodyB S).length) 0)
  have hv : ∀ k, k < 8 → rdV ((opB (blkL (hdS S slot) (bodyB S))).drop (4 + 18 * k)) = S.at_ k ∧ rfV ((opB (blkL (hdS S slot) (bodyB S))).drop (4 + 18 * k)) = S.at_ k ∧ gN ((opB (blkL (hdS S slot) (bodyB S))).drop (4 + 18 * k)) 0 1 ≤ 10 := fun k hk => by
    rw [o2]
    obtain ⟨R, e⟩ := body_at S hn (List.replicate (236 - (bodyB S).length) 0) hk
    rw [e]
    exact vol_back _ (hf k hk) R
  have hvols : ∀ f : List UInt8 → Vl, (∀ k, k < 8 → f ((opB (blkL (hdS S slot) (bodyB S))).drop (4 + 18 * k)) = S.at_ k) → (List.range 8).map (fun i => if i < 8 then f ((opB (blkL (hdS S slot) (bodyB S))).drop (4 + 18 * i)) else Vl.zero) = S.vols := fun f hf => by
    refine List.ext_getElem (by simp [S.len]) fun i h1 h2 => ?_
    have hi : i < 8 := by simpa using h1
    simp only [List.getElem_map, List.getElem_range]
    rw [if_pos hi, hf i hi]
    have := S.get hi
    rw [List.getElem?_eq_getElem h2] at this
    exact (Option.some.inj this).symm
  refine ⟨blk_okB _ _ hk hl, o1, ?_, ?_, fun k hk => (hv k hk).2.2⟩
  · refine Sp.ext' ?_ ?_ ?_ ?_
    · show (opH (blkL (hdS S slot) (bodyB S))).gen = S.gen
      rw [o1]; rfl
    · show (gN (opB (blkL (hdS S slot) (bodyB S))) 0 2 : Int) = S.sectors
      rw [o2]; exact g1
    · show (gN (opB (blkL (hdS S slot) (bodyB S))) 2 2 : Int) = S.log
      rw [o2]; exact g2
    · exact hvols rdV fun k hk => (hv k hk).1
  · refine Sp.ext' ?_ ?_ ?_ ?_
    · show (opH (blkL (hdS S slot) (bodyB S))).gen = S.gen
      rw [o1]; rfl
    · show (gN (opB (blkL (hdS S slot) (bodyB S))) 0 2 : Int) = S.sectors
      rw [o2]; exact g1
    · show (gN (opB (blkL (hdS S slot) (bodyB S))) 2 2 : Int) = S.log
      rw [o2]; exact g2
    · exact hvols rfV fun k hk => (hv k hk).2.1
theorem sr_parts {l : List UInt8} {slot : Int} (h : srOk l slot = true) : okB l = true ∧ swOk (rdL l) slot = true ∧ l = swB (rdL l) slot := by
  unfold srOk at h
  rw [Bool.and_eq_true, Bool.and_eq_true] at h
  exact ⟨h.1, h.2.1, of_decide_eq_true h.2.2⟩
/-- What was written is read in its slot alone. -/
theorem sr_written {S : Sp} {slot : Int} (h : swOk S slot = true) : srOk (swB S slot) slot = true ∧ srS (swB S slot) slot = S := by
  obtain ⟨h0, _, h2, _⟩ := sw_back h
  have hk : srOk (swB S slot) slot = true := by
    unfold srOk
    rw [h0, h2, h]
    simp
  exact ⟨hk, by rw [(sr_yes hk).1, h2]⟩
/-- What is read may be; so its generation is above 0, and nothing's is 0. -/
theorem sr_gen {l : List UInt8} {slot : Int} : (srS l slot).gen = 0 ∧ srE l slot = 3 ∧ srOk l slot = false ∨ 1 ≤ (srS l slot).gen ∧ srE l slot = 0 ∧ srOk l slot = true := by
  cases h : srOk l slot
  · obtain ⟨h1, h2⟩ := sr_no h
    exact .inl ⟨by rw [h1]; rfl, h2, rfl⟩
  · obtain ⟨h1, h2⟩ := sr_yes h
    have h3 := (sr_parts h).2.1
    unfold swOk at h3
    rw [Bool.and_eq_true] at h3
    exact .inr ⟨by rw [h1]; exact (may_parts h3.1).1.1, h2, rfl⟩
end Go.Proofs.YtgedmodnkiijkaaGreatDoor

namespace Go.Proofs.YtgedmodnkiijkaaGreatDoor
open Go Go.RowKit Go.Proofs

/-- P7.2's answer. -/
def snK (a b : List UInt8) : Nat := if srOk a 0 = false ∧ srOk b 1 = false then 2 else if (srS a 0).gen < (srS b 1).gen then 1 else 0
def snS (a b : List UInt8) : Sp := if snK a b = 2 then Sp.zero else if snK a b = 1 then srS b 1 else srS a 0
def snI (a b : List UInt8) : Int := if snK a b = 1 then 1 else 0
def snE (a b : List UInt8) : Int := if snK a b = 2 then 27 else 0
theorem sn_2 {a b : List UInt8} (h1 : srOk a 0 = false) (h2 : srOk b 1 = false) : snS a b = Sp.zero ∧ snI a b = 0 ∧ snE a b = 27 := by
  have : snK a b = 2 := if_pos ⟨h1, h2⟩
  unfold snS snI snE
  rw [this]
  exact ⟨rfl, rfl, rfl⟩
theorem sn_1 {a b : List UInt8} (h1 : ¬ (srOk a 0 = false ∧ srOk b 1 = false)) (h2 : (srS a 0).gen < (srS b 1).gen) : snS a b = srS b 1 ∧ snI a b = 1 ∧ snE a b = 0 := by
  have : snK a b = 1 := by unfold snK; rw [if_neg h1, if_pos h2]
  unfold snS snI snE
  rw [this]
  exact ⟨rfl, rfl, rfl⟩
theorem sn_0 {a b : List UInt8} (h1 : ¬ (srOk a 0 = false ∧ srOk b 1 = false)) (h2 : ¬ (srS a 0).gen < (srS b 1).gen) : snS a b = srS a 0 ∧ snI a b = 0 ∧ snE a b = 0 := by
  have : snK a b = 0 := by unfold snK; rw [if_neg h1, if_neg h2]
  unfold snS snI snE
  rw [this]
  exact ⟨rfl, rfl, rfl⟩
end Go.Proofs.YtgedmodnkiijkaaGreatDoor

namespace Go.Proofs.YtgedmodnkiijkaaGreatDoor
open Go Go.RowKit Go.Proofs

/-- Where the counts of a generation begin. -/
def areaAt (n : Nat) (g : Int) : Nat := 2 + areaN n * (g % 2).toNat
/-- The header of their i-th sector; all their blocks. -/
def cntH (n : Nat) (g : Int) (i : Nat) : Hd := ⟨2, ((areaAt n g + i : Nat) : Int), 0, 0, g⟩
def areaL (C : Ct) (g : Int) : List (List UInt8) := (List.range (areaN C.n)).map fun i => blkL (cntH C.n g i) (C.body (i : Int))
def genOk (g : Int) : Prop := 1 ≤ g ∧ g ≤ 1099511627775
theorem areaAt_in {n : Nat} (h1 : 32 ≤ n) (h2 : n ≤ 2048) (g : Int) {i : Nat} (hi : i < areaN n) : 2 ≤ areaAt n g ∧ areaAt n g + i ≤ 40 ∧ areaAt n g + i < 2 + 2 * areaN n ∧ areaAt n g + i < n := by
  have h0 := Int.emod_nonneg g (show (2 : Int) ≠ 0 by omega)
  have h3 := Int.emod_lt_of_pos g (show (0 : Int) < 2 by omega)
  have h4 : areaN n ≤ 18 := by unfold areaN; omega
  have h5 : 2 + 2 * areaN n ≤ n := by unfold areaN; omega
  unfold areaAt
  rcases (show (g % 2).toNat = 0 ∨ (g % 2).toNat = 1 by omega) with e | e <;> rw [e] <;> omega
theorem cntH_ok {n : Nat} (h1 : 32 ≤ n) (h2 : n ≤ 2048) {g : Int} (hg : genOk g) {i : Nat} (hi : i < areaN n) : (cntH n g i).ok = true := by
  have := areaAt_in h1 h2 g hi
  refine decide_eq_true ⟨⟨by show (1 : Int) ≤ 2; omega, by show (2 : Int) ≤ 6; omega⟩, ⟨by show (0 : Int) ≤ 0; omega, by show (0 : Int) ≤ 8; omega⟩, ⟨?_, ?_⟩, ⟨by show (0 : Int) ≤ 0; omega, by show (0 : Int) ≤ 65535; omega⟩, ?_, ?_⟩
  · show (0 : Int) ≤ ((areaAt n g + i : Nat) : Int); omega
  · show ((areaAt n g + i : Nat) : Int) ≤ 2047; omega
  · show 0 ≤ g; exact Int.le_trans (by omega) hg.1
  · exact hg.2
/-- A block of counts, as it should be. -/
def cntOk (x : List UInt8) (a : Nat) (g : Int) : Bool := ckOk x 2 (a : Int) && decide ((opH x).count = 0 ∧ (opH x).level = 0 ∧ (opH x).gen = g)
theorem cnt_back {C : Ct} (h1 : 32 ≤ C.n) (h2 : C.n ≤ 2048) {g : Int} (hg : genOk g) {i : Nat} (hi : i < areaN C.n) : cntOk (blkL (cntH C.n g i) (C.body (i : Int))) (areaAt C.n g + i) g = true ∧ (blkL (cntH C.n g i) (C.body (i : Int))).drop 20 = C.body (i : Int) := by
  have hk := cntH_ok h1 h2 hg hi
  have hl : (C.body (i : Int)).length ≤ 236 := by rw [Ct.body_len hi]; exact Nat.le_refl _
  refine ⟨?_, ?_⟩
  · unfold cntOk
    rw [blk_check _ _ hk hl, (blk_open _ _ hk hl).1, Bool.and_eq_true]
    exact ⟨decide_eq_true ⟨rfl, rfl⟩, decide_eq_true ⟨rfl, rfl, rfl⟩⟩
  · rw [blk_body _ _ hl, Ct.body_len hi]
    simp
/-- What is mounted of a disk that reads as f. -/
def mtS (f : Nat → List UInt8) : Sp := snS (f 0) (f 1)
def mtB (f : Nat → List UInt8) (n : Nat) (g : Int) : List (List UInt8) := (List.range (areaN n)).map fun i => (f (areaAt n g + i)).drop 20
def mtC (f : Nat → List UInt8) (n : Nat) (g : Int) : Ct := loadC n (mtB f n g)
open Classical in
noncomputable def mtE (f : Nat → List UInt8) (off : Bool) (n : Nat) : Int :=
  if off = true then 4 else if ¬ (snE (f 0) (f 1) = 0 ∧ (mtS f).sectors = (n : Int)) then 27 else if ¬ ((∀ i, i < areaN n → cntOk (f (areaAt n (mtS f).gen + i)) (areaAt n (mtS f).gen + i) (mtS f).gen = true) ∧ loadE (n : Int) (mtB f n (mtS f).gen) = 0) then 5 else 0
/-- Of two slots the one of the greater generation. -/
theorem slot_says {S : Sp} (hm : S.may = true) {f : Nat → List UInt8} (h0 : f (S.gen % 2).toNat = swB S (S.gen % 2)) (h1 : (srS (f ((S.gen + 1) % 2).toNat) ((S.gen + 1) % 2)).gen < S.gen) : mtS f = S ∧ snE (f 0) (f 1) = 0 := by
  have hb := Int.emod_nonneg S.gen (show (2 : Int) ≠ 0 by omega)
  have hb2 := Int.emod_lt_of_pos S.gen (show (0 : Int) < 2 by omega)
  have hok : swOk S (S.gen % 2) = true := by unfold swOk; rw [hm, Bool.true_and]; exact decide_eq_true ⟨hb, by omega⟩
  obtain ⟨hw, hS⟩ := sr_written hok
  rcases (show S.gen % 2 = 0 ∨ S.gen % 2 = 1 by omega) with e | e
  · have e' : (S.gen + 1) % 2 = 1 := by omega
    rw [e] at h0 hw hS
    rw [e'] at h1
    replace h0 : f 0 = swB S 0 := h0
    replace h1 : (srS (f 1) 1).gen < S.gen := h1
    have h := sn_0 (a := f 0) (b := f 1) (fun hh => by rw [h0, hw] at hh; cases hh.1) (by rw [h0, hS]; omega)
    exact ⟨by unfold mtS; rw [h.1, h0, hS], h.2.2⟩
  · have e' : (S.gen + 1) % 2 = 0 := by omega
    rw [e] at h0 hw hS
    rw [e'] at h1
    replace h0 : f 1 = swB S 1 := h0
    replace h1 : (srS (f 0) 0).gen < S.gen := h1
    have h := sn_1 (a := f 0) (b := f 1) (fun hh => by rw [h0, hw] at hh; cases hh.2) (by rw [h0, hS]; exact h1)
    exact ⟨by unfold mtS; rw [h.1, h0, hS], h.2.2⟩
/-- What was committed is mounted. -/
theorem mt_says {S : Sp} (hm : S.may = true) {C : Ct} (hC : C.ok) (hr : C.res) (hn : S.sectors = (C.n : Int)) {f : Nat → List UInt8} (h0 : f (S.gen % 2).toNat = swB S (S.gen % 2)) (h1 : (srS (f ((S.gen + 1) % 2).toNat) ((S.gen + 1) % 2)).gen < S.gen)
    (h2 : ∀ i, i < areaN C.n → f (areaAt C.n S.gen + i) = blkL (cntH C.n S.gen i) (C.body (i : Int))) : mtE f false C.n = 0 ∧ mtS f = S ∧ mtC f C.n S.gen = C.commit := by
  obtain ⟨hS, hE⟩ := slot_says hm h0 h1
  have hg : genOk S.gen := by
    have := (may_parts hm).1
    exact ⟨this.1, this.2.1⟩
  have hB : mtB f C.n S.gen = C.bodies := by
    unfold mtB Ct.bodies
    refine List.map_congr_left fun i hi => ?_
    have hi' := List.mem_range.1 hi
    rw [h2 i hi', (cnt_back hC.1.1 hC.1.2 hg hi').2]
  obtain ⟨b1, b2⟩ := Ct.back_loads hC hr
  refine ⟨?_, hS, by unfold mtC; rw [hB, b2]⟩
  unfold mtE
  rw [hS, if_neg (by decide), if_neg (fun h => h ⟨hE, hn⟩), if_neg (fun h => h ⟨fun i hi => by rw [h2 i hi]; exact (cnt_back hC.1.1 hC.1.2 hg hi).1, by rw [hB]; exact b1⟩)]
/-- A block of bytes, as it should be; its bytes. -/
def datH (k : Int) (a : Nat) (m : Nat) (g : Int) : Hd := ⟨k, (a : Int), (m : Int), 0, g⟩
theorem allZ_repl (m : Nat) : allZ (List.replicate m 0) = true := by
  unfold allZ
  simp
/-- A sector of noughts is no superblock. -/
theorem nought_sr (slot : Int) : srOk (List.replicate 256 0) slot = false := by
  have h : okB (List.replicate 256 0) = false := by
    cases hk : okB (List.replicate 256 0)
    · rfl
    · obtain ⟨_, _, h3, _⟩ := of_decide_eq_true hk
      have : (hdOf (((List.replicate 256 (0 : UInt8)).drop 4).take 11)).ok = false := by decide
      rw [this] at h3
      cases h3
  unfold srOk
  rw [h, Bool.false_and]
end Go.Proofs.YtgedmodnkiijkaaGreatDoor

namespace Go.Proofs.YtgedmodnkiijkaaGreatDoor
open Go Go.RowKit Go.Proofs

def SNewerSays (A : Option Addr) (n c : Nat) (a : List UInt8) (B : Option Addr) (m d : Nat) (b : List UInt8) (w : World) : Prop :=
    Calls Tryz.prog 90 #[.slice A n c, .slice B m d] w fun e w' => e = .returned (.tuple #[.agg (snS a b).vs.toArray, .int .i64 (snI a b), .int .i64 (snE a b)]) ∧ Below w.heap.size w w'

attribute [local go_sem ↓] ldS_shut ldA_shut alS_shut bdS_shut ldX_shut
set_option maxRecDepth 100000 in
set_option maxHeartbeats 4000000 in
theorem snewer_any (A : Option Addr) (n c : Nat) (a : List UInt8) (B : Option Addr) (m d : Nat) (b : List UInt8) (w : World) (ha : Sl w A n c a) (hb : Sl w B m d b) (ht : Tab w) : SNewerSays A n c a B m d b w := by
  unfold SNewerSays
  have hal := alS_run true
  have hbd := bdS_zero
  have Z1 := SB.new w Sp.zero 87
  have b1 : Below w.heap.size w (w.alloc (.cells Sp.zero.vs.toArray 87)) := (Below.refl _ _).alloc (Nat.le_refl _) _
  go_enter Tryz.func90, Tryz.ntmps90
  go_wp2_with fail
  generalize w.alloc (.cells Sp.zero.vs.toArray 87) = w1 at Z1 b1 ⊢
  refine Calls.mono (sread_any A n c a 0 w1 (ha.below b1) (ht.below b1 ht.1)) ?_
  rintro e w2 ⟨rfl, hb2⟩
  have Z2 := Z1.below hb2 Z1.lt
  have B2 := b1.trans (hb2.mono b1.size)
  have H2 := SB.new w2 Sp.zero 87
  have b2 : Below w2.heap.size w2 (w2.alloc (.cells Sp.zero.vs.toArray 87)) := (Below.refl _ _).alloc (Nat.le_refl _) _
  have ka := sr_gen (l := a) (slot := 0)
  have kb := sr_gen (l := b) (slot := 1)
  have K2 := fun h1 h2 => sn_2 (a := a) (b := b) h1 h2
  have K1 := fun h1 h2 => sn_1 (a := a) (b := b) h1 h2
  have K0 := fun h1 h2 => sn_0 (a := a) (b := b) h1 h2
  obtain ⟨SA, hSA⟩ : ∃ SA, srS a 0 = SA := ⟨_, rfl⟩
  obtain ⟨SC, hSC⟩ : ∃ SC, srS b 1 = SC := ⟨_, rfl⟩
  rw [hSA] at ka K1 K0 ⊢
  rw [hSC] at kb K1 K0
  clear hSA
  have KK := Lib.hid (And.intro K2 (And.intro K1 K0))
  have Ka := Lib.hid ka
  have Kb := Lib.hid kb
  clear K2 K1 K0 ka kb
  obtain ⟨ea, hea⟩ : ∃ ea, srE a 0 = ea := ⟨_, rfl⟩
  rw [hea]
  clear hea
  go_wp2_with (first
    | (refine wp_store_sp rfl _ _ rfl w2.heap.size rfl SA Sp.zero rfl H2 ?_; intro w3 H3 hb3 T3; have bb3 := b2.trans (hb3 _ (Nat.le_refl _)); have B3 := B2.trans (bb3.mono B2.size); have Z3 := Z2.below bb3 Z2.lt)
    | fail)
  refine Calls.mono (sread_any B m d b 1 w3 (hb.below B3) (ht.below B3 ht.1)) ?_
  rw [hSC]
  rintro e w4 ⟨rfl, hb4⟩
  have H4 := H3.below hb4 H3.lt
  have Z4 := Z3.below hb4 Z3.lt
  have B4 := B3.trans (hb4.mono B3.size)
  have H4b := SB.new w4 Sp.zero 87
  have b4 : Below w4.heap.size w4 (w4.alloc (.cells Sp.zero.vs.toArray 87)) := (Below.refl _ _).alloc (Nat.le_refl _) _
  obtain ⟨eb, heb⟩ : ∃ eb, srE b 1 = eb := ⟨_, rfl⟩
  rw [heb]
  clear heb hSC H2 b2 hb3 T3 bb3 B3 Z3 H3 hb4 Z2 B2 hb2 Z1 b1
  obtain ⟨fa, hfa⟩ : ∃ fa, SA.gen = fa := ⟨_, rfl⟩
  obtain ⟨fb, hfb⟩ : ∃ fb, SC.gen = fb := ⟨_, rfl⟩
  have Hfa := Lib.hid hfa
  have Hfb := Lib.hid hfb
  obtain ⟨bk, hbk⟩ : ∃ bk, w2.heap.size = bk := ⟨_, rfl⟩
  rw [hbk] at H4 ⊢
  have hww : w.heap.size < w4.heap.size := Z4.lt
  have hwk : bk < w4.heap.size := H4.lt
  rcases Ka.out with ka | ka
  · rcases Kb.out with kb | kb
    · have hK := KK.out.1 ka.2.2 kb.2.2
      have e1 : fa = 0 := by rw [← Hfa.out]; exact ka.1
      have e2 : fb = 0 := by rw [← Hfb.out]; exact kb.1
      subst e1 e2
      go_wp2_with (first
        | (refine wp_store_sp rfl _ _ rfl w4.heap.size rfl SC Sp.zero rfl H4b ?_; intro w5 H5 hb5 T5; have bb5 := b4.trans (hb5 _ (Nat.le_refl _)); have B5 := B4.trans (bb5.mono B4.size); have Z5 := Z4.below bb5 Z4.lt; have H6 := H4.below bb5 H4.lt; have g5 := H5.c0; have g6 := H6.c0; have l5 := H5.ld; have l6 := H6.ld; rw [hfb] at g5; rw [hfa] at g6)
        | (refine wp_store_sp rfl _ _ rfl w.heap.size rfl Sp.zero Sp.zero rfl Z5 ?_; intro w9 H9 hb9 T9)
        | fail)
      refine bodyPost_ret (results_cell3 Tryz.results90 rfl (load_sp H9)) rfl ?_
      rw [hK.1, hK.2.1, hK.2.2]
      exact ⟨rfl, B5.trans (hb9 _ (Nat.le_refl _))⟩
    · have e1 : fa = 0 := by rw [← Hfa.out]; exact ka.1
      have e2 : 1 ≤ fb := by rw [← Hfb.out]; exact kb.1
      have hK := KK.out.2.1 (by rw [ka.2.2, kb.2.2]; simp) (by rw [Hfa.out, Hfb.out]; omega)
      subst e1
      have e3 : ¬ fb = 0 := by omega
      have e4 : (0 : Int) < fb := by omega
      have e5 : (fb == 0) = false := by simpa using e3
      go_wp2_with (first
        | (refine wp_store_sp rfl _ _ rfl w4.heap.size rfl SC Sp.zero rfl H4b ?_; intro w5 H5 hb5 T5; have bb5 := b4.trans (hb5 _ (Nat.le_refl _)); have B5 := B4.trans (bb5.mono B4.size); have Z5 := Z4.below bb5 Z4.lt; have H6 := H4.below bb5 H4.lt; have g5 := H5.c0; have g6 := H6.c0; have l5 := H5.ld; have l6 := H6.ld; rw [hfb] at g5; rw [hfa] at g6)
        | (refine wp_store_sp rfl _ _ rfl w.heap.size rfl SC Sp.zero rfl Z5 ?_; intro w9 H9 hb9 T9)
        | fail)
      refine bodyPost_ret (results_cell3 Tryz.results90 rfl (load_sp H9)) rfl ?_
      rw [hK.1, hK.2.1, hK.2.2]
      exact ⟨rfl, B5.trans (hb9 _ (Nat.le_refl _))⟩
  · have e1 : 1 ≤ fa := by rw [← Hfa.out]; exact ka.1
    have e3 : ¬ fa = 0 := by omega
    have e5 : (fa == 0) = false := by simpa using e3
    by_cases hlt : fa < fb
    · have hK := KK.out.2.1 (by rw [ka.2.2]; simp) (by rw [Hfa.out, Hfb.out]; exact hlt)
      have e6 : decide (fa < fb) = true := decide_eq_true hlt
      go_wp2_with (first
        | (refine wp_store_sp rfl _ _ rfl w4.heap.size rfl SC Sp.zero rfl H4b ?_; intro w5 H5 hb5 T5; have bb5 := b4.trans (hb5 _ (Nat.le_refl _)); have B5 := B4.trans (bb5.mono B4.size); have Z5 := Z4.below bb5 Z4.lt; have H6 := H4.below bb5 H4.lt; have g5 := H5.c0; have g6 := H6.c0; have l5 := H5.ld; have l6 := H6.ld; rw [hfb] at g5; rw [hfa] at g6)
        | (refine wp_store_sp rfl _ _ rfl w.heap.size rfl SC Sp.zero rfl Z5 ?_; intro w9 H9 hb9 T9)
        | fail)
      refine bodyPost_ret (results_cell3 Tryz.results90 rfl (load_sp H9)) rfl ?_
      rw [hK.1, hK.2.1, hK.2.2]
      exact ⟨rfl, B5.trans (hb9 _ (Nat.le_refl _))⟩
    · have hK := KK.out.2.2 (by rw [ka.2.2]; simp) (by rw [Hfa.out, Hfb.out]; omega)
      have e6 : decide (fa < fb) = false := decide_eq_false hlt
      go_wp2_with (first
        | (refine wp_store_sp rfl _ _ rfl w4.heap.size rfl SC Sp.zero rfl H4b ?_; intro w5 H5 hb5 T5; have bb5 := b4.trans (hb5 _ (Nat.le_refl _)); have B5 := B4.trans (bb5.mono B4.size); have Z5 := Z4.below bb5 Z4.lt; have H6 := H4.below bb5 H4.lt; have g5 := H5.c0; have g6 := H6.c0; have l5 := H5.ld; have l6 := H6.ld; rw [hfb] at g5; rw [hfa] at g6)
        | (refine wp_store_sp rfl _ _ rfl w.heap.size rfl SA Sp.zero rfl Z5 ?_; intro w9 H9 hb9 T9)
        | fail)
      refine bodyPost_ret (results_cell3 Tryz.results90 rfl (load_sp H9)) rfl ?_
      rw [hK.1, hK.2.1, hK.2.2]
      exact ⟨rfl, B5.trans (hb9 _ (Nat.le_refl _))⟩
/-! ### Areas -/
/-! ### The document's examples -/
end Go.Proofs.YtgedmodnkiijkaaGreatDoor
