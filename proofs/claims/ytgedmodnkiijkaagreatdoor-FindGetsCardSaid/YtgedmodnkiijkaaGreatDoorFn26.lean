/- The code's pool: writeFresh. The code's pool: Commit. -/
import Derived.Test.YtgedmodnkiijkaaGreatDoorFn24
import Derived.Test.YtgedmodnkiijkaaGreatDoorPoS
import Derived.Test.YtgedmodnkiijkaaGreatDoorFn25
namespace Go.Proofs.YtgedmodnkiijkaaGreatDoor
open Go Go.RowKit Go.Proofs
open Go.ChangeMaps (setBlock)

def Pl.keysN (P : Pl) : List Nat := (List.range P.C.n).filter fun a => (P.live a).isSome
def Pl.outAt (P : Pl) (a : Nat) : List UInt8 := match P.live a with | some b => b.out a P.g | none => []
theorem new_keys (P : Pl) : wIn P.new = P.keysN.map fun a => Stp.w a (P.outAt a) := by
  unfold wIn Pl.new Pl.keysN
  rw [show P.newA = fun a => (P.live a).map fun b => (a, b.out a P.g) from funext (newA_live P)]
  generalize List.range P.C.n = l
  induction l with
  | nil => rfl
  | cons a l ih =>
    rw [List.filterMap_cons, List.filter_cons]
    cases h : P.live a with
    | none => simpa [h] using ih
    | some b =>
      simp only [Option.map_some, Option.isSome_some, if_true, List.map_cons, ih]
      rw [show P.outAt a = b.out a P.g by unfold Pl.outAt; rw [h]]
theorem keysN_at {P : Pl} {j : Nat} (hj : j < P.keysN.length) : P.keysN[j] < P.C.n ∧ ∃ b, P.live P.keysN[j] = some b := by
  have h := List.getElem_mem hj
  unfold Pl.keysN at h ⊢
  rw [List.mem_filter, List.mem_range] at h
  exact ⟨h.1, Option.isSome_iff_exists.1 h.2⟩

set_option maxRecDepth 100000 in
set_option maxHeartbeats 8000000 in
theorem pwritefresh_any {w : World} {p d : Nat} {S0 S T : Nat → Prop} {D : DM} {P : Pl} (L0 : Drv w d S0 D) (H : Pool w p d S T P) (hST : ∀ k, S0 k → T k) (hSS : ∀ k, S0 k → ¬ S k) (hG : ¬ S0 1) (ht : Tab w) {m0 : Nat} (htm : D.tame m0) (hm0 : m0 ≤ 600000) :
    Calls Tryz.prog 35 #[.pointer (some ⟨p, 0, none⟩), .int .i64 P.g] w fun e w' => e = .returned (.bool (D.runB (wIn P.new))) ∧ Dsk w w' d S0 (D.runD (wIn P.new)) := by
  have hok := H.ok
  have hgen := gen0_of hok.genOk
  have hcn := hok.c.1
  obtain ⟨m, cur, l, clock, v, Sc, L⟩ := H
  have hpl := L.plt
  have hml := L.mlt
  obtain ⟨g, hg⟩ : ∃ g, P.g = g := ⟨_, rfl⟩
  rw [hg] at hgen
  -- the keys
  have hkz : keysZ l = P.keysN.map fun a : Nat => (a : Int) := keysZ_eq L.ents (fun a => (P.live a).isSome) L.keys fun a _ => by rw [L.look a]; cases P.live a <;> rfl
  have hll : l.length = P.keysN.length := by
    have h1 : (keysZ l).length = l.length := by unfold keysZ; rw [List.length_mergeSort, List.length_map]
    rw [← h1, hkz, List.length_map]
  have hle : P.keysN.length ≤ P.C.n := by
    have := List.length_filter_le (fun a => (P.live a).isSome) (List.range P.C.n)
    rw [List.length_range] at this
    exact this
  have hrange : ∀ e ∈ l, 0 ≤ kI e ∧ kI e ≤ 100000 := fun e he => by obtain ⟨a, ha, hk⟩ := L.keys e he; omega
  obtain ⟨W, hW⟩ : ∃ W, wIn P.new = W := ⟨_, rfl⟩
  have hWk : W = P.keysN.map fun a => Stp.w a (P.outAt a) := by rw [← hW, new_keys]
  obtain ⟨K, hK⟩ : ∃ K, P.keysN = K := ⟨_, rfl⟩
  have hKat : ∀ j (hj : j < K.length), K[j] < P.C.n ∧ ∃ b, P.live K[j] = some b := by subst hK; exact fun j hj => keysN_at hj
  rw [hK] at hkz hll hle hWk
  obtain ⟨n, hn⟩ : ∃ n, l.length = n := ⟨_, rfl⟩
  have hKn : K.length = n := by omega
  have hn2 : n ≤ 2048 := by omega
  have hWl : W.length = n := by rw [hWk, List.length_map, hKn]
  have hWn : ∀ j (hj : j < K.length), W.take (j + 1) = W.take j ++ [.w K[j] (P.outAt K[j])] := fun j hj => by
    rw [hWk, List.take_add_one, List.getElem?_map, List.getElem?_eq_getElem hj]
    rfl
  rw [hW, hg]
  have HKat := Lib.hid hKat
  have HWn := Lib.hid hWn
  have HWl := Lib.hid hWl
  have HKn := Lib.hid hKn
  have Hkz := Lib.hid hkz
  have Hg := Lib.hid hg
  have Hgen := Lib.hid hgen
  have HST := Lib.hid hST
  have HSS := Lib.hid hSS
  have HG := Lib.hid hG
  -- the calls for the keys
  have b1 : Below w.heap.size w (w.alloc (.cells #[.map (some m)] 90)) := (Below.refl _ _).alloc (Nat.le_refl _) _
  have q40 := L.c40
  have hmap1 := (b1.block m hml).trans L.map
  have hso := posorted_any hmap1 L.ents hrange (by omega) (heap_alloc_new w (.cells #[.map (some m)] 90))
  rw [hn] at hso
  have Hso := Lib.hid hso
  clear hW hWk hK hkz hll hle hrange hKn hn hWl hWn hKat hg hgen hST hSS hG hso hmap1
  go_enter Tryz.func35, Tryz.ntmps35
  go_wp2_with fail
  refine (pokeys_any (some m) w).mono ?_
  rintro e w1 ⟨rfl, rfl⟩
  go_wp2_with fail
  refine Hso.out.mono ?_
  rintro e w2 ⟨vk, rfl, hrow, b2⟩
  have B2 := b1.trans (b2.mono b1.size)
  obtain ⟨A, ck, rfl, hk1, hk2⟩ := owns_any hrow
  have hcell : ∀ j (hj : j < K.length), ∃ gk, A = some ⟨gk, 0, none⟩ ∧ w.heap.size ≤ gk ∧ gk < w2.heap.size ∧ w2.cell? ⟨gk, j, none⟩ = some (.int .i64 (K[j] : Int)) := fun j hj => by
    have hj2 : j < n := by rw [← HKn.out]; exact hj
    obtain ⟨gk, c2, ev, _, _⟩ := owns_form hrow (by omega)
    injection ev with ev _ ec
    subst ev
    subst ec
    have hlt := World.ownsRow.lt hrow gk rfl
    have hN : NRow w2 gk n ck (keysZ l) := owns_base hrow (Nat.zero_le _)
    refine ⟨gk, rfl, by have := hlt.1; have := b1.size; omega, hlt.2, ?_⟩
    rw [(hN.at_ hj2).1, Hkz.out]
    congr 2
    unfold nm
    rw [List.getD_eq_getElem?_getD, List.getElem?_map, List.getElem?_eq_getElem hj]
    rfl
  have Hcell := Lib.hid hcell
  clear hcell hrow
  have L2 := L0.tight.below B2
  have P2 := L.below B2
  have t2 := ht.below B2 ht.1
  have z2 := B2.size
  -- what stays while the drive turns
  have hstay : ∀ wr, Turn (fun k => S0 k ∧ k < w.heap.size) w2 wr → PL wr p d m cur l clock v Sc S T P ∧ Tab wr ∧ (∀ gk j, w.heap.size ≤ gk → gk < w2.heap.size → wr.cell? ⟨gk, j, none⟩ = w2.cell? ⟨gk, j, none⟩) := fun wr X =>
    ⟨P2.other X (fun k hk => HST.out k hk.1) (fun k hk => HSS.out k hk.1), t2.turned X fun h => HG.out h.1, fun gk j h1 h2 => World.cell?_of_block (a := ⟨gk, j, none⟩) (X.block gk h2 fun h => by have := h.2; omega)⟩
  have Hst := Lib.hid hstay
  have D0 := L2.dsk
  clear hstay L2 P2 t2 b1 b2 q40
  go_wp2_with fail
  go_loopw [6, 14] (fun _ i wr => ∃ j : Nat, j ≤ n ∧ i = .int .i64 (j : Int) ∧ D.runE (W.take j) = 0 ∧ Dsk w2 wr d (fun k => S0 k ∧ k < w.heap.size) (D.runD (W.take j))) (fun _ i _ => n - (Go.RowKit.intOf i).toNat)
  case atStart => exact ⟨0, by omega, rfl, rfl, D0⟩
  case round =>
    clear D0
    obtain ⟨j, hj, rfl, hE, L1⟩ := hrel
    have htj := tame_run (W.take j) htm
    have hlen : (W.take j).length ≤ 2048 := by rw [List.length_take, HWl.out]; omega
    obtain ⟨D1, hD1⟩ : ∃ D1, D.runD (W.take j) = D1 := ⟨_, rfl⟩
    rw [hD1] at L1 htj
    have HD1 := Lib.hid hD1
    have HE := Lib.hid hE
    obtain ⟨P3, t3, c3⟩ := Hst.out wr L1.turn
    clear hD1 hE
    by_cases hlt : j < n
    · have hjK : j < K.length := by rw [HKn.out]; exact hlt
      obtain ⟨han, b, hb⟩ := HKat.out j hjK
      obtain ⟨gk, rfl, hk3, hk4, hk5⟩ := Hcell.out j hjK
      have Hnx := Lib.hid (HWn.out j hjK)
      obtain ⟨a, ha⟩ : ∃ a, K[j] = a := ⟨_, rfl⟩
      rw [ha] at han hb hk5
      have hx : P.outAt a = b.out a g := by unfold Pl.outAt; rw [hb, Hg.out]
      obtain ⟨x, hxx⟩ : ∃ x, b.out a g = x := ⟨_, rfl⟩
      have hE1 := Lib.hid (show D.runE (W.take (j + 1)) = D1.says (.w a x) by rw [Hnx.out, runE_snoc, if_pos HE.out, HD1.out, ha, hx, hxx])
      have hD2 := Lib.hid (show D.runD (W.take (j + 1)) = D1.does (.w a x) by rw [Hnx.out, runD_snoc, if_pos HE.out, HD1.out, ha, hx, hxx])
      have hcl := (c3 gk j hk3 hk4).trans hk5
      have hgood : b.good := L.good a b (by unfold Pl.live at hb; split at hb; cases hb; exact hb)
      have hlook : getE (a : Int) l = some (v a) := by rw [L.look a, hb]; rfl
      have hF : ∀ w', PL w' p d m cur l clock v Sc S T P → w'.cell? ⟨p, 0, none⟩ = some (.pointer (some ⟨d, 0, none⟩)) ∧ w'.cell? ⟨p, 40, none⟩ = some (.map (some m)) ∧ (Instr.lookup 90 (.map (some m)) (.int .i64 (a : Int)) false).run Tryz.prog w' = .ok (v a) w' := fun w' P' =>
        ⟨P'.c0, P'.c40, by rw [run_lookup_ints P'.ents Tryz.underlying90 Tryz.underlying3 (Tryz.zeroValue35 w') P'.map (a : Int), hlook]; rfl⟩
      have PD : PL wr.drew p d m cur l clock v Sc S T P := P3.keep (fun _ _ _ => rfl) (Nat.le_refl _)
      obtain ⟨q, cq, hva, hsl, hqT⟩ := PD.row a b hb
      rw [hva] at hF
      have hdt := pdated_any b hgood a (by omega) g Hgen.out _ _ _ wr.drew hsl (t3.below (Below.refl _ _).drew t3.1)
      rw [hxx] at hdt
      have Hdt := Lib.hid hdt
      obtain ⟨E, hEE⟩ : ∃ E, D1.says (.w a x) = E := ⟨_, rfl⟩
      have HEE := Lib.hid hEE
      have ja : a < 2048 := by omega
      have B01 : Below wr.heap.size wr wr.drew := (Below.refl _ _).drew
      have hgk : gk < wr.heap.size := by have := L1.turn.size; omega
      clear hEE hdt hxx hx ha hb hva hsl hgood hlook hk5 han c3
      by_cases h0 : E = 0
      · have nb : (E != 0) = false := by simpa using h0
        have H0 := Lib.hid h0
        clear h0
        go_wp2_with fail
        go_region_held3 (fun w' => w'.cell? ⟨p, 0, none⟩ = some (.pointer (some ⟨d, 0, none⟩)) ∧ w'.cell? ⟨p, 40, none⟩ = some (.map (some m)) ∧ (Instr.lookup 90 (.map (some m)) (.int .i64 (a : Int)) false).run Tryz.prog w' = .ok (.slice (some ⟨q, 0, none⟩) 256 cq) w')
          (first | assumption | exact hF _ PD | exact hF _ (PD.below b5) | exact hF _ (Hst.out _ L7.turn).1)
          (first
            | (go_at_call 64; refine Hdt.out.mono ?_; rintro e w5 ⟨q5, rfl, own5, b5⟩; have L5 := L1.below (B01.trans b5))
            | (go_at_call 63; have hh := b5; refine (dwrite_any L5 htj (by omega) a _ rfl _ 256 256 x own5.sl).mono ?_; rw [HEE.out]; rintro e w7 ⟨rfl, L7⟩)
            | fail)
        go_wp2
        exact ⟨⟨j + 1, by omega, by go_num, hE1.out.trans (HEE.out.trans H0.out), by rw [hD2.out]; exact L7⟩, by simp [Go.RowKit.intOf]; omega⟩
      · have nb : (E != 0) = true := by simpa using h0
        have hstop : D.runE (W.take (j + 1)) ≠ 0 := fun h => h0 (HEE.out.symm.trans (hE1.out.symm.trans h))
        have hall : W = W.take (j + 1) ++ W.drop (j + 1) := (List.take_append_drop _ _).symm
        obtain ⟨r1, r2⟩ := run_stopped (l' := W.drop (j + 1)) hstop
        rw [← hall] at r1 r2
        have R1 := Lib.hid (show D.runB W = false by unfold DM.runB; rw [r1]; exact decide_eq_false hstop)
        have R2 := Lib.hid (show D.runD W = D1.does (.w a x) by rw [r2, hD2.out])
        clear hall r1 r2 hstop h0
        go_wp2_with fail
        go_region_held3 (fun w' => w'.cell? ⟨p, 0, none⟩ = some (.pointer (some ⟨d, 0, none⟩)) ∧ w'.cell? ⟨p, 40, none⟩ = some (.map (some m)) ∧ (Instr.lookup 90 (.map (some m)) (.int .i64 (a : Int)) false).run Tryz.prog w' = .ok (.slice (some ⟨q, 0, none⟩) 256 cq) w')
          (first | assumption | exact hF _ PD | exact hF _ (PD.below b5) | exact hF _ (Hst.out _ L7.turn).1)
          (first
            | (go_at_call 64; refine Hdt.out.mono ?_; rintro e w5 ⟨q5, rfl, own5, b5⟩; have L5 := L1.below (B01.trans b5))
            | (go_at_call 63; have hh := b5; refine (dwrite_any L5 htj (by omega) a _ rfl _ 256 256 x own5.sl).mono ?_; rw [HEE.out]; rintro e w7 ⟨rfl, L7⟩)
            | fail)
        go_wp2
        go_ret
        exact ⟨by rw [R1.out]; rfl, by rw [R2.out]; exact L7.from B2⟩
    · have hjn : j = n := by omega
      subst hjn
      have hfull : W.take j = W := List.take_of_length_le (by rw [HWl.out]; exact Nat.le_refl _)
      have hE0 := HE.out
      have hD0 := HD1.out
      rw [hfull] at hE0 hD0
      have R1 := Lib.hid (show D.runB W = true from decide_eq_true hE0)
      have R2 := Lib.hid hD0
      have e3 : ¬ (j : Int) < (j : Int) := by omega
      clear hE0 hD0 hfull c3
      go_wp2
      go_ret
      exact ⟨by rw [R1.out]; rfl, by rw [R2.out]; exact L1.from B2⟩
end Go.Proofs.YtgedmodnkiijkaaGreatDoor

namespace Go.Proofs.YtgedmodnkiijkaaGreatDoor
open Go Go.RowKit Go.Proofs
open Go.ChangeMaps (setBlock)

theorem steps_set (P : Pl) : P.steps = wIn P.new ++ setL P.C P.sup := by
  unfold Pl.steps setL cmtL Pl.blocks
  rw [List.append_assoc]
  rfl
/-- Commit's answer: no step fails, or the power is gone. -/
def DM.cmtE (D : DM) (P : Pl) : Int := if D.runB P.steps = true then 0 else 4
/-- .. and the pool behind it. -/
def DM.cmtP (D : DM) (P : Pl) : Pl := if D.runB P.steps = true then P.done else P
theorem cmt_yes {D : DM} {P : Pl} (h : D.runB P.steps = true) : D.cmtE P = 0 ∧ D.cmtP P = P.done := by unfold DM.cmtE DM.cmtP; rw [h]; exact ⟨rfl, rfl⟩
theorem cmt_no {D : DM} {P : Pl} (h : D.runB P.steps = false) : D.cmtE P = 4 ∧ D.cmtP P = P := by unfold DM.cmtE DM.cmtP; rw [h]; exact ⟨rfl, rfl⟩
theorem SB.set0 {w : World} {b : Nat} {S : Sp} (H : SB w b S) (x : Int) : SB (w.setCell ⟨b, 0, none⟩ (.int .i64 x)) b ⟨x, S.sectors, S.log, S.vols, S.len⟩ := by
  obtain ⟨t, H⟩ := H
  exact ⟨t, heap_setCell_same w b 0 _ t _ H⟩
section
variable {w w1 : World} {p d m clock : Nat} {cur : Array Value} {l : List MapEntry} {v : Nat → Value} {Sc S T : Nat → Prop} {P : Pl}
theorem PL.apart {S0 : Nat → Prop} (L : PL w p d m cur l clock v Sc S T P) (hSS : ∀ k, S0 k → ¬ S k) : ∀ k, S0 k → k ≠ p ∧ ¬ Sc k := fun k hk => ⟨fun e => hSS k hk (e ▸ L.inS.1), fun h => hSS k hk (L.inS.2.2 k h)⟩
end
theorem run_clear_ints {P : Program} {w : World} {t k e b clock : Nat} {l : List MapEntry} (ht : P.underlying t = some (.map k e)) (hb : w.heap[b]? = some (.map l.toArray clock)) (ty : TypeId) :
    (Builtin.clear_ #[t] ty #[.map (some b)]).run P w = .ok (.tuple #[]) (setBlock w b (.map #[] clock)) := by
  simp [Builtin.clear_, run_underlying ht, MapKept.run_getObj_map hb, MapKept.run_setObj_map _ hb, Result.andThen]
  rfl
/-- A pool's superblock is stored. -/
theorem wp_store_pl {ops : Array Oper} {rest : List Oper} {o : Oper} {a : Act} {w : World} {Q : Exit → Act → World → Prop} (hg : o.guard = none) (x y : Operand) (hop : o.op = Op.store 87 x y)
    {p d m clock : Nat} {cur : Array Value} {l : List MapEntry} {v : Nat → Value} {Sc S T : Nat → Prop} {P : Pl} (L : PL w p d m cur l clock v Sc S T P) (hx : a.eval x = .pointer (some ⟨p, 1, none⟩)) (S' : Sp) (hy : a.eval y = .agg S'.vs.toArray)
    (hK : ∀ w' cur', w'.heap[p]? = some (.cells cur' 92 (0, 0)) → PH cur' d m S' → (∀ j, cur'[36 + j]? = cur[36 + j]?) → Turn (fun k => k = p) w w' → wpList Tryz.prog ops Q rest (a.put o.dst undef) w') : wpList Tryz.prog ops Q (o :: rest) a w := by
  have ht : w.there p 1 S'.vs.toArray.size := by rw [List.size_toArray, S'.vs_len]; exact L.there (by omega)
  refine wpList_store_mid hg _ x y hop p 1 S'.vs.toArray hx hy ht (by rw [List.size_toArray, S'.vs_len]; kernel_rfl) (all_oneCell_toArray S'.one) ?_
  have Tn := turn_setCells (S := fun k => k = p) rfl S'.vs 1 w
  have hsz := L.ph.size
  have e := heap_setCells_row p 92 S'.vs 1 w cur.toList (by rw [Array.toArray_toList]; exact L.me) (by rw [S'.vs_len, Array.length_toList]; omega)
  have hcl : cur.toList.length = 41 := by rw [Array.length_toList]; exact hsz
  have hsp : ∀ j, (splice cur.toList 1 S'.vs)[j]? = if j = 0 then cur[0]? else if j < 36 then S'.vs[j - 1]? else cur[j]? := fun j => by
    unfold splice
    rw [S'.vs_len]
    by_cases h0 : j = 0
    · subst h0
      rw [if_pos rfl, List.getElem?_append_left (by rw [List.length_take]; omega), List.getElem?_take, if_pos (by omega), Array.getElem?_toList]
    · rw [if_neg h0]
      by_cases h1 : j < 36
      · rw [if_pos h1, List.getElem?_append_right (by rw [List.length_take]; omega), List.getElem?_append_left (by rw [List.length_take, S'.vs_len]; omega), List.length_take, show min 1 cur.toList.length = 1 by omega]
      · rw [if_neg h1, List.getElem?_append_right (by rw [List.length_take]; omega), List.getElem?_append_right (by rw [List.length_take, S'.vs_len]; omega), List.length_take, S'.vs_len, List.getElem?_drop, show 1 + 35 + (j - min 1 cur.toList.length - 35) = j by omega, Array.getElem?_toList]
  refine hK _ _ e ⟨?_, ?_, fun j x hx => ?_, ?_⟩ (fun j => ?_) Tn
  · rw [List.size_toArray]
    unfold splice
    rw [List.length_append, List.length_append, List.length_take, List.length_drop, S'.vs_len]
    omega
  · rw [List.getElem?_toArray, hsp, if_pos rfl]; exact L.ph.disk
  · have hj := (List.getElem?_eq_some_iff.1 hx).1
    rw [S'.vs_len] at hj
    rw [List.getElem?_toArray, hsp, if_neg (by omega), if_pos (by omega), show 1 + j - 1 = j by omega]
    exact hx
  · rw [List.getElem?_toArray, hsp, if_neg (by omega), if_neg (by omega)]; exact L.ph.fresh
  · rw [List.getElem?_toArray, hsp, if_neg (by omega), if_neg (by omega)]
theorem done_ok {P : Pl} (h : P.ok) (hg : P.g < 1099511627775) : P.done.ok := ⟨h.c |> Ct.commit_ok, h.res, h.supMay, h.sec, hg, fun a b hb => by cases hb⟩
theorem live_done (P : Pl) (a : Nat) : P.done.live a = none := by unfold Pl.live; split <;> rfl
theorem PL.widen {w w6 : World} {p d m clock : Nat} {cur : Array Value} {l : List MapEntry} {v : Nat → Value} {Sc S T : Nat → Prop} {P : Pl} (L : PL w p d m cur l clock v Sc S T P) (L6 : PL w6 p d m cur l clock v Sc S T P) : PL w6 p d m cur l clock v Sc S (fun k => T k ∨ w.heap.size ≤ k) P :=
  ⟨L6.me, L6.ph, L6.ct, L6.map, L6.ents, L6.look, L6.keys, fun a b h => by
    obtain ⟨g, c, e, hs, hg⟩ := L6.row a b h
    obtain ⟨g', c', e', hs', _⟩ := L.row a b h
    rw [e] at e'
    injection e' with e' _ _
    injection e' with e'
    injection e' with e' _ _
    subst e'
    have hlt := sl_lt hs' (by omega)
    exact ⟨g, c, e, hs, fun h => h.elim hg fun h => by omega⟩, L6.good, L6.inS, L6.ne, fun k hk => .inl (L6.sub k hk), L6.ok, L6.fineS⟩
attribute [local go_sem ↓] ldS_shut alS_shut
set_option maxRecDepth 100000 in
set_option maxHeartbeats 8000000 in
theorem pcommit_any {w : World} {p d : Nat} {S0 S T : Nat → Prop} {D : DM} {P : Pl} (L0 : Drv w d S0 D) (H : Pool w p d S T P) (hST : ∀ k, S0 k → T k) (hSS : ∀ k, S0 k → ¬ S k) (hT : ∀ k, T k → k < w.heap.size) (hG : ¬ T 1) (ht : Tab w) {m0 : Nat} (htm : D.tame m0) (hm0 : m0 ≤ 500000) (hgen : P.g < 1099511627775) :
    Calls Tryz.prog 13 #[.pointer (some ⟨p, 0, none⟩)] w fun e w' => e = .returned (.int .i64 (D.cmtE P)) ∧ Drv w' d (fun k => S0 k ∨ w.heap.size ≤ k) (D.runD P.steps) ∧ Pool w' p d S (fun k => T k ∨ w.heap.size ≤ k) (D.cmtP P) ∧ Turn (fun k => S0 k ∨ S k) w w' := by
  have hok := H.ok
  obtain ⟨m, cur, l, clock, v, Sc, L⟩ := H
  have hpl := L.plt
  have hml := L.mlt
  have hmay := hok.supMay
  have hfine := may_fine hmay
  have hal := alS_run
  have hG0 : ¬ S0 1 := fun h => hG (hST _ h)
  have b1 : Below w.heap.size w (w.alloc (.cells Sp.zero.vs.toArray 87)) := (Below.refl _ _).alloc (Nat.le_refl _) _
  have hl1 := L.ld
  have X1 := SB.new w Sp.zero 87
  have hgg : P.S.gen + 1 = P.g := rfl
  have hg0 : 0 ≤ P.S.gen ∧ P.S.gen ≤ 1099511627775 := ⟨by have := (may_parts hok.may).1; omega, by have := hok.gen; omega⟩
  obtain ⟨g0, hg0'⟩ : ∃ g, P.S.gen = g := ⟨_, rfl⟩
  rw [hg0'] at hg0 hgg
  have Hgg := Lib.hid hgg
  have Hmay := Lib.hid hmay
  clear hgg hmay
  have hrunA := steps_set P
  obtain ⟨W, hW⟩ : ∃ W, wIn P.new = W := ⟨_, rfl⟩
  obtain ⟨Z, hZ⟩ : ∃ Z, setL P.C P.sup = Z := ⟨_, rfl⟩
  rw [hW, hZ] at hrunA
  have HW := Lib.hid hW
  have HZ := Lib.hid hZ
  have Hrun := Lib.hid hrunA
  have Hfine := Lib.hid hfine
  have Hok := Lib.hid hok
  have HT := Lib.hid hT
  have HST := Lib.hid hST
  have HSS := Lib.hid hSS
  have HG0 := Lib.hid hG0
  have Hg0' := Lib.hid hg0'
  have LT := L0.tight
  have hn2 : D.n = D.n := rfl
  clear hrunA hW hZ hfine hok hT hST hSS hG0
  go_enter Tryz.func13, Tryz.ntmps13
  go_wp2_with (first
    | (refine wp_store_sp rfl (.tmp 3) (.tmp 7) rfl w.heap.size rfl P.S Sp.zero rfl X1 ?_; intro w2 X2 hb2 T2; have q0 := X2.c0; rw [hg0'] at q0; have f0 := X2.fz 0; have X3 := X2.set0 (g0 + 1); rw [show (⟨g0 + 1, P.S.sectors, P.S.log, P.S.vols, P.S.len⟩ : Sp) = P.sup by rw [Hgg.out]; rfl] at X3; have hl3 := X3.ld)
    | fail)
  have B3 : Below w.heap.size w (w2.setCell ⟨w.heap.size, 0, none⟩ (.int .i64 (g0 + 1))) := (b1.trans (hb2 _ (Nat.le_refl _))).setCell (p := ⟨w.heap.size, 0, none⟩) (Nat.le_refl _) _
  generalize w2.setCell ⟨w.heap.size, 0, none⟩ (.int .i64 (g0 + 1)) = w3 at X3 hl3 B3 ⊢
  refine (smay_any P.sup true Hmay.out Hfine.out w3).mono ?_
  rintro e w4 ⟨rfl, b4⟩
  have B4 := B3.trans (b4.mono B3.size)
  have X4 := X3.below b4 X3.lt
  have L4 := LT.below B4
  have P4 := L.below B4
  have t4 := ht.below B4 ht.1
  have z4 : w.heap.size < w4.heap.size := X4.lt
  have hTl : ∀ k, T k → k < w.heap.size := HT.out
  have hgn0 : (P.sup).gen = P.g := rfl
  clear X3 hl3 X2 hb2 T2 q0 f0 b1 hl1 X1 hal
  -- the drive's blocks, tight
  have hstay : ∀ wr, Turn (fun k => S0 k ∧ k < w.heap.size) w4 wr → PL wr p d m cur l clock v Sc S T P ∧ Tab wr ∧ SB wr w.heap.size P.sup := fun wr X =>
    ⟨P4.other X (fun k hk => HST.out k hk.1) (fun k hk => HSS.out k hk.1), t4.turned X fun h => HG0.out h.1, X4.block (X.block _ z4 fun h => by have := h.2; omega)⟩
  have hF : ∀ wr, PL wr p d m cur l clock v Sc S T P → SB wr w.heap.size P.sup → wr.cell? ⟨w.heap.size, 0, none⟩ = some (.int .i64 P.g) ∧ (ldS (.pointer (some ⟨w.heap.size, 0, none⟩))).run Tryz.prog wr = .ok (.agg P.sup.vs.toArray) wr ∧ wr.cell? ⟨p, 0, none⟩ = some (.pointer (some ⟨d, 0, none⟩)) := fun wr P' X' => ⟨X'.c0, X'.ld, P'.c0⟩
  have hwf := pwritefresh_any (L4.below (w' := w4.drew) (Below.refl _ _).drew) ⟨m, cur, l, clock, v, Sc, P4.keep (w' := w4.drew) (fun _ _ _ => rfl) (Nat.le_refl _)⟩ (fun k hk => HST.out k hk.1) (fun k hk => HSS.out k hk.1) (fun h => HG0.out h.1) (t4.below (w' := w4.drew) (Below.refl _ _).drew t4.1) htm (by omega)
  rw [HW.out] at hwf
  have Hwf := Lib.hid hwf
  have PD : PL w4.drew p d m cur l clock v Sc S T P := P4.keep (fun _ _ _ => rfl) (Nat.le_refl _)
  have XD : SB w4.drew w.heap.size P.sup := X4
  have zd : w4.drew.heap.size = w4.heap.size := rfl
  have hdst : ∀ wr, Dsk w4.drew wr d (fun k => S0 k ∧ k < w.heap.size) (D.runD W) → PL wr p d m cur l clock v Sc S T P ∧ Tab wr ∧ SB wr w.heap.size P.sup := fun wr X => hstay wr ⟨X.turn.os, X.turn.tape, X.turn.output, X.turn.size, X.turn.block⟩
  have Hds := Lib.hid hdst
  have hD1t := tame_run W htm
  have hWlen : W.length ≤ 2048 := by
    rw [← HW.out]
    unfold wIn Pl.new
    rw [List.length_map]
    have := List.length_filterMap_le P.newA (List.range P.C.n)
    rw [List.length_range] at this
    have := Hok.out.c.1.2
    omega
  clear hwf hstay hdst
  cases hr1 : D.runB W
  · rw [hr1] at Hwf
    go_wp2_with fail
    refine wp_region_held_drew (S := fun wr => wr.cell? ⟨w.heap.size, 0, none⟩ = some (.int .i64 P.g)) (by kernel_rfl) (hF _ PD XD).1 (fun hHeld => ?_)
    refine wpAnyH_take (i := 0) (oi := _) (v := .pointer (some ⟨p, 0, none⟩)) rfl (by kernel_rfl) (by kernel_rfl) (by kernel_rfl) (fun _ _ _ h => h) (Or.inl ⟨by rfl, ?_⟩) (by assumption) ?_
    · intro wx hx; (try dsimp only at hx); go_simp
    try simp only [Act.put, List.getElem_toArray, List.getElem_cons_zero, List.setIfInBounds_toArray, List.set_cons_zero, List.set_cons_succ]
    refine wpAnyH_take (i := 1) (oi := _) (v := .pointer (some ⟨w.heap.size, 0, none⟩)) rfl (by kernel_rfl) (by kernel_rfl) (by kernel_rfl) (fun _ _ _ h => h) (Or.inl ⟨by rfl, ?_⟩) (by assumption) ?_
    · intro wx hx; (try dsimp only at hx); go_simp
    try simp only [Act.put, List.getElem_toArray, List.getElem_cons_succ, List.getElem_cons_zero, List.setIfInBounds_toArray, List.set_cons_zero, List.set_cons_succ]
    refine wpAnyH_take (i := 2) (oi := _) (v := .int .i64 P.g) rfl (by kernel_rfl) (by kernel_rfl) (by kernel_rfl) (fun _ _ _ h => h) (Or.inl ⟨by rfl, ?_⟩) (by assumption) ?_
    · intro wx hx; (try dsimp only at hx); go_simp
    try simp only [Act.put, List.getElem_toArray, List.getElem_cons_succ, List.getElem_cons_zero, List.setIfInBounds_toArray, List.set_cons_zero, List.set_cons_succ]
    refine wpAnyH_ready (rs := [3]) (by kernel_rfl) (by simp) ?_
    refine AllReadyH.cons (o := _) rfl (fun K hK => ?_) AllReadyH.nil
    go_simp
    refine Hwf.out.mono ?_
    rintro e w5 ⟨rfl, L5⟩
    refine hK.out _ _ ?_ (fun hHeld5 => ?_)
    · exact (hF _ (Hds.out _ L5).1 (Hds.out _ L5).2.2).1
    clear hK K hHeld
    try simp only [Act.put, List.getElem_toArray, List.getElem_cons_succ, List.getElem_cons_zero, List.setIfInBounds_toArray, List.set_cons_zero, List.set_cons_succ]
    refine wpAnyH_take (i := 4) (oi := _) (v := .bool true) rfl (by kernel_rfl) (by kernel_rfl) (by kernel_rfl) (fun _ _ _ h => h) (Or.inl ⟨by rfl, ?_⟩) (by assumption) ?_
    · intro wx hx; (try dsimp only at hx); go_simp
    try simp only [Act.put, List.getElem_toArray, List.getElem_cons_succ, List.getElem_cons_zero, List.setIfInBounds_toArray, List.set_cons_zero, List.set_cons_succ]
    refine wpAnyH_take (i := 5) (oi := _) (v := .bool true) rfl (by kernel_rfl) (by kernel_rfl) (by kernel_rfl) (fun _ _ _ h => h) (Or.inl ⟨by rfl, ?_⟩) (by assumption) ?_
    · intro wx hx; (try dsimp only at hx); go_simp
    try simp only [Act.put, List.getElem_toArray, List.getElem_cons_succ, List.getElem_cons_zero, List.setIfInBounds_toArray, List.set_cons_zero, List.set_cons_succ]
    refine wpAnyH_take (i := 6) (oi := _) (v := undef) rfl (by kernel_rfl) (by kernel_rfl) (by kernel_rfl) (fun _ _ _ h => h) (Or.inr ⟨by kernel_rfl, rfl⟩) (by assumption) ?_
    try simp only [Act.put, List.getElem_toArray, List.getElem_cons_succ, List.getElem_cons_zero, List.setIfInBounds_toArray, List.set_cons_zero, List.set_cons_succ]
    refine wpAnyH_take (i := 7) (oi := _) (v := undef) rfl (by kernel_rfl) (by kernel_rfl) (by kernel_rfl) (fun _ _ _ h => h) (Or.inr ⟨by kernel_rfl, rfl⟩) (by assumption) ?_
    try simp only [Act.put, List.getElem_toArray, List.getElem_cons_succ, List.getElem_cons_zero, List.setIfInBounds_toArray, List.set_cons_zero, List.set_cons_succ]
    refine wpAnyH_take (i := 8) (oi := _) (v := undef) rfl (by kernel_rfl) (by kernel_rfl) (by kernel_rfl) (fun _ _ _ h => h) (Or.inr ⟨by kernel_rfl, rfl⟩) (by assumption) ?_
    try simp only [Act.put, List.getElem_toArray, List.getElem_cons_succ, List.getElem_cons_zero, List.setIfInBounds_toArray, List.set_cons_zero, List.set_cons_succ]
    refine wpAnyH_take (i := 9) (oi := _) (v := undef) rfl (by kernel_rfl) (by kernel_rfl) (by kernel_rfl) (fun _ _ _ h => h) (Or.inr ⟨by kernel_rfl, rfl⟩) (by assumption) ?_
    try simp only [Act.put, List.getElem_toArray, List.getElem_cons_succ, List.getElem_cons_zero, List.setIfInBounds_toArray, List.set_cons_zero, List.set_cons_succ]
    refine wpAnyH_take (i := 10) (oi := _) (v := undef) rfl (by kernel_rfl) (by kernel_rfl) (by kernel_rfl) (fun _ _ _ h => h) (Or.inr ⟨by kernel_rfl, rfl⟩) (by assumption) ?_
    try simp only [Act.put, List.getElem_toArray, List.getElem_cons_succ, List.getElem_cons_zero, List.setIfInBounds_toArray, List.set_cons_zero, List.set_cons_succ]
    refine wpAnyH_take (i := 11) (oi := _) (v := undef) rfl (by kernel_rfl) (by kernel_rfl) (by kernel_rfl) (fun _ _ _ h => h) (Or.inr ⟨by kernel_rfl, rfl⟩) (by assumption) ?_
    try simp only [Act.put, List.getElem_toArray, List.getElem_cons_succ, List.getElem_cons_zero, List.setIfInBounds_toArray, List.set_cons_zero, List.set_cons_succ]
    refine wpAnyH_take (i := 12) (oi := _) (v := undef) rfl (by kernel_rfl) (by kernel_rfl) (by kernel_rfl) (fun _ _ _ h => h) (Or.inr ⟨by kernel_rfl, rfl⟩) (by assumption) ?_
    try simp only [Act.put, List.getElem_toArray, List.getElem_cons_succ, List.getElem_cons_zero, List.setIfInBounds_toArray, List.set_cons_zero, List.set_cons_succ]
    refine wpAnyH_take (i := 13) (oi := _) (v := undef) rfl (by kernel_rfl) (by kernel_rfl) (by kernel_rfl) (fun _ _ _ h => h) (Or.inr ⟨by kernel_rfl, rfl⟩) (by assumption) ?_
    try simp only [Act.put, List.getElem_toArray, List.getElem_cons_succ, List.getElem_cons_zero, List.setIfInBounds_toArray, List.set_cons_zero, List.set_cons_succ]
    refine wpAnyH_take (i := 14) (oi := _) (v := undef) rfl (by kernel_rfl) (by kernel_rfl) (by kernel_rfl) (fun _ _ _ h => h) (Or.inr ⟨by kernel_rfl, rfl⟩) (by assumption) ?_
    try simp only [Act.put, List.getElem_toArray, List.getElem_cons_succ, List.getElem_cons_zero, List.setIfInBounds_toArray, List.set_cons_zero, List.set_cons_succ]
    refine wpAnyH_take (i := 15) (oi := _) (v := undef) rfl (by kernel_rfl) (by kernel_rfl) (by kernel_rfl) (fun _ _ _ h => h) (Or.inr ⟨by kernel_rfl, rfl⟩) (by assumption) ?_
    try simp only [Act.put, List.getElem_toArray, List.getElem_cons_succ, List.getElem_cons_zero, List.setIfInBounds_toArray, List.set_cons_zero, List.set_cons_succ]
    refine wpAnyH_take (i := 16) (oi := _) (v := .bool true) rfl (by kernel_rfl) (by kernel_rfl) (by kernel_rfl) (fun _ _ _ h => h) (Or.inl ⟨by rfl, ?_⟩) (by assumption) ?_
    · intro wx hx; (try dsimp only at hx); go_simp
    try simp only [Act.put, List.getElem_toArray, List.getElem_cons_succ, List.getElem_cons_zero, List.setIfInBounds_toArray, List.set_cons_zero, List.set_cons_succ]
    refine wpAnyH_done (by kernel_rfl) ?_ _
    have hE1 : D.runE W ≠ 0 := of_decide_eq_false hr1
    obtain ⟨s1, s2⟩ := run_stopped (l' := Z) hE1
    rw [← Hrun.out] at s1 s2
    have hR : D.runB P.steps = false := by unfold DM.runB; rw [s1]; exact decide_eq_false hE1
    have HR := Lib.hid hR
    have S2 := Lib.hid s2
    have P5 := (Hds.out _ L5).1
    clear hE1 s1 s2 hR hr1
    go_wp2
    go_ret
    rw [(cmt_no HR.out).1, (cmt_no HR.out).2, S2.out]
    refine ⟨rfl, L5.drv.mono fun k hk h => h.elim (fun h => .inl h.1) fun h => .inr (by rw [zd] at h; omega), ⟨m, cur, l, clock, v, Sc, L.widen P5⟩, ?_⟩
    have T5 : Turn S0 w w5 := (turn_below (B4.drew) |>.mono (S' := S0) fun _ h => h).trans L5.turn fun k hk => .inl hk.1
    exact T5.mono fun k hk => .inl hk
  · rw [hr1] at Hwf
    have hE1 : D.runE W = 0 := of_decide_eq_true hr1
    obtain ⟨D1, hD1⟩ : ∃ D1, D.runD W = D1 := ⟨_, rfl⟩
    have s1 : D.runE P.steps = D1.runE Z := by rw [Hrun.out, runE_append, if_pos hE1, hD1]
    have s2 : D.runD P.steps = D1.runD Z := by rw [Hrun.out, runD_append, if_pos hE1, hD1]
    rw [hD1] at Hwf Hds hD1t
    have S2 := Lib.hid s2
    have hst := fun (w5 : World) (L5 : Dsk w4.drew w5 d (fun k => S0 k ∧ k < w.heap.size) D1) => psettle_any L5.drv (Hds.out _ L5).1.ct (fun k hk => ⟨fun e => by
        subst e
        exact hk.elim (fun h => HSS.out _ h.1 L.inS.1) fun h => by rw [zd] at h; omega, fun h => hk.elim (fun h2 => HSS.out _ h2.1 (L.inS.2.2 k h)) fun h2 => by have := hTl k (L.sub k (L.inS.2.2 k h)); rw [zd] at h2; omega⟩)
      (fun hk => hk.elim (fun h => HG0.out h.1) fun h => by rw [zd] at h; have := ht.1; omega) P.sup Hmay.out Hfine.out Hok.out.sec (Hds.out _ L5).2.1 hD1t (by omega)
    rw [HZ.out] at hst
    have hT46 : ∀ (w5 w6 : World), Dsk w4.drew w5 d (fun k => S0 k ∧ k < w.heap.size) D1 → Turn (fun k => (S0 k ∧ k < w.heap.size) ∨ w4.drew.heap.size ≤ k) w5 w6 → Turn (fun k => S0 k ∧ k < w.heap.size) w4.drew w6 := fun w5 w6 L5 X => L5.turn.trans X fun k hk => hk
    have hstay6 : ∀ w5 w6, Dsk w4.drew w5 d (fun k => S0 k ∧ k < w.heap.size) D1 → Turn (fun k => (S0 k ∧ k < w.heap.size) ∨ w4.drew.heap.size ≤ k) w5 w6 → PL w6 p d m cur l clock v Sc S T P ∧ SB w6 w.heap.size P.sup ∧ Turn S0 w w6 := fun w5 w6 L5 X => by
      have Y := hT46 w5 w6 L5 X
      refine ⟨PD.other Y (fun k hk => HST.out k hk.1) fun k hk => HSS.out k hk.1, XD.block (Y.block _ (by rw [zd]; omega) fun h => by have := h.2; omega), (turn_below (B4.drew) |>.mono (S' := S0) fun _ h => h).trans Y fun k hk => .inl hk.1⟩
    have Hst6 := Lib.hid hstay6
    have Hst := Lib.hid hst
    clear hE1 hD1 s2 hr1 hT46 hstay6 hst
    cases hr2 : D1.runB Z
    · have hR : D.runB P.steps = false := by unfold DM.runB at hr2 ⊢; rw [s1]; exact hr2
      have HR := Lib.hid hR
      rw [hr2] at Hst
      clear hR hr2 s1
      go_wp2_with fail
      go_region_held3 (fun wr => wr.cell? ⟨w.heap.size, 0, none⟩ = some (.int .i64 P.g) ∧ (ldS (.pointer (some ⟨w.heap.size, 0, none⟩))).run Tryz.prog wr = .ok (.agg P.sup.vs.toArray) wr ∧ wr.cell? ⟨p, 0, none⟩ = some (.pointer (some ⟨d, 0, none⟩)))
        (first | assumption | exact hF _ PD XD | exact hF _ (Hds.out _ L5).1 (Hds.out _ L5).2.2 | exact hF _ (Hst6.out _ _ L5 L6.turn).1 (Hst6.out _ _ L5 L6.turn).2.1)
        (first
          | (go_at_call 35; refine Hwf.out.mono ?_; rintro e w5 ⟨rfl, L5⟩)
          | (go_at_call 36; refine (Hst.out _ L5).mono ?_; rintro e w6 ⟨rfl, L6⟩)
          | fail)
      obtain ⟨P6, X6, T6⟩ := Hst6.out _ _ L5 L6.turn
      go_wp2
      go_ret
      rw [(cmt_no HR.out).1, (cmt_no HR.out).2, S2.out]
      exact ⟨rfl, L6.drv.mono fun k hk h => h.elim (fun h => h.elim (fun h => .inl h.1) fun h => .inr (by rw [zd] at h; omega)) fun h => .inr (by have := L5.turn.size; rw [zd] at this; omega), ⟨m, cur, l, clock, v, Sc, L.widen P6⟩, T6.mono fun k hk => .inl hk⟩
    · have hR : D.runB P.steps = true := by unfold DM.runB at hr2 ⊢; rw [s1]; exact hr2
      have HR := Lib.hid hR
      rw [hr2] at Hst
      clear hR hr2 s1
      go_wp2_with fail
      go_region_held3 (fun wr => wr.cell? ⟨w.heap.size, 0, none⟩ = some (.int .i64 P.g) ∧ (ldS (.pointer (some ⟨w.heap.size, 0, none⟩))).run Tryz.prog wr = .ok (.agg P.sup.vs.toArray) wr ∧ wr.cell? ⟨p, 0, none⟩ = some (.pointer (some ⟨d, 0, none⟩)))
        (first | assumption | exact hF _ PD XD | exact hF _ (Hds.out _ L5).1 (Hds.out _ L5).2.2 | exact hF _ (Hst6.out _ _ L5 L6.turn).1 (Hst6.out _ _ L5 L6.turn).2.1)
        (first
          | (go_at_call 35; refine Hwf.out.mono ?_; rintro e w5 ⟨rfl, L5⟩)
          | (go_at_call 36; refine (Hst.out _ L5).mono ?_; rintro e w6 ⟨rfl, L6⟩)
          | fail)
      obtain ⟨P6, X6, T6⟩ := Hst6.out _ _ L5 L6.turn
      have hl6 := X6.ld
      have D6 : Drv w6 d (fun k => S0 k ∨ w.heap.size ≤ k) (D.runD P.steps) := by
        rw [S2.out]
        exact L6.drv.mono fun k hk h => h.elim (fun h => h.elim (fun h => .inl h.1) fun h => .inr (by rw [zd] at h; omega)) fun h => .inr (by have := L5.turn.size; rw [zd] at this; omega)
      go_wp2_with (first
        | (refine wp_store_pl rfl (.tmp 35) (.tmp 33) rfl P6 rfl P.sup rfl ?_; intro w7 cur7 me7 ph7 ct7 T7; have C7 : CCo w7 p 36 Sc P.C := P6.ct.around P6.me me7 (fun j _ => ct7 j) (fun k hk e => (P6.ne k hk).1 e.symm) fun k hk hs => T7.block k hk fun e => (P6.ne k hs).1 e)
        | (go_at_call 37; refine (ccommit_any C7).mono ?_; rintro e w8 ⟨rfl, C8, T8⟩; have me8 := (T8.block p (lt_of_heap me7) fun h => (P6.ne p h).1 rfl).trans me7; have q408 := cell_at me8 ph7.fresh; have map7 := (T7.block m P6.mlt fun e => P6.p_m e.symm).trans P6.map; have map8 := (T8.block m (lt_of_heap map7) fun h => (P6.ne m h).2 rfl).trans map7; have hclr := fun ty => run_clear_ints (P := Tryz.prog) (t := 90) (k := 3) (e := 35) Tryz.underlying90 map8 ty)
        | fail)
      have T9 : Turn (fun k => k = m) w8 (setBlock w8 m (.map #[] clock)) := turn_setBlock _ rfl
      have map9 : (setBlock w8 m (.map #[] clock)).heap[m]? = some (.map #[] clock) := setBlock_at (lt_of_heap map8)
      clear hclr
      generalize setBlock w8 m (.map #[] clock) = w9 at T9 map9 ⊢
      go_wp2
      go_ret
      rw [(cmt_yes HR.out).1, (cmt_yes HR.out).2]
      have hdis : ∀ k, (S0 k ∨ w.heap.size ≤ k) → k < w6.heap.size → k ≠ p ∧ k ≠ m ∧ ¬ Sc k := fun k hk _ => by
        have hp := L.inS
        refine ⟨fun e => ?_, fun e => ?_, fun h => ?_⟩
        · subst e; exact hk.elim (fun h => HSS.out _ h hp.1) fun h => by omega
        · subst e; exact hk.elim (fun h => HSS.out _ h hp.2.1) fun h => by omega
        · exact hk.elim (fun h2 => HSS.out _ h2 (hp.2.2 k h)) fun h2 => by have := hTl k (L.sub k (hp.2.2 k h)); omega
      have z67 := T7.size
      have z78 := T8.size
      have me9 := (T9.block p (lt_of_heap me8) L.p_m).trans me8
      have C9 : CCo w9 p 36 Sc P.C.commit := C8.keep (T9.block p (lt_of_heap me8) L.p_m) fun k hk hs => T9.block k hk fun e => (L.ne k hs).2 e
      have D9 : Drv w9 d (fun k => S0 k ∨ w.heap.size ≤ k) (D.runD P.steps) := D6.keep fun k hk hs => by
        obtain ⟨h1, h2, h3⟩ := hdis k hs hk
        exact (T9.block k (by omega) h2).trans ((T8.block k (by omega) h3).trans (T7.block k hk h1))
      have T69 : Turn S w6 w9 := ((T7.mono fun k hk => by rw [hk]; exact L.inS.1).trans (T8.mono L.inS.2.2) fun k hk => .inl hk).trans T9 fun k hk => by rw [hk]; exact .inl L.inS.2.1
      refine ⟨rfl, D9, ⟨m, cur7, [], clock, v, Sc, me9, ph7, C9, map9, ⟨fun e he => (by cases he), List.nodup_nil, List.nodup_nil, fun e he => (by cases he)⟩, fun a => ?_, fun e he => (by cases he), fun a b h => ?_, fun a b h => (by cases h), L.inS, L.ne, fun k hk => .inl (L.sub k hk), done_ok Hok.out hgen, Hfine.out⟩, (T6.mono fun k hk => .inl hk).then (T69.mono fun k hk => .inr hk)⟩
      · rw [live_done]; rfl
      · rw [live_done] at h; cases h
end Go.Proofs.YtgedmodnkiijkaaGreatDoor
