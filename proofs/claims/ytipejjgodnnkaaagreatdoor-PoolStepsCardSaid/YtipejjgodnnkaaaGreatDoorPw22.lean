/- The code's pool: writeFresh. The code's pool: Commit. The code's pool: Bytes of anything; Clone. A pool and its drive, for the laws: their blocks are T's, all from b on. Laws of the pool, plain facts: what is read of what was put, and committed. Laws of the pool, plain facts: blocks laid down one behind the other. Laws of the pool: the document's example. -/
import Derived.Test.YtipejjgodnnkaaaGreatDoorMore
import Derived.Test.YtipejjgodnnkaaaGreatDoorPw16
import Derived.Test.YtipejjgodnnkaaaGreatDoorPw20
import Derived.Test.YtipejjgodnnkaaaGreatDoorPoS
import Derived.Test.YtipejjgodnnkaaaGreatDoorPw21
import Derived.Lib.SlBytesConst
namespace Go.Proofs.YtipejjgodnnkaaaGreatDoor
open Go Go.RowKit Go.Proofs
open Go.ChangeMaps (setBlock)

def Pl.keysN (P : Pl) : List Nat := (List.range P.C.n).filter fun a => (P.live a).isSome
def Pl.outAt (P : Pl) (a : Nat) : List UInt8 := match P.live a with | some b => b.out a P.g | none => []
theorem new_keys (P : Pl) : wIn P.new = P.keysN.map fun a => Stp.w a (P.outAt a) := by
  unfold wIn Pl.new Pl.keysN
  rw [show P.newA = fun a => (P.live a).map fun b => (a, b.out a P.g) from funext (newA_live P)]
  generalize List.range P.C.n = l
  induction l with
  | nil => rfl
  | cons a l ih =>
    rw [List.filterMap_cons, List.filter_cons]
    cases h : P.live a with
    | none => simpa [h] using ih
    | some b =>
      simp only [Option.map_some, Option.isSome_some, if_true, List.map_cons, ih]
      rw [show P.outAt a = b.out a P.g by unfold Pl.outAt; rw [h]]
theorem keysN_at {P : Pl} {j : Nat} (hj : j < P.keysN.length) : P.keysN[j] < P.C.n ∧ ∃ b, P.live P.keysN[j] = some b := by
  have h := List.getElem_mem hj
  unfold Pl.keysN at h ⊢
  rw [List.mem_filter, List.mem_range] at h
  exact ⟨h.1, Option.isSome_iff_exists.1 h.2⟩

set_option maxRecDepth 100000 in
set_option maxHeartbeats 8000000 in
theorem pwritefresh_any {w : World} {p d : Nat} {S0 S T : Nat → Prop} {D : DM} {P : Pl} (L0 : Drv w d S0 D) (H : Pool w p d S T P) (hST : ∀ k, S0 k → T k) (hSS : ∀ k, S0 k → ¬ S k) (hG : ¬ S0 1) (ht : Tab w) {m0 : Nat} (htm : D.tame m0) (hm0 : m0 ≤ 600000) :
    Calls Tryz.prog 64 #[.pointer (some ⟨p, 0, none⟩), .int .i64 P.g] w fun e w' => e = .returned (.bool (D.runB (wIn P.new))) ∧ Dsk w w' d S0 (D.runD (wIn P.new)) := by
  have hok := H.ok
  have hgen := gen0_of hok.genOk
  have hcn := hok.c.1
  obtain ⟨m, cur, l, clock, v, Sc, L⟩ := H
  have hpl := L.plt
  have hml := L.mlt
  obtain ⟨g, hg⟩ : ∃ g, P.g = g := ⟨_, rfl⟩
  rw [hg] at hgen
  -- the keys
  have hkz : keysZ l = P.keysN.map fun a : Nat => (a : Int) := keysZ_eq L.ents (fun a => (P.live a).isSome) L.keys fun a _ => by rw [L.look a]; cases P.live a <;> rfl
  have hll : l.length = P.keysN.length := by
    have h1 : (keysZ l).length = l.length := by unfold keysZ; rw [List.length_mergeSort, List.length_map]
    rw [← h1, hkz, List.length_map]
  have hle : P.keysN.length ≤ P.C.n := by
    have := List.length_filter_le (fun a => (P.live a).isSome) (List.range P.C.n)
    rw [List.length_range] at this
    exact this
  have hrange : ∀ e ∈ l, 0 ≤ kI e ∧ kI e ≤ 100000 := fun e he => by obtain ⟨a, ha, hk⟩ := L.keys e he; omega
  obtain ⟨W, hW⟩ : ∃ W, wIn P.new = W := ⟨_, rfl⟩
  have hWk : W = P.keysN.map fun a => Stp.w a (P.outAt a) := by rw [← hW, new_keys]
  obtain ⟨K, hK⟩ : ∃ K, P.keysN = K := ⟨_, rfl⟩
  have hKat : ∀ j (hj : j < K.length), K[j] < P.C.n ∧ ∃ b, P.live K[j] = some b := by subst hK; exact fun j hj => keysN_at hj
  rw [hK] at hkz hll hle hWk
  obtain ⟨n, hn⟩ : ∃ n, l.length = n := ⟨_, rfl⟩
  have hKn : K.length = n := by omega
  have hn2 : n ≤ 2048 := by omega
  have hWl : W.length = n := by rw [hWk, List.length_map, hKn]
  have hWn : ∀ j (hj : j < K.length), W.take (j + 1) = W.take j ++ [.w K[j] (P.outAt K[j])] := fun j hj => by
    rw [hWk, List.take_add_one, List.getElem?_map, List.getElem?_eq_getElem hj]
    rfl
  rw [hW, hg]
  have HKat := Lib.hid hKat
  have HWn := Lib.hid hWn
  have HWl := Lib.hid hWl
  have HKn := Lib.hid hKn
  have Hkz := Lib.hid hkz
  have Hg := Lib.hid hg
  have Hgen := Lib.hid hgen
  have HST := Lib.hid hST
  have HSS := Lib.hid hSS
  have HG := Lib.hid hG
  -- the calls for the keys
  have b1 : Below w.heap.size w (w.alloc (.cells #[.map (some m)] 108)) := (Below.refl _ _).alloc (Nat.le_refl _) _
  have q40 := L.c40
  have hmap1 := (b1.block m hml).trans L.map
  have hso := posorted_any hmap1 L.ents hrange (by omega) (heap_alloc_new w (.cells #[.map (some m)] 108))
  rw [hn] at hso
  have Hso := Lib.hid hso
  clear hW hWk hK hkz hll hle hrange hKn hn hWl hWn hKat hg hgen hST hSS hG hso hmap1
  go_enter Tryz.func64, Tryz.ntmps64
  go_wp2_with fail
  refine (pokeys_any (some m) w).mono ?_
  rintro e w1 ⟨rfl, rfl⟩
  go_wp2_with fail
  refine Hso.out.mono ?_
  rintro e w2 ⟨vk, rfl, hrow, b2⟩
  have B2 := b1.trans (b2.mono b1.size)
  obtain ⟨A, ck, rfl, hk1, hk2⟩ := owns_any hrow
  have hcell : ∀ j (hj : j < K.length), ∃ gk, A = some ⟨gk, 0, none⟩ ∧ w.heap.size ≤ gk ∧ gk < w2.heap.size ∧ w2.cell? ⟨gk, j, none⟩ = some (.int .i64 (K[j] : Int)) := fun j hj => by
    have hj2 : j < n := by rw [← HKn.out]; exact hj
    obtain ⟨gk, c2, ev, _, _⟩ := owns_form hrow (by omega)
    injection ev with ev _ ec
    subst ev
    subst ec
    have hlt := World.ownsRow.lt hrow gk rfl
    have hN : NRow w2 gk n ck (keysZ l) := owns_base hrow (Nat.zero_le _)
    refine ⟨gk, rfl, by have := hlt.1; have := b1.size; omega, hlt.2, ?_⟩
    rw [(hN.at_ hj2).1, Hkz.out]
    congr 2
    unfold nm
    rw [List.getD_eq_getElem?_getD, List.getElem?_map, List.getElem?_eq_getElem hj]
    rfl
  have Hcell := Lib.hid hcell
  clear hcell hrow
  have L2 := L0.tight.below B2
  have P2 := L.below B2
  have t2 := ht.below B2 ht.1
  have z2 := B2.size
  -- what stays while the drive turns
  have hstay : ∀ wr, Turn (fun k => S0 k ∧ k < w.heap.size) w2 wr → PL wr p d m cur l clock v Sc S T P ∧ Tab wr ∧ (∀ gk j, w.heap.size ≤ gk → gk < w2.heap.size → wr.cell? ⟨gk, j, none⟩ = w2.cell? ⟨gk, j, none⟩) := fun wr X =>
    ⟨P2.other X (fun k hk => HST.out k hk.1) (fun k hk => HSS.out k hk.1), t2.turned X fun h => HG.out h.1, fun gk j h1 h2 => World.cell?_of_block (a := ⟨gk, j, none⟩) (X.block gk h2 fun h => by have := h.2; omega)⟩
  have Hst := Lib.hid hstay
  have D0 := L2.dsk
  clear hstay L2 P2 t2 b1 b2 q40
  go_wp2_with fail
  go_loopw [6, 14] (fun _ i wr => ∃ j : Nat, j ≤ n ∧ i = .int .i64 (j : Int) ∧ D.runE (W.take j) = 0 ∧ Dsk w2 wr d (fun k => S0 k ∧ k < w.heap.size) (D.runD (W.take j))) (fun _ i _ => n - (Go.RowKit.intOf i).toNat)
  case atStart => exact ⟨0, by omega, rfl, rfl, D0⟩
  case round =>
    clear D0
    obtain ⟨j, hj, rfl, hE, L1⟩ := hrel
    have htj := tame_run (W.take j) htm
    have hlen : (W.take j).length ≤ 2048 := by rw [List.length_take, HWl.out]; omega
    obtain ⟨D1, hD1⟩ : ∃ D1, D.runD (W.take j) = D1 := ⟨_, rfl⟩
    rw [hD1] at L1 htj
    have HD1 := Lib.hid hD1
    have HE := Lib.hid hE
    obtain ⟨P3, t3, c3⟩ := Hst.out wr L1.turn
    clear hD1 hE
    by_cases hlt : j < n
    · have hjK : j < K.length := by rw [HKn.out]; exact hlt
      obtain ⟨han, b, hb⟩ := HKat.out j hjK
      obtain ⟨gk, rfl, hk3, hk4, hk5⟩ := Hcell.out j hjK
      have Hnx := Lib.hid (HWn.out j hjK)
      obtain ⟨a, ha⟩ : ∃ a, K[j] = a := ⟨_, rfl⟩
      rw [ha] at han hb hk5
      have hx : P.outAt a = b.out a g := by unfold Pl.outAt; rw [hb, Hg.out]
      obtain ⟨x, hxx⟩ : ∃ x, b.out a g = x := ⟨_, rfl⟩
      have hE1 := Lib.hid (show D.runE (W.take (j + 1)) = D1.says (.w a x) by rw [Hnx.out, runE_snoc, if_pos HE.out, HD1.out, ha, hx, hxx])
      have hD2 := Lib.hid (show D.runD (W.take (j + 1)) = D1.does (.w a x) by rw [Hnx.out, runD_snoc, if_pos HE.out, HD1.out, ha, hx, hxx])
      have hcl := (c3 gk j hk3 hk4).trans hk5
      have hgood : b.good := L.good a b (by unfold Pl.live at hb; split at hb; cases hb; exact hb)
      have hlook : getE (a : Int) l = some (v a) := by rw [L.look a, hb]; rfl
      have hF : ∀ w', PL w' p d m cur l clock v Sc S T P → w'.cell? ⟨p, 0, none⟩ = some (.pointer (some ⟨d, 0, none⟩)) ∧ w'.cell? ⟨p, 40, none⟩ = some (.map (some m)) ∧ (Instr.lookup 108 (.map (some m)) (.int .i64 (a : Int)) false).run Tryz.prog w' = .ok (v a) w' := fun w' P' =>
        ⟨P'.c0, P'.c40, by rw [run_lookup_ints P'.ents Tryz.underlying108 Tryz.underlying3 (Tryz.zeroValue30 w') P'.map (a : Int), hlook]; rfl⟩
      have PD : PL wr.drew p d m cur l clock v Sc S T P := P3.keep (fun _ _ _ => rfl) (Nat.le_refl _)
      obtain ⟨q, cq, hva, hsl, hqT⟩ := PD.row a b hb
      rw [hva] at hF
      have hdt := pdated_any b hgood a (by omega) g Hgen.out _ _ _ wr.drew hsl (t3.below (Below.refl _ _).drew t3.1)
      rw [hxx] at hdt
      have Hdt := Lib.hid hdt
      obtain ⟨E, hEE⟩ : ∃ E, D1.says (.w a x) = E := ⟨_, rfl⟩
      have HEE := Lib.hid hEE
      have ja : a < 2048 := by omega
      have B01 : Below wr.heap.size wr wr.drew := (Below.refl _ _).drew
      have hgk : gk < wr.heap.size := by have := L1.turn.size; omega
      clear hEE hdt hxx hx ha hb hva hsl hgood hlook hk5 han c3
      by_cases h0 : E = 0
      · have nb : (E != 0) = false := by simpa using h0
        have H0 := Lib.hid h0
        clear h0
        go_wp2_with fail
        go_region_held3 (fun w' => w'.cell? ⟨p, 0, none⟩ = some (.pointer (some ⟨d, 0, none⟩)) ∧ w'.cell? ⟨p, 40, none⟩ = some (.map (some m)) ∧ (Instr.lookup 108 (.map (some m)) (.int .i64 (a : Int)) false).run Tryz.prog w' = .ok (.slice (some ⟨q, 0, none⟩) 256 cq) w')
          (first | assumption | exact hF _ PD | exact hF _ (PD.below b5) | exact hF _ (Hst.out _ L7.turn).1)
          (first
            | (go_at_call 117; refine Hdt.out.mono ?_; rintro e w5 ⟨q5, rfl, own5, b5⟩; have L5 := L1.below (B01.trans b5))
            | (go_at_call 37; have hh := b5; refine (dwrite_any L5 htj (by omega) a _ rfl _ 256 256 x own5.sl).mono ?_; rw [HEE.out]; rintro e w7 ⟨rfl, L7⟩)
            | fail)
        go_wp2
        exact ⟨⟨j + 1, by omega, by go_num, hE1.out.trans (HEE.out.trans H0.out), by rw [hD2.out]; exact L7⟩, by simp [Go.RowKit.intOf]; omega⟩
      · have nb : (E != 0) = true := by simpa using h0
        have hstop : D.runE (W.take (j + 1)) ≠ 0 := fun h => h0 (HEE.out.symm.trans (hE1.out.symm.trans h))
        have hall : W = W.take (j + 1) ++ W.drop (j + 1) := (List.take_append_drop _ _).symm
        obtain ⟨r1, r2⟩ := run_stopped (l' := W.drop (j + 1)) hstop
        rw [← hall] at r1 r2
        have R1 := Lib.hid (show D.runB W = false by unfold DM.runB; rw [r1]; exact decide_eq_false hstop)
        have R2 := Lib.hid (show D.runD W = D1.does (.w a x) by rw [r2, hD2.out])
        clear hall r1 r2 hstop h0
        go_wp2_with fail
        go_region_held3 (fun w' => w'.cell? ⟨p, 0, none⟩ = some (.pointer (some ⟨d, 0, none⟩)) ∧ w'.cell? ⟨p, 40, none⟩ = some (.map (some m)) ∧ (Instr.lookup 108 (.map (some m)) (.int .i64 (a : Int)) false).run Tryz.prog w' = .ok (.slice (some ⟨q, 0, none⟩) 256 cq) w')
          (first | assumption | exact hF _ PD | exact hF _ (PD.below b5) | exact hF _ (Hst.out _ L7.turn).1)
          (first
            | (go_at_call 117; refine Hdt.out.mono ?_; rintro e w5 ⟨q5, rfl, own5, b5⟩; have L5 := L1.below (B01.trans b5))
            | (go_at_call 37; have hh := b5; refine (dwrite_any L5 htj (by omega) a _ rfl _ 256 256 x own5.sl).mono ?_; rw [HEE.out]; rintro e w7 ⟨rfl, L7⟩)
            | fail)
        go_wp2
        go_ret
        exact ⟨by rw [R1.out]; rfl, by rw [R2.out]; exact L7.from B2⟩
    · have hjn : j = n := by omega
      subst hjn
      have hfull : W.take j = W := List.take_of_length_le (by rw [HWl.out]; exact Nat.le_refl _)
      have hE0 := HE.out
      have hD0 := HD1.out
      rw [hfull] at hE0 hD0
      have R1 := Lib.hid (show D.runB W = true from decide_eq_true hE0)
      have R2 := Lib.hid hD0
      have e3 : ¬ (j : Int) < (j : Int) := by omega
      clear hE0 hD0 hfull c3
      go_wp2
      go_ret
      exact ⟨by rw [R1.out]; rfl, by rw [R2.out]; exact L1.from B2⟩
end Go.Proofs.YtipejjgodnnkaaaGreatDoor

namespace Go.Proofs.YtipejjgodnnkaaaGreatDoor
open Go Go.RowKit Go.Proofs
open Go.ChangeMaps (setBlock)

theorem steps_set (P : Pl) : P.steps = wIn P.new ++ setL P.C P.sup := by
  unfold Pl.steps setL cmtL Pl.blocks
  rw [List.append_assoc]
  rfl
/-- Commit's answer: no step fails, or the power is gone. -/
def DM.cmtE (D : DM) (P : Pl) : Int := if D.runB P.steps = true then 0 else 4
/-- .. and the pool behind it. -/
def DM.cmtP (D : DM) (P : Pl) : Pl := if D.runB P.steps = true then P.done else P
theorem cmt_yes {D : DM} {P : Pl} (h : D.runB P.steps = true) : D.cmtE P = 0 ∧ D.cmtP P = P.done := by unfold DM.cmtE DM.cmtP; rw [h]; exact ⟨rfl, rfl⟩
theorem cmt_no {D : DM} {P : Pl} (h : D.runB P.steps = false) : D.cmtE P = 4 ∧ D.cmtP P = P := by unfold DM.cmtE DM.cmtP; rw [h]; exact ⟨rfl, rfl⟩
theorem SB.set0 {w : World} {b : Nat} {S : Sp} (H : SB w b S) (x : Int) : SB (w.setCell ⟨b, 0, none⟩ (.int .i64 x)) b ⟨x, S.sectors, S.log, S.vols, S.len⟩ := by
  obtain ⟨t, H⟩ := H
  exact ⟨t, heap_setCell_same w b 0 _ t _ H⟩
section
variable {w w1 : World} {p d m clock : Nat} {cur : Array Value} {l : List MapEntry} {v : Nat → Value} {Sc S T : Nat → Prop} {P : Pl}
theorem PL.apart {S0 : Nat → Prop} (L : PL w p d m cur l clock v Sc S T P) (hSS : ∀ k, S0 k → ¬ S k) : ∀ k, S0 k → k ≠ p ∧ ¬ Sc k := fun k hk => ⟨fun e => hSS k hk (e ▸ L.inS.1), fun h => hSS k hk (L.inS.2.2 k h)⟩
end
theorem run_clear_ints {P : Program} {w : World} {t k e b clock : Nat} {l : List MapEntry} (ht : P.underlying t = some (.map k e)) (hb : w.heap[b]? = some (.map l.toArray clock)) (ty : TypeId) :
    (Builtin.clear_ #[t] ty #[.map (some b)]).run P w = .ok (.tuple #[]) (setBlock w b (.map #[] clock)) := by
  simp [Builtin.clear_, run_underlying ht, MapKept.run_getObj_map hb, MapKept.run_setObj_map _ hb, Result.andThen]
  rfl
/-- A pool's superblock is stored. -/
theorem wp_store_pl {ops : Array Oper} {rest : List Oper} {o : Oper} {a : Act} {w : World} {Q : Exit → Act → World → Prop} (hg : o.guard = none) (x y : Operand) (hop : o.op = Op.store 56 x y)
    {p d m clock : Nat} {cur : Array Value} {l : List MapEntry} {v : Nat → Value} {Sc S T : Nat → Prop} {P : Pl} (L : PL w p d m cur l clock v Sc S T P) (hx : a.eval x = .pointer (some ⟨p, 1, none⟩)) (S' : Sp) (hy : a.eval y = .agg S'.vs.toArray)
    (hK : ∀ w' cur', w'.heap[p]? = some (.cells cur' 110 (0, 0)) → PH cur' d m S' → (∀ j, cur'[36 + j]? = cur[36 + j]?) → Turn (fun k => k = p) w w' → wpList Tryz.prog ops Q rest (a.put o.dst undef) w') : wpList Tryz.prog ops Q (o :: rest) a w := by
  have ht : w.there p 1 S'.vs.toArray.size := by rw [List.size_toArray, S'.vs_len]; exact L.there (by omega)
  refine wpList_store_mid hg _ x y hop p 1 S'.vs.toArray hx hy ht (by rw [List.size_toArray, S'.vs_len]; kernel_rfl) (all_oneCell_toArray S'.one) ?_
  have Tn := turn_setCells (S := fun k => k = p) rfl S'.vs 1 w
  have hsz := L.ph.size
  have e := heap_setCells_row p 110 S'.vs 1 w cur.toList (by rw [Array.toArray_toList]; exact L.me) (by rw [S'.vs_len, Array.length_toList]; omega)
  have hcl : cur.toList.length = 41 := by rw [Array.length_toList]; exact hsz
  have hsp : ∀ j, (splice cur.toList 1 S'.vs)[j]? = if j = 0 then cur[0]? else if j < 36 then S'.vs[j - 1]? else cur[j]? := fun j => by
    unfold splice
    rw [S'.vs_len]
    by_cases h0 : j = 0
    · subst h0
      rw [if_pos rfl, List.getElem?_append_left (by rw [List.length_take]; omega), List.getElem?_take, if_pos (by omega), Array.getElem?_toList]
    · rw [if_neg h0]
      by_cases h1 : j < 36
      · rw [if_pos h1, List.getElem?_append_right (by rw [List.length_take]; omega), List.getElem?_append_left (by rw [List.length_take, S'.vs_len]; omega), List.length_take, show min 1 cur.toList.length = 1 by omega]
      · rw [if_neg h1, List.getElem?_append_right (by rw [List.length_take]; omega), List.getElem?_append_right (by rw [List.length_take, S'.vs_len]; omega), List.length_take, S'.vs_len, List.getElem?_drop, show 1 + 35 + (j - min 1 cur.toList.length - 35) = j by omega, Array.getElem?_toList]
  refine hK _ _ e ⟨?_, ?_, fun j x hx => ?_, ?_⟩ (fun j => ?_) Tn
  · rw [List.size_toArray]
    unfold splice
    rw [List.length_append, List.length_append, List.length_take, List.length_drop, S'.vs_len]
    omega
  · rw [List.getElem?_toArray, hsp, if_pos rfl]; exact L.ph.disk
  · have hj := (List.getElem?_eq_some_iff.1 hx).1
    rw [S'.vs_len] at hj
    rw [List.getElem?_toArray, hsp, if_neg (by omega), if_pos (by omega), show 1 + j - 1 = j by omega]
    exact hx
  · rw [List.getElem?_toArray, hsp, if_neg (by omega), if_neg (by omega)]; exact L.ph.fresh
  · rw [List.getElem?_toArray, hsp, if_neg (by omega), if_neg (by omega)]
theorem done_ok {P : Pl} (h : P.ok) (hg : P.g < 1099511627775) : P.done.ok := ⟨h.c |> Ct.commit_ok, h.res, h.supMay, h.sec, hg, fun a b hb => by cases hb⟩
theorem live_done (P : Pl) (a : Nat) : P.done.live a = none := by unfold Pl.live; split <;> rfl
theorem PL.widen {w w6 : World} {p d m clock : Nat} {cur : Array Value} {l : List MapEntry} {v : Nat → Value} {Sc S T : Nat → Prop} {P : Pl} (L : PL w p d m cur l clock v Sc S T P) (L6 : PL w6 p d m cur l clock v Sc S T P) : PL w6 p d m cur l clock v Sc S (fun k => T k ∨ w.heap.size ≤ k) P :=
  ⟨L6.me, L6.ph, L6.ct, L6.map, L6.ents, L6.look, L6.keys, fun a b h => by
    obtain ⟨g, c, e, hs, hg⟩ := L6.row a b h
    obtain ⟨g', c', e', hs', _⟩ := L.row a b h
    rw [e] at e'
    injection e' with e' _ _
    injection e' with e'
    injection e' with e' _ _
    subst e'
    have hlt := sl_lt hs' (by omega)
    exact ⟨g, c, e, hs, fun h => h.elim hg fun h => by omega⟩, L6.good, L6.inS, L6.ne, fun k hk => .inl (L6.sub k hk), L6.ok, L6.fineS⟩
attribute [local go_sem ↓] ldS_shut alS_shut
set_option maxRecDepth 100000 in
set_option maxHeartbeats 8000000 in
theorem pcommit_any {w : World} {p d : Nat} {S0 S T : Nat → Prop} {D : DM} {P : Pl} (L0 : Drv w d S0 D) (H : Pool w p d S T P) (hST : ∀ k, S0 k → T k) (hSS : ∀ k, S0 k → ¬ S k) (hT : ∀ k, T k → k < w.heap.size) (hG : ¬ T 1) (ht : Tab w) {m0 : Nat} (htm : D.tame m0) (hm0 : m0 ≤ 500000) (hgen : P.g < 1099511627775) :
    Calls Tryz.prog 15 #[.pointer (some ⟨p, 0, none⟩)] w fun e w' => e = .returned (.int .i64 (D.cmtE P)) ∧ Drv w' d (fun k => S0 k ∨ w.heap.size ≤ k) (D.runD P.steps) ∧ Pool w' p d S (fun k => T k ∨ w.heap.size ≤ k) (D.cmtP P) ∧ Turn (fun k => S0 k ∨ S k) w w' := by
  have hok := H.ok
  obtain ⟨m, cur, l, clock, v, Sc, L⟩ := H
  have hpl := L.plt
  have hml := L.mlt
  have hmay := hok.supMay
  have hfine := may_fine hmay
  have hal := alS_run
  have hG0 : ¬ S0 1 := fun h => hG (hST _ h)
  have b1 : Below w.heap.size w (w.alloc (.cells Sp.zero.vs.toArray 56)) := (Below.refl _ _).alloc (Nat.le_refl _) _
  have hl1 := L.ld
  have X1 := SB.new w Sp.zero 56
  have hgg : P.S.gen + 1 = P.g := rfl
  have hg0 : 0 ≤ P.S.gen ∧ P.S.gen ≤ 1099511627775 := ⟨by have := (may_parts hok.may).1; omega, by have := hok.gen; omega⟩
  obtain ⟨g0, hg0'⟩ : ∃ g, P.S.gen = g := ⟨_, rfl⟩
  rw [hg0'] at hg0 hgg
  have Hgg := Lib.hid hgg
  have Hmay := Lib.hid hmay
  clear hgg hmay
  have hrunA := steps_set P
  obtain ⟨W, hW⟩ : ∃ W, wIn P.new = W := ⟨_, rfl⟩
  obtain ⟨Z, hZ⟩ : ∃ Z, setL P.C P.sup = Z := ⟨_, rfl⟩
  rw [hW, hZ] at hrunA
  have HW := Lib.hid hW
  have HZ := Lib.hid hZ
  have Hrun := Lib.hid hrunA
  have Hfine := Lib.hid hfine
  have Hok := Lib.hid hok
  have HT := Lib.hid hT
  have HST := Lib.hid hST
  have HSS := Lib.hid hSS
  have HG0 := Lib.hid hG0
  have Hg0' := Lib.hid hg0'
  have LT := L0.tight
  have hn2 : D.n = D.n := rfl
  clear hrunA hW hZ hfine hok hT hST hSS hG0
  go_enter Tryz.func15, Tryz.ntmps15
  go_wp2_with (first
    | (refine wp_store_sp rfl (.tmp 3) (.tmp 7) rfl w.heap.size rfl P.S Sp.zero rfl X1 ?_; intro w2 X2 hb2 T2; have q0 := X2.c0; rw [hg0'] at q0; have f0 := X2.fz 0; have X3 := X2.set0 (g0 + 1); rw [show (⟨g0 + 1, P.S.sectors, P.S.log, P.S.vols, P.S.len⟩ : Sp) = P.sup by rw [Hgg.out]; rfl] at X3; have hl3 := X3.ld)
    | fail)
  have B3 : Below w.heap.size w (w2.setCell ⟨w.heap.size, 0, none⟩ (.int .i64 (g0 + 1))) := (b1.trans (hb2 _ (Nat.le_refl _))).setCell (p := ⟨w.heap.size, 0, none⟩) (Nat.le_refl _) _
  generalize w2.setCell ⟨w.heap.size, 0, none⟩ (.int .i64 (g0 + 1)) = w3 at X3 hl3 B3 ⊢
  refine (smay_any P.sup true Hmay.out Hfine.out w3).mono ?_
  rintro e w4 ⟨rfl, b4⟩
  have B4 := B3.trans (b4.mono B3.size)
  have X4 := X3.below b4 X3.lt
  have L4 := LT.below B4
  have P4 := L.below B4
  have t4 := ht.below B4 ht.1
  have z4 : w.heap.size < w4.heap.size := X4.lt
  have hTl : ∀ k, T k → k < w.heap.size := HT.out
  have hgn0 : (P.sup).gen = P.g := rfl
  clear X3 hl3 X2 hb2 T2 q0 f0 b1 hl1 X1 hal
  -- the drive's blocks, tight
  have hstay : ∀ wr, Turn (fun k => S0 k ∧ k < w.heap.size) w4 wr → PL wr p d m cur l clock v Sc S T P ∧ Tab wr ∧ SB wr w.heap.size P.sup := fun wr X =>
    ⟨P4.other X (fun k hk => HST.out k hk.1) (fun k hk => HSS.out k hk.1), t4.turned X fun h => HG0.out h.1, X4.block (X.block _ z4 fun h => by have := h.2; omega)⟩
  have hF : ∀ wr, PL wr p d m cur l clock v Sc S T P → SB wr w.heap.size P.sup → wr.cell? ⟨w.heap.size, 0, none⟩ = some (.int .i64 P.g) ∧ (ldS (.pointer (some ⟨w.heap.size, 0, none⟩))).run Tryz.prog wr = .ok (.agg P.sup.vs.toArray) wr ∧ wr.cell? ⟨p, 0, none⟩ = some (.pointer (some ⟨d, 0, none⟩)) := fun wr P' X' => ⟨X'.c0, X'.ld, P'.c0⟩
  have hwf := pwritefresh_any (L4.below (w' := w4.drew) (Below.refl _ _).drew) ⟨m, cur, l, clock, v, Sc, P4.keep (w' := w4.drew) (fun _ _ _ => rfl) (Nat.le_refl _)⟩ (fun k hk => HST.out k hk.1) (fun k hk => HSS.out k hk.1) (fun h => HG0.out h.1) (t4.below (w' := w4.drew) (Below.refl _ _).drew t4.1) htm (by omega)
  rw [HW.out] at hwf
  have Hwf := Lib.hid hwf
  have PD : PL w4.drew p d m cur l clock v Sc S T P := P4.keep (fun _ _ _ => rfl) (Nat.le_refl _)
  have XD : SB w4.drew w.heap.size P.sup := X4
  have zd : w4.drew.heap.size = w4.heap.size := rfl
  have hdst : ∀ wr, Dsk w4.drew wr d (fun k => S0 k ∧ k < w.heap.size) (D.runD W) → PL wr p d m cur l clock v Sc S T P ∧ Tab wr ∧ SB wr w.heap.size P.sup := fun wr X => hstay wr ⟨X.turn.os, X.turn.tape, X.turn.output, X.turn.size, X.turn.block⟩
  have Hds := Lib.hid hdst
  have hD1t := tame_run W htm
  have hWlen : W.length ≤ 2048 := by
    rw [← HW.out]
    unfold wIn Pl.new
    rw [List.length_map]
    have := List.length_filterMap_le P.newA (List.range P.C.n)
    rw [List.length_range] at this
    have := Hok.out.c.1.2
    omega
  clear hwf hstay hdst
  cases hr1 : D.runB W
  · rw [hr1] at Hwf
    go_wp2_with fail
    refine wp_region_held_drew (S := fun wr => wr.cell? ⟨w.heap.size, 0, none⟩ = some (.int .i64 P.g)) (by kernel_rfl) (hF _ PD XD).1 (fun hHeld => ?_)
    refine wpAnyH_take (i := 0) (oi := _) (v := .pointer (some ⟨p, 0, none⟩)) rfl (by kernel_rfl) (by kernel_rfl) (by kernel_rfl) (fun _ _ _ h => h) (Or.inl ⟨by rfl, ?_⟩) (by assumption) ?_
    · intro wx hx; (try dsimp only at hx); go_simp
    try simp only [Act.put, List.getElem_toArray, List.getElem_cons_zero, List.setIfInBounds_toArray, List.set_cons_zero, List.set_cons_succ]
    refine wpAnyH_take (i := 1) (oi := _) (v := .pointer (some ⟨w.heap.size, 0, none⟩)) rfl (by kernel_rfl) (by kernel_rfl) (by kernel_rfl) (fun _ _ _ h => h) (Or.inl ⟨by rfl, ?_⟩) (by assumption) ?_
    · intro wx hx; (try dsimp only at hx); go_simp
    try simp only [Act.put, List.getElem_toArray, List.getElem_cons_succ, List.getElem_cons_zero, List.setIfInBounds_toArray, List.set_cons_zero, List.set_cons_succ]
    refine wpAnyH_take (i := 2) (oi := _) (v := .int .i64 P.g) rfl (by kernel_rfl) (by kernel_rfl) (by kernel_rfl) (fun _ _ _ h => h) (Or.inl ⟨by rfl, ?_⟩) (by assumption) ?_
    · intro wx hx; (try dsimp only at hx); go_simp
    try simp only [Act.put, List.getElem_toArray, List.getElem_cons_succ, List.getElem_cons_zero, List.setIfInBounds_toArray, List.set_cons_zero, List.set_cons_succ]
    refine wpAnyH_ready (rs := [3]) (by kernel_rfl) (by simp) ?_
    refine AllReadyH.cons (o := _) rfl (fun K hK => ?_) AllReadyH.nil
    go_simp
    refine Hwf.out.mono ?_
    rintro e w5 ⟨rfl, L5⟩
    refine hK.out _ _ ?_ (fun hHeld5 => ?_)
    · exact (hF _ (Hds.out _ L5).1 (Hds.out _ L5).2.2).1
    clear hK K hHeld
    try simp only [Act.put, List.getElem_toArray, List.getElem_cons_succ, List.getElem_cons_zero, List.setIfInBounds_toArray, List.set_cons_zero, List.set_cons_succ]
    refine wpAnyH_take (i := 4) (oi := _) (v := .bool true) rfl (by kernel_rfl) (by kernel_rfl) (by kernel_rfl) (fun _ _ _ h => h) (Or.inl ⟨by rfl, ?_⟩) (by assumption) ?_
    · intro wx hx; (try dsimp only at hx); go_simp
    try simp only [Act.put, List.getElem_toArray, List.getElem_cons_succ, List.getElem_cons_zero, List.setIfInBounds_toArray, List.set_cons_zero, List.set_cons_succ]
    refine wpAnyH_take (i := 5) (oi := _) (v := .bool true) rfl (by kernel_rfl) (by kernel_rfl) (by kernel_rfl) (fun _ _ _ h => h) (Or.inl ⟨by rfl, ?_⟩) (by assumption) ?_
    · intro wx hx; (try dsimp only at hx); go_simp
    try simp only [Act.put, List.getElem_toArray, List.getElem_cons_succ, List.getElem_cons_zero, List.setIfInBounds_toArray, List.set_cons_zero, List.set_cons_succ]
    refine wpAnyH_take (i := 6) (oi := _) (v := undef) rfl (by kernel_rfl) (by kernel_rfl) (by kernel_rfl) (fun _ _ _ h => h) (Or.inr ⟨by kernel_rfl, rfl⟩) (by assumption) ?_
    try simp only [Act.put, List.getElem_toArray, List.getElem_cons_succ, List.getElem_cons_zero, List.setIfInBounds_toArray, List.set_cons_zero, List.set_cons_succ]
    refine wpAnyH_take (i := 7) (oi := _) (v := undef) rfl (by kernel_rfl) (by kernel_rfl) (by kernel_rfl) (fun _ _ _ h => h) (Or.inr ⟨by kernel_rfl, rfl⟩) (by assumption) ?_
    try simp only [Act.put, List.getElem_toArray, List.getElem_cons_succ, List.getElem_cons_zero, List.setIfInBounds_toArray, List.set_cons_zero, List.set_cons_succ]
    refine wpAnyH_take (i := 8) (oi := _) (v := undef) rfl (by kernel_rfl) (by kernel_rfl) (by kernel_rfl) (fun _ _ _ h => h) (Or.inr ⟨by kernel_rfl, rfl⟩) (by assumption) ?_
    try simp only [Act.put, List.getElem_toArray, List.getElem_cons_succ, List.getElem_cons_zero, List.setIfInBounds_toArray, List.set_cons_zero, List.set_cons_succ]
    refine wpAnyH_take (i := 9) (oi := _) (v := undef) rfl (by kernel_rfl) (by kernel_rfl) (by kernel_rfl) (fun _ _ _ h => h) (Or.inr ⟨by kernel_rfl, rfl⟩) (by assumption) ?_
    try simp only [Act.put, List.getElem_toArray, List.getElem_cons_succ, List.getElem_cons_zero, List.setIfInBounds_toArray, List.set_cons_zero, List.set_cons_succ]
    refine wpAnyH_take (i := 10) (oi := _) (v := undef) rfl (by kernel_rfl) (by kernel_rfl) (by kernel_rfl) (fun _ _ _ h => h) (Or.inr ⟨by kernel_rfl, rfl⟩) (by assumption) ?_
    try simp only [Act.put, List.getElem_toArray, List.getElem_cons_succ, List.getElem_cons_zero, List.setIfInBounds_toArray, List.set_cons_zero, List.set_cons_succ]
    refine wpAnyH_take (i := 11) (oi := _) (v := undef) rfl (by kernel_rfl) (by kernel_rfl) (by kernel_rfl) (fun _ _ _ h => h) (Or.inr ⟨by kernel_rfl, rfl⟩) (by assumption) ?_
    try simp only [Act.put, List.getElem_toArray, List.getElem_cons_succ, List.getElem_cons_zero, List.setIfInBounds_toArray, List.set_cons_zero, List.set_cons_succ]
    refine wpAnyH_take (i := 12) (oi := _) (v := undef) rfl (by kernel_rfl) (by kernel_rfl) (by kernel_rfl) (fun _ _ _ h => h) (Or.inr ⟨by kernel_rfl, rfl⟩) (by assumption) ?_
    try simp only [Act.put, List.getElem_toArray, List.getElem_cons_succ, List.getElem_cons_zero, List.setIfInBounds_toArray, List.set_cons_zero, List.set_cons_succ]
    refine wpAnyH_take (i := 13) (oi := _) (v := undef) rfl (by kernel_rfl) (by kernel_rfl) (by kernel_rfl) (fun _ _ _ h => h) (Or.inr ⟨by kernel_rfl, rfl⟩) (by assumption) ?_
    try simp only [Act.put, List.getElem_toArray, List.getElem_cons_succ, List.getElem_cons_zero, List.setIfInBounds_toArray, List.set_cons_zero, List.set_cons_succ]
    refine wpAnyH_take (i := 14) (oi := _) (v := undef) rfl (by kernel_rfl) (by kernel_rfl) (by kernel_rfl) (fun _ _ _ h => h) (Or.inr ⟨by kernel_rfl, rfl⟩) (by assumption) ?_
    try simp only [Act.put, List.getElem_toArray, List.getElem_cons_succ, List.getElem_cons_zero, List.setIfInBounds_toArray, List.set_cons_zero, List.set_cons_succ]
    refine wpAnyH_take (i := 15) (oi := _) (v := undef) rfl (by kernel_rfl) (by kernel_rfl) (by kernel_rfl) (fun _ _ _ h => h) (Or.inr ⟨by kernel_rfl, rfl⟩) (by assumption) ?_
    try simp only [Act.put, List.getElem_toArray, List.getElem_cons_succ, List.getElem_cons_zero, List.setIfInBounds_toArray, List.set_cons_zero, List.set_cons_succ]
    refine wpAnyH_take (i := 16) (oi := _) (v := .bool true) rfl (by kernel_rfl) (by kernel_rfl) (by kernel_rfl) (fun _ _ _ h => h) (Or.inl ⟨by rfl, ?_⟩) (by assumption) ?_
    · intro wx hx; (try dsimp only at hx); go_simp
    try simp only [Act.put, List.getElem_toArray, List.getElem_cons_succ, List.getElem_cons_zero, List.setIfInBounds_toArray, List.set_cons_zero, List.set_cons_succ]
    refine wpAnyH_done (by kernel_rfl) ?_ _
    have hE1 : D.runE W ≠ 0 := of_decide_eq_false hr1
    obtain ⟨s1, s2⟩ := run_stopped (l' := Z) hE1
    rw [← Hrun.out] at s1 s2
    have hR : D.runB P.steps = false := by unfold DM.runB; rw [s1]; exact decide_eq_false hE1
    have HR := Lib.hid hR
    have S2 := Lib.hid s2
    have P5 := (Hds.out _ L5).1
    clear hE1 s1 s2 hR hr1
    go_wp2
    go_ret
    rw [(cmt_no HR.out).1, (cmt_no HR.out).2, S2.out]
    refine ⟨rfl, L5.drv.mono fun k hk h => h.elim (fun h => .inl h.1) fun h => .inr (by rw [zd] at h; omega), ⟨m, cur, l, clock, v, Sc, L.widen P5⟩, ?_⟩
    have T5 : Turn S0 w w5 := (turn_below (B4.drew) |>.mono (S' := S0) fun _ h => h).trans L5.turn fun k hk => .inl hk.1
    exact T5.mono fun k hk => .inl hk
  · rw [hr1] at Hwf
    have hE1 : D.runE W = 0 := of_decide_eq_true hr1
    obtain ⟨D1, hD1⟩ : ∃ D1, D.runD W = D1 := ⟨_, rfl⟩
    have s1 : D.runE P.steps = D1.runE Z := by rw [Hrun.out, runE_append, if_pos hE1, hD1]
    have s2 : D.runD P.steps = D1.runD Z := by rw [Hrun.out, runD_append, if_pos hE1, hD1]
    rw [hD1] at Hwf Hds hD1t
    have S2 := Lib.hid s2
    have hst := fun (w5 : World) (L5 : Dsk w4.drew w5 d (fun k => S0 k ∧ k < w.heap.size) D1) => psettle_any L5.drv (Hds.out _ L5).1.ct (fun k hk => ⟨fun e => by
        subst e
        exact hk.elim (fun h => HSS.out _ h.1 L.inS.1) fun h => by rw [zd] at h; omega, fun h => hk.elim (fun h2 => HSS.out _ h2.1 (L.inS.2.2 k h)) fun h2 => by have := hTl k (L.sub k (L.inS.2.2 k h)); rw [zd] at h2; omega⟩)
      (fun hk => hk.elim (fun h => HG0.out h.1) fun h => by rw [zd] at h; have := ht.1; omega) P.sup Hmay.out Hfine.out Hok.out.sec (Hds.out _ L5).2.1 hD1t (by omega)
    rw [HZ.out] at hst
    have hT46 : ∀ (w5 w6 : World), Dsk w4.drew w5 d (fun k => S0 k ∧ k < w.heap.size) D1 → Turn (fun k => (S0 k ∧ k < w.heap.size) ∨ w4.drew.heap.size ≤ k) w5 w6 → Turn (fun k => S0 k ∧ k < w.heap.size) w4.drew w6 := fun w5 w6 L5 X => L5.turn.trans X fun k hk => hk
    have hstay6 : ∀ w5 w6, Dsk w4.drew w5 d (fun k => S0 k ∧ k < w.heap.size) D1 → Turn (fun k => (S0 k ∧ k < w.heap.size) ∨ w4.drew.heap.size ≤ k) w5 w6 → PL w6 p d m cur l clock v Sc S T P ∧ SB w6 w.heap.size P.sup ∧ Turn S0 w w6 := fun w5 w6 L5 X => by
      have Y := hT46 w5 w6 L5 X
      refine ⟨PD.other Y (fun k hk => HST.out k hk.1) fun k hk => HSS.out k hk.1, XD.block (Y.block _ (by rw [zd]; omega) fun h => by have := h.2; omega), (turn_below (B4.drew) |>.mono (S' := S0) fun _ h => h).trans Y fun k hk => .inl hk.1⟩
    have Hst6 := Lib.hid hstay6
    have Hst := Lib.hid hst
    clear hE1 hD1 s2 hr1 hT46 hstay6 hst
    cases hr2 : D1.runB Z
    · have hR : D.runB P.steps = false := by unfold DM.runB at hr2 ⊢; rw [s1]; exact hr2
      have HR := Lib.hid hR
      rw [hr2] at Hst
      clear hR hr2 s1
      go_wp2_with fail
      go_region_held3 (fun wr => wr.cell? ⟨w.heap.size, 0, none⟩ = some (.int .i64 P.g) ∧ (ldS (.pointer (some ⟨w.heap.size, 0, none⟩))).run Tryz.prog wr = .ok (.agg P.sup.vs.toArray) wr ∧ wr.cell? ⟨p, 0, none⟩ = some (.pointer (some ⟨d, 0, none⟩)))
        (first | assumption | exact hF _ PD XD | exact hF _ (Hds.out _ L5).1 (Hds.out _ L5).2.2 | exact hF _ (Hst6.out _ _ L5 L6.turn).1 (Hst6.out _ _ L5 L6.turn).2.1)
        (first
          | (go_at_call 64; refine Hwf.out.mono ?_; rintro e w5 ⟨rfl, L5⟩)
          | (go_at_call 65; refine (Hst.out _ L5).mono ?_; rintro e w6 ⟨rfl, L6⟩)
          | fail)
      obtain ⟨P6, X6, T6⟩ := Hst6.out _ _ L5 L6.turn
      go_wp2
      go_ret
      rw [(cmt_no HR.out).1, (cmt_no HR.out).2, S2.out]
      exact ⟨rfl, L6.drv.mono fun k hk h => h.elim (fun h => h.elim (fun h => .inl h.1) fun h => .inr (by rw [zd] at h; omega)) fun h => .inr (by have := L5.turn.size; rw [zd] at this; omega), ⟨m, cur, l, clock, v, Sc, L.widen P6⟩, T6.mono fun k hk => .inl hk⟩
    · have hR : D.runB P.steps = true := by unfold DM.runB at hr2 ⊢; rw [s1]; exact hr2
      have HR := Lib.hid hR
      rw [hr2] at Hst
      clear hR hr2 s1
      go_wp2_with fail
      go_region_held3 (fun wr => wr.cell? ⟨w.heap.size, 0, none⟩ = some (.int .i64 P.g) ∧ (ldS (.pointer (some ⟨w.heap.size, 0, none⟩))).run Tryz.prog wr = .ok (.agg P.sup.vs.toArray) wr ∧ wr.cell? ⟨p, 0, none⟩ = some (.pointer (some ⟨d, 0, none⟩)))
        (first | assumption | exact hF _ PD XD | exact hF _ (Hds.out _ L5).1 (Hds.out _ L5).2.2 | exact hF _ (Hst6.out _ _ L5 L6.turn).1 (Hst6.out _ _ L5 L6.turn).2.1)
        (first
          | (go_at_call 64; refine Hwf.out.mono ?_; rintro e w5 ⟨rfl, L5⟩)
          | (go_at_call 65; refine (Hst.out _ L5).mono ?_; rintro e w6 ⟨rfl, L6⟩)
          | fail)
      obtain ⟨P6, X6, T6⟩ := Hst6.out _ _ L5 L6.turn
      have hl6 := X6.ld
      have D6 : Drv w6 d (fun k => S0 k ∨ w.heap.size ≤ k) (D.runD P.steps) := by
        rw [S2.out]
        exact L6.drv.mono fun k hk h => h.elim (fun h => h.elim (fun h => .inl h.1) fun h => .inr (by rw [zd] at h; omega)) fun h => .inr (by have := L5.turn.size; rw [zd] at this; omega)
      go_wp2_with (first
        | (refine wp_store_pl rfl (.tmp 35) (.tmp 33) rfl P6 rfl P.sup rfl ?_; intro w7 cur7 me7 ph7 ct7 T7; have C7 : CCo w7 p 36 Sc P.C := P6.ct.around P6.me me7 (fun j _ => ct7 j) (fun k hk e => (P6.ne k hk).1 e.symm) fun k hk hs => T7.block k hk fun e => (P6.ne k hs).1 e)
        | (go_at_call 66; refine (ccommit_any C7).mono ?_; rintro e w8 ⟨rfl, C8, T8⟩; have me8 := (T8.block p (lt_of_heap me7) fun h => (P6.ne p h).1 rfl).trans me7; have q408 := cell_at me8 ph7.fresh; have map7 := (T7.block m P6.mlt fun e => P6.p_m e.symm).trans P6.map; have map8 := (T8.block m (lt_of_heap map7) fun h => (P6.ne m h).2 rfl).trans map7; have hclr := fun ty => run_clear_ints (P := Tryz.prog) (t := 108) (k := 3) (e := 30) Tryz.underlying108 map8 ty)
        | fail)
      have T9 : Turn (fun k => k = m) w8 (setBlock w8 m (.map #[] clock)) := turn_setBlock _ rfl
      have map9 : (setBlock w8 m (.map #[] clock)).heap[m]? = some (.map #[] clock) := setBlock_at (lt_of_heap map8)
      clear hclr
      generalize setBlock w8 m (.map #[] clock) = w9 at T9 map9 ⊢
      go_wp2
      go_ret
      rw [(cmt_yes HR.out).1, (cmt_yes HR.out).2]
      have hdis : ∀ k, (S0 k ∨ w.heap.size ≤ k) → k < w6.heap.size → k ≠ p ∧ k ≠ m ∧ ¬ Sc k := fun k hk _ => by
        have hp := L.inS
        refine ⟨fun e => ?_, fun e => ?_, fun h => ?_⟩
        · subst e; exact hk.elim (fun h => HSS.out _ h hp.1) fun h => by omega
        · subst e; exact hk.elim (fun h => HSS.out _ h hp.2.1) fun h => by omega
        · exact hk.elim (fun h2 => HSS.out _ h2 (hp.2.2 k h)) fun h2 => by have := hTl k (L.sub k (hp.2.2 k h)); omega
      have z67 := T7.size
      have z78 := T8.size
      have me9 := (T9.block p (lt_of_heap me8) L.p_m).trans me8
      have C9 : CCo w9 p 36 Sc P.C.commit := C8.keep (T9.block p (lt_of_heap me8) L.p_m) fun k hk hs => T9.block k hk fun e => (L.ne k hs).2 e
      have D9 : Drv w9 d (fun k => S0 k ∨ w.heap.size ≤ k) (D.runD P.steps) := D6.keep fun k hk hs => by
        obtain ⟨h1, h2, h3⟩ := hdis k hs hk
        exact (T9.block k (by omega) h2).trans ((T8.block k (by omega) h3).trans (T7.block k hk h1))
      have T69 : Turn S w6 w9 := ((T7.mono fun k hk => by rw [hk]; exact L.inS.1).trans (T8.mono L.inS.2.2) fun k hk => .inl hk).trans T9 fun k hk => by rw [hk]; exact .inl L.inS.2.1
      refine ⟨rfl, D9, ⟨m, cur7, [], clock, v, Sc, me9, ph7, C9, map9, ⟨fun e he => (by cases he), List.nodup_nil, List.nodup_nil, fun e he => (by cases he)⟩, fun a => ?_, fun e he => (by cases he), fun a b h => ?_, fun a b h => (by cases h), L.inS, L.ne, fun k hk => .inl (L.sub k hk), done_ok Hok.out hgen, Hfine.out⟩, (T6.mono fun k hk => .inl hk).then (T69.mono fun k hk => .inr hk)⟩
      · rw [live_done]; rfl
      · rw [live_done] at h; cases h
end Go.Proofs.YtipejjgodnnkaaaGreatDoor

namespace Go.Proofs.YtipejjgodnnkaaaGreatDoor
open Go Go.RowKit Go.Proofs
open Go.ChangeMaps (setBlock)

def Pl.bytesE (P : Pl) (D : DM) (a k : Int) : Int := match mostK k with
  | none => 1
  | some most => if P.C.get a = 0 then 1 else match P.live a.toNat with
    | some b => datE (b.out a.toNat 0) k a.toNat most 1
    | none => if D.readE a = 0 then datE (D.readL a) k a.toNat most 5 else D.readE a
def Pl.bytesL (P : Pl) (D : DM) (a k : Int) : List UInt8 := match mostK k with
  | none => []
  | some most => if P.C.get a = 0 then [] else match P.live a.toNat with
    | some b => datB (b.out a.toNat 0) k a.toNat most
    | none => if D.readE a = 0 then datB (D.readL a) k a.toNat most else []
def BytesSays (P : Pl) (D : DM) (p : Nat) (a k : Int) (w : World) : Prop :=
  Calls Tryz.prog 20 #[.pointer (some ⟨p, 0, none⟩), .int .i64 a, .int .i64 k] w fun e w' => ∃ A n c, e = .returned (.tuple #[.slice A n c, .int .i64 (P.bytesE D a k)]) ∧ Sl w' A n c (P.bytesL D a k) ∧ Below w.heap.size w w' ∧ ∀ ad, A = some ad → w.heap.size ≤ ad.block
theorem get_nat {C : Ct} {a : Int} (h : C.get a ≠ 0) : ∃ n : Nat, a = (n : Int) ∧ n < C.n := by
  have hin : 0 ≤ a ∧ a < (C.n : Int) := Classical.byContradiction fun h2 => h (by unfold Ct.get; rw [if_neg h2])
  exact ⟨a.toNat, by omega, by omega⟩
set_option maxRecDepth 100000 in
set_option maxHeartbeats 4000000 in
theorem pbytes_any {w : World} {p d : Nat} {S0 S T : Nat → Prop} {D : DM} {P : Pl} (L0 : Drv w d S0 D) (H : Pool w p d S T P) (ht : Tab w) (a k : Int) : BytesSays P D p a k w := by
  unfold BytesSays
  cases hk : mostK k with
  | none =>
    have hE : P.bytesE D a k = 1 := by unfold Pl.bytesE; rw [hk]
    have hL : P.bytesL D a k = [] := by unfold Pl.bytesL; rw [hk]
    rw [hE, hL]
    have hlo := plongest_any k
    unfold mostV at hlo
    rw [hk] at hlo
    clear hE hL hk
    go_enter Tryz.func20, Tryz.ntmps20
    go_wp2_with (first
      | (go_at_call 77; refine (hlo w).mono ?_; rintro e w1 ⟨rfl, rfl⟩)
      | fail)
    go_ret2
    exact ⟨_, _, _, rfl, sl_nil _, Below.refl _ _, fun ad h => (by cases h)⟩
  | some most =>
    have hlo := plongest_any k
    unfold mostV at hlo
    rw [hk] at hlo
    replace hlo : ∀ w : World, Calls Tryz.prog 77 #[.int .i64 k] w fun e w' => e = .returned (.tuple #[.int .i64 (most : Int), .bool true]) ∧ w = w' := hlo
    by_cases h0 : P.C.get a = 0
    · have hE : P.bytesE D a k = 1 := by unfold Pl.bytesE; rw [hk]; exact if_pos h0
      have hL : P.bytesL D a k = [] := by unfold Pl.bytesL; rw [hk]; exact if_pos h0
      rw [hE, hL]
      have hb := pblock_0 H a h0
      clear hE hL hk h0
      go_enter Tryz.func20, Tryz.ntmps20
      go_wp2_with (first
        | (go_at_call 77; refine (hlo w).mono ?_; rintro e w1 ⟨rfl, rfl⟩)
        | (go_at_call 78; refine hb.mono ?_; rintro e w2 ⟨rfl, rfl⟩)
        | fail)
      go_ret2
      exact ⟨_, _, _, rfl, sl_nil _, Below.refl _ _, fun ad h => (by cases h)⟩
    · obtain ⟨n, rfl, hn⟩ := get_nat h0
      cases hv : P.live n with
      | some b =>
        have hE : P.bytesE D (n : Int) k = datE (b.out n 0) k n most 1 := by unfold Pl.bytesE; rw [hk]; show (if _ then _ else _) = _; rw [if_neg h0, Int.toNat_natCast, hv]
        have hL : P.bytesL D (n : Int) k = datB (b.out n 0) k n most := by unfold Pl.bytesL; rw [hk]; show (if _ then _ else _) = _; rw [if_neg h0, Int.toNat_natCast, hv]
        rw [hE, hL]
        exact pbytes_at k most hk n _ 1 (pblock_new H n b hv) ht
      | none =>
        have hb := pblock_disk L0 H n h0 hv
        by_cases hr : D.readE (n : Int) = 0
        · have hE : P.bytesE D (n : Int) k = datE (D.readL (n : Int)) k n most 5 := by unfold Pl.bytesE; rw [hk]; show (if _ then _ else _) = _; rw [if_neg h0, Int.toNat_natCast, hv]; exact if_pos hr
          have hL : P.bytesL D (n : Int) k = datB (D.readL (n : Int)) k n most := by unfold Pl.bytesL; rw [hk]; show (if _ then _ else _) = _; rw [if_neg h0, Int.toNat_natCast, hv]; exact if_pos hr
          rw [hE, hL]
          rw [hr] at hb
          exact pbytes_at k most hk n _ 5 hb ht
        · have hE : P.bytesE D (n : Int) k = D.readE (n : Int) := by unfold Pl.bytesE; rw [hk]; show (if _ then _ else _) = _; rw [if_neg h0, Int.toNat_natCast, hv]; exact if_neg hr
          have hL : P.bytesL D (n : Int) k = [] := by unfold Pl.bytesL; rw [hk]; show (if _ then _ else _) = _; rw [if_neg h0, Int.toNat_natCast, hv]; exact if_neg hr
          rw [hE, hL]
          obtain ⟨E, hEE⟩ : ∃ E, D.readE (n : Int) = E := ⟨_, rfl⟩
          rw [hEE] at hb hr ⊢
          have nb : (E != 0) = true := by simpa using hr
          clear hE hL hk h0 hv hr hEE
          go_enter Tryz.func20, Tryz.ntmps20
          go_wp2_with (first
            | (go_at_call 77; refine (hlo w).mono ?_; rintro e w1 ⟨rfl, rfl⟩)
            | (go_at_call 78; refine hb.mono ?_; rintro e w2 ⟨A2, n2, c2, rfl, s2, b2⟩)
            | fail)
          go_ret2
          exact ⟨_, _, _, rfl, sl_nil _, b2, fun ad h => (by cases h)⟩
end Go.Proofs.YtipejjgodnnkaaaGreatDoor

namespace Go.Proofs.YtipejjgodnnkaaaGreatDoor
open Go Go.RowKit Go.Proofs

structure SysAt (b : Nat) (w : World) (d p : Nat) (S0 S T : Nat → Prop) (D : DM) (P : Pl) : Prop where
  drv : Drv w d S0 D
  pool : Pool w p d S T P
  sub : ∀ k, S0 k → T k
  apart : ∀ k, S0 k → ¬ S k
  tight : ∀ k, T k → b ≤ k ∧ k < w.heap.size
def Sys (b : Nat) (w : World) (d p : Nat) (T : Nat → Prop) (D : DM) (P : Pl) : Prop := ∃ S0 S, SysAt b w d p S0 S T D P
/-- What is made meanwhile is theirs, too. -/
def grow (T : Nat → Prop) (w w' : World) : Nat → Prop := fun k => (T k ∨ w.heap.size ≤ k) ∧ k < w'.heap.size
/-- A drive alone. -/
def Dr (b : Nat) (w : World) (d : Nat) (T : Nat → Prop) (D : DM) : Prop := ∃ S0, Drv w d S0 D ∧ (∀ k, S0 k → T k) ∧ ∀ k, T k → b ≤ k ∧ k < w.heap.size
section
variable {b : Nat} {w w' : World} {d p : Nat} {T : Nat → Prop} {D : DM} {P : Pl}
theorem SysAt.subS {S0 S : Nat → Prop} (H : SysAt b w d p S0 S T D P) : ∀ k, S k → T k := by
  obtain ⟨m, cur, l, clock, v, Sc, L⟩ := H.pool
  exact L.sub
theorem SysAt.base {S0 S : Nat → Prop} (H : SysAt b w d p S0 S T D P) : b ≤ w.heap.size := by
  obtain ⟨m, cur, l, clock, v, Sc, L⟩ := H.pool
  have := (H.tight _ (L.sub _ L.inS.1)).1
  have := L.plt
  omega
theorem Sys.below (H : Sys b w d p T D P) (hb : Below w.heap.size w w') : Sys b w' d p T D P := by
  obtain ⟨S0, S, H⟩ := H
  exact ⟨S0, S, H.drv.below hb, H.pool.below hb, H.sub, H.apart, fun k hk => ⟨(H.tight k hk).1, by have := (H.tight k hk).2; have := hb.size; omega⟩⟩
theorem Sys.ok (H : Sys b w d p T D P) : P.ok := by
  obtain ⟨S0, S, H⟩ := H
  exact H.pool.ok
theorem Sys.sectors (H : Sys b w d p T D P) : sectors D.n := by
  obtain ⟨S0, S, H⟩ := H
  exact H.drv.sectors
theorem Sys.tight (H : Sys b w d p T D P) : ∀ k, T k → b ≤ k ∧ k < w.heap.size := by
  obtain ⟨S0, S, H⟩ := H
  exact H.tight
theorem Sys.base (H : Sys b w d p T D P) : b ≤ w.heap.size := by
  obtain ⟨S0, S, H⟩ := H
  exact H.base
theorem Sys.dr (H : Sys b w d p T D P) : Dr b w d T D := by
  obtain ⟨S0, S, H⟩ := H
  exact ⟨S0, H.drv, H.sub, H.tight⟩
theorem Dr.below (H : Dr b w d T D) (hb : Below w.heap.size w w') : Dr b w' d T D := by
  obtain ⟨S0, H, h1, h2⟩ := H
  exact ⟨S0, H.below hb, h1, fun k hk => ⟨(h2 k hk).1, by have := (h2 k hk).2; have := hb.size; omega⟩⟩
theorem sys_of {w0 w : World} {d p q : Nat} {S0 : Nat → Prop} {D : DM} {P : Pl} (H : PoolOn w0 w p d q S0 D P) (hS0 : ∀ k, S0 k → b ≤ k) (hb : b ≤ w0.heap.size) : Sys b w d p (fun k => b ≤ k ∧ k < w.heap.size) D P := by
  refine ⟨fun k => (S0 k ∨ w0.heap.size ≤ k) ∧ k < q, fun k => q ≤ k ∧ k < w.heap.size, H.drv, ?_, fun k hk => ?_, fun k hk h => ?_, fun k hk => hk⟩
  · have h := H.pool (fun k => b ≤ k) (fun k hk => by have := H.ge.1; omega)
    exact h.mono (fun k hk h => ⟨h, hk⟩) (fun k hk h => h.1) fun k hk => ⟨by have := H.ge.1; omega, hk.2⟩
  · have := H.ge.2
    exact ⟨hk.1.elim (hS0 k) fun h => by omega, by omega⟩
  · omega

theorem sys_put (H : Sys b w d p T D P) (hb : 1 < b) (k : Int) (A : Option Addr) (n c : Nat) (x : List UInt8) (hs : Sl w A n c x) (hA : 0 < n → ∀ ad, A = some ad → ¬ T ad.block) (ht : Tab w) :
    Calls Tryz.prog 27 #[.pointer (some ⟨p, 0, none⟩), .int .i64 k, .slice A n c] w fun e w' => e = .returned (.tuple #[.int .i64 (P.putV k x.length), .int .i64 (P.putE k x.length)]) ∧ Sys b w' d p T D (P.put k x) ∧ Turn T w w' ∧ Tab w' := by
  obtain ⟨S0, S, H⟩ := H
  have hST := H.subS
  refine (pputbytes_any H.pool (fun k hk => (H.tight k hk).2) (fun h => by have := (H.tight _ h).1; omega) k A n c x hs (fun hn ad e h => hA hn ad e (hST _ h)) ht).mono ?_
  rintro e w' ⟨rfl, R, X⟩
  have hz := X.size
  exact ⟨rfl, ⟨S0, S, H.drv.keep fun k hk hs => X.block k hk (H.apart k hs), R, H.sub, H.apart, fun k hk => ⟨(H.tight k hk).1, by have := (H.tight k hk).2; omega⟩⟩, X.mono hST, ht.turned X fun h => by have := (H.tight _ (hST _ h)).1; omega⟩
theorem sys_bytes (H : Sys b w d p T D P) (ht : Tab w) (a k : Int) : BytesSays P D p a k w := by
  obtain ⟨S0, S, H⟩ := H
  exact pbytes_any H.drv H.pool ht a k
theorem sys_free (H : Sys b w d p T D P) (n : Nat) (hn : P.C.free = n) : Calls Tryz.prog 35 #[.pointer (some ⟨p, 0, none⟩)] w fun e w' => e = .returned (.int .i64 (n : Int)) ∧ w = w' := by
  obtain ⟨S0, S, H⟩ := H
  exact pfree_any H.pool n hn
theorem sys_super (H : Sys b w d p T D P) : Calls Tryz.prog 31 #[.pointer (some ⟨p, 0, none⟩)] w fun e w' => e = .returned (.agg P.S.vs.toArray) ∧ Below w.heap.size w w' := by
  obtain ⟨S0, S, H⟩ := H
  exact psuper_any H.pool
theorem sys_unref (H : Sys b w d p T D P) (hb : 1 < b) (ht : Tab w) (a : Int) :
    Calls Tryz.prog 39 #[.pointer (some ⟨p, 0, none⟩), .int .i64 a] w fun e w' => e = .returned (.tuple #[.int .i64 (P.C.unrefV a), .int .i64 (P.C.unrefE a)]) ∧ Sys b w' d p T D ⟨P.S, P.C.unref a, P.L⟩ ∧ Turn T w w' ∧ Tab w' := by
  obtain ⟨S0, S, H⟩ := H
  have hST := H.subS
  refine (punref_any H.pool a).mono ?_
  rintro e w' ⟨rfl, R, X⟩
  have hz := X.size
  exact ⟨rfl, ⟨S0, S, H.drv.keep fun k hk hs => X.block k hk (H.apart k hs), R, H.sub, H.apart, fun k hk => ⟨(H.tight k hk).1, by have := (H.tight k hk).2; omega⟩⟩, X.mono hST, ht.turned X fun h => by have := (H.tight _ (hST _ h)).1; omega⟩
theorem sys_commit (H : Sys b w d p T D P) (hb : 1 < b) (ht : Tab w) {m0 : Nat} (htm : D.tame m0) (hm0 : m0 ≤ 500000) (hgen : P.g < 1099511627775) :
    Calls Tryz.prog 15 #[.pointer (some ⟨p, 0, none⟩)] w fun e w' => e = .returned (.int .i64 (D.cmtE P)) ∧ Sys b w' d p (grow T w w') (D.runD P.steps) (D.cmtP P) ∧ Turn T w w' ∧ Tab w' := by
  obtain ⟨S0, S, H⟩ := H
  have hST := H.subS
  have hbb := H.base
  refine (pcommit_any H.drv H.pool H.sub H.apart (fun k hk => (H.tight k hk).2) (fun h => by have := (H.tight _ h).1; omega) ht htm hm0 hgen).mono ?_
  rintro e w' ⟨rfl, R, Q, X⟩
  have hz := X.size
  have hX : ∀ k, S0 k ∨ S k → T k := fun k hk => hk.elim (H.sub k) (hST k)
  refine ⟨rfl, ⟨fun k => (S0 k ∨ w.heap.size ≤ k) ∧ k < w'.heap.size, S, R.tight, ?_, fun k hk => ⟨hk.1.imp (H.sub k) id, hk.2⟩, fun k hk h => ?_, fun k hk => ⟨hk.1.elim (fun h => (H.tight k h).1) fun h => by omega, hk.2⟩⟩, X.mono hX, ht.turned X fun h => by have := (H.tight _ (hX _ h)).1; omega⟩
  · exact Q.mono (fun k _ h => h) (fun k hk h => h.1) fun k hk => ⟨.inl (hST k hk), by have := (H.tight k (hST k hk)).2; omega⟩
  · exact hk.1.elim (fun h2 => H.apart k h2 h) fun h2 => by have := (H.tight k (hST k h)).2; omega
theorem dr_mount (H : Dr b w d T D) (hb : b ≤ w.heap.size) (ht : Tab w) (hgn : (mtS D.newest).gen < 1099511627775) :
    Calls Tryz.prog 30 #[.pointer (some ⟨d, 0, none⟩)] w fun e w' =>
      ((mtE D.newest D.off D.n = 0 ∧ ∃ p, e = .returned (.tuple #[.pointer (some ⟨p, 0, none⟩), .int .i64 0]) ∧ Sys b w' d p (grow T w w') D (Pl.mounted D.newest D.n)) ∨
        (mtE D.newest D.off D.n ≠ 0 ∧ e = .returned (.tuple #[.pointer none, .int .i64 (mtE D.newest D.off D.n)]))) ∧ Below w.heap.size w w' := by
  obtain ⟨S0, L, h1, h2⟩ := H
  refine (pmount_any L ht hgn).mono ?_
  rintro e w' ⟨⟨h0, p, rfl, hp, hpn⟩ | ⟨h0, rfl⟩, B⟩
  · have hz := B.size
    refine ⟨.inl ⟨h0, p, rfl, S0, fun k => w.heap.size ≤ k ∧ k < w'.heap.size, L.below B, ?_, fun k hk => ⟨.inl (h1 k hk), by have := (h2 k (h1 k hk)).2; omega⟩, fun k hk h => by have := (h2 k (h1 k hk)).2; omega, fun k hk => ⟨hk.1.elim (fun h => (h2 k h).1) fun h => by omega, hk.2⟩⟩, B⟩
    exact (hp (fun k => T k ∨ w.heap.size ≤ k) fun k hk => .inr hk).mono (fun k hk h => ⟨h, hk⟩) (fun k hk h => h.1) fun k hk => ⟨.inr hk.1, hk.2⟩
  · exact ⟨.inr ⟨h0, rfl⟩, B⟩
end
end Go.Proofs.YtipejjgodnnkaaaGreatDoor

namespace Go.Proofs.YtipejjgodnnkaaaGreatDoor
open Go Go.RowKit Go.Proofs

theorem live_get {P : Pl} {a : Nat} {b : Bk} (h : P.live a = some b) : P.C.get (a : Int) ≠ 0 ∧ P.L a = some b := by
  unfold Pl.live at h
  split at h
  · cases h
  · rename_i h0; exact ⟨h0, h⟩
theorem bytes_new {P : Pl} (D : DM) {a : Nat} {k : Int} {x : List UInt8} {most : Nat} (h : P.live a = some (.bytes k x)) (hk : mostK k = some most) (hx : x.length ≤ most) (ha : a ≤ 2047) : P.bytesE D (a : Int) k = 0 ∧ P.bytesL D (a : Int) k = x := by
  obtain ⟨h0, _⟩ := live_get h
  obtain ⟨hk56, hm⟩ := mostK_some hk
  obtain ⟨d1, d2⟩ := dat_back0 k a most 0 x hk56 ha gen0_zero hx hm
  have e : (Bk.bytes k x).out a 0 = blkL (datH k a x.length 0) x := rfl
  unfold Pl.bytesE Pl.bytesL
  rw [hk]
  show (if _ then _ else _) = (0 : Int) ∧ (if _ then _ else _) = x
  rw [if_neg h0, if_neg h0, Int.toNat_natCast, h]
  show datE ((Bk.bytes k x).out a 0) k a most 1 = 0 ∧ datB ((Bk.bytes k x).out a 0) k a most = x
  rw [e, (dat_yes 1 d1).1, (dat_yes 1 d1).2, d2]
  exact ⟨rfl, rfl⟩
theorem bytes_disk {P : Pl} {D : DM} {a : Nat} {k g : Int} {x : List UInt8} {most : Nat} (h0 : P.C.get (a : Int) ≠ 0) (hl : P.live a = none) (hoff : D.off = false) (ha : a < D.n) (ha2 : a ≤ 2047) (hg : gen0 g) (hr : D.newest a = (Bk.bytes k x).out a g) (hk : mostK k = some most) (hx : x.length ≤ most) :
    P.bytesE D (a : Int) k = 0 ∧ P.bytesL D (a : Int) k = x := by
  obtain ⟨hk56, hm⟩ := mostK_some hk
  obtain ⟨d1, d2⟩ := dat_back0 k a most g x hk56 ha2 hg hx hm
  have e : (Bk.bytes k x).out a g = blkL (datH k a x.length g) x := rfl
  obtain ⟨r1, r2⟩ := readL_in hoff ha
  unfold Pl.bytesE Pl.bytesL
  rw [hk]
  show (if _ then _ else _) = (0 : Int) ∧ (if _ then _ else _) = x
  rw [if_neg h0, if_neg h0, Int.toNat_natCast, hl]
  show (if D.readE (a : Int) = 0 then datE (D.readL (a : Int)) k a most 5 else D.readE (a : Int)) = 0 ∧ (if D.readE (a : Int) = 0 then datB (D.readL (a : Int)) k a most else []) = x
  rw [if_pos r2, if_pos r2, r1, hr, e, (dat_yes 5 d1).1, (dat_yes 5 d1).2, d2]
  exact ⟨rfl, rfl⟩
theorem bytes_gone {P : Pl} {D : DM} {a k : Int} (h0 : P.C.get a = 0) : P.bytesE D a k = 1 ∧ P.bytesL D a k = [] := by
  unfold Pl.bytesE Pl.bytesL
  cases mostK k with
  | none => exact ⟨rfl, rfl⟩
  | some m => exact ⟨if_pos h0, if_pos h0⟩
/-- Data of a block's size is put as long as there is room. -/
theorem put_data {P : Pl} {a : Nat} (h : P.C.pick = some a) {x : List UInt8} (hx : x.length ≤ 128) : P.putV 5 x.length = (a : Int) ∧ P.putE 5 x.length = 0 ∧ P.put 5 x = P.lay (.bytes 5 x) := by
  have h5 : Pl.may5 5 x.length = true := decide_eq_true (show x.length ≤ 128 from hx)
  obtain ⟨a1, a2, _⟩ := Ct.alloc_some h
  unfold Pl.putV Pl.putE Pl.put
  rw [h5]
  exact ⟨a2, a1, rfl⟩
theorem fmt_le {n : Nat} (h : n ≤ 2048) : (fmtL n).length ≤ 30 := by
  rw [fmt_len]
  unfold areaN
  omega
/-- A commit with power, whole; and what is mounted behind it. -/
theorem cmt_sys {D : DM} {P : Pl} (h : P.ok) {S0 : Sp} {C0 : Ct} (hs : Sound D P S0 C0) : D.cmtE P = 0 ∧ D.cmtP P = P.done ∧ Sound (D.runD P.steps) P.done P.sup P.C ∧
    mtE (D.runD P.steps).newest (D.runD P.steps).off (D.runD P.steps).n = 0 ∧ Pl.mounted (D.runD P.steps).newest (D.runD P.steps).n = P.done ∧ mtS (D.runD P.steps).newest = P.sup := by
  obtain ⟨e0, e1, _⟩ := cmt_sound h hs
  have hb : D.runB P.steps = true := decide_eq_true e0
  obtain ⟨m1, m2, m3⟩ := sound_mounts e1
  refine ⟨(cmt_yes hb).1, (cmt_yes hb).2, e1, by rw [e1.free.on]; exact m1, ?_, m2⟩
  unfold Pl.mounted
  rw [m2]
  have : mtC (D.runD P.steps).newest (D.runD P.steps).n P.sup.gen = P.C.commit := m3
  rw [this]
  rfl
theorem sound_newest {D : DM} {P : Pl} {S0 : Sp} {C0 : Ct} (hs : Sound D P S0 C0) (s : Nat) : D.newest s = D.dur s := by unfold DM.newest; rw [hs.set_]; rfl

/-! ### The document's example -/
def shB : List UInt8 := [97, 98]
def shP : Pl := (Pl.fresh 32).lay (.bytes 5 shB)
theorem sh_pick : (Pl.fresh 32).C.pick = some 4 := by decide
theorem sh_free : shP.C.free = 27 := by decide
theorem sh_done_free : (Pl.mk shP.done.S (shP.done.C.unref 4) shP.done.L).C.free = 27 := by decide
theorem sh_unref : shP.done.C.unrefV 4 = 0 ∧ shP.done.C.unrefE 4 = 0 := by decide
theorem sh_gone : (shP.done.C.unref 4).get 4 = 0 := by decide
theorem sh_ok : shP.ok := lay_ok (fresh_ok (by omega) (by omega)) (bytes_good (.inl rfl) (by decide)).fine
theorem sh_g : shP.g = 2 := by decide
end Go.Proofs.YtipejjgodnnkaaaGreatDoor

namespace Go.Proofs.YtipejjgodnnkaaaGreatDoor
open Go Go.RowKit Go.Proofs

theorem countP_point (f g : Nat → Bool) (a : Nat) (hf : f a = false) (hg : g a = true) (h : ∀ c, c ≠ a → g c = f c) : ∀ n, (List.range n).countP g = (List.range n).countP f + if a < n then 1 else 0
  | 0 => by simp
  | n + 1 => by
    rw [List.range_succ, List.countP_append, List.countP_append, countP_point f g a hf hg h n]
    simp only [List.countP_cons, List.countP_nil, Nat.zero_add]
    by_cases e : n = a
    · subst e
      rw [hf, hg, if_neg (Nat.lt_irrefl n), if_pos (Nat.lt_succ_self n)]
      simp
    · rw [h n e]
      by_cases h2 : a < n
      · have e2 : a < n + 1 := by omega
        rw [if_pos h2, if_pos e2]; omega
      · have e2 : ¬ a < n + 1 := by omega
        rw [if_neg h2, if_neg e2]; omega
theorem new_count (P : Pl) : P.new.length = (List.range P.C.n).countP fun a => (P.live a).isSome := by
  have h := congrArg List.length (new_keys P)
  unfold wIn Pl.keysN at h
  rw [List.length_map, List.length_map] at h
  rw [h, List.countP_eq_length_filter]
/-- A pool on which so many blocks were laid down since Format; its drive. -/
structure Lays (kn : Nat) (D : DM) (P : Pl) (S0 : Sp) (C0 : Ct) (j many : Nat) : Prop where
  ok : P.ok
  n : P.C.n = kn
  sound : Sound D P S0 C0
  new : P.new.length = many
  free : P.C.free + j = kn - (2 + 2 * areaN kn)
theorem lays_zero {kn : Nat} (h1 : 32 ≤ kn) (h2 : kn ≤ 2048) {D : DM} (hs : Sound D (Pl.fresh kn) (fmtS kn) (Ct.zero kn)) : Lays kn D (Pl.fresh kn) (fmtS kn) (Ct.zero kn) 0 0 := by
  refine ⟨fresh_ok h1 h2, Ct.zero_n _, hs, ?_, Ct.zero_free⟩
  rw [new_count, List.countP_eq_zero.2]
  intro a _
  have : (Pl.fresh kn).live a = none := by unfold Pl.live; split <;> rfl
  rw [this]
  decide
theorem lays_put {kn : Nat} {D : DM} {P : Pl} {S0 : Sp} {C0 : Ct} {j many : Nat} (h : Lays kn D P S0 C0 j many) (hj : j < kn - (2 + 2 * areaN kn)) {x : List UInt8} (hx : x.length ≤ 128) :
    ∃ a, P.C.pick = some a ∧ a < kn ∧ P.live a = none ∧ Lays kn D (P.lay (.bytes 5 x)) S0 C0 (j + 1) (many + 1) := by
  have hf := h.free
  obtain ⟨a, hp⟩ := Ct.pick_some_free (C := P.C) (by omega)
  obtain ⟨p1, p2, p3, p4, _⟩ := Ct.pick_in hp
  have hlv := live_lay hp (.bytes 5 x)
  have hnone : P.live a = none := by
    unfold Pl.live
    rw [if_pos]
    unfold Ct.get
    rw [if_pos (by omega), Int.toNat_natCast]
    exact p3
  have hafree : (P.lay (.bytes 5 x)).C.free + 1 = P.C.free := by rw [lay_some hp]; exact Ct.alloc_free hp
  refine ⟨a, hp, by rw [← h.n]; exact p1, hnone, lay_ok h.ok (bytes_good (.inl rfl) (by omega)).fine, (lay_n _).trans h.n, lay_holds h.sound _, ?_, by omega⟩
  rw [new_count, lay_n, countP_point (fun c => (P.live c).isSome) (fun c => ((P.lay (.bytes 5 x)).live c).isSome) a (by show (P.live a).isSome = false; rw [hnone]; rfl) (by show ((P.lay (.bytes 5 x)).live a).isSome = true; rw [hlv, if_pos rfl]; rfl) (fun c hc => by show ((P.lay (.bytes 5 x)).live c).isSome = (P.live c).isSome; rw [hlv, if_neg hc]), if_pos p1, ← new_count, h.new]
theorem holds_unref {D : DM} {P : Pl} {S0 : Sp} {C0 : Ct} (h : Sound D P S0 C0) (a : Int) : Sound D ⟨P.S, P.C.unref a, P.L⟩ S0 C0 := by
  have e1 : (P.C.unref a).n = P.C.n := Ct.unref_n _ _
  have H := h.holds
  exact ⟨h.free, h.n.trans e1.symm, h.set_, ⟨H.may, H.gen, H.sec.trans (by rw [e1]), H.c, H.res, H.n.trans e1.symm, H.slot, H.other, fun i hi => by
    have := H.area i (by rw [e1] at hi; exact hi)
    show D.dur (areaAt (P.C.unref a).n P.S.gen + i) = blkL (cntH (P.C.unref a).n P.S.gen i) (C0.body (i : Int))
    rw [e1]
    exact this⟩⟩
/-- The last one is let go again. -/
theorem lays_gone {kn : Nat} {D : DM} {P : Pl} {S0 : Sp} {C0 : Ct} {j many : Nat} {a : Nat} {b : Bk} (h : Lays kn D P S0 C0 j many) (hl : P.live a = some b) (h1 : P.C.get (a : Int) = 1) :
    P.C.unrefV (a : Int) = 0 ∧ P.C.unrefE (a : Int) = 0 ∧ Pl.ok ⟨P.S, P.C.unref a, P.L⟩ ∧ Sound D ⟨P.S, P.C.unref a, P.L⟩ S0 C0 ∧ (Pl.new ⟨P.S, P.C.unref a, P.L⟩).length + 1 = many := by
  have hV : P.C.unrefV (a : Int) = 0 := by unfold Ct.unrefV; rw [h1]; rfl
  have hE : P.C.unrefE (a : Int) = 0 := by unfold Ct.unrefE; rw [h1]; rfl
  have han : a < P.C.n := by
    obtain ⟨n, e, hn⟩ := get_nat (C := P.C) (a := (a : Int)) (by rw [h1]; omega)
    omega
  refine ⟨hV, hE, unref_ok h.ok _, holds_unref h.sound _, ?_⟩
  have hlv := live_unref P (a : Int)
  have hc := countP_point (fun c => (Pl.live ⟨P.S, P.C.unref a, P.L⟩ c).isSome) (fun c => (P.live c).isSome) a (by show (Pl.live ⟨P.S, P.C.unref a, P.L⟩ a).isSome = false; rw [hlv, if_pos ⟨rfl, hV⟩]; rfl) (by show (P.live a).isSome = true; rw [hl]; rfl) (fun c hc => by show (P.live c).isSome = (Pl.live ⟨P.S, P.C.unref a, P.L⟩ c).isSome; rw [hlv, if_neg (fun h => hc (by omega))]) P.C.n
  rw [if_pos han] at hc
  have hn : (Pl.mk P.S (P.C.unref a) P.L).C.n = P.C.n := Ct.unref_n _ _
  rw [new_count, hn, ← h.new, new_count]
  exact hc.symm
theorem cnt_zero {D : DM} (h : ∀ s, D.cac s = []) : D.cnt = 0 := by
  unfold DM.cnt
  rw [List.length_eq_zero_iff, List.filter_eq_nil_iff]
  intro s _
  rw [h s]
  decide
/-- An argument's bytes, at most 128 of them. -/
def cut128 (l : List UInt8) : List UInt8 := l.take 128
theorem cut_len (l : List UInt8) : (cut128 l).length ≤ 128 := by unfold cut128; rw [List.length_take]; omega
end Go.Proofs.YtipejjgodnnkaaaGreatDoor

namespace Go.Proofs.YtipejjgodnnkaaaGreatDoor
open Go Go.RowKit Go.Proofs

theorem fld_gen (S : Sp) (w : World) : (Instr.field 56 (.agg S.vs.toArray) 0).run Tryz.prog w = .ok (.int .i64 S.gen) w := by
  unfold Sp.vs
  obtain ⟨a, b, c, d, e, f, g, h, hl⟩ := eight_of S.len
  rw [hl]
  kernel_rfl
def fldS (v : Value) : Sem Value := Instr.field 56 v 0
theorem fldS_shut (v : Value) : Instr.field 56 v 0 = fldS v := rfl
theorem sl_past {w w' : World} {T : Nat → Prop} {A : Option Addr} {n c : Nat} {l : List UInt8} (h : Sl w A n c l) (X : Turn T w w') (hA : ∀ ad, A = some ad → ¬ T ad.block) : Sl w' A n c l := ct_turned h X hA
attribute [local go_sem ↓] fldS_shut
set_option maxRecDepth 100000 in
set_option maxHeartbeats 8000000 in
theorem pshown_any (w : World) (ht : Tab w) : Calls Tryz.prog 9 #[] w fun e w' => e = .returned (.bool true) ∧ Below w.heap.size w w' := by
  have hG := ht.1
  have hn32 : sectors 32 := ⟨by omega, by omega⟩
  go_enter Tryz.func9, Tryz.ntmps9
  go_wp2_with fail
  refine (new_yes 32 hn32 w).mono ?_
  rintro e w1 ⟨d, rfl, L1, B1⟩
  have t1 := ht.below B1 hG
  go_wp2_with fail
  refine (pformat_any L1 ⟨rfl, rfl⟩ (by omega) t1 (tame_mk0 32) (by omega)).mono ?_
  rintro e w2 ⟨p, q, rfl, X2⟩
  have hfd := fmt_done (D := DM.mk0 32) (n := 32) (by omega) (by omega) rfl ⟨rfl, rfl⟩
  have hn : (DM.mk0 32).n = 32 := rfl
  rw [hn] at X2
  have S2 := hfd.2.1
  have tm2 := tame_run (fmtL 32) (tame_mk0 32)
  have fl := fmt_le (n := 32) (by omega)
  obtain ⟨D1, hD1⟩ : ∃ D, (DM.mk0 32).runD (fmtL 32) = D := ⟨_, rfl⟩
  rw [hD1] at X2 S2 tm2
  have H2 := sys_of (b := w.heap.size) X2 (fun k hk => hk) B1.size
  have t2 := t1.turned X2.turn (by omega)
  have z1 := B1.size
  have z2 := X2.turn.size
  have BB2 : Below w.heap.size w w2 := B1.trans (X2.turn.below (fun k hk => hk) z1)
  clear hfd hD1 X2 L1 hn
  obtain ⟨T2, hT2⟩ : ∃ T : Nat → Prop, (fun k => w.heap.size ≤ k ∧ k < w2.heap.size) = T := ⟨_, rfl⟩
  rw [hT2] at H2
  have tg2 := H2.tight
  clear hT2
  have kc := fun (w : World) (C : Array Value) (n c : Nat) => Lib.run_convert_bytes_const (P := Tryz.prog) w 30 5 C n c Tryz.underlying30 Tryz.underlying5
  have sa : Sl (w2.alloc (.cells #[.int .u8 97, .int .u8 98] 5 (2, 3))) (some ⟨w2.heap.size, 0, none⟩) 2 2 shB := sl_mark w2 5 (2, 3) [97, 98] #[.int .u8 97, .int .u8 98] rfl (by simp)
  have Ba : Below w2.heap.size w2 (w2.alloc (.cells #[.int .u8 97, .int .u8 98] 5 (2, 3))) := (Below.refl _ _).alloc (Nat.le_refl _) _
  have Ha := H2.below Ba
  have ta := t2.below Ba t2.1
  obtain ⟨p1, p2, p3⟩ := put_data sh_pick (x := shB) (by decide)
  have hput := sys_put Ha hG 5 _ _ _ _ sa (fun _ ad e h => by injection e with e; subst e; have := (tg2 _ h).2; simp at this) ta
  rw [p1, p2, p3] at hput
  have Hput := Lib.hid hput
  clear sa Ha ta hput p1 p2 p3
  go_wp2_with fail
  refine Hput.out.mono ?_
  rintro e w4 ⟨rfl, H4, X4, t4⟩
  have H4 : Sys w.heap.size w4 d p T2 D1 shP := H4
  have z4 := X4.size
  have za : (w2.alloc (.cells #[.int .u8 97, .int .u8 98] 5 (2, 3))).heap.size = w2.heap.size + 1 := by simp
  have B4 := BB2.trans ((turn_below (S := T2) Ba |>.mono fun _ h => h).trans X4 (fun k hk => .inl hk) |>.below (fun k hk => (tg2 k hk).1) BB2.size)
  have S4 : Sound D1 shP (fmtS 32) (Ct.zero 32) := lay_holds S2 (.bytes 5 shB)
  have hlv : shP.live 4 = some (.bytes 5 shB) := by rw [show shP = (Pl.fresh 32).lay (.bytes 5 shB) from rfl, live_lay sh_pick]; rfl
  have hby := sys_bytes H4 t4 4 5
  unfold BytesSays at hby
  obtain ⟨q1, q2⟩ := bytes_new D1 hlv (most := 128) rfl (by decide) (by omega)
  have q1 : shP.bytesE D1 4 5 = 0 := q1
  have q2 : shP.bytesL D1 4 5 = shB := q2
  rw [q1, q2] at hby
  have Hby := Lib.hid hby
  clear hby q1 q2 hlv Hput Ba
  go_wp2_with fail
  refine Hby.out.mono ?_
  rintro e w5 ⟨A5, n5, c5, rfl, s5, b5, hA5⟩
  have H5 := H4.below b5
  have t5 := t4.below b5 t4.1
  have z5 := b5.size
  have B5 := B4.trans (b5.mono B4.size)
  go_wp2_with fail
  refine (sys_free H5 27 sh_free).mono ?_
  rintro e w6 ⟨rfl, rfl⟩
  go_wp2_with fail
  refine (sys_commit H5 hG t5 tm2 (by omega) (by rw [sh_g]; omega)).mono ?_
  obtain ⟨k1, k2, S7, k4, k5, k6⟩ := cmt_sys sh_ok S4
  obtain ⟨_, _, _, k7, _⟩ := cmt_sound sh_ok S4
  have hd4 : (D1.runD shP.steps).newest 4 = (Bk.bytes 5 shB).out 4 shP.g := by
    rw [sound_newest S7]
    exact k7 4 (.bytes 5 shB) (by decide) rfl (by decide)
  have hon : (D1.runD shP.steps).off = false := S7.free.on
  have hn7 : (D1.runD shP.steps).n = 32 := S7.n.trans (by decide)
  rw [k1, k2]
  obtain ⟨D2, hD2⟩ : ∃ D, D1.runD shP.steps = D := ⟨_, rfl⟩
  rw [hD2] at S7 k4 k5 k6 hd4 hon hn7 ⊢
  have K4 := Lib.hid k4
  have K5 := Lib.hid k5
  have hgn : (mtS D2.newest).gen < 1099511627775 := by rw [k6]; show shP.g < _; rw [sh_g]; omega
  have Hgn := Lib.hid hgn
  clear k1 k2 k4 k5 k6 k7 hD2 hgn
  rintro e w7 ⟨rfl, H7, X7, t7⟩
  have s7 := sl_past s5 X7 fun ad e h => by have := (tg2 _ h).2; have := hA5 ad e; omega
  have z7 := X7.size
  have B7 := B5.trans (X7.below (fun k hk => (tg2 k hk).1) B5.size)
  obtain ⟨T7, hT7⟩ : ∃ T : Nat → Prop, grow T2 w5 w7 = T := ⟨_, rfl⟩
  have h7A : ∀ ad, A5 = some ad → ¬ T7 ad.block := fun ad e h => by
    rw [← hT7] at h
    obtain ⟨h1, h2⟩ := h
    have h3 := hA5 ad e
    have h4 : ad.block < w5.heap.size := by
      obtain ⟨ad', e', hb, _⟩ := s5.cell (k := 0) (by rw [← s5.len]; decide)
      rw [e] at e'
      injection e' with e'
      rw [e']
      exact hb
    exact h1.elim (fun h5 => by have := (tg2 _ h5).2; omega) fun h5 => by omega
  rw [hT7] at H7
  have tg7 := H7.tight
  clear hT7
  -- the other pool
  go_wp2_with fail
  refine (dr_mount H7.dr H7.base t7 Hgn.out).mono ?_
  rw [K4.out, K5.out]
  rintro e w8 ⟨⟨_, p8, rfl, H8⟩ | ⟨h, _⟩, b8⟩
  · have t8 := t7.below b8 t7.1
    have s8 := s7.below b8
    have z8 := b8.size
    have B8 := B7.trans (b8.mono B7.size)
    obtain ⟨T8, hT8⟩ : ∃ T : Nat → Prop, grow T7 w7 w8 = T := ⟨_, rfl⟩
    have h8A : ∀ ad, A5 = some ad → ¬ T8 ad.block := fun ad e h => by
      rw [← hT8] at h
      refine h.1.elim (h7A ad e) fun h5 => ?_
      obtain ⟨ad', e', hb, _⟩ := s7.cell (k := 0) (by rw [← s7.len]; decide)
      rw [e] at e'
      injection e' with e'
      rw [e'] at h5
      omega
    rw [hT8] at H8
    have tg8 := H8.tight
    have hdl := live_done shP 4
    have hg2 : shP.g = 2 := sh_g
    obtain ⟨q1, q2⟩ := bytes_disk (P := shP.done) (D := D2) (a := 4) (k := 5) (g := shP.g) (x := shB) (most := 128) (by decide) hdl hon (by omega) (by omega) ⟨by omega, by omega⟩ hd4 rfl (by decide)
    have hby := sys_bytes H8 t8 4 5
    unfold BytesSays at hby
    have q1 : shP.done.bytesE D2 4 5 = 0 := q1
    have q2 : shP.done.bytesL D2 4 5 = shB := q2
    rw [q1, q2] at hby
    have Hby8 := Lib.hid hby
    clear hby q1 q2 hdl hT8 hd4 K4 K5
    go_wp2_with fail
    refine Hby8.out.mono ?_
    rintro e w9 ⟨A9, n9, c9, rfl, s9, b9, hA9⟩
    have H9 := H8.below b9
    have t9 := t8.below b9 t8.1
    have z9 := b9.size
    have B9 := B8.trans (b9.mono B8.size)
    have s59 := s8.below b9
    have hun := sys_unref H9 hG t9 4
    rw [sh_unref.1, sh_unref.2] at hun
    have Hun := Lib.hid hun
    clear hun
    go_wp2_with fail
    refine Hun.out.mono ?_
    rintro e w10 ⟨rfl, H10, X10, t10⟩
    have s5z := sl_past s59 X10 h8A
    have s9z := sl_past s9 X10 fun ad e h => by have := (tg8 _ h).2; have := hA9 ad e; omega
    have z10 := X10.size
    have B10 := B9.trans (X10.below (fun k hk => (tg8 k hk).1) B9.size)
    have hby := sys_bytes H10 t10 4 5
    unfold BytesSays at hby
    have hgn := bytes_gone (P := ⟨shP.done.S, shP.done.C.unref 4, shP.done.L⟩) (D := D2) (a := 4) (k := 5) sh_gone
    rw [hgn.1, hgn.2] at hby
    have Hby10 := Lib.hid hby
    clear hby hgn
    go_wp2_with fail
    refine Hby10.out.mono ?_
    rintro e w11 ⟨A11, n11, c11, rfl, s11, b11, _⟩
    have H11 := H10.below b11
    have t11 := t10.below b11 t10.1
    have z11 := b11.size
    have B11 := B10.trans (b11.mono B10.size)
    have k5 := str_bs (s5z.below b11)
    have k9 := str_bs (s9z.below b11)
    have hfl := fld_gen shP.done.S
    have hgg : shP.done.S.gen = 2 := sh_g
    rw [hgg] at hfl
    have hfl : ∀ w, (fldS (.agg shP.done.S.vs.toArray)).run Tryz.prog w = .ok (.int .i64 2) w := hfl
    have hfr := sh_done_free
    obtain ⟨Q, hQ⟩ : ∃ Q : Pl, (⟨shP.done.S, shP.done.C.unref 4, shP.done.L⟩ : Pl) = Q := ⟨_, rfl⟩
    have hQS : Q.S = shP.done.S := by rw [← hQ]
    rw [hQ] at H11 hfr
    rw [← hQS] at hfl
    have hsu := sys_super H11
    clear hQ hQS
    go_wp2_with (first
      | (go_at_call 31; refine hsu.mono ?_; rintro e w12 ⟨rfl, b12⟩; have H12 := H11.below b12)
      | (go_at_call 35; refine (sys_free H12 27 hfr).mono ?_; rintro e w13 ⟨rfl, rfl⟩)
      | fail)
    go_ret
    exact ⟨rfl, B11.trans (b12.mono B11.size)⟩
  · exact absurd rfl h
end Go.Proofs.YtipejjgodnnkaaaGreatDoor
