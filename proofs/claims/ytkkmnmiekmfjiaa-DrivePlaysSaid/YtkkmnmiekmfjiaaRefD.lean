/- The reference's Write: a step that adds what is handed in. -/
import Derived.Test.YtkkmnmiekmfjiaaRefC
namespace Go.Proofs.Ytkkmnmiekmfjiaa
open Go Go.RowKit Go.Proofs

/-- An empty literal, kept shut; a literal of one slice. -/
def litE (w : World) : World := w.alloc (.cells #[] 5)
def litS (w : World) (v : Value) : World := w.alloc (.cells #[v] 35)
section
variable {w : World} {rp ro oc : Nat} {iv : Nat → Value} {vs : Nat → List Value} {S : Nat → Prop} {D : DM}
theorem RLay.append (L : RLay w rp ro oc iv vs S D) (s : Nat) (hs : s < D.n) (B : Option Addr) (d : Nat) (x : List UInt8) (hb : Sl w B 256 d x) (hcl : (D.cac s).length ≤ 999999) (ty ty2 : TypeId) :
    ∃ A c wB v1 wD, (Builtin.append_ #[35, 35] ty #[.slice (some ⟨w.heap.size, 0, none⟩) 0 0, .slice B 256 d]).run Try.prog (litE w) = .ok (.slice A 256 c) wB ∧
      (Builtin.append_ #[54, 54] ty2 #[iv s, .slice (some ⟨wB.heap.size, 0, none⟩) 1 1]).run Try.prog (litS wB (.slice A 256 c)) = .ok v1 wD ∧
      (∀ k, k < w.heap.size → (litE w).heap[k]? = w.heap[k]?) ∧ (∀ k, k < w.heap.size → wB.heap[k]? = w.heap[k]?) ∧ (∀ k, k < w.heap.size → (litS wB (.slice A 256 c)).heap[k]? = w.heap[k]?) ∧ (wD.heap[rp]? = w.heap[rp]? ∧ wD.heap[ro]? = w.heap[ro]?) ∧
      RLay (wD.setCell ⟨ro, s, none⟩ v1) rp ro oc (upd iv s v1) (upd vs s (vs s ++ [.slice A 256 c])) (fun k => S k ∨ w.heap.size ≤ k) { D with cac := upd D.cac s (D.cac s ++ [x]) } ∧ Turn S w (wD.setCell ⟨ro, s, none⟩ v1) := by
  have hbA : Below w.heap.size w (litE w) := (Below.refl _ _).alloc (Nat.le_refl _) _
  obtain ⟨A, c, wB, hrun1, hown, hbB⟩ := run_append_lit (P := Try.prog) (litE w) T22 ty w.heap.size w.heap.size (own_empty w 5) B 256 d x (hb.alloc _) (by omega) (by simp [litE])
  have hsA : (litE w).heap.size = w.heap.size + 1 := by simp [litE]
  have hbB' : Below w.heap.size w wB := hbA.trans (hbB.mono (by omega))
  have hsB := hbB.size
  have hbC : Below wB.heap.size wB (litS wB (.slice A 256 c)) := (Below.refl _ _).alloc (Nat.le_refl _) _
  have hsC : (litS wB (.slice A 256 c)).heap.size = wB.heap.size + 1 := by simp [litS]
  have hbC' : Below w.heap.size w (litS wB (.slice A 256 c)) := hbB'.trans (hbC.mono (by omega))
  obtain ⟨hbr, hbg⟩ := own_brow hown
  have hblt : ∀ g, (Value.slice A 256 c).ownBlock = some g → g < wB.heap.size := fun g hg => hbr.lt hg
  have hir := (L.irow s hs).keep (w' := litS wB (.slice A 256 c)) fun g hg => hbC'.block g (L.ilt hs hg)
  have hlen := L.len s hs
  obtain ⟨v1, wD, hrun2, hir2, hT, hat⟩ := irow_app Try.underlying54 Q64 (litS wB (.slice A 256 c)) (iv s) (vs s) hir (by rw [hlen]; simp [DM.all]; omega) ⟨wB.heap.size, 0, none⟩ 1 (.slice A 256 c)
    (newCell wB #[.slice A 256 c] 35 0) rfl rfl ty2
  have hsD := hT.size
  have hrolt := L.rolt
  have hrplt := lt_of_heap L.me
  have old : ∀ k, k < w.heap.size → (iv s).ownBlock ≠ some k → wD.heap[k]? = w.heap[k]? := fun k hk hn => (hT.block k (by omega) hn).trans (hbC'.block k hk)
  have hro : wD.heap[ro]? = w.heap[ro]? := old ro hrolt fun e => (L.ne.2.1 s hs ro e).2 rfl
  have hrp : wD.heap[rp]? = w.heap[rp]? := old rp hrplt fun e => (L.ne.2.1 s hs rp e).1 rfl
  have hTE := turn_setCell (S := fun k => k = ro) (w := wD) (a := ⟨ro, s, none⟩) v1 rfl
  have hcell : ∀ z, z < D.n → wD.cell? ⟨ro, z, none⟩ = some (iv z) := fun z hz => (World.cell?_of_block (w := w) (w' := wD) (a := ⟨ro, z, none⟩) hro).trans (L.out z hz).1
  have hivlt : ∀ g, (iv s).ownBlock = some g → g < w.heap.size := fun g hg => L.ilt hs hg
  have hv1 : ∀ g, v1.ownBlock = some g → g ≠ ro := fun g hg => by
    rcases hat with e | ⟨g', e, h⟩
    · exact (L.ne.2.1 s hs g (e ▸ hg)).2
    · rw [e] at hg; cases hg; omega
  refine ⟨A, c, wB, v1, wD, hrun1, hrun2, fun k hk => hbA.block k hk, fun k hk => hbB'.block k hk, fun k hk => hbC'.block k hk, ⟨hrp, hro⟩, ?_, ⟨?_, ?_, ?_, ?_, fun k hk hn => ?_⟩⟩
  · have hset := L.setRow s hs (w' := wD.setCell ⟨ro, s, none⟩ v1) (S' := fun k => S k ∨ w.heap.size ≤ k) v1 (vs s ++ [.slice A 256 c]) (D.dur s) (D.cac s ++ [x]) (fun k _ h => .inl h)
      (fun k hk hn hv => (hTE.block k (by omega) hn).trans (old k hk hv)) (fun z hz => ⟨?_, ?_⟩) (hir2.keep fun g hg => ?_) (by rw [List.length_append, hlen]; simp [DM.all]) (fun i v l hv hl => ?_) ?_ (fun v hv g hg => ?_) (fun i i' v v' g hv hv' hg hg' => ?_)
    · rw [upd_self] at hset; exact hset
    · by_cases hzs : z = s
      · subst hzs; rw [World.cell?_setCell_same _ _ _ (hcell z hz), upd_same]
      · rw [World.cell?_setCell_other _ _ _ _ (fun e => hzs (by injection e with _ e2; exact e2.symm)), upd_other _ _ hzs]; exact hcell z hz
    · rw [World.frozen?_setCell]
      exact (World.frozen?_of_block (w := w) (w' := wD) (a := ⟨ro, z, none⟩) hro).trans (L.out z hz).2
    · have hglt : g < wD.heap.size := hir2.lt (by simp) hg
      exact hTE.block g hglt (hv1 g hg)
    · by_cases hi : i < (vs s).length
      · rw [List.getElem?_append_left hi] at hv
        have hl' : (D.all s)[i]? = some l := by
          rw [← hl, show (D.dur s :: (D.cac s ++ [x])) = D.all s ++ [x] from rfl, List.getElem?_append_left (by omega)]
        have hm := List.mem_of_getElem? hv
        refine (L.brow s hs i v l hv hl').keep fun g hg => ?_
        obtain ⟨a, b, e⟩ := L.ne.2.2 s hs v hm g hg
        exact (hTE.block g (by have := L.blt hs hm hg; omega) b).trans (old g (L.blt hs hm hg) (e s hs))
      · have hi2 : i = (vs s).length := by have := (List.getElem?_eq_some_iff.1 hv).1; simp at this; omega
        subst hi2
        rw [List.getElem?_append_right (Nat.le_refl _), Nat.sub_self] at hv
        obtain rfl : Value.slice A 256 c = v := by simpa using hv
        have hl' : x = l := by
          rw [show (D.dur s :: (D.cac s ++ [x])) = D.all s ++ [x] from rfl, hlen, List.getElem?_append_right (Nat.le_refl _), Nat.sub_self] at hl
          simpa using hl
        subst hl'
        refine hbr.keep fun g hg => ?_
        have h1 := hbg g hg
        have h2 := hblt g hg
        exact (hTE.block g (by omega) (by omega)).trans ((hT.block g (by omega) (fun e => by have := hivlt g e; omega)).trans (hbC.block g h2))
    · rcases hat with e | ⟨g, e, h⟩
      · exact .inl e
      · exact .inr ⟨g, e, by omega, .inr (by omega)⟩
    · rcases List.mem_append.1 hv with h | h
      · exact .inl h
      · rw [List.mem_singleton.1 h] at hg
        have h1 := hbg g hg
        have h2 := hblt g hg
        refine .inr ⟨h1, .inr h1, fun e => ?_⟩
        rcases hat with e2 | ⟨g', e2, h3⟩
        · rw [e2] at e; have := hivlt g e; omega
        · rw [e2] at e; cases e; omega
    · by_cases hi : i < (vs s).length <;> by_cases hi' : i' < (vs s).length
      · rw [List.getElem?_append_left hi] at hv
        rw [List.getElem?_append_left hi'] at hv'
        exact (L.bsep s s i i' v v' g hs hs hv hv' hg hg').2
      · exfalso
        rw [List.getElem?_append_left hi] at hv
        have hi2 : i' = (vs s).length := by have := (List.getElem?_eq_some_iff.1 hv').1; simp at this; omega
        rw [hi2, List.getElem?_append_right (Nat.le_refl _), Nat.sub_self] at hv'
        obtain rfl : Value.slice A 256 c = v' := by simpa using hv'
        have := L.blt hs (List.mem_of_getElem? hv) hg
        have := hbg g hg'
        omega
      · exfalso
        rw [List.getElem?_append_left hi'] at hv'
        have hi2 : i = (vs s).length := by have := (List.getElem?_eq_some_iff.1 hv).1; simp at this; omega
        rw [hi2, List.getElem?_append_right (Nat.le_refl _), Nat.sub_self] at hv
        obtain rfl : Value.slice A 256 c = v := by simpa using hv
        have := L.blt hs (List.mem_of_getElem? hv') hg'
        have := hbg g hg
        omega
      · have h1 := (List.getElem?_eq_some_iff.1 hv).1
        have h2 := (List.getElem?_eq_some_iff.1 hv').1
        simp at h1 h2
        omega
  · exact (hT.os.trans (hbC'.os))
  · exact (hT.tape.trans (hbC'.tape))
  · exact (hT.output.trans (hbC'.output))
  · have : (wD.setCell ⟨ro, s, none⟩ v1).heap.size = wD.heap.size := by simp [World.setCell]
    omega
  · have hkr : k ≠ ro := fun e => hn (e ▸ L.inS.2.1)
    exact (hTE.block k (by omega) hkr).trans (old k hk fun e => hn (L.inS.2.2.1 s hs k e))
theorem RLay.apart (L : RLay w rp ro oc iv vs S D) {g o : Nat} {x : List UInt8} (hx : 0 < x.length) (h : w.rangeAt g o (bvs x)) : g ≠ rp := fun e => by
  subst e
  have hc := h 0 (bv x[0]) (by simp [bvs, hx])
  rw [cell_of_row w g (o + 0) _ _ _ L.me, Nat.add_zero] at hc
  rcases o with _ | _ | _ | _ | _ | o <;> simp [bv] at hc
end
/-- Literals and append, kept shut. -/
def lE (n : Nat) (p : Array (Nat × Value)) : Sem Value := Instr.buildSlice 35 n p
def lS (n : Nat) (p : Array (Nat × Value)) : Sem Value := Instr.buildSlice 54 n p
def apR (ts : Array TypeId) (ty : TypeId) (args : Array Value) : Sem Value := Builtin.append_ ts ty args
theorem lE_shut (n : Nat) (p : Array (Nat × Value)) : Instr.buildSlice 35 n p = lE n p := rfl
theorem lS_shut (n : Nat) (p : Array (Nat × Value)) : Instr.buildSlice 54 n p = lS n p := rfl
theorem apR_shut (ts : Array TypeId) (ty : TypeId) (args : Array Value) : Builtin.append_ ts ty args = apR ts ty args := rfl
theorem run_lE (w : World) : (lE 0 #[]).run Try.prog w = .ok (.slice (some ⟨w.heap.size, 0, none⟩) 0 0) (litE w) := by
  obtain ⟨i, hi, hz0, hz1, hz2⟩ := info_parts T22.info
  simp [lE, Instr.buildSlice, run_underlying T22.sl, sizeOf, typeInfo, hi, newRow, litE, Instr.fill]
  exact congrArg (fun a => w.alloc (.cells a 5)) (Array.eq_empty_of_size_eq_zero (by simp))
theorem run_lS (w : World) (v : Value) (hv : v.cells = #[v]) : (lS 1 #[(0, v)]).run Try.prog w = .ok (.slice (some ⟨w.heap.size, 0, none⟩) 1 1) (litS w v) := by
  obtain ⟨i, hi, hz0, hz1, hz2⟩ := info_parts Q64
  refine run_buildSlice w _ _ 1 _ #[v] i _ Try.underlying54 hi hz0 (by rw [hz1]; omega) (by rw [hz1]; omega) ?_
  rw [hz1]
  have h := Great.fill_whole (s := 1) (by omega) [v] ((Array.range (1 * 1)).map ((Value.slice none 0 0).cells[· % (Value.slice none 0 0).cells.size]!)) (by intro u hu; rw [List.mem_singleton.1 hu, hv]; rfl) (by rw [Array.size_map, Array.size_range]; rfl)
  refine Eq.trans ?_ (h.trans ?_)
  · simp only [List.zipIdx_cons, List.zipIdx_nil, List.map_cons, List.map_nil]
  · simp [hv]

attribute [local go_sem ↓] lE_shut lS_shut apR_shut
set_option maxRecDepth 10000 in
set_option maxHeartbeats 2000000 in
theorem rwrite_any {w : World} {rp : Nat} {S : Nat → Prop} {D : DM} (L0 : RDrv w rp S D) (s : Int) (A : Option Addr) (n c : Nat) (x : List UInt8) (h : Sl w A n c x) (hst : D.steps ≤ 1000000000) (hcl : ∀ k, (D.cac k).length ≤ 999999) :
    Calls Try.prog 10 #[.pointer (some ⟨rp, 0, none⟩), .int .i64 s, .slice A n c] w fun e w' => e = .returned (.int .i64 (D.writeE s x)) ∧ RDrv w' rp (fun k => S k ∨ w.heap.size ≤ k) (D.writeD s x) ∧ Turn S w w' := by
  obtain ⟨ro, oc, iv, vs, L⟩ := L0
  have up : ∀ {w' : World} {iv' vs' D'}, RLay w' rp ro oc iv' vs' S D' → RDrv w' rp (fun k => S k ∨ w.heap.size ≤ k) D' := fun L' => ⟨ro, oc, _, _, L'.mono fun _ _ h => .inl h⟩
  have hn := h.len
  have hsp : ∀ k, k = rp → S k := fun k e => e ▸ L.inS.1
  have H1 := there_any L s
  by_cases hs : 0 ≤ s ∧ s < (D.n : Int)
  · rw [show decide (0 ≤ s ∧ s < (D.n : Int)) = true by simpa using hs] at H1
    by_cases hx : x.length = 256
    · have hbad : D.bad s x = false := by simp [DM.bad, hs, hx]
      unfold DM.writeE DM.writeD
      rw [hbad]
      simp only [Bool.false_eq_true, if_false]
      obtain ⟨k, rfl⟩ := Int.eq_ofNat_of_zero_le hs.1
      have hk : k < D.n := by omega
      rw [Int.toNat_natCast]
      obtain rfl : n = 256 := by omega
      obtain ⟨g, o, rfl, hgl, hr⟩ := range_sl h (by omega)
      have hap := L.apart (by omega) hr
      have H2 := rstep_any L hst
      unfold DM.err at H2 ⊢
      cases hstop : D.stop with
      | true =>
        rw [hstop] at H2
        go_enter Try.func10, Try.ntmps10
        go_wp2_with fail
        refine H1.mono ?_
        rintro e w1 ⟨rfl, rfl⟩
        go_wp2_with fail
        refine H2.mono ?_
        rintro e w1 ⟨rfl, L1, T1⟩
        go_wp2_with fail
        go_ret
        exact ⟨rfl, up L1, T1.mono hsp⟩
      | false =>
        rw [hstop] at H2
        go_enter Try.func10, Try.ntmps10
        go_wp2_with fail
        refine H1.mono ?_
        rintro e w1 ⟨rfl, rfl⟩
        go_wp2_with fail
        refine H2.mono ?_
        rintro e w1 ⟨rfl, L1, T1⟩
        have hb1 : Sl w1.drew (some ⟨g, o, none⟩) 256 c x := by
          have h1 := sl_range (w := w1.drew) (range_keep hr (T1.block g hgl hap)) (by have := T1.size; show g < w1.heap.size; omega) (c := c) (by have := h.cap; omega) h.max
          rw [hx] at h1; exact h1
        have LD := L1.drew
        obtain ⟨A1, c1, wB, v1, wD, hap1, hap2, kA, kB, kC, ⟨kD1, kD2⟩, LE, TE⟩ := LD.append k hk (some ⟨g, o, none⟩) c x hb1 (hcl k) 35 54
        have p0 := LD.c0
        have hp : rp < w1.drew.heap.size := lt_of_heap LD.me
        have ho : ro < w1.drew.heap.size := LD.rolt
        have q0 := (LD.out k hk).1
        have pA := (World.cell?_of_block (w := w1.drew) (a := ⟨rp, 0, none⟩) (kA rp hp)).trans p0
        have pB := (World.cell?_of_block (w := w1.drew) (a := ⟨rp, 0, none⟩) (kB rp hp)).trans p0
        have pC := (World.cell?_of_block (w := w1.drew) (a := ⟨rp, 0, none⟩) (kC rp hp)).trans p0
        have pD := (World.cell?_of_block (w := w1.drew) (a := ⟨rp, 0, none⟩) kD1).trans p0
        have qA := (World.cell?_of_block (w := w1.drew) (a := ⟨ro, k, none⟩) (kA ro ho)).trans q0
        have qB := (World.cell?_of_block (w := w1.drew) (a := ⟨ro, k, none⟩) (kB ro ho)).trans q0
        have qC := (World.cell?_of_block (w := w1.drew) (a := ⟨ro, k, none⟩) (kC ro ho)).trans q0
        have qD := (World.cell?_of_block (w := w1.drew) (a := ⟨ro, k, none⟩) kD2).trans q0
        have fD := (World.frozen?_of_block (w := w1.drew) (a := ⟨ro, k, none⟩) kD2).trans (LD.out k hk).2
        have hix : ∀ w', (Instr.indexAt 46 (.slice (some ⟨ro, 0, none⟩) D.stepD.n oc) (.int .i64 (k : Int))).run Try.prog w' = .ok (.pointer (some ⟨ro, k, none⟩)) w' := fun w' => by
          have := run_index_one (P := Try.prog) Try.underlying46 S64 w' ro 0 D.stepD.n oc k hk
          simpa only [Nat.zero_add] using this
        have hE : (lE 0 #[]).run Try.prog w1.drew = .ok (.slice (some ⟨w1.heap.size, 0, none⟩) 0 0) (litE w1.drew) := run_lE w1.drew
        have hS := run_lS wB (.slice A1 256 c1) rfl
        have hap1 : (apR #[35, 35] 35 #[.slice (some ⟨w1.heap.size, 0, none⟩) 0 0, .slice (some ⟨g, o, none⟩) 256 c]).run Try.prog (litE w1.drew) = .ok (.slice A1 256 c1) wB := hap1
        have hap2 : (apR #[54, 54] 54 #[iv k, .slice (some ⟨wB.heap.size, 0, none⟩) 1 1]).run Try.prog (litS wB (.slice A1 256 c1)) = .ok v1 wD := hap2
        have hzz := T1.size
        have hone : v1.oneCell' = true := by
          have hI := LE.irow k hk
          rw [upd_same] at hI
          obtain ⟨_, _, _, e, _⟩ := hI
          rw [e]; rfl
        obtain ⟨gv, ov, cv, hvv, _⟩ : ∃ gv ov cv, v1 = Value.slice (some ⟨gv, ov, none⟩) (vs k ++ [Value.slice A1 256 c1]).length cv ∧ True := by
          have hI := LE.irow k hk
          rw [upd_same, upd_same] at hI
          obtain ⟨a, b, e, h, _⟩ := hI
          exact ⟨a, b, e, h, trivial⟩
        subst hvv
        generalize hlv : (vs k ++ [Value.slice A1 256 c1]).length = lv at *
        clear kA kB kC kD1 kD2 hp ho hone hlv
        go_wp2_with fail
        go_region
        all_goals (go_wp2_with fail; go_ret; exact ⟨rfl, ⟨ro, oc, _, _, LE.mono fun z _ hz => hz.imp id fun hz => by simp at hz; omega⟩, ((T1.mono hsp).drew).then TE⟩)
    · have hbad : D.bad s x = true := by simp [DM.bad, hx]
      unfold DM.writeE DM.writeD
      rw [hbad]
      have hn2 : ¬ (n : Int) = 256 := by omega
      go_enter Try.func10, Try.ntmps10
      go_wp2_with fail
      refine H1.mono ?_
      rintro e w1 ⟨rfl, rfl⟩
      go_wp2_with fail
      go_ret
      exact ⟨rfl, up L, Turn.refl _ _⟩
  · rw [show decide (0 ≤ s ∧ s < (D.n : Int)) = false by simpa using hs] at H1
    have hbad : D.bad s x = true := by simp [DM.bad, hs]
    unfold DM.writeE DM.writeD
    rw [hbad]
    go_enter Try.func10, Try.ntmps10
    go_wp2_with fail
    refine H1.mono ?_
    rintro e w1 ⟨rfl, rfl⟩
    go_wp2_with fail
    go_ret
    exact ⟨rfl, up L, Turn.refl _ _⟩
end Go.Proofs.Ytkkmnmiekmfjiaa
