/- Write: a step that adds what is handed in to the cached writes of its sector. New: a drive of noughts, or none. -/
import Derived.Test.YtipejjgodnnkaaaGreatDoorDrvC
import Derived.Maps.AppendAt
import Derived.Great.BuildSlice
import Derived.BigRegion
namespace Go.Proofs.YtipejjgodnnkaaaGreatDoor
open Go Go.RowKit Go.Proofs
open Go.ChangeMaps (setBlock)

/-- The one-sector slice that append is handed. -/
def oneB (w : World) (l : List UInt8) : World := w.alloc (.cells (bvs l).toArray 125)
theorem run_build_one (w : World) (l : List UInt8) (hl : l.length = 256) : (Instr.buildSlice 126 1 #[(0, .agg (bvs l).toArray)]).run Tryz.prog w = .ok (.slice (some ⟨w.heap.size, 0, none⟩) 1 1) (oneB w l) := by
  obtain ⟨i, hi, hz0, hz1, hz2⟩ := info_parts TB
  refine run_buildSlice w _ _ 1 _ (bvs l).toArray i _ Tryz.underlying126 hi hz0 (by rw [hz1]; omega) (by rw [hz1]; omega) ?_
  have hs : (Value.agg (bvs l).toArray).cells.size = 256 := by show (bvs l).toArray.size = 256; rw [List.size_toArray, bvs_len, hl]
  have h := Great.fill_whole (s := 256) (by omega) [.agg (bvs l).toArray] ((Array.range (1 * 256)).map ((Value.agg (Array.replicate 256 (Value.int .u8 0))).cells[· % (Value.agg (Array.replicate 256 (Value.int .u8 0))).cells.size]!)) (by intro v hv; rw [List.mem_singleton.1 hv]; exact hs) (by rw [Array.size_map, Array.size_range]; rfl)
  rw [hz1]
  refine Eq.trans ?_ (h.trans ?_)
  · simp only [List.zipIdx_cons, List.zipIdx_nil, List.map_cons, List.map_nil]
  · simp [Value.cells]
theorem run_array_at (w : World) (g o c : Nat) : (Instr.arrayAt 125 (.slice (some ⟨g, o, none⟩) 256 c)).run Tryz.prog w = .ok (.pointer (some ⟨g, o, none⟩)) w := by
  simp [Instr.arrayAt, run_underlying UB]
/-- The bytes that are handed in lie elsewhere than the drive itself. -/
theorem Lay.apart {w : World} {bp bd bm clock : Nat} {l : List MapEntry} {v : Nat → Value} {S : Nat → Prop} {D : DM} (L : Lay w bp bd bm l clock v S D) {g o : Nat} {x : List UInt8} (hx : 0 < x.length) (h : w.rangeAt g o (bvs x)) : g ≠ bp := fun e => by
  subst e
  have hc := h 0 (bv x[0]) (by simp [bvs, hx])
  rw [cell_of_row w g (o + 0) _ _ _ L.me, Nat.add_zero] at hc
  rcases o with _ | _ | _ | _ | _ | _ | o <;> simp [bv] at hc
theorem Lay.run_update {w : World} {bm clock : Nat} {l : List MapEntry} (hb : w.heap[bm]? = some (.map l.toArray clock)) (E : Ents l clock) (s : Nat) (x : Value) :
    (Instr.mapUpdate 127 (.map (some bm)) (.int .i64 s) x).run Tryz.prog w = .ok () (setBlock w bm (.map (putE s x clock l).toArray (if getE s l = none then clock + 1 else clock))) :=
  run_update_ints (P := Tryz.prog) (w := w) E Tryz.underlying127 Tryz.underlying3 hb s x

/-- A sector is appended to the cached writes of s: what that leaves. -/
theorem Lay.append {w : World} {bp bd bm clock : Nat} {l : List MapEntry} {v : Nat → Value} {S : Nat → Prop} {D : DM} (L : Lay w bp bd bm l clock v S D) (s : Nat) (hs : s < D.n) (x : List UInt8) (hx : x.length = 256) (hcl : (D.cac s).length ≤ 1000000) (ty : TypeId) :
    ∃ v1 w1, (Builtin.append_ #[126, 126] ty #[v s, .slice (some ⟨w.heap.size, 0, none⟩) 1 1]).run Tryz.prog (oneB w x) = .ok v1 w1 ∧ w1.heap[bm]? = some (.map l.toArray clock) ∧ w1.cell? ⟨bp, 1, none⟩ = some (.map (some bm)) ∧
      Lay (setBlock w1 bm (.map (putE s v1 clock l).toArray (if getE s l = none then clock + 1 else clock))) bp bd bm (putE s v1 clock l) (if getE s l = none then clock + 1 else clock) (upd v s v1) (fun k => S k ∨ w.heap.size ≤ k) { D with cac := upd D.cac s (D.cac s ++ [x]) } ∧
      Turn S w (setBlock w1 bm (.map (putE s v1 clock l).toArray (if getE s l = none then clock + 1 else clock))) ∧ Turn S w w1 := by
  obtain ⟨i, hi, hz0, hz1, hz2⟩ := info_parts TB
  have La : Lay (oneB w x) bp bd bm l clock v S D := L.keep fun k hk _ => heap_alloc_old w _ hk
  have hsz : (oneB w x).heap.size = w.heap.size + 1 := by simp [oneB]
  obtain ⟨v1, w1, hrun, hown, hgrow, hnil, hat⟩ := run_append_own_at (P := Tryz.prog) (oneB w x) 0 126 ty 125 i _ 256 256 Tryz.underlying126 hi hz0 hz1 hz2 (by simp [Value.cells]) (by omega) (v s) _ _ (La.row s)
    ⟨w.heap.size, 0, none⟩ 1 1 (bvs x) (by rw [bvs_len, hx]) (fun j u hu => by unfold oneB; rw [newCell]; simpa using hu) (bvs_one x) (by unfold maxLen; omega) (by omega) (Nat.zero_le _)
  have hlt : ∀ z g, (v z).ownBlock = some g → g < w.heap.size := fun z g hg => by obtain ⟨c, t, h⟩ := L.rowblock hg; exact lt_of_heap h
  have bm1 := lt_of_heap L.map
  have old : ∀ k, k < w.heap.size → some k ≠ (v s).ownBlock → w1.heap[k]? = w.heap[k]? := fun k hk hn => (hgrow.block k (by omega) hn).trans (heap_alloc_old w _ hk)
  have hm1 : w1.heap[bm]? = some (.map l.toArray clock) := (old bm bm1 fun e => L.row_bm e.symm rfl).trans L.map
  have hp1 : w1.heap[bp]? = w.heap[bp]? := old bp (lt_of_heap L.me) fun e => (L.ne.2 s bp e.symm).1 rfl
  have hnb : ∀ g, v1.ownBlock = some g → g ≠ bm := fun g hg e => by
    rcases hown.2 with ⟨hv, _⟩ | ⟨g', cap, cur, hv, _, h3, _⟩
    · rw [hv] at hg; cases hg
    · rw [hv] at hg; cases hg; rw [show g' = bm from e, hm1] at h3; cases h3
  have hT := turn_setBlock (w := w1) (S := fun k => k = bm) (b := bm) (.map (putE s v1 clock l).toArray (if getE s l = none then clock + 1 else clock)) rfl
  refine ⟨v1, w1, hrun, hm1, (World.cell?_of_block (a := ⟨bp, 1, none⟩) hp1).trans L.c1, ?_, ?_, ⟨hgrow.os, hgrow.tape, hgrow.output, by have := hgrow.size; omega, fun k hk hn => old k hk fun e => hn (L.inS.2.2.2 s k e.symm)⟩⟩
  · refine L.setCac s hs v1 (D.cac s ++ [x]) ?_ (fun k _ h => .inl h) (fun k hk hn hr => (hT.block k (by have := hgrow.size; omega) hn).trans (old k hk hr)) (setBlock_at (lt_of_heap hm1)) (L.ents.put s v1) (fun z => ?_) (fun e he => ?_) ?_ (fun h => by simp at h) ?_
    · intro y hy
      rcases List.mem_append.1 hy with h | h
      · exact L.cl s y h
      · rw [List.mem_singleton.1 h]; exact hx
    · rw [getE_put]
      by_cases h : z = s
      · subst h; simp
      · rw [if_neg (by omega), if_neg h]
    · rcases mem_put he with h | ⟨h, _⟩
      · exact .inl h
      · right; unfold kI; rw [h]
    · rw [List.length_append, flat_snoc]
      exact owns_keep hown fun g hg => hT.block g (by
        rcases hown.2 with ⟨hv, _⟩ | ⟨g', cap, cur, hv, _, h3, _⟩
        · rw [hv] at hg; cases hg
        · rw [hv] at hg; cases hg; exact lt_of_heap h3) (hnb g hg)
    · rcases hat with h | h
      · exact .inr (.inl h)
      · exact .inr (.inr ⟨_, h, by omega, .inr (by omega)⟩)
  · refine ⟨hgrow.os, hgrow.tape, hgrow.output, by rw [setBlock_size]; have := hgrow.size; omega, fun k hk hn => ?_⟩
    rw [hT.block k (by have := hgrow.size; omega) (fun e => hn (e ▸ L.inS.2.2.1))]
    exact old k hk fun e => hn (L.inS.2.2.2 s k e.symm)

/-- Write. -/
def DM.bad (D : DM) (s : Int) (x : List UInt8) : Bool := decide (¬ (0 ≤ s ∧ s < (D.n : Int)) ∨ x.length ≠ 256)
def DM.writeE (D : DM) (s : Int) (x : List UInt8) : Int := if D.bad s x then 1 else D.err
def DM.writeD (D : DM) (s : Int) (x : List UInt8) : DM := if D.bad s x then D else if D.stop then D.stepD else { D.stepD with cac := upd D.cac s.toNat (D.cac s.toNat ++ [x]) }
/-- A slice literal of sectors, kept shut. -/
def litB (n : Nat) (parts : Array (Nat × Value)) : Sem Value := Instr.buildSlice 126 n parts
theorem litB_shut (n : Nat) (parts : Array (Nat × Value)) : Instr.buildSlice 126 n parts = litB n parts := rfl
/-- A sector's load, and append, kept shut. -/
def ldB (p : Value) : Sem Value := Instr.loadAt 125 p
theorem ldB_shut (p : Value) : Instr.loadAt 125 p = ldB p := rfl
def apB (ts : Array TypeId) (ty : TypeId) (args : Array Value) : Sem Value := Builtin.append_ ts ty args
theorem apB_shut (ts : Array TypeId) (ty : TypeId) (args : Array Value) : Builtin.append_ ts ty args = apB ts ty args := rfl
attribute [local go_sem ↓] litB_shut ldB_shut apB_shut
set_option maxRecDepth 100000 in
set_option maxHeartbeats 2000000 in
theorem write_any {w : World} {bp : Nat} {S : Nat → Prop} {D : DM} (L0 : Drv w bp S D) (s : Int) (A : Option Addr) (n c : Nat) (x : List UInt8) (h : Sl w A n c x) (hst : D.steps ≤ 1000000000) (hcl : ∀ k, (D.cac k).length ≤ 1000000) :
    Calls Tryz.prog 37 #[.pointer (some ⟨bp, 0, none⟩), .int .i64 s, .slice A n c] w fun e w' => e = .returned (.int .i64 (D.writeE s x)) ∧ Drv w' bp (fun k => S k ∨ w.heap.size ≤ k) (D.writeD s x) ∧ Turn S w w' := by
  obtain ⟨bd, bm, l, clock, v, L⟩ := L0
  have up : ∀ {w' : World} {l' clock' v' D'}, Lay w' bp bd bm l' clock' v' S D' → Drv w' bp (fun k => S k ∨ w.heap.size ≤ k) D' := fun L' => ⟨bd, bm, _, _, _, L'.mono fun _ _ h => .inl h⟩
  have hn := h.len
  have hsp : ∀ k, k = bp → S k := fun k e => e ▸ L.inS.1
  by_cases hs : 0 ≤ s ∧ s < (D.n : Int)
  · have H1 := has_any L s
    rw [show decide (0 ≤ s ∧ s < (D.n : Int)) = true by simpa using hs] at H1
    by_cases hx : x.length = 256
    · have hbad : D.bad s x = false := by simp [DM.bad, hs, hx]
      unfold DM.writeE DM.writeD
      rw [hbad]
      simp only [Bool.false_eq_true, if_false]
      obtain ⟨k, rfl⟩ := Int.eq_ofNat_of_zero_le hs.1
      have hk : k < D.n := by omega
      rw [Int.toNat_natCast]
      obtain rfl : n = 256 := by omega
      obtain ⟨g, o, rfl, hgl, hr⟩ := range_sl h (by omega)
      have hap := L.apart (by omega) hr
      have H2 := step_any L hst
      unfold DM.err at H2 ⊢
      cases hstop : D.stop with
      | true =>
        rw [hstop] at H2
        go_enter Tryz.func37, Tryz.ntmps37
        go_wp2_with fail
        refine H1.mono ?_
        rintro e w1 ⟨rfl, rfl⟩
        go_wp2_with fail
        refine H2.mono ?_
        rintro e w1 ⟨rfl, L1, T1⟩
        go_wp2_with fail
        go_ret
        exact ⟨rfl, up L1, T1.mono hsp⟩
      | false =>
        rw [hstop] at H2
        go_enter Tryz.func37, Tryz.ntmps37
        go_wp2_with fail
        refine H1.mono ?_
        rintro e w1 ⟨rfl, rfl⟩
        go_wp2_with fail
        refine H2.mono ?_
        rintro e w1 ⟨rfl, L1, T1⟩
        have hr1 : w1.drew.rangeAt g o (bvs x) := range_keep hr (T1.block g hgl hap)
        have LD := L1.drew
        have La : Lay (oneB w1.drew x) bp bd bm l clock v S D.stepD := LD.keep fun k hk _ => heap_alloc_old w1.drew _ hk
        obtain ⟨v1, w2, happ, hm2, hc2, L2, T2, T2b⟩ := LD.append k hk x hx (hcl k) 126
        have hupd := Lay.run_update hm2 L1.ents k v1
        generalize (if getE (k : Int) l = none then clock + 1 else clock) = ck at L2 T2 hupd
        have c1 := LD.c1
        have c1a := La.c1
        have c1b := L2.c1
        have hlk := LD.lookup k
        have hlka := La.lookup k
        have hbs : (litB 1 #[(0, .agg (bvs x).toArray)]).run Tryz.prog w1.drew = .ok (.slice (some ⟨w1.heap.size, 0, none⟩) 1 1) (oneB w1.drew x) := run_build_one w1.drew x hx
        have har := run_array_at
        have hld : (ldB (.pointer (some ⟨g, o, none⟩))).run Tryz.prog w1.drew = .ok (.agg (bvs x).toArray) w1.drew := run_loadAt_mid (P := Tryz.prog) w1.drew g o 125 (bvs x) _ hr1 UB rfl (by rw [SBk, bvs_len, hx])
        have happ : (apB #[126, 126] 126 #[v k, .slice (some ⟨w1.heap.size, 0, none⟩) 1 1]).run Tryz.prog (oneB w1.drew x) = .ok v1 w2 := happ
        go_wp2_with fail
        go_region
        all_goals (go_wp2; go_ret; exact ⟨rfl, ⟨bd, bm, _, _, _, L2.mono fun z _ hz => hz.imp id fun hz => by have := T1.size; simp at hz; omega⟩, ((T1.mono hsp).drew).then T2⟩)
    · have hbad : D.bad s x = true := by simp [DM.bad, hx]
      unfold DM.writeE DM.writeD
      rw [hbad]
      have hn2 : ¬ (n : Int) = 256 := by omega
      go_enter Tryz.func37, Tryz.ntmps37
      go_wp2_with fail
      refine H1.mono ?_
      rintro e w1 ⟨rfl, rfl⟩
      go_wp2_with fail
      go_ret
      exact ⟨rfl, up L, Turn.refl _ _⟩
  · have H1 := has_any L s
    rw [show decide (0 ≤ s ∧ s < (D.n : Int)) = false by simpa using hs] at H1
    have hbad : D.bad s x = true := by simp [DM.bad, hs]
    unfold DM.writeE DM.writeD
    rw [hbad]
    go_enter Tryz.func37, Tryz.ntmps37
    go_wp2_with fail
    refine H1.mono ?_
    rintro e w1 ⟨rfl, rfl⟩
    go_wp2_with fail
    go_ret
    exact ⟨rfl, up L, Turn.refl _ _⟩
end Go.Proofs.YtipejjgodnnkaaaGreatDoor

namespace Go.Proofs.YtipejjgodnnkaaaGreatDoor
open Go Go.RowKit Go.Proofs
open Go.ChangeMaps (setBlock)

def DM.mk0 (n : Nat) : DM := ⟨n, fun _ => zeros 256, fun _ => [], false, false, 0, 0, n⟩
theorem zeros_at (n : Nat) {j : Nat} (h : j < n) : (bvs (zeros n))[j]? = some (.int .u8 0) := by
  unfold bvs zeros
  rw [List.getElem?_map, List.getElem?_replicate, if_pos h]; rfl
theorem made_at (n j : Nat) (h : j < n) : (madeCells (Value.agg (Array.replicate 256 (.int .u8 0))).cells n).toList[j]? = some (.int .u8 0) := by
  unfold madeCells
  rw [Array.toList_map, List.getElem?_map, Array.toList_range, List.getElem?_range h]
  show some ((Array.replicate 256 (Value.int .u8 0))[j % (Array.replicate 256 (Value.int .u8 0)).size]!) = _
  have hlt : j % 256 < 256 := Nat.mod_lt _ (by omega)
  rw [Array.size_replicate, getElem!_pos _ _ (by rw [Array.size_replicate]; exact hlt), Array.getElem_replicate]

/-- A fresh drive, out of its three blocks. -/
theorem lay_new {w1 w' : World} {bd bm bp n : Nat} (hn : sectors n) (hown : w1.ownsRow 0 125 256 (.slice (some ⟨bd, 0, none⟩) n n) n (madeCells (Value.agg (Array.replicate 256 (.int .u8 0))).cells (n * 256)).toList)
    (h1 : w'.heap[bd]? = w1.heap[bd]?) (h2 : w'.heap[bm]? = some (.map #[] 0)) (h3 : w'.heap[bp]? = some (.cells #[.slice (some ⟨bd, 0, none⟩) n n, .map (some bm), .bool false, .bool false, .int .i64 0, .int .i64 0] 129 (0, 0)))
    (hne : bp ≠ bd) (S : Nat → Prop) (hS : S bp ∧ S bd ∧ S bm) : Lay w' bp bd bm [] 0 (fun _ => .slice none 0 0) S (DM.mk0 n) := by
  have hown' : w'.ownsRow 0 125 256 (.slice (some ⟨bd, 0, none⟩) n n) n (madeCells (Value.agg (Array.replicate 256 (.int .u8 0))).cells (n * 256)).toList := owns_keep hown fun g hg => by cases hg; exact h1
  have hc : ∀ s, s < n → ∀ j, j < 256 → w'.cell? ⟨bd, s * 256 + j, none⟩ = some (.int .u8 0) := fun s hs j hj => by
    rw [World.ownsRow.cellAt hown' _ (by omega), made_at _ _ (by omega)]
  refine ⟨h3, fun s hs j v hv => ?_, fun s hs j hj => ⟨by rw [hc s hs j hj]; rfl, World.ownsRow.frozenAt hown' _⟩, h2, ents_nil, fun s => ?_, fun e he => (by simp at he), fun s => World.ownsRow_nil _ _ _ _, fun _ _ => rfl, fun s => List.length_replicate, fun s => by simp [Secs, DM.mk0], fun _ _ => rfl,
    ⟨hS.1, hS.2.1, hS.2.2, fun s g hg => by cases hg⟩, ⟨hne, fun s g hg => by cases hg⟩, fun s s' g hg => (by cases hg), hn, by simp [DM.mk0]⟩
  · have hj : j < 256 := by
      have h0 := (List.getElem?_eq_some_iff.1 hv).1
      rw [bvs_len, show (DM.mk0 n).dur s = zeros 256 from rfl, show (zeros 256).length = 256 from List.length_replicate] at h0
      exact h0
    have h0 : (bvs (zeros 256))[j]? = some v := hv
    rw [zeros_at 256 hj] at h0
    rw [hc s hs j hj, h0]
  · simp [DM.mk0, getE]

set_option maxRecDepth 100000 in
set_option maxHeartbeats 1000000 in
theorem new_yes (n : Nat) (hn : sectors n) (w : World) :
    Calls Tryz.prog 25 #[.int .i64 n] w fun e w' => ∃ bp, e = .returned (.tuple #[.pointer (some ⟨bp, 0, none⟩), .int .i64 0]) ∧ Drv w' bp (fun k => w.heap.size ≤ k) (DM.mk0 n) ∧ Below w.heap.size w w' := by
  obtain ⟨i, hi, hz0, hz1, hz2⟩ := info_parts TB
  have hmm := @run_makeMap Tryz.prog
  have h1 : 32 ≤ n := hn.1
  have h2 : n ≤ 2048 := hn.2
  go_enter Tryz.func25, Tryz.ntmps25
  go_wp2_with (at_make; refine wpList_make_full w (by rfl) _ _ _ (by rfl) 0 125 i _ 256 Tryz.underlying126 hi hz0 hz1 .i64 .i64 n n n (by rfl) (by rfl) rfl rfl (by rw [hz2]; omega) (by unfold maxLen; omega) (Nat.zero_le _) ?_)
  intro w1 hown hgrow
  go_wp2_with fail
  go_ret2
  have hs1 := hgrow.size
  have hbd : w.heap.size < w1.heap.size := by
    have h := World.ownsRow.lt hown w.heap.size rfl
    exact h.2
  have hb : Below w.heap.size w ((w1.alloc (.map #[] 0)).alloc (.cells #[.slice (some ⟨w.heap.size, 0, none⟩) n n, .map (some w1.heap.size), .bool false, .bool false, .int .i64 0, .int .i64 0] 129)) :=
    (((Below.refl _ _).grown hgrow (Nat.le_refl _) (by simp)).alloc hs1 _).alloc (by simp; omega) _
  refine ⟨_, rfl, ⟨w.heap.size, w1.heap.size, _, _, _, lay_new hn hown ?_ ?_ ?_ (by omega) _ ⟨by omega, by omega, by omega⟩⟩, hb⟩
  · rw [heap_alloc_old _ _ (by simp; omega), heap_alloc_old _ _ hbd]
  · rw [heap_alloc_old _ _ (by simp), heap_alloc_new]
  · have e : w1.heap.size + 1 = (w1.alloc (.map #[] 0)).heap.size := by simp
    rw [e, heap_alloc_new]
end Go.Proofs.YtipejjgodnnkaaaGreatDoor
