/- Crash: each sector with cached writes is settled as what is kept tells, from the first on. Flush: a step that settles each sector's last write, in whatever order the map is gone through. Corrupt: a byte is turned in what is sure of a sector, and in each of its cached writes. A disk that is written step by step: plain facts. A commit's steps, and what a crash within them leaves: plain facts. -/
import Derived.Test.YtgedmodnkiijkaaGreatDoorFn10
import Derived.BigQuiet
import Derived.Deep.QuietTactic
import Derived.Laws.BitsAll
namespace Go.Proofs.YtgedmodnkiijkaaGreatDoor
open Go Go.RowKit Go.Proofs
open Go.ChangeMaps (setBlock)

/-- Numbers that came in. -/
def Ints (w : World) (A : Option Addr) (n c : Nat) (zs : List Int) : Prop := Holds w w.heap.size A n c (zs.map (Value.int .i64)) ∧ ∀ z ∈ zs, -9223372036854775808 ≤ z ∧ z ≤ 9223372036854775807
section
variable {w w' : World} {A : Option Addr} {n c : Nat} {zs : List Int} {S : Nat → Prop}
theorem Ints.len (h : Ints w A n c zs) : zs.length = n := by simpa using h.1.1
theorem Ints.cap (h : Ints w A n c zs) : n ≤ c := h.1.2.1
theorem Ints.max (h : Ints w A n c zs) : c ≤ maxLen := h.1.2.2.1
theorem ints_nil (w : World) : Ints w none 0 0 [] := ⟨⟨rfl, Nat.le_refl _, Nat.zero_le _, fun j u hu => by simp at hu⟩, fun z hz => by simp at hz⟩
theorem Ints.turn (h : Ints w A n c zs) (t : Turn S w w') (ho : ∀ ad, A = some ad → ¬ S ad.block) : Ints w' A n c zs :=
  ⟨⟨h.1.1, h.1.2.1, h.1.2.2.1, fun j u hu => by
    obtain ⟨ad, e, hb, hc⟩ := h.1.2.2.2 j u hu
    refine ⟨ad, e, by have := t.size; omega, ?_⟩
    exact (World.cell?_of_block (w := w) (w' := w') (a := ad.add j) (by rw [addr_block]; exact t.block _ hb (ho ad e))).trans hc⟩, h.2⟩
theorem Ints.head (h : Ints w A n c zs) (hn : 0 < n) : ∃ ad, A = some ad ∧ w.cell? ad = some (.int .i64 (zs.headD 0)) := by
  rcases zs with _ | ⟨z, r⟩
  · have := h.len; simp at this; omega
  · obtain ⟨ad, e, _, hc⟩ := h.1.2.2.2 0 (.int .i64 z) rfl
    exact ⟨ad, e, by simpa [Addr.add] using hc⟩
theorem Ints.range (h : Ints w A n c zs) : -9223372036854775808 ≤ zs.headD 0 ∧ zs.headD 0 ≤ 9223372036854775807 := by
  rcases zs with _ | ⟨z, r⟩
  · simp
  · exact h.2 z (by simp)
theorem Ints.drew (h : Ints w A n c zs) (k : Nat) : Ints (w.drewN k) A n c zs := h
end

end Go.Proofs.YtgedmodnkiijkaaGreatDoor

namespace Go.Proofs.YtgedmodnkiijkaaGreatDoor
open Go Go.RowKit Go.Proofs
open Go.ChangeMaps (setBlock)

def DM.flush (D : DM) : DM := { D with dur := D.newest, cac := fun _ => [] }
def DM.flushD (D : DM) : DM := if D.stop then D.stepD else D.stepD.flush
/-- On the way: each sector is as it was, or is settled. -/
structure Fl (D D' : DM) : Prop where
  n : D'.n = D.n
  off : D'.off = D.off
  fused : D'.fused = D.fused
  left : D'.left = D.left
  steps : D'.steps = D.steps
  cap : D'.cap = D.cap
  at_ : ∀ s, (D'.cac s = D.cac s ∧ D'.dur s = D.dur s) ∨ (D'.cac s = [] ∧ D'.dur s = D.newest s)
theorem Fl.refl (D : DM) : Fl D D := ⟨rfl, rfl, rfl, rfl, rfl, rfl, fun _ => .inl ⟨rfl, rfl⟩⟩
theorem last_getD {α : Type} (l : List α) (a d : α) (h : l ≠ []) : l.getD (l.length - 1) d = l.getLastD a := by
  have h0 : 0 < l.length := List.length_pos_iff.2 h
  rw [List.getD_eq_getElem?_getD, List.getElem?_eq_getElem (by omega), List.getLastD_eq_getLast?, List.getLast?_eq_some_getLast h, List.getLast_eq_getElem]; rfl
theorem Fl.settle {D D' : DM} (h : Fl D D') (s : Nat) (hs : D'.cac s ≠ []) : Fl D (D'.settle s (D'.cac s).length) := by
  have h0 : (D'.cac s).length ≠ 0 := fun e => hs (List.eq_nil_of_length_eq_zero e)
  refine ⟨h.n, h.off, h.fused, h.left, h.steps, h.cap, fun z => ?_⟩
  have hd : (D'.settle s (D'.cac s).length).dur = upd D'.dur s ((D'.cac s).getD ((D'.cac s).length - 1) []) := by unfold DM.settle; rw [if_neg h0]
  by_cases hz : z = s
  · right
    subst hz
    refine ⟨upd_same _ _ _, ?_⟩
    rw [hd, upd_same]
    rcases h.at_ z with ⟨h1, h2⟩ | ⟨h1, _⟩
    · rw [last_getD _ (D'.dur z) _ hs, h1, h2]; rfl
    · exact absurd h1 hs
  · rw [hd]
    show (upd D'.cac s [] z = D.cac z ∧ upd D'.dur s _ z = D.dur z) ∨ (upd D'.cac s [] z = [] ∧ upd D'.dur s _ z = D.newest z)
    rw [upd_other _ _ hz, upd_other _ _ hz]
    exact h.at_ z
theorem Fl.done {D D' : DM} (h : Fl D D') (hc : ∀ s, D'.cac s = []) : D' = D.flush := by
  obtain ⟨n, dur, cac, off, fused, left, steps, cap⟩ := D'
  obtain ⟨h1, h2, h3, h4, h5, h7, h6⟩ := h
  simp only at h1 h2 h3 h4 h5 h6 h7 hc
  subst h1 h2 h3 h4 h5 h7
  have hcac : cac = fun _ => [] := funext hc
  have hdur : dur = D.newest := funext fun s => by
    rcases h6 s with ⟨a, b⟩ | ⟨_, b⟩
    · rw [b]; unfold DM.newest; rw [← a, hc s]; rfl
    · exact b
  subst hcac hdur
  rfl
theorem Lay.tight {w : World} {bp bd bm clock : Nat} {l : List MapEntry} {v : Nat → Value} {S : Nat → Prop} {D : DM} (L : Lay w bp bd bm l clock v S D) : Lay w bp bd bm l clock v (fun k => S k ∧ k < w.heap.size) D := L.mono fun _ h1 h2 => ⟨h2, h1⟩
/-- How many entries a map has. Kept shut. -/
def mapSize (w : World) (b : Nat) : Nat := match w.heap[b]? with | some (.map es _) => es.size | _ => 0
theorem mapSize_eq {w : World} {b clock : Nat} {l : List MapEntry} (h : w.heap[b]? = some (.map l.toArray clock)) : mapSize w b = l.length := by unfold mapSize; rw [h]; simp

set_option maxRecDepth 100000 in
set_option maxHeartbeats 2000000 in
theorem flush_any {w : World} {bp : Nat} {S : Nat → Prop} {D : DM} (L0 : Drv w bp S D) (hst : D.steps ≤ 1000000000) (_hcl : ∀ k, (D.cac k).length ≤ 1000000) :
    Calls Tryz.prog 69 #[.pointer (some ⟨bp, 0, none⟩)] w fun e w' => e = .returned (.int .i64 D.err) ∧ Drv w' bp S D.flushD ∧ Turn S w w' := by
  obtain ⟨bd, bm, l, clock, v, L⟩ := L0
  have H2 := step_any L hst
  have hsp : ∀ k, k = bp → S k := fun k e => e ▸ L.inS.1
  unfold DM.flushD
  unfold DM.err at H2 ⊢
  cases hstop : D.stop with
  | true =>
    rw [hstop] at H2
    go_enter Tryz.func69, Tryz.ntmps69
    go_wp2_with fail
    refine H2.mono ?_
    rintro e w1 ⟨rfl, L1, T1⟩
    go_wp2_with fail
    go_ret
    exact ⟨rfl, ⟨_, _, _, _, _, L1⟩, T1.mono hsp⟩
  | false =>
    rw [hstop] at H2
    go_enter Tryz.func69, Tryz.ntmps69
    go_wp2_with fail
    refine H2.mono ?_
    rintro e w1 ⟨rfl, L1, T1⟩
    have c1 := L1.c1
    have hrg := run_range_map (P := Tryz.prog) w1 108 _ _ bm l.toArray clock Tryz.underlying108 L1.map
    go_wp2_with fail
    have hrS : ∀ k, (S k ∧ k < w1.heap.size) → k ≠ w1.heap.size := fun k h => by omega
    have hTi : Turn (fun k => S k ∧ k < w1.heap.size) w1 (w1.alloc (Obj.mapIter (some bm) clock #[] clock)) := turn_alloc _ _ _
    go_loopw [4] (fun _ wr => ∃ (l : List MapEntry) (v : Nat → Value) (D' : DM) (seen : Array Nat), Lay wr bp bd bm l clock v (fun k => S k ∧ k < w1.heap.size) D' ∧ Fl D.stepD D' ∧ wr.heap[w1.heap.size]? = some (.mapIter (some bm) clock seen clock) ∧ (∀ e ∈ l, seen.contains e.born = false) ∧
      Turn (fun k => S k ∧ k < w1.heap.size) w1 wr) (fun _ wr => mapSize wr bm)
    case atStart => exact ⟨l, v, D.stepD, #[], L1.tight.keep fun k hk _ => heap_alloc_old w1 _ hk, Fl.refl _, heap_alloc_new w1 _, fun _ _ => by simp, hTi⟩
    case round =>
      clear c1 hrg hTi
      obtain ⟨l, v, D', seen, L, F, hit, hseen, T⟩ := hrel
      have hE : leftOf l.toArray seen = l.toArray := by
        unfold leftOf
        rw [Array.filter_eq_self]
        intro e he
        rw [hseen e (by simpa using he)]; rfl
      rcases run_next_at (P := Tryz.prog) wr 0 w1.heap.size bm clock clock seen l.toArray clock hit L.map (fun x hx => L.ents.clock x (by simpa using hx)) (Nat.le_refl _) with ⟨h0, hrun⟩ | ⟨e, he, w2, hal, hrun⟩
      · rw [hE] at h0
        obtain rfl : l = [] := List.eq_nil_of_length_eq_zero (by simpa using h0)
        have hdone : D' = D.stepD.flush := F.done fun s => by
          have := L.look s
          unfold getE at this
          by_cases h : D'.cac s = []
          · exact h
          · rw [if_neg h] at this; cases this
        subst hdone
        go_wp2_with fail
        go_ret
        exact ⟨rfl, ⟨_, _, _, _, _, L.mono fun _ _ h => h.1⟩, (T1.mono hsp).then (T.mono fun _ h => h.1)⟩
      · rw [hE] at he
        have he : e ∈ l := by simpa using he
        obtain ⟨s, hs, hks⟩ := L.keys e he
        have hcs : D'.cac s ≠ [] := fun h => by
          have h1 := L.look s
          rw [if_pos h, ← hks, getE_of_mem L.ents.one he] at h1; cases h1
        have hval : e.val = v s := by
          have h1 := L.look s
          rw [if_neg hcs, ← hks, getE_of_mem L.ents.one he] at h1; exact Option.some.inj h1
        have hkey : e.key = .int .i64 (s : Int) := by rw [L.ents.key e he, hks]
        obtain ⟨A0, c0, hv0, _⟩ := owns_any (L.row s)
        have hlt : w1.heap.size < wr.heap.size := lt_of_heap hit
        have hsz : w2.heap.size = wr.heap.size := by rcases hal with rfl | rfl <;> rfl
        have T2 : Turn (fun k => k = w1.heap.size) wr w2 := by
          rcases hal with rfl | rfl
          · exact Turn.refl _ _
          · exact (Turn.refl _ _).drew
        have T3 := T2.then (turn_setBlock (w := w2) (.mapIter (some bm) clock (seen.push e.born) clock) (b := w1.heap.size) (S := fun k => k = w1.heap.size) rfl)
        have L3 := L.keep (w' := setBlock w2 w1.heap.size (.mapIter (some bm) clock (seen.push e.born) clock)) fun k hk h => T3.block k hk (hrS k h)
        have hit3 : (setBlock w2 w1.heap.size (.mapIter (some bm) clock (seen.push e.born) clock)).heap[w1.heap.size]? = some (.mapIter (some bm) clock (seen.push e.born) clock) := setBlock_at (by omega)
        have hent := run_entry_at (P := Tryz.prog) _ w1.heap.size bm clock seen l.toArray clock e hit3 L3.map (by simpa using he) (by simpa using L.ents.born)
        rw [hkey, hval, hv0] at hrun hent
        have H3 := settle_any L3 s hs (D'.cac s).length (Nat.le_refl _)
        have hms : mapSize wr bm = l.length := mapSize_eq L.map
        go_wp2_with fail
        refine H3.mono ?_
        rintro e5 w5 ⟨rfl, L5, T5⟩
        have T5' : Turn (fun k => S k ∧ k < w1.heap.size) (setBlock w2 w1.heap.size (.mapIter (some bm) clock (seen.push e.born) clock)) w5 := T5.mono fun x hx => by rcases hx with h | h; exact h ▸ L.inS.2.1; exact h ▸ L.inS.2.2.1
        have hit5 : w5.heap[w1.heap.size]? = some (.mapIter (some bm) clock (seen.push e.born) clock) := (T5'.block _ (lt_of_heap hit3) (fun h => hrS _ h rfl)).trans hit3
        have hseen5 : ∀ x ∈ delE (s : Int) l, (seen.push e.born).contains x.born = false := fun x hx => by
          rw [contains_push, hseen x (mem_del hx), Bool.false_or, beq_eq_false_iff_ne]
          intro hb
          have hxe := born_inj L.ents.born (mem_del hx) he hb
          subst hxe
          have h1 := getE_of_mem (L.ents.del (s : Int)).one hx
          rw [getE_del _ L.ents.one, hks, if_pos rfl] at h1
          cases h1
        have hms5 : mapSize w5 bm = l.length - 1 := by
          rw [mapSize_eq L5.map, length_del, if_neg (by rw [L.look s, if_neg hcs]; simp)]
        have hlen : 0 < l.length := List.length_pos_iff.2 fun h => by rw [h] at he; cases he
        go_wp2_with fail
        have T6 : Turn (fun k => S k ∧ k < w1.heap.size) w1 w5 := (T.trans T3 (fun x hx => .inr (by omega))).then T5'
        exact ⟨⟨_, _, _, _, L5, F.settle s hcs, hit5, hseen5, T6⟩, by rw [hms5, hms]; omega⟩
end Go.Proofs.YtgedmodnkiijkaaGreatDoor

namespace Go.Proofs.YtgedmodnkiijkaaGreatDoor
open Go Go.RowKit Go.Proofs
open Go.ChangeMaps (setBlock)

/-- A sector with one byte turned. Kept shut. -/
def turnB (at_ m : Nat) (l : List UInt8) : List UInt8 := l.set at_ (UInt8.ofNat (byt l at_) ^^^ UInt8.ofNat m)
theorem bv_xor (x y : Nat) (hx : x ≤ 255) (hy : y ≤ 255) : bv (UInt8.ofNat x ^^^ UInt8.ofNat y) = .int .u8 (bits .xor .u8 (x : Int) (y : Int)) := by
  rw [u8_xor_nat x y (by omega) (by omega)]
  unfold bv
  rw [UInt8.toNat_xor, UInt8.toNat_ofNat', UInt8.toNat_ofNat', Nat.mod_eq_of_lt (by omega), Nat.mod_eq_of_lt (by omega)]
/-- The first i sectors turned, the others as they were. Kept shut. -/
def turnTo (at_ m i : Nat) (ls : List (List UInt8)) : List (List UInt8) := (ls.take i).map (turnB at_ m) ++ ls.drop i
theorem turnTo_zero (at_ m : Nat) (ls : List (List UInt8)) : turnTo at_ m 0 ls = ls := by simp [turnTo]
theorem turnTo_all (at_ m : Nat) (ls : List (List UInt8)) : turnTo at_ m ls.length ls = ls.map (turnB at_ m) := by simp [turnTo]
theorem turnTo_len (at_ m i : Nat) (ls : List (List UInt8)) : (turnTo at_ m i ls).length = ls.length := by simp [turnTo]; omega
theorem turnTo_at (at_ m i : Nat) (ls : List (List UInt8)) (h : i < ls.length) (h' : i < (turnTo at_ m i ls).length) : (turnTo at_ m i ls)[i] = ls[i] := by
  have e : (turnTo at_ m i ls)[i]? = ls[i]? := by
    unfold turnTo
    have e : ((ls.take i).map (turnB at_ m)).length = i := by simp; omega
    rw [List.getElem?_append_right (by omega), e, Nat.sub_self, List.getElem?_drop, Nat.add_zero]
  rw [List.getElem?_eq_getElem h', List.getElem?_eq_getElem h] at e
  exact Option.some.inj e
theorem turnTo_next (at_ m i : Nat) (ls : List (List UInt8)) (h : i < ls.length) : (turnTo at_ m i ls).set i (turnB at_ m ls[i]) = turnTo at_ m (i + 1) ls := by
  unfold turnTo
  have e : ((ls.take i).map (turnB at_ m)).length = i := by simp; omega
  rw [List.set_append_right _ _ (by omega), e, Nat.sub_self, List.take_succ_eq_append_getElem h, List.map_append, List.append_assoc]
  congr 1
  rw [List.drop_eq_getElem_cons h]
  rfl
def DM.turn (D : DM) (s at_ m : Nat) : DM := { D with dur := upd D.dur s (turnB at_ m (D.dur s)), cac := upd D.cac s ((D.cac s).map (turnB at_ m)) }

section
variable {w : World} {bp bd bm clock : Nat} {l : List MapEntry} {v : Nat → Value} {S : Nat → Prop} {D : DM}
theorem Lay.cellDur (L : Lay w bp bd bm l clock v S D) (s : Nat) (hs : s < D.n) (j : Nat) (hj : j < 256) : w.cell? ⟨bd, s * 256 + j, none⟩ = some (.int .u8 (byt (D.dur s) j : Int)) := by
  have hl := L.dl s
  rw [L.dur s hs j (bv (D.dur s)[j]) (by simp [bvs, List.getElem?_eq_getElem (show j < (D.dur s).length by omega)])]
  unfold byt bv; rw [List.getD_eq_getElem?_getD, List.getElem?_eq_getElem (by omega)]; rfl
theorem Lay.turnDur (L : Lay w bp bd bm l clock v S D) (s : Nat) (hs : s < D.n) (j : Nat) (hj : j < 256) (b : UInt8) :
    Lay (w.setCell ⟨bd, s * 256 + j, none⟩ (bv b)) bp bd bm l clock v S { D with dur := upd D.dur s ((D.dur s).set j b) } := by
  have hT := turn_setCell (S := fun k => k = bd) (w := w) (a := ⟨bd, s * 256 + j, none⟩) (bv b) rfl
  have hc := L.cellDur s hs j hj
  refine L.setDur s _ (by rw [List.length_set]; exact L.dl s) (fun k hk hn => hT.block k hk hn) (fun _ i u hu => ?_) (fun z hz hzs i u hu => ?_) fun z hz i hi => ?_
  · unfold bvs at hu
    rw [List.map_set] at hu
    by_cases hij : i = j
    · subst hij
      rw [List.getElem?_set_self (by simp; have := L.dl s; omega)] at hu
      rw [World.cell?_setCell_same _ _ _ hc]; exact hu
    · rw [List.getElem?_set_ne (fun e => hij e.symm)] at hu
      rw [World.cell?_setCell_other _ _ _ _ (fun e => hij (by injection e; omega))]
      exact L.dur s hs i u hu
  · have hi : i < 256 := by have h0 := (List.getElem?_eq_some_iff.1 hu).1; rw [bvs_len, L.dl z] at h0; exact h0
    rw [World.cell?_setCell_other _ _ _ _ (fun e => hzs (by injection e; omega))]
    exact L.dur z hz i u hu
  · obtain ⟨h1, h2⟩ := L.durw z hz i hi
    refine ⟨?_, by rw [World.frozen?_setCell]; exact h2⟩
    obtain ⟨u, hu⟩ := Option.isSome_iff_exists.1 h1
    by_cases e : (⟨bd, s * 256 + j, none⟩ : Addr) = ⟨bd, z * 256 + i, none⟩
    · rw [← e, World.cell?_setCell_same _ _ _ hc]; rfl
    · rw [World.cell?_setCell_other _ _ _ _ e, hu]; rfl
theorem Lay.turnRow (L : Lay w bp bd bm l clock v S D) (s : Nat) (hs : s < D.n) {g c : Nat} (hv : v s = .slice (some ⟨g, 0, none⟩) (D.cac s).length c) (i : Nat) (hi : i < (D.cac s).length) (j : Nat) (hj : j < 256) (b : UInt8) :
    w.cell? ⟨g, i * 256 + j, none⟩ = some (.int .u8 (byt (D.cac s)[i] j : Int)) ∧ w.frozen? ⟨g, i * 256 + j, none⟩ = false ∧
    Lay (w.setCell ⟨g, i * 256 + j, none⟩ (bv b)) bp bd bm l clock (upd v s (v s)) S { D with cac := upd D.cac s ((D.cac s).set i ((D.cac s)[i].set j b)) } := by
  have hrow := L.row s
  rw [hv] at hrow
  have hg : (v s).ownBlock = some g := by rw [hv]; rfl
  have hl : ((D.cac s)[i]).length = 256 := L.cl s _ (List.getElem_mem hi)
  have hT := turn_setCell (S := fun k => k = g) (w := w) (a := ⟨g, i * 256 + j, none⟩) (bv b) rfl
  have hne : D.cac s ≠ [] := fun h => by rw [h] at hi; simp at hi
  refine ⟨?_, World.ownsRow.frozenAt hrow _, ?_⟩
  · rw [owns_range hrow (L.cl s) rfl i hi j (bv (D.cac s)[i][j]) (by simp [bvs, List.getElem?_eq_getElem (show j < ((D.cac s)[i]).length by omega)])]
    unfold byt bv; rw [List.getD_eq_getElem?_getD, List.getElem?_eq_getElem (by omega)]; rfl
  · have hst := (World.ownsRow.stored hrow (i * 256 + j) (bv b)).1
    rw [flat_set (L.cl s) i hi j hj] at hst
    have hlen : ((D.cac s).set i ((D.cac s)[i].set j b)).length = (D.cac s).length := List.length_set
    have hne2 : (D.cac s).set i ((D.cac s)[i].set j b) ≠ [] := fun h => hne (List.eq_nil_of_length_eq_zero (by rw [← hlen, h]; rfl))
    refine L.setCac s hs (v s) _ (fun y hy => ?_) (fun _ _ h => h) (fun k hk _ hn => hT.block k hk fun e => hn (by rw [hg, e])) ((hT.block bm (lt_of_heap L.map) fun e => L.row_bm hg e.symm).trans L.map) L.ents (fun z => ?_) (fun e he => .inl he) ?_ (fun h => absurd h hne2) (.inr (.inl rfl))
    · rcases List.mem_or_eq_of_mem_set hy with h | h
      · exact L.cl s y h
      · rw [h, List.length_set]; exact hl
    · by_cases hz : z = s
      · rw [if_pos hz, if_neg hne2, hz, L.look s, if_neg hne]
      · rw [if_neg hz]
    · rw [hlen, hv]; exact hst
end
theorem run_index_arr (w : World) (b o j : Nat) (hj : j < 256) : (Instr.indexAt 106 (.pointer (some ⟨b, o, none⟩)) (.int .i64 (j : Int))).run Tryz.prog w = .ok (.pointer (some ⟨b, o + j, none⟩)) w := by
  have hz : (sizeOf 5).run Tryz.prog w = .ok 1 w := by
    obtain ⟨z, hz, _, hs, _⟩ := info_parts T22.info
    simp [sizeOf, typeInfo, hz, hs]
  have ha : (⟨b, o, none⟩ : Addr).add j = ⟨b, o + j, none⟩ := Addr.add_mid b o j
  simp [Instr.indexAt, Instr.sureAddr, asIntOf, run_underlying UB, hj, ha]

theorem upd_self {α : Type} (f : Nat → α) (s : Nat) : upd f s (f s) = f := funext fun k => by
  unfold upd; split
  · rename_i h; rw [h]
  · rfl
theorem upd_upd {α : Type} (f : Nat → α) (s : Nat) (x y : α) : upd (upd f s x) s y = upd f s y := funext fun k => by unfold upd; split <;> rfl
/-- Corrupt, on the way. -/
def DM.turning (D : DM) (s at_ m i : Nat) : DM := { D with dur := upd D.dur s (turnB at_ m (D.dur s)), cac := upd D.cac s (turnTo at_ m i (D.cac s)) }
theorem Lay.turnNext {w : World} {bp bd bm clock : Nat} {l : List MapEntry} {v : Nat → Value} {S : Nat → Prop} {D : DM} {s at_ m i : Nat} (L : Lay w bp bd bm l clock v S (D.turning s at_ m i)) (hs : s < D.n) {g c : Nat} (hv : v s = .slice (some ⟨g, 0, none⟩) (D.cac s).length c) (hi : i < (D.cac s).length) (hat : at_ < 256) (hm : m < 256) :
    w.cell? ⟨g, i * 256 + at_, none⟩ = some (.int .u8 (byt (D.cac s)[i] at_ : Int)) ∧ w.frozen? ⟨g, i * 256 + at_, none⟩ = false ∧
    Lay (w.setCell ⟨g, i * 256 + at_, none⟩ (.int .u8 (bits .xor .u8 (byt (D.cac s)[i] at_ : Int) (m : Int)))) bp bd bm l clock v S (D.turning s at_ m (i + 1)) := by
  have e1 : (D.turning s at_ m i).cac s = turnTo at_ m i (D.cac s) := upd_same _ _ _
  have e2 : ((D.turning s at_ m i).cac s).length = (D.cac s).length := by rw [e1, turnTo_len]
  have hi' : i < ((D.turning s at_ m i).cac s).length := by rw [e2]; exact hi
  have e3 : ((D.turning s at_ m i).cac s)[i] = (D.cac s)[i] := by
    have h := turnTo_at at_ m i (D.cac s) hi (by rw [turnTo_len]; exact hi)
    rw [← h]; congr 1
  obtain ⟨h1, h2, h3⟩ := L.turnRow s hs (by rw [e2]; exact hv) i hi' at_ hat (UInt8.ofNat (byt (D.cac s)[i] at_) ^^^ UInt8.ofNat m)
  rw [e3] at h1 h3
  rw [bv_xor _ m (byt_le _ _) (by omega), upd_self] at h3
  refine ⟨h1, h2, ?_⟩
  have e4 : ({ D.turning s at_ m i with cac := upd (D.turning s at_ m i).cac s (((D.turning s at_ m i).cac s).set i ((D.cac s)[i].set at_ (UInt8.ofNat (byt (D.cac s)[i] at_) ^^^ UInt8.ofNat m))) } : DM) = D.turning s at_ m (i + 1) := by
    rw [e1, show (D.cac s)[i].set at_ (UInt8.ofNat (byt (D.cac s)[i] at_) ^^^ UInt8.ofNat m) = turnB at_ m (D.cac s)[i] from rfl, turnTo_next at_ m i _ hi]
    unfold DM.turning
    rw [upd_upd]
  rw [e4] at h3
  exact h3

/-- Corrupt. -/
def DM.mayTurn (D : DM) (s at_ m : Int) : Bool := decide ((0 ≤ s ∧ s < (D.n : Int)) ∧ (0 ≤ at_ ∧ at_ < 256) ∧ (0 ≤ m ∧ m < 256))
def DM.corrupt (D : DM) (s at_ m : Int) : DM := if D.mayTurn s at_ m then D.turn s.toNat at_.toNat m.toNat else D
set_option maxRecDepth 100000 in
set_option maxHeartbeats 2000000 in
theorem corrupt_yes {w : World} {bp : Nat} {S : Nat → Prop} {D : DM} (L0 : Drv w bp S D) (s at_ m : Nat) (hs : s < D.n) (hat : at_ < 256) (hm : m < 256) (hcl : ∀ k, (D.cac k).length ≤ 1000000) :
    Calls Tryz.prog 23 #[.pointer (some ⟨bp, 0, none⟩), .int .i64 s, .int .i64 at_, .int .i64 m] w fun e w' => e = .returned (.int .i64 0) ∧ Drv w' bp S (D.turn s at_ m) ∧ Turn S w w' := by
  obtain ⟨bd, bm, l, clock, v, L⟩ := L0
  have H1 := has_any L (s : Int)
  rw [show decide (0 ≤ (s : Int) ∧ (s : Int) < (D.n : Int)) = true by simp; omega] at H1
  have ha1 : ¬ ((at_ : Int) < 0) := by omega
  have ha2 : (at_ : Int) < 256 := by omega
  have hm2 : (m : Int) ≤ 255 := by omega
  have hmod : (m : Int) % 256 = (m : Int) := by omega
  have LD := L.drew
  have c0 := LD.c0
  have hx1 : ∀ w' : World, (Instr.indexAt 107 (.slice (some ⟨bd, 0, none⟩) D.n D.cap) (.int .i64 (s : Int))).run Tryz.prog w' = .ok (.pointer (some ⟨bd, s * 256, none⟩)) w' := fun w' => run_index_sec w' bd D.n D.cap s hs
  have hx2 : ∀ (w' : World) (b o : Nat), (Instr.indexAt 106 (.pointer (some ⟨b, o, none⟩)) (.int .i64 (at_ : Int))).run Tryz.prog w' = .ok (.pointer (some ⟨b, o + at_, none⟩)) w' := fun w' b o => run_index_arr w' b o at_ hat
  have hcell := LD.cellDur s hs at_ hat
  have hfz := (LD.durw s hs at_ hat).2
  have hbv := bv_xor (byt (D.dur s) at_) m (byt_le _ _) (by omega)
  have LT := LD.turnDur s hs at_ hat (UInt8.ofNat (byt (D.dur s) at_) ^^^ UInt8.ofNat m)
  rw [hbv] at LT
  clear hbv
  go_enter Tryz.func23, Tryz.ntmps23
  go_wp2_with fail
  refine H1.mono ?_
  rintro e w1 ⟨rfl, rfl⟩
  go_wp2_with fail
  go_region
  obtain ⟨A0, q0, hv0, hq0, hqm⟩ := owns_any (L.row s)
  have LT0 : Lay (w.setCell ⟨bd, s * 256 + at_, none⟩ (.int .u8 (bits .xor .u8 (byt (D.dur s) at_ : Int) (m : Int)))).drew bp bd bm l clock v S (D.turning s at_ m 0) := by
    have e : D.turning s at_ m 0 = { D with dur := upd D.dur s (turnB at_ m (D.dur s)) } := by unfold DM.turning; rw [turnTo_zero, upd_self]
    rw [e]; exact LT
  have TT : Turn S w (w.setCell ⟨bd, s * 256 + at_, none⟩ (.int .u8 (bits .xor .u8 (byt (D.dur s) at_ : Int) (m : Int)))).drew := (turn_setCell (a := ⟨bd, s * 256 + at_, none⟩) (.int .u8 (bits .xor .u8 (byt (D.dur s) at_ : Int) (m : Int))) L.inS.2.1).drew
  have hle := hcl s
  generalize (w.setCell ⟨bd, s * 256 + at_, none⟩ (.int .u8 (bits .xor .u8 (byt (D.dur s) at_ : Int) (m : Int)))).drew = w2 at LT0 TT ⊢
  have c1 := LT0.c1
  have hlk := LT0.lookup s
  rw [hv0] at hlk
  clear c0 hcell hfz LT LD hcl
  go_wp2_with fail
  clear c1 hlk
  go_loopw [51] (fun i wr => ∃ k : Nat, k ≤ (D.cac s).length ∧ i = .int .i64 k ∧ Lay wr bp bd bm l clock v S (D.turning s at_ m k) ∧ Turn S w wr) (fun i _ => (D.cac s).length - (intOf i).toNat)
  case atStart => exact ⟨0, Nat.zero_le _, rfl, LT0, TT⟩
  case round =>
    clear LT0 TT
    obtain ⟨k, hk, rfl, Lk, Tk⟩ := hrel
    by_cases hlt : k < (D.cac s).length
    · obtain ⟨g, c, hvs, hgc, hcm⟩ := owns_form (L.row s) (by omega)
      have hgS : S g := L.inS.2.2.2 s g (by rw [hvs]; rfl)
      have LD := Lk.drew
      obtain ⟨hcell, hfz, LN⟩ := LD.turnNext hs hvs hlt hat hm
      have c1 := LD.c1
      have hlk := LD.lookup s
      rw [hvs] at hlk
      have hx3 : ∀ w' : World, (Instr.indexAt 107 (.slice (some ⟨g, 0, none⟩) (D.cac s).length c) (.int .i64 (k : Int))).run Tryz.prog w' = .ok (.pointer (some ⟨g, k * 256, none⟩)) w' := fun w' => run_index_sec w' g _ c k hlt
      clear hv0
      go_wp2_with fail
      go_region
      go_wp2_with fail
      exact ⟨⟨k + 1, by omega, by go_num, LN, (Tk.drew).then (turn_setCell (a := ⟨g, k * 256 + at_, none⟩) _ hgS)⟩, by simp [intOf]; omega⟩
    · obtain rfl : k = (D.cac s).length := by omega
      go_wp2_with fail
      go_ret
      refine ⟨rfl, ⟨bd, bm, l, clock, v, ?_⟩, Tk⟩
      have e : D.turning s at_ m (D.cac s).length = D.turn s at_ m := by unfold DM.turning DM.turn; rw [turnTo_all]
      rw [← e]; exact Lk

set_option maxRecDepth 100000 in
set_option maxHeartbeats 1000000 in
theorem corrupt_no {w : World} {bp : Nat} {S : Nat → Prop} {D : DM} (L0 : Drv w bp S D) (s at_ m : Int) (h : D.mayTurn s at_ m = false) :
    Calls Tryz.prog 23 #[.pointer (some ⟨bp, 0, none⟩), .int .i64 s, .int .i64 at_, .int .i64 m] w fun e w' => e = .returned (.int .i64 1) ∧ w = w' := by
  obtain ⟨bd, bm, l, clock, v, L⟩ := L0
  have H1 := has_any L s
  unfold DM.mayTurn at h
  rw [decide_eq_false_iff_not] at h
  by_cases hs : 0 ≤ s ∧ s < (D.n : Int)
  · rw [show decide (0 ≤ s ∧ s < (D.n : Int)) = true by simpa using hs] at H1
    by_cases a1 : at_ < 0
    · clear h hs
      go_enter Tryz.func23, Tryz.ntmps23
      go_wp2_with fail
      refine H1.mono ?_
      rintro e w1 ⟨rfl, rfl⟩
      go_wp2_with fail
      go_ret
      exact ⟨rfl, rfl⟩
    by_cases a2 : 256 ≤ at_
    · clear h hs
      go_enter Tryz.func23, Tryz.ntmps23
      go_wp2_with fail
      refine H1.mono ?_
      rintro e w1 ⟨rfl, rfl⟩
      go_wp2_with fail
      go_ret
      exact ⟨rfl, rfl⟩
    by_cases a3 : m < 0
    · clear h hs
      go_enter Tryz.func23, Tryz.ntmps23
      go_wp2_with fail
      refine H1.mono ?_
      rintro e w1 ⟨rfl, rfl⟩
      go_wp2_with fail
      go_ret
      exact ⟨rfl, rfl⟩
    have a4 : 255 < m := by
      rcases Int.lt_or_le 255 m with h4 | h4
      · exact h4
      · exact absurd ⟨hs, ⟨by omega, by omega⟩, by omega, by omega⟩ h
    clear h hs
    go_enter Tryz.func23, Tryz.ntmps23
    go_wp2_with fail
    refine H1.mono ?_
    rintro e w1 ⟨rfl, rfl⟩
    go_wp2_with fail
    go_ret
    exact ⟨rfl, rfl⟩
  · rw [show decide (0 ≤ s ∧ s < (D.n : Int)) = false by simpa using hs] at H1
    clear h hs
    go_enter Tryz.func23, Tryz.ntmps23
    go_wp2_with fail
    refine H1.mono ?_
    rintro e w1 ⟨rfl, rfl⟩
    go_wp2_with fail
    go_ret
    exact ⟨rfl, rfl⟩
theorem corrupt_any {w : World} {bp : Nat} {S : Nat → Prop} {D : DM} (L0 : Drv w bp S D) (s at_ m : Int) (hcl : ∀ k, (D.cac k).length ≤ 1000000) :
    Calls Tryz.prog 23 #[.pointer (some ⟨bp, 0, none⟩), .int .i64 s, .int .i64 at_, .int .i64 m] w fun e w' => e = .returned (.int .i64 (if D.mayTurn s at_ m then 0 else 1)) ∧ Drv w' bp S (D.corrupt s at_ m) ∧ Turn S w w' := by
  unfold DM.corrupt
  cases h : D.mayTurn s at_ m with
  | true =>
    have h2 := h
    unfold DM.mayTurn at h2
    rw [decide_eq_true_iff] at h2
    obtain ⟨⟨h3, h4⟩, ⟨h5, h6⟩, h7, h8⟩ := h2
    obtain ⟨s, rfl⟩ := Int.eq_ofNat_of_zero_le h3
    obtain ⟨at_, rfl⟩ := Int.eq_ofNat_of_zero_le h5
    obtain ⟨m, rfl⟩ := Int.eq_ofNat_of_zero_le h7
    exact corrupt_yes L0 s at_ m (by omega) (by omega) (by omega) hcl
  | false =>
    refine (corrupt_no L0 s at_ m h).mono ?_
    rintro e w' ⟨rfl, rfl⟩
    exact ⟨rfl, L0, Turn.refl _ _⟩
end Go.Proofs.YtgedmodnkiijkaaGreatDoor

namespace Go.Proofs.YtgedmodnkiijkaaGreatDoor
open Go Go.RowKit Go.Proofs

/-- A step that is asked of a disk. -/
inductive Stp where
  | w (s : Nat) (x : List UInt8)
  | fl
def Stp.ok (n : Nat) : Stp → Prop
  | .w s x => s < n ∧ x.length = 256
  | .fl => True
def DM.does (D : DM) : Stp → DM
  | .w s x => D.writeD s x
  | .fl => D.flushD
def DM.says (D : DM) : Stp → Int
  | .w s x => D.writeE s x
  | .fl => D.err
/-- Steps, one behind the other, up to the first one that fails. -/
def DM.runE (D : DM) : List Stp → Int
  | [] => 0
  | a :: l => if D.says a = 0 then (D.does a).runE l else D.says a
def DM.runD (D : DM) : List Stp → DM
  | [] => D
  | a :: l => if D.says a = 0 then (D.does a).runD l else D.does a
theorem runE_append (a b : List Stp) : ∀ D : DM, D.runE (a ++ b) = if D.runE a = 0 then (D.runD a).runE b else D.runE a := by
  induction a with
  | nil => intro D; simp [DM.runE, DM.runD]
  | cons x a ih =>
    intro D
    show (if D.says x = 0 then (D.does x).runE (a ++ b) else D.says x) = _
    by_cases h : D.says x = 0
    · rw [if_pos h, ih]
      simp only [DM.runE, DM.runD, if_pos h]
    · simp only [DM.runE, if_neg h]
theorem runD_append (a b : List Stp) : ∀ D : DM, D.runD (a ++ b) = if D.runE a = 0 then (D.runD a).runD b else D.runD a := by
  induction a with
  | nil => intro D; simp [DM.runE, DM.runD]
  | cons x a ih =>
    intro D
    show (if D.says x = 0 then (D.does x).runD (a ++ b) else D.does x) = _
    by_cases h : D.says x = 0
    · rw [if_pos h, ih]
      simp only [DM.runE, DM.runD, if_pos h]
    · simp only [DM.runE, DM.runD, if_neg h]

/-- What is sure, and what is cached, with no power in sight. -/
structure Mem where
  dur : Nat → List UInt8
  cac : Nat → List (List UInt8)
def DM.mem (D : DM) : Mem := ⟨D.dur, D.cac⟩
def Mem.newest (M : Mem) (s : Nat) : List UInt8 := (M.cac s).getLastD (M.dur s)
def Mem.go (M : Mem) : Stp → Mem
  | .w s x => ⟨M.dur, upd M.cac s (M.cac s ++ [x])⟩
  | .fl => ⟨M.newest, fun _ => []⟩
def Mem.gos (M : Mem) : List Stp → Mem
  | [] => M
  | a :: l => (M.go a).gos l
theorem gos_append (a b : List Stp) : ∀ M : Mem, M.gos (a ++ b) = (M.gos a).gos b := by
  induction a with
  | nil => intro M; rfl
  | cons x a ih => intro M; exact ih _
/-- One step. -/
theorem does_ok {D : DM} {a : Stp} (ha : a.ok D.n) (h : D.stop = false) : D.says a = 0 ∧ (D.does a).mem = D.mem.go a ∧ (D.does a).n = D.n ∧ (D.does a).cap = D.cap ∧ (D.does a).off = false ∧ (D.does a).fused = D.fused ∧ (D.does a).left = (if D.fused then D.left - 1 else D.left) ∧ (D.does a).steps = D.steps + 1 := by
  have hst : D.stepD = { D with off := false, left := if D.fused then D.left - 1 else D.left, steps := D.steps + 1 } := by unfold DM.stepD; rw [h]; rfl
  cases a with
  | w s x =>
    have hb : D.bad s x = false := by unfold DM.bad; exact decide_eq_false (by rintro (h1 | h1); exact h1 ⟨by omega, by have := ha.1; omega⟩; exact h1 ha.2)
    refine ⟨by show D.writeE s x = 0; unfold DM.writeE DM.err; rw [hb, h]; rfl, ?_⟩
    have : D.does (.w s x) = { D.stepD with cac := upd D.cac s (D.cac s ++ [x]) } := by
      show D.writeD s x = _
      unfold DM.writeD
      rw [hb, h]; rfl
    rw [this, hst]
    exact ⟨rfl, rfl, rfl, rfl, rfl, rfl, rfl⟩
  | fl =>
    refine ⟨by show D.err = 0; unfold DM.err; rw [h]; rfl, ?_⟩
    have : D.does .fl = D.stepD.flush := by
      show D.flushD = _
      unfold DM.flushD
      rw [h]; rfl
    rw [this, hst]
    exact ⟨rfl, rfl, rfl, rfl, rfl, rfl, rfl⟩
theorem does_stop {D : DM} {a : Stp} (ha : a.ok D.n) (h : D.stop = true) : D.says a = 4 ∧ (D.does a).mem = D.mem ∧ (D.does a).n = D.n ∧ (D.does a).cap = D.cap ∧ (D.does a).off = true ∧ (D.does a).fused = D.fused ∧ (D.does a).left = D.left ∧ (D.does a).steps = D.steps := by
  have hst : D.stepD = { D with off := true, left := D.left, steps := D.steps } := by unfold DM.stepD; rw [h]; rfl
  cases a with
  | w s x =>
    have hb : D.bad s x = false := by unfold DM.bad; exact decide_eq_false (by rintro (h1 | h1); exact h1 ⟨by omega, by have := ha.1; omega⟩; exact h1 ha.2)
    refine ⟨by show D.writeE s x = 4; unfold DM.writeE DM.err; rw [hb, h]; rfl, ?_⟩
    have : D.does (.w s x) = D.stepD := by
      show D.writeD s x = _
      unfold DM.writeD
      rw [hb, h]; rfl
    rw [this, hst]
    exact ⟨rfl, rfl, rfl, rfl, rfl, rfl, rfl⟩
  | fl =>
    refine ⟨by show D.err = 4; unfold DM.err; rw [h]; rfl, ?_⟩
    have : D.does .fl = D.stepD := by
      show D.flushD = _
      unfold DM.flushD
      rw [h]; rfl
    rw [this, hst]
    exact ⟨rfl, rfl, rfl, rfl, rfl, rfl, rfl⟩
/-- How many of so many steps are done. -/
def DM.room (D : DM) (m : Nat) : Nat := if D.off then 0 else if D.fused then min D.left m else m
theorem room_le (D : DM) (m : Nat) : D.room m ≤ m := by unfold DM.room; split; omega; split <;> omega
theorem run_says (l : List Stp) : ∀ D : DM, (∀ a ∈ l, a.ok D.n) →
    (D.runD l).mem = D.mem.gos (l.take (D.room l.length)) ∧ (D.runD l).n = D.n ∧ (D.runD l).cap = D.cap ∧ (D.runD l).fused = D.fused ∧ (D.runD l).steps = D.steps + D.room l.length ∧ (D.runD l).left = (if D.fused then D.left - D.room l.length else D.left) ∧
      ((D.room l.length = l.length ∧ D.runE l = 0 ∧ (D.runD l).off = D.off) ∨ (D.room l.length < l.length ∧ D.runE l = 4 ∧ (D.runD l).off = true)) := by
  induction l with
  | nil =>
    intro D _
    have hr : D.room 0 = 0 := Nat.le_zero.1 (room_le D 0)
    show D.mem = D.mem.gos (List.take (D.room 0) []) ∧ _
    rw [show ([] : List Stp).length = 0 from rfl, hr]
    exact ⟨rfl, rfl, rfl, rfl, rfl, by split <;> rfl, .inl ⟨rfl, rfl, rfl⟩⟩
  | cons a l ih =>
    intro D hall
    have ha := hall a (List.mem_cons_self ..)
    cases h : D.stop with
    | true =>
      obtain ⟨e0, e1, e2, e3, e4, e5, e6, e7⟩ := does_stop ha h
      have hr : D.room (a :: l).length = 0 := by
        unfold DM.stop at h
        unfold DM.room
        cases ho : D.off with
        | true => rfl
        | false =>
          rw [ho, Bool.false_or, Bool.and_eq_true, decide_eq_true_iff] at h
          rw [h.1, h.2]; simp
      have hD : D.runD (a :: l) = D.does a := by show (if D.says a = 0 then _ else _) = _; rw [if_neg (by rw [e0]; decide)]
      have hE : D.runE (a :: l) = 4 := by show (if D.says a = 0 then _ else _) = _; rw [if_neg (by rw [e0]; decide), e0]
      rw [hD, hE, hr]
      exact ⟨e1, e2, e3, e5, e7, by rw [e6]; split <;> rfl, .inr ⟨by simp, rfl, e4⟩⟩
    | false =>
      obtain ⟨e0, e1, e2, e3, e4, e5, e6, e7⟩ := does_ok ha h
      have ho : D.off = false := by unfold DM.stop at h; cases ho : D.off with | true => rw [ho] at h; simp at h | false => rfl
      have hl : D.fused = true → 0 < D.left := fun hf => by
        unfold DM.stop at h
        rw [ho, hf] at h
        simp at h
        omega
      have hD : D.runD (a :: l) = (D.does a).runD l := by show (if D.says a = 0 then _ else _) = _; rw [if_pos e0]
      have hE : D.runE (a :: l) = (D.does a).runE l := by show (if D.says a = 0 then _ else _) = _; rw [if_pos e0]
      have hr : D.room (a :: l).length = (D.does a).room l.length + 1 := by
        unfold DM.room
        rw [ho, e4, e5, e6]
        cases hf : D.fused with
        | true => have := hl hf; simp; omega
        | false => simp
      obtain ⟨i1, i2, i3, i4, i5, i6, i7⟩ := ih (D.does a) (fun b hb => by rw [e2]; exact hall b (List.mem_cons_of_mem _ hb))
      rw [hD, hE, hr]
      refine ⟨by rw [i1, e1]; rfl, i2.trans e2, i3.trans e3, i4.trans e5, by rw [i5, e7]; omega, ?_, ?_⟩
      · rw [i6, e5, e6]
        cases hf : D.fused with
        | true => simp; omega
        | false => simp
      · rw [ho]
        rcases i7 with ⟨j1, j2, j3⟩ | ⟨j1, j2, j3⟩
        · exact .inl ⟨by simp [j1], j2, j3.trans e4⟩
        · exact .inr ⟨by simp; exact j1, j2, j3⟩

/-! ### What a sector reads as -/
/-- The last write to a sector. -/
def lastW (s : Nat) : List Stp → List UInt8 → List UInt8
  | [], d => d
  | .w t x :: l, d => lastW s l (if t = s then x else d)
  | .fl :: l, d => lastW s l d
theorem newest_go (M : Mem) (a : Stp) (s : Nat) : (M.go a).newest s = (match a with | .w t x => if t = s then x else M.newest s | .fl => M.newest s) := by
  cases a with
  | w t x =>
    show (upd M.cac t (M.cac t ++ [x]) s).getLastD (M.dur s) = if t = s then x else _
    by_cases h : t = s
    · subst h
      rw [upd_same, if_pos rfl]
      simp [List.getLastD_eq_getLast?]
    · rw [upd_other _ _ (fun e => h e.symm), if_neg h]; rfl
  | fl => rfl
theorem newest_gos (s : Nat) : ∀ (l : List Stp) (M : Mem), (M.gos l).newest s = lastW s l (M.newest s)
  | [], M => rfl
  | .w t x :: l, M => by
    show ((M.go (.w t x)).gos l).newest s = lastW s l (if t = s then x else M.newest s)
    rw [newest_gos s l, newest_go]
  | .fl :: l, M => by
    show ((M.go .fl).gos l).newest s = lastW s l (M.newest s)
    rw [newest_gos s l, newest_go]
theorem lastW_append (s : Nat) : ∀ (a b : List Stp) (d : List UInt8), lastW s (a ++ b) d = lastW s b (lastW s a d)
  | [], _, _ => rfl
  | .w _ _ :: a, b, _ => lastW_append s a b _
  | .fl :: a, b, _ => lastW_append s a b _
/-- The steps write no such sector. -/
def spares (s : Nat) (l : List Stp) : Prop := ∀ t x, Stp.w t x ∈ l → t ≠ s
theorem lastW_spares {s : Nat} : ∀ {l : List Stp} (_ : spares s l) (d : List UInt8), lastW s l d = d
  | [], _, _ => rfl
  | .w t x :: l, h, d => by
    show lastW s l (if t = s then x else d) = d
    rw [if_neg (h t x (List.mem_cons_self ..))]
    exact lastW_spares (fun t x hx => h t x (List.mem_cons_of_mem _ hx)) d
  | .fl :: l, h, d => lastW_spares (l := l) (fun t x hx => h t x (List.mem_cons_of_mem _ hx)) d
/-- What a crash may leave of a sector. -/
def Mem.may (M : Mem) (s : Nat) (x : List UInt8) : Prop := x = M.dur s ∨ x ∈ M.cac s
end Go.Proofs.YtgedmodnkiijkaaGreatDoor

namespace Go.Proofs.YtgedmodnkiijkaaGreatDoor
open Go Go.RowKit Go.Proofs

theorem settled_newest {M : Mem} {s : Nat} (h : M.cac s = []) : M.newest s = M.dur s := by unfold Mem.newest; rw [h]; rfl
/-- Blocks, a flush, the superblock, a flush. -/
def cmtL (A : List Stp) (slot : Nat) (sb : List UInt8) : List Stp := A ++ .fl :: [.w slot sb, .fl]
theorem cmt_len (A : List Stp) (slot : Nat) (sb : List UInt8) : (cmtL A slot sb).length = A.length + 3 := by unfold cmtL; simp
/-- What a commit that was done leaves, sure. -/
theorem cmt_done (A : List Stp) (slot : Nat) (sb : List UInt8) (M : Mem) (s : Nat) : (M.gos (cmtL A slot sb)).cac s = [] ∧ (M.gos (cmtL A slot sb)).dur s = if s = slot then sb else lastW s A (M.newest s) := by
  have e : cmtL A slot sb = (A ++ [.fl, .w slot sb]) ++ [.fl] := by unfold cmtL; simp
  rw [e, gos_append]
  refine ⟨rfl, ?_⟩
  show ((M.gos (A ++ [.fl, .w slot sb])).newest s) = _
  rw [newest_gos, lastW_append]
  show (if slot = s then sb else lastW s A (M.newest s)) = _
  by_cases h : s = slot
  · rw [if_pos h.symm, if_pos h]
  · rw [if_neg (fun e => h e.symm), if_neg h]

/-- Writes of a list of sectors, one behind the other. -/
def wAt (at_ : Nat) (l : List (List UInt8)) : List Stp := (List.range l.length).map fun i => .w (at_ + i) (l.getD i [])
theorem wAt_len (at_ : Nat) (l : List (List UInt8)) : (wAt at_ l).length = l.length := by unfold wAt; simp
theorem wAt_mem {at_ : Nat} {l : List (List UInt8)} {s : Nat} {x : List UInt8} (h : Stp.w s x ∈ wAt at_ l) : ∃ i, i < l.length ∧ s = at_ + i ∧ x = l.getD i [] := by
  unfold wAt at h
  rw [List.mem_map] at h
  obtain ⟨i, hi, e⟩ := h
  injection e with e1 e2
  exact ⟨i, List.mem_range.1 hi, e1.symm, e2.symm⟩
theorem wAt_spares {at_ : Nat} {l : List (List UInt8)} {s : Nat} (h : s < at_ ∨ at_ + l.length ≤ s) : spares s (wAt at_ l) := fun t x hx => by
  obtain ⟨i, hi, e, _⟩ := wAt_mem hx
  omega
theorem lastW_map (g : Nat → List UInt8) (at_ : Nat) : ∀ (k i : Nat) (d : List UInt8), lastW (at_ + i) ((List.range k).map fun i => Stp.w (at_ + i) (g i)) d = if i < k then g i else d
  | 0, i, d => rfl
  | k + 1, i, d => by
    rw [List.range_succ, List.map_append, lastW_append, lastW_map g at_ k i d]
    show (if at_ + k = at_ + i then g k else _) = _
    by_cases h : i = k
    · subst h
      rw [if_pos rfl, if_pos (by omega)]
    · rw [if_neg (by omega)]
      by_cases h2 : i < k
      · rw [if_pos h2, if_pos (by omega)]
      · rw [if_neg h2, if_neg (by omega)]
theorem lastW_wAt (at_ : Nat) (l : List (List UInt8)) (i : Nat) (d : List UInt8) (h : i < l.length) : lastW (at_ + i) (wAt at_ l) d = l.getD i [] := by
  unfold wAt
  rw [lastW_map, if_pos h]
theorem wAt_take (at_ : Nat) (ls : List (List UInt8)) {j : Nat} (hj : j < ls.length) : (wAt at_ ls).take (j + 1) = (wAt at_ ls).take j ++ [.w (at_ + j) (ls.getD j [])] := by
  have hl : j < (wAt at_ ls).length := by rw [wAt_len]; exact hj
  rw [List.take_add_one, List.getElem?_eq_getElem hl]
  have : (wAt at_ ls)[j] = .w (at_ + j) (ls.getD j []) := by simp [wAt]
  rw [this]
  rfl
/-- Writes here and there. -/
def wIn (l : List (Nat × List UInt8)) : List Stp := l.map fun b => .w b.1 b.2
theorem wIn_spares {l : List (Nat × List UInt8)} {s : Nat} (h : ∀ b ∈ l, b.1 ≠ s) : spares s (wIn l) := fun t x hx => by
  unfold wIn at hx
  rw [List.mem_map] at hx
  obtain ⟨b, hb, e⟩ := hx
  injection e with e1 e2
  exact e1 ▸ h b hb
theorem lastW_wIn (s : Nat) (x : List UInt8) : ∀ (l : List (Nat × List UInt8)) (d : List UInt8), (s, x) ∈ l → (∀ y, (s, y) ∈ l → y = x) → lastW s (wIn l) d = x
  | [], _, h, _ => by cases h
  | b :: l, d, h, hu => by
    show lastW s (wIn l) (if b.1 = s then b.2 else d) = x
    by_cases hm : (s, x) ∈ l
    · exact lastW_wIn s x l _ hm fun y hy => hu y (List.mem_cons_of_mem _ hy)
    · have hb : b = (s, x) := by
        rcases List.mem_cons.1 h with e | e
        · exact e.symm
        · exact absurd e hm
      have hsp : spares s (wIn l) := wIn_spares fun c hc e => by
        obtain ⟨c1, c2⟩ := c
        dsimp only at e
        subst e
        have := hu c2 (List.mem_cons_of_mem _ hc)
        subst this
        exact hm hc
      rw [lastW_spares hsp, hb, if_pos rfl]
end Go.Proofs.YtgedmodnkiijkaaGreatDoor
