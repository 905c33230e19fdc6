/- Crash: each sector with cached writes is settled as what is kept tells, from the first on. Flush: a step that settles each sector's last write, in whatever order the map is gone through. -/
import Derived.Test.YtipejjgodnnkaaaGreatDoorPy10
import Derived.BigQuiet
import Derived.Deep.QuietTactic
namespace Go.Proofs.YtipejjgodnnkaaaGreatDoor
open Go Go.RowKit Go.Proofs
open Go.ChangeMaps (setBlock)

/-- Numbers that came in. -/
def Ints (w : World) (A : Option Addr) (n c : Nat) (zs : List Int) : Prop := Holds w w.heap.size A n c (zs.map (Value.int .i64)) ∧ ∀ z ∈ zs, -9223372036854775808 ≤ z ∧ z ≤ 9223372036854775807
section
variable {w w' : World} {A : Option Addr} {n c : Nat} {zs : List Int} {S : Nat → Prop}
theorem Ints.len (h : Ints w A n c zs) : zs.length = n := by simpa using h.1.1
theorem Ints.cap (h : Ints w A n c zs) : n ≤ c := h.1.2.1
theorem Ints.max (h : Ints w A n c zs) : c ≤ maxLen := h.1.2.2.1
theorem Ints.turn (h : Ints w A n c zs) (t : Turn S w w') (ho : ∀ ad, A = some ad → ¬ S ad.block) : Ints w' A n c zs :=
  ⟨⟨h.1.1, h.1.2.1, h.1.2.2.1, fun j u hu => by
    obtain ⟨ad, e, hb, hc⟩ := h.1.2.2.2 j u hu
    refine ⟨ad, e, by have := t.size; omega, ?_⟩
    exact (World.cell?_of_block (w := w) (w' := w') (a := ad.add j) (by rw [addr_block]; exact t.block _ hb (ho ad e))).trans hc⟩, h.2⟩
theorem Ints.head (h : Ints w A n c zs) (hn : 0 < n) : ∃ ad, A = some ad ∧ w.cell? ad = some (.int .i64 (zs.headD 0)) := by
  rcases zs with _ | ⟨z, r⟩
  · have := h.len; simp at this; omega
  · obtain ⟨ad, e, _, hc⟩ := h.1.2.2.2 0 (.int .i64 z) rfl
    exact ⟨ad, e, by simpa [Addr.add] using hc⟩
theorem Ints.range (h : Ints w A n c zs) : -9223372036854775808 ≤ zs.headD 0 ∧ zs.headD 0 ≤ 9223372036854775807 := by
  rcases zs with _ | ⟨z, r⟩
  · simp
  · exact h.2 z (by simp)
theorem Ints.drew (h : Ints w A n c zs) (k : Nat) : Ints (w.drewN k) A n c zs := h
end

end Go.Proofs.YtipejjgodnnkaaaGreatDoor

namespace Go.Proofs.YtipejjgodnnkaaaGreatDoor
open Go Go.RowKit Go.Proofs
open Go.ChangeMaps (setBlock)

def DM.flush (D : DM) : DM := { D with dur := D.newest, cac := fun _ => [] }
def DM.flushD (D : DM) : DM := if D.stop then D.stepD else D.stepD.flush
/-- On the way: each sector is as it was, or is settled. -/
structure Fl (D D' : DM) : Prop where
  n : D'.n = D.n
  off : D'.off = D.off
  fused : D'.fused = D.fused
  left : D'.left = D.left
  steps : D'.steps = D.steps
  cap : D'.cap = D.cap
  at_ : ∀ s, (D'.cac s = D.cac s ∧ D'.dur s = D.dur s) ∨ (D'.cac s = [] ∧ D'.dur s = D.newest s)
theorem Fl.refl (D : DM) : Fl D D := ⟨rfl, rfl, rfl, rfl, rfl, rfl, fun _ => .inl ⟨rfl, rfl⟩⟩
theorem last_getD {α : Type} (l : List α) (a d : α) (h : l ≠ []) : l.getD (l.length - 1) d = l.getLastD a := by
  have h0 : 0 < l.length := List.length_pos_iff.2 h
  rw [List.getD_eq_getElem?_getD, List.getElem?_eq_getElem (by omega), List.getLastD_eq_getLast?, List.getLast?_eq_some_getLast h, List.getLast_eq_getElem]; rfl
theorem Fl.settle {D D' : DM} (h : Fl D D') (s : Nat) (hs : D'.cac s ≠ []) : Fl D (D'.settle s (D'.cac s).length) := by
  have h0 : (D'.cac s).length ≠ 0 := fun e => hs (List.eq_nil_of_length_eq_zero e)
  refine ⟨h.n, h.off, h.fused, h.left, h.steps, h.cap, fun z => ?_⟩
  have hd : (D'.settle s (D'.cac s).length).dur = upd D'.dur s ((D'.cac s).getD ((D'.cac s).length - 1) []) := by unfold DM.settle; rw [if_neg h0]
  by_cases hz : z = s
  · right
    subst hz
    refine ⟨upd_same _ _ _, ?_⟩
    rw [hd, upd_same]
    rcases h.at_ z with ⟨h1, h2⟩ | ⟨h1, _⟩
    · rw [last_getD _ (D'.dur z) _ hs, h1, h2]; rfl
    · exact absurd h1 hs
  · rw [hd]
    show (upd D'.cac s [] z = D.cac z ∧ upd D'.dur s _ z = D.dur z) ∨ (upd D'.cac s [] z = [] ∧ upd D'.dur s _ z = D.newest z)
    rw [upd_other _ _ hz, upd_other _ _ hz]
    exact h.at_ z
theorem Fl.done {D D' : DM} (h : Fl D D') (hc : ∀ s, D'.cac s = []) : D' = D.flush := by
  obtain ⟨n, dur, cac, off, fused, left, steps, cap⟩ := D'
  obtain ⟨h1, h2, h3, h4, h5, h7, h6⟩ := h
  simp only at h1 h2 h3 h4 h5 h6 h7 hc
  subst h1 h2 h3 h4 h5 h7
  have hcac : cac = fun _ => [] := funext hc
  have hdur : dur = D.newest := funext fun s => by
    rcases h6 s with ⟨a, b⟩ | ⟨_, b⟩
    · rw [b]; unfold DM.newest; rw [← a, hc s]; rfl
    · exact b
  subst hcac hdur
  rfl
theorem Lay.tight {w : World} {bp bd bm clock : Nat} {l : List MapEntry} {v : Nat → Value} {S : Nat → Prop} {D : DM} (L : Lay w bp bd bm l clock v S D) : Lay w bp bd bm l clock v (fun k => S k ∧ k < w.heap.size) D := L.mono fun _ h1 h2 => ⟨h2, h1⟩
/-- How many entries a map has. Kept shut. -/
def mapSize (w : World) (b : Nat) : Nat := match w.heap[b]? with | some (.map es _) => es.size | _ => 0
theorem mapSize_eq {w : World} {b clock : Nat} {l : List MapEntry} (h : w.heap[b]? = some (.map l.toArray clock)) : mapSize w b = l.length := by unfold mapSize; rw [h]; simp

set_option maxRecDepth 100000 in
set_option maxHeartbeats 2000000 in
theorem flush_any {w : World} {bp : Nat} {S : Nat → Prop} {D : DM} (L0 : Drv w bp S D) (hst : D.steps ≤ 1000000000) (_hcl : ∀ k, (D.cac k).length ≤ 1000000) :
    Calls Tryz.prog 121 #[.pointer (some ⟨bp, 0, none⟩)] w fun e w' => e = .returned (.int .i64 D.err) ∧ Drv w' bp S D.flushD ∧ Turn S w w' := by
  obtain ⟨bd, bm, l, clock, v, L⟩ := L0
  have H2 := step_any L hst
  have hsp : ∀ k, k = bp → S k := fun k e => e ▸ L.inS.1
  unfold DM.flushD
  unfold DM.err at H2 ⊢
  cases hstop : D.stop with
  | true =>
    rw [hstop] at H2
    go_enter Tryz.func121, Tryz.ntmps121
    go_wp2_with fail
    refine H2.mono ?_
    rintro e w1 ⟨rfl, L1, T1⟩
    go_wp2_with fail
    go_ret
    exact ⟨rfl, ⟨_, _, _, _, _, L1⟩, T1.mono hsp⟩
  | false =>
    rw [hstop] at H2
    go_enter Tryz.func121, Tryz.ntmps121
    go_wp2_with fail
    refine H2.mono ?_
    rintro e w1 ⟨rfl, L1, T1⟩
    have c1 := L1.c1
    have hrg := run_range_map (P := Tryz.prog) w1 127 _ _ bm l.toArray clock Tryz.underlying127 L1.map
    go_wp2_with fail
    have hrS : ∀ k, (S k ∧ k < w1.heap.size) → k ≠ w1.heap.size := fun k h => by omega
    have hTi : Turn (fun k => S k ∧ k < w1.heap.size) w1 (w1.alloc (Obj.mapIter (some bm) clock #[] clock)) := turn_alloc _ _ _
    go_loopw [4] (fun _ wr => ∃ (l : List MapEntry) (v : Nat → Value) (D' : DM) (seen : Array Nat), Lay wr bp bd bm l clock v (fun k => S k ∧ k < w1.heap.size) D' ∧ Fl D.stepD D' ∧ wr.heap[w1.heap.size]? = some (.mapIter (some bm) clock seen clock) ∧ (∀ e ∈ l, seen.contains e.born = false) ∧
      Turn (fun k => S k ∧ k < w1.heap.size) w1 wr) (fun _ wr => mapSize wr bm)
    case atStart => exact ⟨l, v, D.stepD, #[], L1.tight.keep fun k hk _ => heap_alloc_old w1 _ hk, Fl.refl _, heap_alloc_new w1 _, fun _ _ => by simp, hTi⟩
    case round =>
      clear c1 hrg hTi
      obtain ⟨l, v, D', seen, L, F, hit, hseen, T⟩ := hrel
      have hE : leftOf l.toArray seen = l.toArray := by
        unfold leftOf
        rw [Array.filter_eq_self]
        intro e he
        rw [hseen e (by simpa using he)]; rfl
      rcases run_next_at (P := Tryz.prog) wr 0 w1.heap.size bm clock clock seen l.toArray clock hit L.map (fun x hx => L.ents.clock x (by simpa using hx)) (Nat.le_refl _) with ⟨h0, hrun⟩ | ⟨e, he, w2, hal, hrun⟩
      · rw [hE] at h0
        obtain rfl : l = [] := List.eq_nil_of_length_eq_zero (by simpa using h0)
        have hdone : D' = D.stepD.flush := F.done fun s => by
          have := L.look s
          unfold getE at this
          by_cases h : D'.cac s = []
          · exact h
          · rw [if_neg h] at this; cases this
        subst hdone
        go_wp2_with fail
        go_ret
        exact ⟨rfl, ⟨_, _, _, _, _, L.mono fun _ _ h => h.1⟩, (T1.mono hsp).then (T.mono fun _ h => h.1)⟩
      · rw [hE] at he
        have he : e ∈ l := by simpa using he
        obtain ⟨s, hs, hks⟩ := L.keys e he
        have hcs : D'.cac s ≠ [] := fun h => by
          have h1 := L.look s
          rw [if_pos h, ← hks, getE_of_mem L.ents.one he] at h1; cases h1
        have hval : e.val = v s := by
          have h1 := L.look s
          rw [if_neg hcs, ← hks, getE_of_mem L.ents.one he] at h1; exact Option.some.inj h1
        have hkey : e.key = .int .i64 (s : Int) := by rw [L.ents.key e he, hks]
        obtain ⟨A0, c0, hv0, _⟩ := owns_any (L.row s)
        have hlt : w1.heap.size < wr.heap.size := lt_of_heap hit
        have hsz : w2.heap.size = wr.heap.size := by rcases hal with rfl | rfl <;> rfl
        have T2 : Turn (fun k => k = w1.heap.size) wr w2 := by
          rcases hal with rfl | rfl
          · exact Turn.refl _ _
          · exact (Turn.refl _ _).drew
        have T3 := T2.then (turn_setBlock (w := w2) (.mapIter (some bm) clock (seen.push e.born) clock) (b := w1.heap.size) (S := fun k => k = w1.heap.size) rfl)
        have L3 := L.keep (w' := setBlock w2 w1.heap.size (.mapIter (some bm) clock (seen.push e.born) clock)) fun k hk h => T3.block k hk (hrS k h)
        have hit3 : (setBlock w2 w1.heap.size (.mapIter (some bm) clock (seen.push e.born) clock)).heap[w1.heap.size]? = some (.mapIter (some bm) clock (seen.push e.born) clock) := setBlock_at (by omega)
        have hent := run_entry_at (P := Tryz.prog) _ w1.heap.size bm clock seen l.toArray clock e hit3 L3.map (by simpa using he) (by simpa using L.ents.born)
        rw [hkey, hval, hv0] at hrun hent
        have H3 := settle_any L3 s hs (D'.cac s).length (Nat.le_refl _)
        have hms : mapSize wr bm = l.length := mapSize_eq L.map
        go_wp2_with fail
        refine H3.mono ?_
        rintro e5 w5 ⟨rfl, L5, T5⟩
        have T5' : Turn (fun k => S k ∧ k < w1.heap.size) (setBlock w2 w1.heap.size (.mapIter (some bm) clock (seen.push e.born) clock)) w5 := T5.mono fun x hx => by rcases hx with h | h; exact h ▸ L.inS.2.1; exact h ▸ L.inS.2.2.1
        have hit5 : w5.heap[w1.heap.size]? = some (.mapIter (some bm) clock (seen.push e.born) clock) := (T5'.block _ (lt_of_heap hit3) (fun h => hrS _ h rfl)).trans hit3
        have hseen5 : ∀ x ∈ delE (s : Int) l, (seen.push e.born).contains x.born = false := fun x hx => by
          rw [contains_push, hseen x (mem_del hx), Bool.false_or, beq_eq_false_iff_ne]
          intro hb
          have hxe := born_inj L.ents.born (mem_del hx) he hb
          subst hxe
          have h1 := getE_of_mem (L.ents.del (s : Int)).one hx
          rw [getE_del _ L.ents.one, hks, if_pos rfl] at h1
          cases h1
        have hms5 : mapSize w5 bm = l.length - 1 := by
          rw [mapSize_eq L5.map, length_del, if_neg (by rw [L.look s, if_neg hcs]; simp)]
        have hlen : 0 < l.length := List.length_pos_iff.2 fun h => by rw [h] at he; cases he
        go_wp2_with fail
        have T6 : Turn (fun k => S k ∧ k < w1.heap.size) w1 w5 := (T.trans T3 (fun x hx => .inr (by omega))).then T5'
        exact ⟨⟨_, _, _, _, L5, F.settle s hcs, hit5, hseen5, T6⟩, by rw [hms5, hms]; omega⟩
end Go.Proofs.YtipejjgodnnkaaaGreatDoor
