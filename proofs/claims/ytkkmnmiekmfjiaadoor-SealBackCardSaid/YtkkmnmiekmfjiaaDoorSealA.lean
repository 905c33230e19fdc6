/- Seal's fields, valid, packed, unpacked: the header's five numbers as a block holds them. -/
import Derived.Test.YtkkmnmiekmfjiaaDoorE8
import Derived.Test.YtkkmnmiekmfjiaaDoorSumA
import Derived.Test.YtkkmnmiekmfjiaaDoorTurn
import Derived.Deep.MidRow
import Derived.BigRegion
import Derived.StillTailTactics
namespace Go.Proofs.YtkkmnmiekmfjiaaDoor
open Go Go.RowKit Go.Proofs

/-- A header as plain data. -/
structure Hd where
  kind : Int
  addr : Int
  count : Int
  level : Int
  gen : Int
def Hd.v (h : Hd) : Value := .agg #[.int .i64 h.kind, .int .i64 h.addr, .int .i64 h.count, .int .i64 h.level, .int .i64 h.gen]
def Hd.zero : Hd := ⟨0, 0, 0, 0, 0⟩
/-- The five fields in a block's order: the place in the struct, the width, the least and the most. -/
def foff : Nat → Nat | 0 => 0 | 1 => 3 | 2 => 1 | 3 => 2 | _ => 4
def fwid : Nat → Int | 0 => 1 | 1 => 1 | 2 => 2 | 3 => 2 | _ => 5
def flea : Nat → Int | 0 => 1 | _ => 0
def fmos : Nat → Int | 0 => 6 | 1 => 8 | 2 => 2047 | 3 => 65535 | _ => 1099511627775
def Hd.fld (h : Hd) : Nat → Int | 0 => h.kind | 1 => h.level | 2 => h.addr | 3 => h.count | _ => h.gen
def Hd.set (h : Hd) (k : Nat) (x : Int) : Hd := match k with
  | 0 => { h with kind := x }
  | 1 => { h with level := x }
  | 2 => { h with addr := x }
  | 3 => { h with count := x }
  | _ => { h with gen := x }
def fv (bp k : Nat) : Value := .agg #[.pointer (some ⟨bp, foff k, none⟩), .int .i64 (fwid k), .int .i64 (flea k), .int .i64 (fmos k)]
def fvsL (bp : Nat) : List Value := [.pointer (some ⟨bp, 0, none⟩), .int .i64 1, .int .i64 1, .int .i64 6, .pointer (some ⟨bp, 3, none⟩), .int .i64 1, .int .i64 0, .int .i64 8,
  .pointer (some ⟨bp, 1, none⟩), .int .i64 2, .int .i64 0, .int .i64 2047, .pointer (some ⟨bp, 2, none⟩), .int .i64 2, .int .i64 0, .int .i64 65535, .pointer (some ⟨bp, 4, none⟩), .int .i64 5, .int .i64 0, .int .i64 1099511627775]
def fvs (bp : Nat) : Value := .agg (fvsL bp).toArray

/-- The block that holds a header. -/
def HB (w : World) (bp : Nat) (h : Hd) : Prop := ∃ t, w.heap[bp]? = some (.cells #[.int .i64 h.kind, .int .i64 h.addr, .int .i64 h.count, .int .i64 h.level, .int .i64 h.gen] t (0, 0))

theorem there_new (w : World) (cs : Array Value) (t : TypeId) : (w.alloc (.cells cs t)).there w.heap.size 0 cs.size := fun j hj => by
  have hb : (w.alloc (.cells cs t)).heap[w.heap.size]? = some (.cells cs t (0, 0)) := heap_alloc_new w _
  refine ⟨?_, by unfold World.frozen?; rw [hb]; simp⟩
  rw [cell_of_row _ _ _ _ _ _ hb, Nat.zero_add, Array.getElem?_eq_getElem hj]; rfl
theorem results_cell1 {fn : Func} {p : Tmp} {ty : TypeId} {ad : Addr} {v : Value} {P : Program} {w : World} {tmps : Array Value} (h : fn.results = #[.cell p ty]) (hp : tmps.getD p undef = .pointer (some ad)) (hl : (loadVar ty ad).run P w = .ok v w) :
    (results fn tmps).run P w = .ok v w := by
  have e : (results fn tmps).run P w = ((asAddr (tmps.getD p undef)).run P w).andThen fun a w₁ => (loadVar ty a).run P w₁ := by
    simp only [results, h]
    simp [Sem.run_bind, Result.andThen]
    try rfl
  rw [e, hp]
  simp [asAddr, hl]
theorem idx (bp k : Nat) (hk : k < 5) (w : World) : (Instr.index 49 (fvs bp) (.int .i64 (k : Int))).run Tryd.prog w = .ok (fv bp k) w := by
  match k, hk with
  | 0, _ => show (Instr.index 49 (fvs bp) (.int .i64 0)).run Tryd.prog w = _; kernel_rfl
  | 1, _ => show (Instr.index 49 (fvs bp) (.int .i64 1)).run Tryd.prog w = _; kernel_rfl
  | 2, _ => show (Instr.index 49 (fvs bp) (.int .i64 2)).run Tryd.prog w = _; kernel_rfl
  | 3, _ => show (Instr.index 49 (fvs bp) (.int .i64 3)).run Tryd.prog w = _; kernel_rfl
  | 4, _ => show (Instr.index 49 (fvs bp) (.int .i64 4)).run Tryd.prog w = _; kernel_rfl

set_option maxHeartbeats 2000000 in
theorem fields_any (bp : Nat) (w : World) :
    Calls Tryd.prog 24 #[.pointer (some ⟨bp, 0, none⟩)] w fun e w' => e = .returned (fvs bp) ∧ Below w.heap.size w w' := by
  go_enter Tryd.func24, Tryd.ntmps24
  go_wp2
  generalize hw1 : w.alloc _ = w1
  go_still_tail 21, (by kernel_rfl)
  change wpList _ _ _ _ _ w1.drew
  have hb1 : Below w.heap.size w w1 := by rw [← hw1]; exact (Below.refl _ _).alloc (Nat.le_refl _) _
  have ht : w1.drew.there w.heap.size 0 20 := by
    show w1.there w.heap.size 0 20
    rw [← hw1]
    exact there_new w _ _
  clear hw1
  refine wpList_store_mid rfl _ _ _ rfl w.heap.size 0 (fvsL bp).toArray rfl rfl ht (by kernel_rfl) (by simp [fvsL, Value.oneCell']) ?_
  have hr : (w1.drew.setCells w.heap.size 0 (fvsL bp)).rangeAt w.heap.size 0 (fvsL bp) := World.rangeAt_setCells_same _ _ _ _ ht
  have hb2 : Below w.heap.size w (w1.drew.setCells w.heap.size 0 (fvsL bp)) := hb1.drew.trans ((turn_setCells (S := fun k => k = w.heap.size) rfl (fvsL bp) 0 w1.drew).below (fun x hx => by omega) (hb1.size))
  change wpList _ _ _ _ _ (w1.drew.setCells w.heap.size 0 (fvsL bp))
  generalize w1.drew.setCells w.heap.size 0 (fvsL bp) = w2 at hr hb2 ⊢
  go_wp2
  refine bodyPost_ret (v := fvs bp) ?_ rfl ⟨rfl, hb2⟩
  exact results_cell1 Tryd.results24 rfl (run_loadVar_mid w2 w.heap.size 0 49 (fvsL bp) _ hr Tryd.underlying49 rfl (by kernel_rfl))
end Go.Proofs.YtkkmnmiekmfjiaaDoor
