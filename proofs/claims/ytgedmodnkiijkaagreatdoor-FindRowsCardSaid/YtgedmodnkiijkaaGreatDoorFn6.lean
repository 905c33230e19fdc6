/- The reference's Keys: a node's keys. The reference's Seek and Least. Seal's fields, valid, packed, unpacked: the header's five numbers as a block holds them. Seal's valid, packed, unpacked: loops over the header's five fields. Seal's unpacked: eleven bytes as a header. The code's node: its small functions. The laws' few of layer 6; the reference's Same. The call's own row of items, each value in a block of its own. The reference's Same: of two nodes that read alike. -/
import Derived.Test.YtgedmodnkiijkaaGreatDoorFn1
import Derived.Test.YtgedmodnkiijkaaGreatDoorFn3
import Derived.Test.YtgedmodnkiijkaaGreatDoorFn4
import Derived.Test.YtgedmodnkiijkaaGreatDoorFn5
import Derived.Deep.QuietTactic
import Derived.BigQuiet
import Derived.Deep.MidRow
import Derived.BigRegion
import Derived.StillTailTactics
import Derived.Deep.RegionHeld3
namespace Go.Proofs.YtgedmodnkiijkaaGreatDoor
open Go Go.RowKit Go.Proofs

theorem TKey : RowT Tryz.prog 26 39 3 24 (.agg #[.int .i64 0, .int .i64 0, .int .i64 0]) := ⟨Tryz.underlying26, by kernel_rfl, rfl, by omega⟩
def Nd.keys (N : Nd) : List Kd := N.items.map (·.k) ++ N.kids.map (·.k)
/-- The block that holds a node. -/
def NB (w : World) (b : Nat) (l : Int) (A : Option Addr) (n c : Nat) (B : Option Addr) (m d : Nat) : Prop := ∃ t, w.heap[b]? = some (.cells #[.int .i64 l, .slice A n c, .slice B m d] t (0, 0))
section
variable {w w' : World} {b : Nat} {l : Int} {A B : Option Addr} {n c m d : Nat}
theorem NB.new (w : World) (l : Int) (A : Option Addr) (n c : Nat) (B : Option Addr) (m d : Nat) (t : TypeId) : NB (w.alloc (.cells #[.int .i64 l, .slice A n c, .slice B m d] t)) w.heap.size l A n c B m d := ⟨t, heap_alloc_new w _⟩
theorem NB.below (H : NB w b l A n c B m d) {E : Nat} (hb : Below E w w') (hB : b < E) : NB w' b l A n c B m d := by
  obtain ⟨t, H⟩ := H
  exact ⟨t, (hb.block b hB).trans H⟩
theorem NB.lt (H : NB w b l A n c B m d) : b < w.heap.size := by
  obtain ⟨t, H⟩ := H
  exact (Array.getElem?_eq_some_iff.1 H).1
theorem NB.c0 (H : NB w b l A n c B m d) : w.cell? ⟨b, 0, none⟩ = some (.int .i64 l) := by
  obtain ⟨t, H⟩ := H
  rw [cell_of_row _ _ _ _ _ _ H]; rfl
theorem NB.c1 (H : NB w b l A n c B m d) : w.cell? ⟨b, 1, none⟩ = some (.slice A n c) := by
  obtain ⟨t, H⟩ := H
  rw [cell_of_row _ _ _ _ _ _ H]; rfl
theorem NB.c2 (H : NB w b l A n c B m d) : w.cell? ⟨b, 2, none⟩ = some (.slice B m d) := by
  obtain ⟨t, H⟩ := H
  rw [cell_of_row _ _ _ _ _ _ H]; rfl
end
theorem own_keyl {w : World} {base : Nat} {A : Option Addr} {n c : Nat} {ks : List Kd} (h : OwnS w base 39 3 A n c (ks.map kvs)) : Keyl w A n c ks := h.sls (by omega)
theorem lit1_key (w : World) (k : Kd) : Sls (w.alloc (.cells #[.int .i64 k.obj, .int .i64 k.kind, .int .i64 k.off] 39)) 3 (some ⟨w.heap.size, 0, none⟩) 1 1 [kvs k] := (owns_lit1 w 39 3 (kvs k) _ rfl rfl).sls (by omega)
theorem kvs_one (k : Kd) : ∀ y ∈ [kvs k], ∀ u ∈ y, u.oneCell' = true := by
  intro y hy u hu
  obtain rfl : y = kvs k := by simpa using hy
  simp [kvs] at hu
  rcases hu with rfl | rfl | rfl <;> rfl
/-- The first j of a node's keys; kept shut. -/
def keysTo (N : Nd) (j : Nat) : List (List Value) := (N.keys.take j).map kvs
theorem keysTo_all (N : Nd) (j : Nat) (h : N.keys.length ≤ j) : keysTo N j = N.keys.map kvs := by unfold keysTo; rw [List.take_of_length_le h]
theorem keysTo_item (N : Nd) (j : Nat) (h : j < N.items.length) : keysTo N (j + 1) = keysTo N j ++ [kvs (itAt N.items j).k] := by
  unfold keysTo
  have hj : j < N.keys.length := by unfold Nd.keys; simp; omega
  rw [List.take_succ_eq_append_getElem hj, List.map_append, List.map_cons, List.map_nil]
  congr 3
  have : N.keys[j]? = some (itAt N.items j).k := by
    unfold Nd.keys
    rw [List.getElem?_append_left (by simpa using h), List.getElem?_map, itAt_get h]; rfl
  rw [List.getElem?_eq_getElem hj] at this
  simpa using this
theorem keysTo_kid (N : Nd) (j : Nat) (h : j < N.kids.length) : keysTo N (N.items.length + j + 1) = keysTo N (N.items.length + j) ++ [kvs (kidAt N.kids j).k] := by
  unfold keysTo
  have hj : N.items.length + j < N.keys.length := by unfold Nd.keys; simp; omega
  rw [List.take_succ_eq_append_getElem hj, List.map_append, List.map_cons, List.map_nil]
  congr 3
  have : N.keys[N.items.length + j]? = some (kidAt N.kids j).k := by
    unfold Nd.keys
    rw [List.getElem?_append_right (by simp), List.getElem?_map]
    simp [kidAt_get h]
  rw [List.getElem?_eq_getElem hj] at this
  simpa using this

set_option maxHeartbeats 4000000 in
theorem refkeys_any (N : Nd) (A : Option Addr) (n c : Nat) (B : Option Addr) (m d : Nat) (w : World) (hI : Itms w A n c N.items) (hK : Kidl w B m d N.kids) (hn : n ≤ 1000) (hm : m ≤ 1000) :
    Calls Tryz.prog 48 #[.agg #[.int .i64 N.lvl, .slice A n c, .slice B m d]] w fun e w' => ∃ A' n' c', e = .returned (.slice A' n' c') ∧ n' ≤ n + m ∧ Keyl w' A' n' c' N.keys ∧ Below w.heap.size w w' := by
  have HlI := Lib.hid hI.len
  have HlK := Lib.hid hK.len
  have hkl := Lib.hid (show N.keys.length = n + m by unfold Nd.keys; rw [List.length_append, List.length_map, List.length_map, HlI.out, HlK.out])
  go_enter Tryz.func48, Tryz.ntmps48
  go_wp2_with fail
  have N1 : NB (w.alloc (.cells #[.int .i64 N.lvl, .slice A n c, .slice B m d] 56)) w.heap.size N.lvl A n c B m d := NB.new w _ _ _ _ _ _ _ _
  have b1 : Below w.heap.size w (w.alloc (.cells #[.int .i64 N.lvl, .slice A n c, .slice B m d] 56)) := (Below.refl _ _).alloc (Nat.le_refl _) _
  have z1 := N1.lt
  have N2 := N1.below ((Below.refl _ _).alloc (Nat.le_refl _) (.cells #[] 39)) z1
  have B2 : Below w.heap.size w ((w.alloc (.cells #[.int .i64 N.lvl, .slice A n c, .slice B m d] 56)).alloc (.cells #[] 39)) := b1.trans (((Below.refl _ _).alloc (Nat.le_refl _) _).mono b1.size)
  have o1 : OwnS ((w.alloc (.cells #[.int .i64 N.lvl, .slice A n c, .slice B m d] 56)).alloc (.cells #[] 39)) (w.heap.size + 1) 39 3 (some ⟨w.heap.size + 1, 0, none⟩) 0 0 [] := by
    have := owns_lit0 (w.alloc (.cells #[.int .i64 N.lvl, .slice A n c, .slice B m d] 56)) 39 3
    rwa [World.size_alloc] at this
  generalize (w.alloc (.cells #[.int .i64 N.lvl, .slice A n c, .slice B m d] 56)).alloc (.cells #[] 39) = w2 at N2 B2 o1 ⊢
  go_loopw [3, 4] (fun l i wr => ∃ (j : Nat) (A' : Option Addr) (c' : Nat), j ≤ n ∧ i = .int .i64 (j : Int) ∧ l = .slice A' (j) c' ∧ OwnS wr (w.heap.size + 1) 39 3 A' (j) c' (keysTo N (j)) ∧ NB wr w.heap.size N.lvl A n c B m d ∧ Below w.heap.size w wr) (fun _ i _ => n - (intOf i).toNat)
  case atStart => exact ⟨0, _, _, Nat.zero_le _, rfl, rfl, o1, N2, B2⟩
  case round =>
    obtain ⟨j, A', c', hj, rfl, rfl, own, NN, hB⟩ := hrel
    by_cases hlt : j < n
    · obtain ⟨g, o, B', m', d', hA, hg, c0, c1, c2, _⟩ := (hI.below hB).cell hlt
      subst hA
      obtain ⟨k, hk⟩ : ∃ k, (itAt N.items j).k = k := ⟨_, rfl⟩
      rw [hk] at c0 c1 c2
      have nn := NN.c1
      have hz := NN.lt
      have b2 : Below wr.heap.size wr (wr.alloc (.cells #[.int .i64 (k).obj, .int .i64 (k).kind, .int .i64 (k).off] 39)) := (Below.refl _ _).alloc (Nat.le_refl _) _
      go_wp2_with (first
        | (at_builtin; refine wp_append_s _ TKey rfl _ _ rfl (w.heap.size + 1) A' (j) c' (keysTo N (j)) rfl (own.below b2) (some ⟨wr.heap.size, 0, none⟩) 1 1 [kvs k] rfl (lit1_key wr k) (by omega) (kvs_one k) (by omega) (by omega) (by have := b2.size; omega) ?_)
        | fail)
      intro A2 c2' w2 own2 hb2
      have hb3 : Below (w.heap.size + 1) wr w2 := (b2.mono (by omega)).trans hb2
      have NN2 := NN.below hb3 (by omega)
      have hB2 := hB.trans (hb3.mono (by omega))
      have e2 := keysTo_item N j (by rw [HlI.out]; exact hlt)
      rw [hk] at e2
      rw [← e2] at own2
      go_wp2
      exact ⟨⟨j + 1, _, _, by omega, by go_num, rfl, own2, NN2, hB2⟩, by simp [intOf]; omega⟩
    · obtain rfl : n = j := by omega
      have nn := NN.c1
      go_wp2_with fail
      go_loopw [3, 5] (fun l i wr => ∃ (j : Nat) (A' : Option Addr) (c' : Nat), j ≤ m ∧ i = .int .i64 (j : Int) ∧ l = .slice A' (n + j) c' ∧ OwnS wr (w.heap.size + 1) 39 3 A' (n + j) c' (keysTo N (n + j)) ∧ NB wr w.heap.size N.lvl A n c B m d ∧ Below w.heap.size w wr) (fun _ i _ => m - (intOf i).toNat)
      case atStart => exact ⟨0, _, _, Nat.zero_le _, rfl, rfl, own, NN, hB⟩
      case round =>
        obtain ⟨j, A', c', hj, rfl, rfl, own, NN, hB⟩ := hrel
        by_cases hlt : j < m
        · obtain ⟨g, o, hA, hg, c0, c1, c2, _⟩ := (hK.below hB).cell hlt
          subst hA
          obtain ⟨k, hk⟩ : ∃ k, (kidAt N.kids j).k = k := ⟨_, rfl⟩
          rw [hk] at c0 c1 c2
          have nn := NN.c2
          have hz := NN.lt
          have b2 : Below wr.heap.size wr (wr.alloc (.cells #[.int .i64 (k).obj, .int .i64 (k).kind, .int .i64 (k).off] 39)) := (Below.refl _ _).alloc (Nat.le_refl _) _
          go_wp2_with (first
            | (at_builtin; refine wp_append_s _ TKey rfl _ _ rfl (w.heap.size + 1) A' (n + j) c' (keysTo N (n + j)) rfl (own.below b2) (some ⟨wr.heap.size, 0, none⟩) 1 1 [kvs k] rfl (lit1_key wr k) (by omega) (kvs_one k) (by omega) (by omega) (by have := b2.size; omega) ?_)
            | fail)
          intro A2 c2' w2 own2 hb2
          have hb3 : Below (w.heap.size + 1) wr w2 := (b2.mono (by omega)).trans hb2
          have NN2 := NN.below hb3 (by omega)
          have hB2 := hB.trans (hb3.mono (by omega))
          have e2 := keysTo_kid N j (by rw [HlK.out]; exact hlt)
          rw [hk] at e2
          rw [HlI.out] at e2
          rw [← e2] at own2
          go_wp2
          exact ⟨⟨j + 1, _, _, by omega, by go_num, rfl, own2, NN2, hB2⟩, by simp [intOf]; omega⟩
        · obtain rfl : m = j := by omega
          have nn := NN.c2
          rw [keysTo_all N (n + m) (by rw [hkl.out]; omega)] at own
          go_wp2
          go_ret
          exact ⟨_, _, _, rfl, Nat.le_refl _, own_keyl own, hB⟩

end Go.Proofs.YtgedmodnkiijkaaGreatDoor

namespace Go.Proofs.YtgedmodnkiijkaaGreatDoor
open Go Go.RowKit Go.Proofs

/-- The least key; kept shut. -/
def Nd.least (N : Nd) : Kd := if N.keys.length = 0 then ⟨0, 0, 0⟩ else keyAt N.keys 0
set_option maxHeartbeats 4000000 in
theorem refleast_any (N : Nd) (A : Option Addr) (n c : Nat) (B : Option Addr) (m d : Nat) (w : World) (hI : Itms w A n c N.items) (hK : Kidl w B m d N.kids) (hn : n ≤ 1000) (hm : m ≤ 1000) :
    Calls Tryz.prog 32 #[.agg #[.int .i64 N.lvl, .slice A n c, .slice B m d]] w fun e w' => e = .returned N.least.v ∧ Below w.heap.size w w' := by
  go_enter Tryz.func32, Tryz.ntmps32
  go_wp2_with fail
  have b0 : Below w.heap.size w (w.alloc (.cells #[.int .i64 N.lvl, .slice A n c, .slice B m d] 56)) := (Below.refl _ _).alloc (Nat.le_refl _) _
  have R1 : KB ((w.alloc (.cells #[.int .i64 N.lvl, .slice A n c, .slice B m d] 56)).alloc (.cells #[.int .i64 0, .int .i64 0, .int .i64 0] 39)) (w.heap.size + 1) ⟨0, 0, 0⟩ := KB.new2 w _ 0 0 0 _
  have b1 : Below w.heap.size w ((w.alloc (.cells #[.int .i64 N.lvl, .slice A n c, .slice B m d] 56)).alloc (.cells #[.int .i64 0, .int .i64 0, .int .i64 0] 39)) := b0.alloc (by simp) _
  generalize (w.alloc (.cells #[.int .i64 N.lvl, .slice A n c, .slice B m d] 56)).alloc (.cells #[.int .i64 0, .int .i64 0, .int .i64 0] 39) = w1 at R1 b1 ⊢
  refine (refkeys_any N A n c B m d w1 (hI.below b1) (hK.below b1) hn hm).mono ?_
  rintro e w2 ⟨A2, n2, c2, rfl, hn2, hk2, hb2⟩
  have R2 := R1.below hb2 R1.lt
  have B2 := b1.trans (hb2.mono b1.size)
  have hl := Lib.hid hk2.len
  clear R1 b1 b0 hb2
  by_cases h0 : n2 = 0
  · have hL := Lib.hid (show N.least = ⟨0, 0, 0⟩ from if_pos (by rw [hl.out]; exact h0))
    subst h0
    go_wp2_with (first
      | (refine wp_store_kd rfl (.tmp 2) (.tmp 9) rfl (w.heap.size + 1) rfl ⟨0, 0, 0⟩ _ rfl R2 ?_; intro wz Rz Tz)
      | fail)
    refine bodyPost_ret (res_c1 Tryz.results32 rfl (load_kd Rz)) rfl ?_
    exact ⟨by rw [hL.out], B2.trans ((Tz.belowOne R2.lt).mono (by omega))⟩
  · obtain ⟨g, o, hA, hg, c0, c1, c2'⟩ := hk2.cell (show 0 < n2 by omega)
    subst hA
    rw [Nat.zero_mul, Nat.add_zero] at c0 c1 c2'
    obtain ⟨k, hk⟩ : ∃ k, keyAt N.keys 0 = k := ⟨_, rfl⟩
    rw [hk] at c0 c1 c2'
    have hL := Lib.hid (show N.least = k by rw [← hk]; exact if_neg (by rw [hl.out]; exact h0))
    clear hk
    have h1 : ((n2 : Int) == 0) = false := by simp; omega
    have h2 : decide ((n2 : Int) = 0) = false := decide_eq_false (by omega)
    have h3 : (0 : Int) < (n2 : Int) := by omega
    go_wp2_with (first
      | (refine wp_store_kd rfl (.tmp 2) (.tmp 12) rfl (w.heap.size + 1) rfl k _ rfl R2 ?_; intro wz Rz Tz)
      | fail)
    refine bodyPost_ret (res_c1 Tryz.results32 rfl (load_kd Rz)) rfl ?_
    exact ⟨by rw [hL.out], B2.trans ((Tz.belowOne R2.lt).mono (by omega))⟩
end Go.Proofs.YtgedmodnkiijkaaGreatDoor

namespace Go.Proofs.YtgedmodnkiijkaaGreatDoor
open Go Go.RowKit Go.Proofs

/-- A header as plain data. -/
structure Hd where
  kind : Int
  addr : Int
  count : Int
  level : Int
  gen : Int
def Hd.v (h : Hd) : Value := .agg #[.int .i64 h.kind, .int .i64 h.addr, .int .i64 h.count, .int .i64 h.level, .int .i64 h.gen]
def Hd.zero : Hd := ⟨0, 0, 0, 0, 0⟩
/-- The five fields in a block's order: the place in the struct, the width, the least and the most. -/
def foff : Nat → Nat | 0 => 0 | 1 => 3 | 2 => 1 | 3 => 2 | _ => 4
def fwid : Nat → Int | 0 => 1 | 1 => 1 | 2 => 2 | 3 => 2 | _ => 5
def flea : Nat → Int | 0 => 1 | _ => 0
def fmos : Nat → Int | 0 => 6 | 1 => 8 | 2 => 2047 | 3 => 65535 | _ => 1099511627775
def Hd.fld (h : Hd) : Nat → Int | 0 => h.kind | 1 => h.level | 2 => h.addr | 3 => h.count | _ => h.gen
def Hd.set (h : Hd) (k : Nat) (x : Int) : Hd := match k with
  | 0 => { h with kind := x }
  | 1 => { h with level := x }
  | 2 => { h with addr := x }
  | 3 => { h with count := x }
  | _ => { h with gen := x }
def fv (bp k : Nat) : Value := .agg #[.pointer (some ⟨bp, foff k, none⟩), .int .i64 (fwid k), .int .i64 (flea k), .int .i64 (fmos k)]
def fvsL (bp : Nat) : List Value := [.pointer (some ⟨bp, 0, none⟩), .int .i64 1, .int .i64 1, .int .i64 6, .pointer (some ⟨bp, 3, none⟩), .int .i64 1, .int .i64 0, .int .i64 8,
  .pointer (some ⟨bp, 1, none⟩), .int .i64 2, .int .i64 0, .int .i64 2047, .pointer (some ⟨bp, 2, none⟩), .int .i64 2, .int .i64 0, .int .i64 65535, .pointer (some ⟨bp, 4, none⟩), .int .i64 5, .int .i64 0, .int .i64 1099511627775]
def fvs (bp : Nat) : Value := .agg (fvsL bp).toArray

/-- The block that holds a header. -/
def HB (w : World) (bp : Nat) (h : Hd) : Prop := ∃ t, w.heap[bp]? = some (.cells #[.int .i64 h.kind, .int .i64 h.addr, .int .i64 h.count, .int .i64 h.level, .int .i64 h.gen] t (0, 0))

theorem there_new (w : World) (cs : Array Value) (t : TypeId) : (w.alloc (.cells cs t)).there w.heap.size 0 cs.size := fun j hj => by
  have hb : (w.alloc (.cells cs t)).heap[w.heap.size]? = some (.cells cs t (0, 0)) := heap_alloc_new w _
  refine ⟨?_, by unfold World.frozen?; rw [hb]; simp⟩
  rw [cell_of_row _ _ _ _ _ _ hb, Nat.zero_add, Array.getElem?_eq_getElem hj]; rfl
theorem results_cell1 {fn : Func} {p : Tmp} {ty : TypeId} {ad : Addr} {v : Value} {P : Program} {w : World} {tmps : Array Value} (h : fn.results = #[.cell p ty]) (hp : tmps.getD p undef = .pointer (some ad)) (hl : (loadVar ty ad).run P w = .ok v w) :
    (results fn tmps).run P w = .ok v w := by
  have e : (results fn tmps).run P w = ((asAddr (tmps.getD p undef)).run P w).andThen fun a w₁ => (loadVar ty a).run P w₁ := by
    simp only [results, h]
    simp [Sem.run_bind, Result.andThen]
    try rfl
  rw [e, hp]
  simp [asAddr, hl]
theorem idx (bp k : Nat) (hk : k < 5) (w : World) : (Instr.index 200 (fvs bp) (.int .i64 (k : Int))).run Tryz.prog w = .ok (fv bp k) w := by
  match k, hk with
  | 0, _ => show (Instr.index 200 (fvs bp) (.int .i64 0)).run Tryz.prog w = _; kernel_rfl
  | 1, _ => show (Instr.index 200 (fvs bp) (.int .i64 1)).run Tryz.prog w = _; kernel_rfl
  | 2, _ => show (Instr.index 200 (fvs bp) (.int .i64 2)).run Tryz.prog w = _; kernel_rfl
  | 3, _ => show (Instr.index 200 (fvs bp) (.int .i64 3)).run Tryz.prog w = _; kernel_rfl
  | 4, _ => show (Instr.index 200 (fvs bp) (.int .i64 4)).run Tryz.prog w = _; kernel_rfl

set_option maxRecDepth 10000 in
set_option maxHeartbeats 2000000 in
theorem fields_any (bp : Nat) (w : World) :
    Calls Tryz.prog 130 #[.pointer (some ⟨bp, 0, none⟩)] w fun e w' => e = .returned (fvs bp) ∧ Below w.heap.size w w' := by
  go_enter Tryz.func130, Tryz.ntmps130
  go_wp2
  generalize hw1 : w.alloc _ = w1
  go_still_tail 21, (by kernel_rfl)
  change wpList _ _ _ _ _ w1.drew
  have hb1 : Below w.heap.size w w1 := by rw [← hw1]; exact (Below.refl _ _).alloc (Nat.le_refl _) _
  have ht : w1.drew.there w.heap.size 0 20 := by
    show w1.there w.heap.size 0 20
    rw [← hw1]
    exact there_new w _ _
  clear hw1
  refine wpList_store_mid rfl _ _ _ rfl w.heap.size 0 (fvsL bp).toArray rfl rfl ht (by kernel_rfl) (by simp [fvsL, Value.oneCell']) ?_
  have hr : (w1.drew.setCells w.heap.size 0 (fvsL bp)).rangeAt w.heap.size 0 (fvsL bp) := World.rangeAt_setCells_same _ _ _ _ ht
  have hb2 : Below w.heap.size w (w1.drew.setCells w.heap.size 0 (fvsL bp)) := hb1.drew.trans ((turn_setCells (S := fun k => k = w.heap.size) rfl (fvsL bp) 0 w1.drew).below (fun x hx => by omega) (hb1.size))
  change wpList _ _ _ _ _ (w1.drew.setCells w.heap.size 0 (fvsL bp))
  generalize w1.drew.setCells w.heap.size 0 (fvsL bp) = w2 at hr hb2 ⊢
  go_wp2
  refine bodyPost_ret (v := fvs bp) ?_ rfl ⟨rfl, hb2⟩
  exact results_cell1 Tryz.results130 rfl (run_loadVar_mid w2 w.heap.size 0 200 (fvsL bp) _ hr Tryz.underlying200 rfl (by kernel_rfl))
end Go.Proofs.YtgedmodnkiijkaaGreatDoor

namespace Go.Proofs.YtgedmodnkiijkaaGreatDoor
open Go Go.RowKit Go.Proofs

theorem HB.at_ {w : World} {bp : Nat} {h : Hd} (H : HB w bp h) (k : Nat) : w.cell? ⟨bp, foff k, none⟩ = some (.int .i64 (h.fld k)) := by
  obtain ⟨t, H⟩ := H
  rw [cell_of_row _ _ _ _ _ _ H]
  match k with
  | 0 => rfl
  | 1 => rfl
  | 2 => rfl
  | 3 => rfl
  | _ + 4 => rfl
theorem HB.below {w w' : World} {bp : Nat} {h : Hd} (H : HB w bp h) {B : Nat} (hb : Below B w w') (hB : bp < B) : HB w' bp h := by
  obtain ⟨t, H⟩ := H
  exact ⟨t, (hb.block bp hB).trans H⟩
theorem idx4 (bp k : Nat) (hk : k < 5) (w : World) : (Instr.index 200 (fvs bp) (.int .i64 (k : Int))).run Tryz.prog w = .ok (.agg #[.pointer (some ⟨bp, foff k, none⟩), .int .i64 (fwid k), .int .i64 (flea k), .int .i64 (fmos k)]) w := idx bp k hk w

/-- The k-th number is within its bounds. -/
def Hd.in_ (h : Hd) (k : Nat) : Prop := flea k ≤ h.fld k ∧ h.fld k ≤ fmos k
/-- P4's valid header. -/
def Hd.ok (h : Hd) : Bool := decide ((1 ≤ h.kind ∧ h.kind ≤ 6) ∧ (0 ≤ h.level ∧ h.level ≤ 8) ∧ (0 ≤ h.addr ∧ h.addr ≤ 2047) ∧ (0 ≤ h.count ∧ h.count ≤ 65535) ∧ 0 ≤ h.gen ∧ h.gen ≤ 1099511627775)
theorem Hd.ok_of (h : Hd) (H : ∀ j < 5, h.in_ j) : h.ok = true := by
  have h0 := H 0 (by omega)
  have h1 := H 1 (by omega)
  have h2 := H 2 (by omega)
  have h3 := H 3 (by omega)
  have h4 := H 4 (by omega)
  exact decide_eq_true ⟨h0, h1, h2, h3, h4⟩
theorem Hd.in_of (h : Hd) (H : h.ok = true) (j : Nat) (hj : j < 5) : h.in_ j := by
  obtain ⟨h0, h1, h2, h3, h4⟩ := of_decide_eq_true H
  match j, hj with
  | 0, _ => exact h0
  | 1, _ => exact h1
  | 2, _ => exact h2
  | 3, _ => exact h3
  | 4, _ => exact h4

set_option maxRecDepth 10000 in
set_option maxHeartbeats 2000000 in
theorem valid_any (h : Hd) (w : World) :
    Calls Tryz.prog 107 #[.agg #[.int .i64 h.kind, .int .i64 h.addr, .int .i64 h.count, .int .i64 h.level, .int .i64 h.gen]] w fun e w' => e = .returned (.bool h.ok) ∧ Below w.heap.size w w' := by
  go_enter Tryz.func107, Tryz.ntmps107
  go_wp2_with (go_at_call 130; refine (fields_any w.heap.size _).mono ?_; rintro e w2 ⟨rfl, hb2⟩)
  have H2 : HB w2 w.heap.size h := HB.below ⟨_, heap_alloc_new w _⟩ hb2 (by simp)
  have hB2 : Below w.heap.size w w2 := ((Below.refl _ _).alloc (Nat.le_refl _) _).trans (hb2.mono (by simp))
  have hs2 := hb2.size
  rw [World.size_alloc] at hs2
  go_loopw [6] (fun i wr => ∃ k : Nat, k ≤ 5 ∧ i = .int .i64 (k : Int) ∧ (∀ j < k, h.in_ j) ∧ HB wr w.heap.size h ∧ Below w.heap.size w wr ∧ w.heap.size < wr.heap.size) (fun i _ => 5 - (intOf i).toNat)
  case atStart => exact ⟨0, by omega, rfl, fun j hj => by omega, H2, hB2, by omega⟩
  case round =>
    obtain ⟨k, hk, rfl, hin, H, hB, hlt⟩ := hrel
    by_cases h5 : k < 5
    · have hix := idx4 w.heap.size k h5
      have hc := H.at_ k
      have hk0 : (0 : Int) ≤ (k : Int) := by omega
      have hc2 : ∀ o : Obj, (wr.alloc o).cell? ⟨w.heap.size, foff k, none⟩ = some (.int .i64 (h.fld k)) := fun o => ((Below.refl _ _).alloc (Nat.le_refl _) o).cell hlt |>.trans hc
      go_wp2
      generalize hw1 : wr.alloc _ = w1
      have hB1 : Below wr.heap.size wr w1 := by rw [← hw1]; exact (Below.refl _ _).alloc (Nat.le_refl _) _
      have hn : w1.heap[wr.heap.size]? = some (.cells #[.pointer (some ⟨w.heap.size, foff k, none⟩), .int .i64 (fwid k), .int .i64 (flea k), .int .i64 (fmos k)] 199 (0, 0)) := by rw [← hw1]; exact heap_alloc_new wr _
      have hs1 : w1.heap.size = wr.heap.size + 1 := by rw [← hw1]; simp
      clear hw1 hix
      have q0 : w1.cell? ⟨wr.heap.size, 0, none⟩ = some (.pointer (some ⟨w.heap.size, foff k, none⟩)) := by rw [cell_of_row _ _ _ _ _ _ hn]; rfl
      have q2 : w1.cell? ⟨wr.heap.size, 2, none⟩ = some (.int .i64 (flea k)) := by rw [cell_of_row _ _ _ _ _ _ hn]; rfl
      have q3 : w1.cell? ⟨wr.heap.size, 3, none⟩ = some (.int .i64 (fmos k)) := by rw [cell_of_row _ _ _ _ _ _ hn]; rfl
      have qc : w1.cell? ⟨w.heap.size, foff k, none⟩ = some (.int .i64 (h.fld k)) := (hB1.cell hlt).trans hc
      have H1 := H.below hB1 hlt
      have hBw := hB.trans (hB1.mono hB.size)
      clear hB H hc hc2 hn hB1
      generalize hx : h.fld k = x at *
      generalize hl : flea k = lo at *
      generalize hm : fmos k = hi at *
      by_cases h1 : x < lo
      · have hno : h.ok = false := by
          cases ho : h.ok
          · rfl
          · have := (h.in_of ho k h5).1; omega
        go_quiet (fail)
        go_wp2
        go_ret
        exact ⟨by first | rfl | (rw [hno]; rfl), below_drewN hBw _⟩
      · have g1 : decide (x < lo) = false := decide_eq_false h1
        by_cases h2 : hi < x
        · have hno : h.ok = false := by
            cases ho : h.ok
            · rfl
            · have := (h.in_of ho k h5).2; omega
          go_quiet (fail)
          go_wp2
          go_ret
          exact ⟨by first | rfl | (rw [hno]; rfl), below_drewN hBw _⟩
        · have g2 : decide (hi < x) = false := decide_eq_false h2
          go_quiet (fail)
          go_wp2
          refine ⟨⟨k + 1, by omega, rfl, fun j hj => ?_, H1.below (below_drewN (Below.refl w1.heap.size w1) _) (by omega), below_drewN hBw _, by show w.heap.size < w1.heap.size; omega⟩, by simp [intOf]; omega⟩
          by_cases hjk : j = k
          · rw [hjk]; unfold Hd.in_; rw [hx, hl, hm]; omega
          · exact hin j (by omega)
    · have hk5 : k = 5 := by omega
      go_wp2
      go_ret
      exact ⟨by rw [h.ok_of (by rw [← hk5]; exact hin)]; rfl, hB⟩

/-- A header's eleven bytes. -/
def hdB (h : Hd) : List UInt8 := dig h.kind 1 ++ (dig h.level 1 ++ (dig h.addr 2 ++ (dig h.count 2 ++ dig h.gen 5)))
def hdTo (h : Hd) : Nat → List UInt8
  | 0 => []
  | k + 1 => hdTo h k ++ dig (h.fld k) (fwid k).toNat
theorem hdTo_len (h : Hd) (k : Nat) (hk : k ≤ 5) : (hdTo h k).length ≤ 11 := by
  match k, hk with
  | 0, _ => simp [hdTo]
  | 1, _ => simp [hdTo, dig_len, fwid]
  | 2, _ => simp [hdTo, dig_len, fwid]
  | 3, _ => simp [hdTo, dig_len, fwid]
  | 4, _ => simp [hdTo, dig_len, fwid]
  | 5, _ => simp [hdTo, dig_len, fwid]
theorem hdTo_all (h : Hd) : hdTo h 5 = hdB h := by simp [hdTo, hdB, Hd.fld, fwid]
theorem fwid_in (k : Nat) : 1 ≤ fwid k ∧ fwid k ≤ 5 := by
  match k with
  | 0 => decide
  | 1 => decide
  | 2 => decide
  | 3 => decide
  | _ + 4 => exact ⟨by show (1 : Int) ≤ 5; omega, by show (5 : Int) ≤ 5; omega⟩

set_option maxRecDepth 10000 in
set_option maxHeartbeats 2000000 in
theorem packed_any (h : Hd) (w : World) :
    Calls Tryz.prog 108 #[.agg #[.int .i64 h.kind, .int .i64 h.addr, .int .i64 h.count, .int .i64 h.level, .int .i64 h.gen]] w fun e w' => ∃ A n c, e = .returned (.slice A n c) ∧ Sl w' A n c (hdB h) ∧ Below w.heap.size w w' := by
  go_enter Tryz.func108, Tryz.ntmps108
  go_wp2_with (go_at_call 130; refine (fields_any w.heap.size _).mono ?_; rintro e w2 ⟨rfl, hb2⟩)
  have H2 : HB w2 w.heap.size h := HB.below ⟨_, heap_alloc_new w _⟩ hb2 (by simp)
  have hB2 : Below w.heap.size w w2 := ((Below.refl _ _).alloc (Nat.le_refl _) _).trans (hb2.mono (by simp))
  have hs2 := hb2.size
  rw [World.size_alloc] at hs2
  go_loopw [3, 7] (fun s i wr => ∃ (k : Nat) (A : Option Addr) (n c : Nat), k ≤ 5 ∧ s = .slice A n c ∧ i = .int .i64 (k : Int) ∧ Sl wr A n c (hdTo h k) ∧ HB wr w.heap.size h ∧ Below w.heap.size w wr ∧ w.heap.size < wr.heap.size) (fun _ i _ => 5 - (intOf i).toNat)
  case atStart => exact ⟨0, none, 0, 0, by omega, rfl, rfl, sl_nil _, H2, hB2, by omega⟩
  case round =>
    obtain ⟨k, A, n, c, hk, rfl, rfl, hs, H, hB, hlt⟩ := hrel
    by_cases h5 : k < 5
    · have hix := idx4 w.heap.size k h5
      have hc := H.at_ k
      have hk0 : (0 : Int) ≤ (k : Int) := by omega
      go_wp2
      generalize hw1 : wr.alloc _ = w1
      have hB1 : Below wr.heap.size wr w1 := by rw [← hw1]; exact (Below.refl _ _).alloc (Nat.le_refl _) _
      have hn : w1.heap[wr.heap.size]? = some (.cells #[.pointer (some ⟨w.heap.size, foff k, none⟩), .int .i64 (fwid k), .int .i64 (flea k), .int .i64 (fmos k)] 199 (0, 0)) := by rw [← hw1]; exact heap_alloc_new wr _
      have hs1 : w1.heap.size = wr.heap.size + 1 := by rw [← hw1]; simp
      clear hw1 hix
      have q0 : w1.cell? ⟨wr.heap.size, 0, none⟩ = some (.pointer (some ⟨w.heap.size, foff k, none⟩)) := by rw [cell_of_row _ _ _ _ _ _ hn]; rfl
      have q1 : w1.cell? ⟨wr.heap.size, 1, none⟩ = some (.int .i64 (fwid k)) := by rw [cell_of_row _ _ _ _ _ _ hn]; rfl
      have qc : w1.cell? ⟨w.heap.size, foff k, none⟩ = some (.int .i64 (h.fld k)) := (hB1.cell hlt).trans hc
      have H1 := H.below hB1 hlt
      have hs' := hs.below hB1
      have hBw := hB.trans (hB1.mono hB.size)
      have hlen := hs.len
      have hll := hdTo_len h k hk
      have hfw := fwid_in k
      have hnx : putS (hdTo h k) (h.fld k) (fwid k) = hdTo h (k + 1) := by unfold putS; rw [if_pos (by omega)]; rfl
      clear hB H hc hn hB1 hs
      go_still_tail 7, (by kernel_rfl)
      change wpList _ _ _ _ _ w1.drew
      go_wp2_with (go_at_call 110; refine (put_any A n c (hdTo h k) (h.fld k) (fwid k) _ hs'.drew (by omega)).mono ?_; rintro e w3 ⟨A3, n3, c3, rfl, hown3, hb3⟩)
      rw [hnx] at hown3
      have hb3' : Below w1.heap.size w1 w3 := (Below.refl _ _).drew.trans hb3
      exact ⟨⟨k + 1, A3, n3, c3, by omega, rfl, rfl, hown3.sl, H1.below hb3' (by omega), hBw.trans (hb3'.mono hBw.size), by have := hb3'.size; omega⟩, by simp [intOf]; omega⟩
    · have hk5 : k = 5 := by omega
      go_wp2
      go_ret
      rw [hk5, hdTo_all] at hs
      exact ⟨A, n, c, rfl, hs, hB⟩
end Go.Proofs.YtgedmodnkiijkaaGreatDoor

namespace Go.Proofs.YtgedmodnkiijkaaGreatDoor
open Go Go.RowKit Go.Proofs

def fpos : Nat → Nat | 0 => 0 | 1 => 1 | 2 => 2 | 3 => 4 | 4 => 6 | _ => 11
/-- The k-th number that a block's bytes hold. -/
def rdF (l : List UInt8) (k : Nat) : Nat := numL ((l.drop (fpos k)).take (fwid k).toNat)
/-- The header after k fields. -/
def rdTo (l : List UInt8) : Nat → Hd
  | 0 => Hd.zero
  | k + 1 => (rdTo l k).set k (rdF l k)
/-- What eleven bytes say. -/
def hdOf (l : List UInt8) : Hd := ⟨numL (l.take 1), numL ((l.drop 2).take 2), numL ((l.drop 4).take 2), numL ((l.drop 1).take 1), numL ((l.drop 6).take 5)⟩
theorem rdTo_all (l : List UInt8) : rdTo l 5 = hdOf l := rfl
theorem fpos_next (k : Nat) (hk : k < 5) : fpos (k + 1) = fpos k + (fwid k).toNat := by
  match k, hk with
  | 0, _ => rfl
  | 1, _ => rfl
  | 2, _ => rfl
  | 3, _ => rfl
  | 4, _ => rfl
theorem fpos_le (k : Nat) (hk : k ≤ 5) : fpos k ≤ 11 := by
  match k, hk with
  | 0, _ => decide
  | 1, _ => decide
  | 2, _ => decide
  | 3, _ => decide
  | 4, _ => decide
  | 5, _ => decide
theorem HB.set_ {w : World} {bp : Nat} {h : Hd} (H : HB w bp h) (k : Nat) (x : Int) : HB (w.setCell ⟨bp, foff k, none⟩ (.int .i64 x)) bp (h.set k x) := by
  obtain ⟨t, H⟩ := H
  refine ⟨t, (heap_setCell_same w bp (foff k) _ t (.int .i64 x) H).trans ?_⟩
  match k with
  | 0 => rfl
  | 1 => rfl
  | 2 => rfl
  | 3 => rfl
  | _ + 4 => rfl
theorem HB.fz {w : World} {bp : Nat} {h : Hd} (H : HB w bp h) (k : Nat) : w.frozen? ⟨bp, foff k, none⟩ = false := by
  obtain ⟨t, H⟩ := H
  unfold World.frozen?
  rw [H]
  simp
theorem HB.zero (w : World) (t : TypeId) : HB (w.alloc (.cells #[.int .i64 0, .int .i64 0, .int .i64 0, .int .i64 0, .int .i64 0] t)) w.heap.size Hd.zero := ⟨t, heap_alloc_new w _⟩

theorem Own.turn {w w' : World} {base n c : Nat} {e : TypeId} {A : Option Addr} {l : List UInt8} (h : Own w base e A n c l) (hk : ∀ g, base ≤ g → g < w.heap.size → w'.heap[g]? = w.heap[g]?) : Own w' base e A n c l := by
  refine ⟨h.1, ?_⟩
  rcases h.2 with hv | ⟨g, cap, cur, hv, h1, hg, r⟩
  · exact .inl hv
  · exact .inr ⟨g, cap, cur, hv, h1, (hk g h1 (Array.getElem?_eq_some_iff.1 hg).1).trans hg, r⟩
def Hd.vs (h : Hd) : List Value := [.int .i64 h.kind, .int .i64 h.addr, .int .i64 h.count, .int .i64 h.level, .int .i64 h.gen]
theorem HB.range {w : World} {bp : Nat} {h : Hd} (H : HB w bp h) : w.rangeAt bp 0 h.vs := fun j v hv => by
  obtain ⟨t, H⟩ := H
  rw [cell_of_row _ _ _ _ _ _ H, Nat.zero_add]
  simpa [Hd.vs] using hv
theorem HB.there {w : World} {bp : Nat} {h : Hd} (H : HB w bp h) : w.there bp 0 5 := fun j hj => by
  obtain ⟨t, H⟩ := H
  refine ⟨?_, by unfold World.frozen?; rw [H]; simp⟩
  rw [cell_of_row _ _ _ _ _ _ H, Nat.zero_add, Array.getElem?_eq_getElem (by simpa using hj)]; rfl
theorem wp_load_hd {ops : Array Oper} {rest : List Oper} {o : Oper} {a : Act} {w : World} {Q : Exit → Act → World → Prop} (hg : o.guard = none) (x : Operand) (hop : o.op = Op.load 133 x)
    (b : Nat) (hx : a.eval x = .pointer (some ⟨b, 0, none⟩)) (h : Hd) (H : HB w b h) (hK : wpList Tryz.prog ops Q rest (a.put o.dst h.v) w) : wpList Tryz.prog ops Q (o :: rest) a w :=
  wpList_load_mid hg _ x hop b 0 hx h.vs _ H.range Tryz.underlying133 rfl (by kernel_rfl) hK
theorem wp_store_hd {ops : Array Oper} {rest : List Oper} {o : Oper} {a : Act} {w : World} {Q : Exit → Act → World → Prop} (hg : o.guard = none) (x y : Operand) (hop : o.op = Op.store 133 x y)
    (b : Nat) (hx : a.eval x = .pointer (some ⟨b, 0, none⟩)) (h h0 : Hd) (hy : a.eval y = h.v) (H : HB w b h0) (hb : b < w.heap.size)
    (hK : ∀ w', w'.rangeAt b 0 h.vs → (∀ B, B ≤ b → Below B w w') → Turn (fun k => k = b) w w' → wpList Tryz.prog ops Q rest (a.put o.dst undef) w') : wpList Tryz.prog ops Q (o :: rest) a w :=
  wpList_store_mid hg _ x y hop b 0 h.vs.toArray hx hy H.there (by kernel_rfl) (by simp [Hd.vs, Value.oneCell'])
    (hK _ (World.rangeAt_setCells_same _ _ _ _ H.there) (fun B hB => (turn_setCells (S := fun k => k = b) rfl h.vs 0 w).below (fun x hx => by omega) (by omega)) (turn_setCells (S := fun k => k = b) rfl h.vs 0 w))

set_option maxRecDepth 10000 in
set_option maxHeartbeats 2000000 in
theorem unpacked_any (A : Option Addr) (c : Nat) (l : List UInt8) (w : World) (hs : Sl w A 11 c l) :
    Calls Tryz.prog 115 #[.slice A 11 c] w fun e w' => e = .returned (hdOf l).v ∧ Below w.heap.size w w' := by
  go_enter Tryz.func115, Tryz.ntmps115
  go_wp2_with (go_at_call 130; refine (fields_any (w.heap.size + 1) _).mono ?_; rintro e w2 ⟨rfl, hb2⟩)
  have hsz := hb2.size
  simp only [World.size_alloc] at hsz hb2
  have hb0 : Below w.heap.size w w2 := (((Below.refl _ w).alloc (Nat.le_refl _) _).alloc (by simp) _).trans (hb2.mono (by omega))
  have hR : HB w2 w.heap.size Hd.zero := ((HB.zero w _).below ((Below.refl _ _).alloc (Nat.le_refl _) _) (by simp)).below hb2 (by omega)
  have hH : HB w2 (w.heap.size + 1) Hd.zero := by
    have := HB.zero (w.alloc (.cells #[.int .i64 0, .int .i64 0, .int .i64 0, .int .i64 0, .int .i64 0] 133)) 133
    rw [World.size_alloc] at this
    exact this.below hb2 (by omega)
  clear hb2
  have hl := hs.len
  go_loopw [0, 7] (fun s i wr => ∃ (k : Nat) (A : Option Addr) (c : Nat), k ≤ 5 ∧ s = .slice A (11 - fpos k) c ∧ i = .int .i64 (k : Int) ∧ Sl wr A (11 - fpos k) c (l.drop (fpos k)) ∧ HB wr w.heap.size Hd.zero ∧ HB wr (w.heap.size + 1) (rdTo l k) ∧ Below w.heap.size w wr ∧ w.heap.size + 2 ≤ wr.heap.size) (fun _ i _ => 5 - (intOf i).toNat)
  case atStart => exact ⟨0, A, c, by omega, rfl, rfl, by simpa [fpos] using hs.below hb0, hR, hH, hb0, by omega⟩
  case round =>
    obtain ⟨k, A1, c1, hk, rfl, rfl, hs1, hR1, H, hB, hlt⟩ := hrel
    by_cases h5 : k < 5
    · have hix := idx4 (w.heap.size + 1) k h5
      have hk0 : (0 : Int) ≤ (k : Int) := by omega
      go_wp2
      generalize hw1 : wr.alloc _ = w1
      have hB1 : Below wr.heap.size wr w1 := by rw [← hw1]; exact (Below.refl _ _).alloc (Nat.le_refl _) _
      have hn : w1.heap[wr.heap.size]? = some (.cells #[.pointer (some ⟨w.heap.size + 1, foff k, none⟩), .int .i64 (fwid k), .int .i64 (flea k), .int .i64 (fmos k)] 199 (0, 0)) := by rw [← hw1]; exact heap_alloc_new wr _
      have hz1 : w1.heap.size = wr.heap.size + 1 := by rw [← hw1]; simp
      clear hw1 hix
      have q0 : w1.cell? ⟨wr.heap.size, 0, none⟩ = some (.pointer (some ⟨w.heap.size + 1, foff k, none⟩)) := by rw [cell_of_row _ _ _ _ _ _ hn]; rfl
      have q1 : w1.cell? ⟨wr.heap.size, 1, none⟩ = some (.int .i64 (fwid k)) := by rw [cell_of_row _ _ _ _ _ _ hn]; rfl
      have H1 := H.below hB1 (by omega)
      have hR2 := hR1.below hB1 (by omega)
      have hs2 := hs1.below hB1
      have hBw := hB.trans (hB1.mono hB.size)
      have hp1 := fpos_next k h5
      have hp2 := fpos_le (k + 1) (by omega)
      have hfw := fwid_in k
      have hd2 : (l.drop (fpos k)).drop (fwid k).toNat = l.drop (fpos (k + 1)) := by rw [List.drop_drop, hp1]
      have hrd : (numL ((l.drop (fpos k)).take (fwid k).toNat) : Int) = (rdF l k : Int) := rfl
      clear hB H hn hB1 hs1 hR1
      have HT := fun (w' : World) (h' : Sl w' A1 (11 - fpos k) c1 (l.drop (fpos k))) => take_yes A1 (11 - fpos k) c1 (l.drop (fpos k)) (fwid k) w' h' (by omega) (by omega) (by omega) (by omega)
      rw [hd2, hrd] at HT
      have hS : ∀ w' : World, Turn (fun k => k = w.heap.size + 1) w1 w' → w'.cell? ⟨wr.heap.size, 0, none⟩ = some (.pointer (some ⟨w.heap.size + 1, foff k, none⟩)) ∧ w'.cell? ⟨wr.heap.size, 1, none⟩ = some (.int .i64 (fwid k)) ∧ Turn (fun k => k = w.heap.size + 1) w1 w' := fun w' T => ⟨(World.cell?_of_block (T.block wr.heap.size (by omega) (by show ¬ (wr.heap.size = w.heap.size + 1); omega))).trans q0, (World.cell?_of_block (T.block wr.heap.size (by omega) (by show ¬ (wr.heap.size = w.heap.size + 1); omega))).trans q1, T⟩
      have TD : Turn (fun k => k = w.heap.size + 1) w1 w1.drew := turn_below (Below.refl _ _).drew
      go_region_held3 (fun w' => w'.cell? ⟨wr.heap.size, 0, none⟩ = some (.pointer (some ⟨w.heap.size + 1, foff k, none⟩)) ∧ w'.cell? ⟨wr.heap.size, 1, none⟩ = some (.int .i64 (fwid k)) ∧ Turn (fun k => k = w.heap.size + 1) w1 w')
        (first | assumption | exact hS _ TD | (go_split_ands; exact hS _ (Turn.then ‹Turn (fun k => k = w.heap.size + 1) w1 _› (turn_below ‹Below (World.heap _).size _ _›))) | (go_split_ands; exact hS _ (Turn.then ‹Turn (fun k => k = w.heap.size + 1) w1 _› (turn_setCell _ rfl))))
        (first
          | (go_at_call 119; refine (HT _ hs2.drew).mono ?_; rintro e w3 ⟨A3, n3, c3, rfl, hown3, hb3⟩; have hb4 : Below w1.heap.size w1 w3 := (Below.refl _ w1).drew.trans hb3; have H3 := H1.below hb4 (by omega); have q5 := H3.at_ k; have q6 := H3.fz k)
          | fail)
      have hn3 : n3 = 11 - fpos (k + 1) := by have := hown3.len; rw [List.length_drop, hl] at this; omega
      subst hn3
      go_wp2
      have hb5 : Below (w.heap.size + 1) w3 (w3.setCell ⟨w.heap.size + 1, foff k, none⟩ (.int .i64 (rdF l k : Int))) := (Below.refl _ w3).setCell (p := ⟨w.heap.size + 1, foff k, none⟩) (Nat.le_refl _) _
      have hz4 := hb4.size
      refine ⟨⟨k + 1, A3, c3, by omega, rfl, rfl, ?_, (hR2.below hb4 (by omega)).below hb5 (by omega), H3.set_ k _, (hBw.trans (hb4.mono hBw.size)).trans (hb5.mono (by omega)), by show w.heap.size + 2 ≤ (w3.setCell _ _).heap.size; rw [World.size_setCell]; omega⟩, by simp [intOf]; omega⟩
      exact (hown3.turn fun g hg _ => Below.heap_setCell _ _ _ _ (by show g ≠ w.heap.size + 1; have h1 : w1.drew.heap.size = w1.heap.size := rfl; omega)).sl
    · have hk5 : k = 5 := by omega
      go_wp2_with (first
        | (refine wp_load_hd rfl _ rfl _ rfl _ H ?_)
        | (refine wp_store_hd rfl _ _ rfl _ rfl _ _ rfl hR1 (by omega) ?_; intro w4 hr4 hb4 _))
      refine bodyPost_ret (v := (hdOf l).v) ?_ rfl ⟨rfl, ?_⟩
      · rw [hk5, rdTo_all] at hr4
        exact results_cell1 Tryz.results115 rfl (run_loadVar_mid _ w.heap.size 0 133 _ _ hr4 Tryz.underlying133 rfl (by kernel_rfl))
      · exact hB.trans (hb4 _ (Nat.le_refl _))
end Go.Proofs.YtgedmodnkiijkaaGreatDoor

namespace Go.Proofs.YtgedmodnkiijkaaGreatDoor
open Go Go.RowKit Go.Proofs

theorem cleaf_any (l : Int) (r : Bool) (h : decide (l = 0) = r) (A : Option Addr) (n c : Nat) (B : Option Addr) (m d : Nat) (w : World) :
    Calls Tryz.prog 72 #[.agg #[.int .i64 l, .slice A n c, .slice B m d]] w fun e w' => e = .returned (.bool r) ∧ Below w.heap.size w w' := by
  go_enter Tryz.func72, Tryz.ntmps72
  go_wp2
  go_ret
  refine ⟨?_, (Below.refl _ _).alloc (Nat.le_refl _) _⟩
  rw [← h]
  first | rfl | (refine congrArg (fun x => Ending.returned (Value.bool x)) ?_; rw [Bool.eq_iff_iff]; simp)
theorem cwithin_any (x a b : Int) (r : Bool) (h : decide (a ≤ x ∧ x ≤ b) = r) (w : World) :
    Calls Tryz.prog 94 #[.int .i64 x, .int .i64 a, .int .i64 b] w fun e w' => e = .returned (.bool r) ∧ w = w' := by
  subst h
  go_enter Tryz.func94, Tryz.ntmps94
  go_wp2
  all_goals
    go_ret
    refine ⟨congrArg (fun x => Ending.returned (Value.bool x)) ?_, rfl⟩
    first
      | exact (decide_eq_false (by omega)).symm
      | exact decide_eq_decide.2 (by omega)
      | (rw [Bool.eq_iff_iff]; simp; omega)
theorem cblock_any (x : Int) (w : World) :
    Calls Tryz.prog 82 #[.int .i64 x] w fun e w' => e = .returned (.int .i64 (if x = 0 then 3 else 4)) ∧ w = w' := by
  by_cases h : x = 0
  · rw [if_pos h]
    go_enter Tryz.func82, Tryz.ntmps82
    go_wp2
    go_ret
    exact ⟨rfl, rfl⟩
  · rw [if_neg h]
    go_enter Tryz.func82, Tryz.ntmps82
    go_wp2
    go_ret
    exact ⟨rfl, rfl⟩
theorem cblock_says (x k : Int) (h : (if x = 0 then 3 else 4) = k) (w : World) :
    Calls Tryz.prog 82 #[.int .i64 x] w fun e w' => e = .returned (.int .i64 k) ∧ w = w' := by
  subst h
  exact cblock_any x w
theorem ckeyi_any (k : Kd) (B : Option Addr) (m d : Nat) (w : World) :
    Calls Tryz.prog 74 #[.agg #[.int .i64 k.obj, .int .i64 k.kind, .int .i64 k.off, .slice B m d]] w fun e w' => e = .returned (.agg #[.int .i64 k.obj, .int .i64 k.kind, .int .i64 k.off]) ∧ Below w.heap.size w w' := by
  go_enter Tryz.func74, Tryz.ntmps74
  go_wp2
  refine bodyPost_ret (res_c1 Tryz.results74 rfl (load_kd (KB.new2 w _ k.obj k.kind k.off _))) rfl ?_
  exact ⟨rfl, ((Below.refl _ _).alloc (Nat.le_refl _) _).alloc (by simp) _⟩
theorem ckeyk_any (k : Kd) (a : Int) (w : World) :
    Calls Tryz.prog 77 #[.agg #[.int .i64 k.obj, .int .i64 k.kind, .int .i64 k.off, .int .i64 a]] w fun e w' => e = .returned (.agg #[.int .i64 k.obj, .int .i64 k.kind, .int .i64 k.off]) ∧ Below w.heap.size w w' := by
  go_enter Tryz.func77, Tryz.ntmps77
  go_wp2
  refine bodyPost_ret (res_c1 Tryz.results77 rfl (load_kd (KB.new2 w _ k.obj k.kind k.off _))) rfl ?_
  exact ⟨rfl, ((Below.refl _ _).alloc (Nat.le_refl _) _).alloc (by simp) _⟩
theorem cmayi_any (k : Kd) (B : Option Addr) (m d : Nat) (r : Bool) (h : decide (m ≤ 28) = r) (w : World) :
    Calls Tryz.prog 93 #[.agg #[.int .i64 k.obj, .int .i64 k.kind, .int .i64 k.off, .slice B m d]] w fun e w' => e = .returned (.bool r) ∧ Below w.heap.size w w' := by
  go_enter Tryz.func93, Tryz.ntmps93
  go_wp2
  go_ret
  refine ⟨?_, (Below.refl _ _).alloc (Nat.le_refl _) _⟩
  rw [← h]
  exact congrArg (fun x => Ending.returned (Value.bool x)) (decide_eq_decide.2 (by omega))
theorem cmayk_any (k : Kd) (a : Int) (r : Bool) (h : decide (1 ≤ a ∧ a ≤ 2047) = r) (w : World) :
    Calls Tryz.prog 96 #[.agg #[.int .i64 k.obj, .int .i64 k.kind, .int .i64 k.off, .int .i64 a]] w fun e w' => e = .returned (.bool r) ∧ Below w.heap.size w w' := by
  go_enter Tryz.func96, Tryz.ntmps96
  go_wp2_with fail
  refine (cwithin_any a 1 2047 r h _).mono ?_
  rintro e w1 ⟨rfl, rfl⟩
  go_wp2
  go_ret
  exact ⟨rfl, (Below.refl _ _).alloc (Nat.le_refl _) _⟩
end Go.Proofs.YtgedmodnkiijkaaGreatDoor

namespace Go.Proofs.YtgedmodnkiijkaaGreatDoor
open Go Go.RowKit Go.Proofs

theorem NB.range {w : World} {b : Nat} {l : Int} {A B : Option Addr} {n c m d : Nat} (H : NB w b l A n c B m d) : w.rangeAt b 0 [.int .i64 l, .slice A n c, .slice B m d] := fun j v hv => by
  obtain ⟨t, H⟩ := H
  rw [cell_of_row _ _ _ _ _ _ H, Nat.zero_add]
  simpa using hv
theorem load_nd {w : World} {b : Nat} {l : Int} {A B : Option Addr} {n c m d : Nat} (H : NB w b l A n c B m d) : (loadVar 56 ⟨b, 0, none⟩).run Tryz.prog w = .ok (.agg #[.int .i64 l, .slice A n c, .slice B m d]) w :=
  run_loadVar_mid w b 0 56 _ _ H.range Tryz.underlying56 rfl (by kernel_rfl)
theorem NB.new2 (w : World) (o : Obj) (l : Int) (A : Option Addr) (n c : Nat) (B : Option Addr) (m d : Nat) (t : TypeId) : NB ((w.alloc o).alloc (.cells #[.int .i64 l, .slice A n c, .slice B m d] t)) (w.heap.size + 1) l A n c B m d := by
  have := NB.new (w.alloc o) l A n c B m d t
  rwa [World.size_alloc] at this
/-- At most 20 of each. -/
def Nd.few (N : Nd) : Nd := ⟨N.lvl, N.items.take 20, N.kids.take 20⟩
end Go.Proofs.YtgedmodnkiijkaaGreatDoor

namespace Go.Proofs.YtgedmodnkiijkaaGreatDoor
open Go Go.RowKit Go.Proofs

theorem TItem : RowT Tryz.prog 22 41 4 48 (.agg #[.int .i64 0, .int .i64 0, .int .i64 0, .slice none 0 0]) := ⟨Tryz.underlying22, by kernel_rfl, rfl, by omega⟩
theorem TKid : RowT Tryz.prog 54 62 4 32 (.agg #[.int .i64 0, .int .i64 0, .int .i64 0, .int .i64 0]) := ⟨Tryz.underlying54, by kernel_rfl, rfl, by omega⟩
theorem Sl.turned' {w w' : World} {A : Option Addr} {n c : Nat} {l : List UInt8} (h : Sl w A n c l) {S : Nat → Prop} (T : Turn S w w') (hA : l ≠ [] → ∀ k, blockOf A = some k → ¬ S k) : Sl w' A n c l := by
  by_cases hl : l = []
  · subst hl
    exact ⟨h.1, h.2.1, h.2.2.1, fun j u hu => by simp at hu⟩
  · exact h.turned T (hA hl)
theorem Sl.blockLt {w : World} {A : Option Addr} {n c : Nat} {l : List UInt8} (h : Sl w A n c l) (hl : l ≠ []) : ∀ k, blockOf A = some k → k < w.heap.size := by
  intro k hk
  have hn : 0 < n := by have := h.len; have : l.length ≠ 0 := fun e => hl (List.eq_nil_of_length_eq_zero e); omega
  obtain ⟨ad, rfl, hb, _⟩ := h.cell hn
  obtain rfl : ad.block = k := Option.some.inj hk
  exact hb
def itvs (k : Kd) (V : Option Addr) (p q : Nat) : List Value := [.int .i64 k.obj, .int .i64 k.kind, .int .i64 k.off, .slice V p q]
/-- The own row of items. -/
def IRow (w : World) (base : Nat) (A : Option Addr) (n c : Nat) (xs : List Itm) : Prop :=
  ∃ raw, OwnS w base 41 4 A n c raw ∧ raw.length = xs.length ∧ ∀ (j : Nat) r x, raw[j]? = some r → xs[j]? = some x → ∃ V p q, r = itvs x.k V p q ∧ Sl w V p q x.v ∧ (x.v ≠ [] → ∀ g, blockOf V = some g → base ≤ g ∧ blockOf A ≠ some g)
section
variable {w w' : World} {base n c : Nat} {A : Option Addr} {xs : List Itm}
theorem irow_nil (w : World) (base : Nat) : IRow w base none 0 0 [] := ⟨[], owns_none _ _ _ _, rfl, fun j r x hr => by simp at hr⟩
theorem IRow.below (h : IRow w base A n c xs) (hb : Below w.heap.size w w') : IRow w' base A n c xs := by
  obtain ⟨raw, h1, h2, h3⟩ := h
  refine ⟨raw, h1.below hb, h2, fun j r x hr hx => ?_⟩
  obtain ⟨V, p, q, e, hs, hne⟩ := h3 j r x hr hx
  exact ⟨V, p, q, e, hs.below hb, hne⟩
theorem IRow.itms (h : IRow w base A n c xs) : Itms w A n c xs := by
  obtain ⟨raw, h1, h2, h3⟩ := h
  refine ⟨raw, h1.sls (by omega), h2, fun j r x hr hx => ?_⟩
  obtain ⟨V, p, q, e, hs, _⟩ := h3 j r x hr hx
  exact ⟨V, p, q, e, hs⟩
theorem IRow.blockLt (h : IRow w base A n c xs) : ∀ k, blockOf A = some k → base ≤ k ∧ k < w.heap.size := by
  obtain ⟨raw, h1, _⟩ := h
  exact h1.blockLt
theorem IRow.low (h : IRow w base A n c xs) {S : Nat → Prop} (T : Turn S w w') (hS : ∀ k, S k → k < base) : IRow w' base A n c xs := by
  obtain ⟨raw, h1, h2, h3⟩ := h
  refine ⟨raw, h1.turned T (fun k hk e => by have := (h1.blockLt k hk).1; have := hS k e; omega), h2, fun j r x hr hx => ?_⟩
  obtain ⟨V, p, q, e, hs, hne⟩ := h3 j r x hr hx
  exact ⟨V, p, q, e, hs.turned' T (fun hl k hk e => by have := (hne hl k hk).1; have := hS k e; omega), hne⟩
end
theorem HB.keep {w w' : World} {bp : Nat} {h : Hd} (H : HB w bp h) (e : w'.heap[bp]? = w.heap[bp]?) : HB w' bp h := by
  obtain ⟨t, H⟩ := H
  exact ⟨t, e.trans H⟩
theorem itvs_one (k : Kd) (V : Option Addr) (p q : Nat) : ∀ y ∈ [itvs k V p q], ∀ u ∈ y, u.oneCell' = true := by
  intro y hy u hu
  obtain rfl : y = itvs k V p q := by simpa using hy
  simp [itvs] at hu
  rcases hu with rfl | rfl | rfl | rfl <;> rfl
/-- append of one item whose value lies in a block of its own. -/
theorem wp_append_item {w : World} {ops : Array Oper} {rest : List Oper} {o : Oper} {a : Act} {Q : Exit → Act → World → Prop} (hgd : o.guard = none) (so x : Operand)
    (ho : o.op = .call { callee := .builtin .append, args := #[so, x], argTypes := #[22, 22] })
    (base : Nat) (A : Option Addr) (n c : Nat) (xs : List Itm) (hs : a.eval so = .slice A n c) (hown : IRow w base A n c xs)
    (B : Option Addr) (d : Nat) (it : Itm) (V : Option Addr) (p q : Nat) (hx : a.eval x = .slice B 1 d) (hr : Sls w 4 B 1 d [itvs it.k V p q]) (hv : Sl w V p q it.v) (hva : it.v ≠ [] → ∀ g, blockOf V = some g → base ≤ g ∧ blockOf A ≠ some g) (hn : n ≤ 100000) (hbase : base ≤ w.heap.size)
    (h : ∀ A' c' w', IRow w' base A' (n + 1) c' (xs ++ [it]) → Turn (fun k => blockOf A = some k) w w' → (blockOf A' = blockOf A ∨ blockOf A' = some w.heap.size) → wpList Tryz.prog ops Q rest (a.put o.dst (.slice A' (n + 1) c')) w') : wpList Tryz.prog ops Q (o :: rest) a w := by
  obtain ⟨raw, h1, h2, h3⟩ := hown
  refine wp_append_g w TItem hgd so x ho base A n c raw hs h1 B 1 d [itvs it.k V p q] hx hr (by omega) (itvs_one _ _ _ _) (by omega) (by omega) hbase ?_
  intro A' c' w' own' T hA' _
  refine h A' c' w' ⟨_, own', by simp [h2], fun j r x hr hx => ?_⟩ T hA'
  have old : ∀ (V : Option Addr) (p q : Nat) (v : List UInt8), Sl w V p q v → (v ≠ [] → ∀ g, blockOf V = some g → base ≤ g ∧ blockOf A ≠ some g) → Sl w' V p q v ∧ (v ≠ [] → ∀ g, blockOf V = some g → base ≤ g ∧ blockOf A' ≠ some g) := by
    intro V p q v hs hne
    refine ⟨hs.turned' T (fun hl k hk e => (hne hl k hk).2 e), fun hl g hg => ⟨(hne hl g hg).1, fun e => ?_⟩⟩
    rcases hA' with h5 | h5
    · exact (hne hl g hg).2 (h5.symm.trans e)
    · have := hs.blockLt hl g hg
      rw [h5] at e
      have := Option.some.inj e
      omega
  by_cases hj : j < raw.length
  · rw [List.getElem?_append_left hj] at hr
    rw [List.getElem?_append_left (by omega)] at hx
    obtain ⟨V', p', q', e, hs', hne⟩ := h3 j r x hr hx
    obtain ⟨o1, o2⟩ := old V' p' q' x.v hs' hne
    exact ⟨V', p', q', e, o1, o2⟩
  · rw [List.getElem?_append_right (by omega)] at hr hx
    have hj0 : j - raw.length = 0 := by
      have := (List.getElem?_eq_some_iff.1 hr).1
      simp at this; omega
    rw [hj0] at hr
    rw [← h2, hj0] at hx
    obtain rfl : itvs it.k V p q = r := by simpa using hr
    obtain rfl : it = x := by simpa using hx
    obtain ⟨o1, o2⟩ := old V p q it.v hv hva
    exact ⟨V, p, q, rfl, o1, o2⟩
end Go.Proofs.YtgedmodnkiijkaaGreatDoor

namespace Go.Proofs.YtgedmodnkiijkaaGreatDoor
open Go Go.RowKit Go.Proofs

theorem guard_ne (x y : Operand) (xs ys : Array Value) (w : World) : (eqGuard .neq 39 x y (.agg xs) (.agg ys)).run Tryz.prog w = .ok () w :=
  run_eqGuard_agg w .neq 39 x y xs ys (by kernel_rfl)
theorem key_refl (a : Kd) (w : World) (d : Nat) : (Op.equalIn (d + 2) 39 (.agg #[.int .i64 a.obj, .int .i64 a.kind, .int .i64 a.off]) (.agg #[.int .i64 a.obj, .int .i64 a.kind, .int .i64 a.off])).run Tryz.prog w = .ok true w := by
  rw [run_equalIn_agg w (d + 1) 39 _ _ (by kernel_rfl) (by kernel_rfl)]
  unfold Program.fieldsOf
  rw [Tryz.underlying39]
  simp [go_sem, Tryz.underlying3]
theorem ne_key (a : Kd) (w : World) : (binOp .neq 39 (.agg #[.int .i64 a.obj, .int .i64 a.kind, .int .i64 a.off]) (.agg #[.int .i64 a.obj, .int .i64 a.kind, .int .i64 a.off])).run Tryz.prog w = .ok (.bool false) w := by
  rw [run_neq_struct, key_refl a w 9998]
  rfl
end Go.Proofs.YtgedmodnkiijkaaGreatDoor
