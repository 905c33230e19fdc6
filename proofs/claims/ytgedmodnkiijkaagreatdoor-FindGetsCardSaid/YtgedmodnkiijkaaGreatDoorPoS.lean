/- The library's slices.Sorted(maps.Keys(m)) and maps.Clone at this program's map (what the guide's contracts ask of the program, spelled out; maps with int keys as XMap has them). -/
import Derived.Test.YtgedmodnkiijkaaGreatDoorFn10
import Derived.Shelf.SlIterI.Nil
import Derived.Shelf.SlIterI.Sorted
import Derived.Shelf.SortM.Plain
import Derived.Shelf.SortM.SortNone
import Derived.Shelf.SlMaps.Clone
namespace Go.Proofs.YtgedmodnkiijkaaGreatDoor
open Go Go.RowKit Go.Proofs Go.Maps Go.Sort Go.Shelf

def pokeysA_ren : Go.Shelf.Ren := ⟨fun | 7 => 62 | 10 => 105 | n => n, fun | 23 => 90 | 26 => 3 | 3 => 35 | 28 => 125 | 0 => 0 | 27 => 124 | 33 => 94 | 4 => 4 | n => n, fun | n => n⟩
theorem pokeysA : Go.Proofs.SlLaysZI.n7 Tryz.prog pokeysA_ren where
  mixed := by kernel_rfl
  f7 := ⟨ "maps.Keys[map[int][]byte,int,[]byte]", by decide, Tryz.func62.trans (congrArg some (by kernel_rfl))⟩
  f10 := ⟨ "maps.Keys[map[int][]byte,int,[]byte]$1", by decide, Tryz.func105.trans (congrArg some (by kernel_rfl))⟩
  t0 := Tryz.underlying0
  a0 := Tryz.isAgg0
  z0 := Tryz.sizeOf0
  v0 := Tryz.zeroValue0
  t4 := Tryz.underlying4
  a4 := Tryz.isAgg4
  z4 := Tryz.sizeOf4
  v4 := Tryz.zeroValue4
  t23 := Tryz.underlying90
  a23 := Tryz.isAgg90
  z23 := Tryz.sizeOf90
  v23 := Tryz.zeroValue90
  t26 := Tryz.underlying3
  a26 := Tryz.isAgg3
  z26 := Tryz.sizeOf3
  v26 := Tryz.zeroValue3
  t27 := Tryz.underlying124
  a27 := Tryz.isAgg124
  z27 := Tryz.sizeOf124
  v27 := Tryz.zeroValue124
  t28 := Tryz.underlying125
  a28 := Tryz.isAgg125
  z28 := Tryz.sizeOf125
  v28 := Tryz.zeroValue125
  t33 := Tryz.underlying94
  a33 := Tryz.isAgg94
  z33 := Tryz.sizeOf94
  v33 := Tryz.zeroValue94
def posortedA_ren : Go.Shelf.Ren := ⟨fun | 6 => 61 | 8 => 103 | 9 => 104 | 11 => 127 | 13 => 129 | 12 => 128 | 23 => 152 | 24 => 153 | 14 => 143 | 15 => 144 | 16 => 145 | 17 => 146 | 18 => 147 | 19 => 148 | 20 => 149 | 21 => 150 | 22 => 151 | 25 => 163 | 26 => 164 | 27 => 165 | 28 => 166 | 29 => 167 | 30 => 168 | 31 => 172 | n => n, fun | 26 => 3 | 28 => 125 | 24 => 23 | 0 => 0 | 3 => 3 | 37 => 196 | 48 => 203 | 50 => 224 | 4 => 4 | 40 => 217 | 39 => 216 | 45 => 59 | 5 => 5 | 9 => 9 | 51 => 232 | 55 => 197 | 57 => 240 | 58 => 129 | 33 => 94 | n => n, fun | n => n⟩
theorem posortedA : Go.Proofs.SlLaysZI.n6 Tryz.prog posortedA_ren where
  mixed := by kernel_rfl
  f6 := ⟨ "slices.Sorted[int]", by decide, Tryz.func61.trans (congrArg some (by kernel_rfl))⟩
  f8 := ⟨ "slices.Collect[int]", by decide, Tryz.func103.trans (congrArg some (by kernel_rfl))⟩
  f11 := ⟨ "slices.AppendSeq[[]int,int]", by decide, Tryz.func127.trans (congrArg some (by kernel_rfl))⟩
  t0 := Tryz.underlying0
  a0 := Tryz.isAgg0
  z0 := Tryz.sizeOf0
  v0 := Tryz.zeroValue0
  t24 := Tryz.underlying23
  a24 := Tryz.isAgg23
  z24 := Tryz.sizeOf23
  v24 := Tryz.zeroValue23
  t26 := Tryz.underlying3
  a26 := Tryz.isAgg3
  z26 := Tryz.sizeOf3
  v26 := Tryz.zeroValue3
  t28 := Tryz.underlying125
  a28 := Tryz.isAgg125
  z28 := Tryz.sizeOf125
  v28 := Tryz.zeroValue125
  i26 := by kernel_rfl
def posortA_ren : Go.Shelf.Ren := ⟨fun | 5 => 104 | 8 => 129 | 7 => 128 | 19 => 152 | 20 => 153 | 10 => 143 | 11 => 144 | 12 => 145 | 13 => 146 | 14 => 147 | 15 => 148 | 16 => 149 | 17 => 150 | 18 => 151 | 30 => 163 | 31 => 164 | 32 => 165 | 33 => 166 | 34 => 167 | 35 => 168 | 40 => 172 | n => n, fun | 23 => 23 | 25 => 3 | 3 => 3 | 32 => 196 | 22 => 23 | 0 => 0 | 44 => 203 | 46 => 224 | 4 => 4 | 36 => 217 | 35 => 216 | 41 => 59 | 5 => 5 | 9 => 9 | 53 => 232 | 57 => 197 | 63 => 240 | 64 => 129 | n => n, fun | n => n⟩
theorem posortA : Go.Proofs.SlLaysM.n5 Tryz.prog posortA_ren where
  mixed := by kernel_rfl
  f5 := ⟨ "slices.Sort[[]int,int]", by decide, Tryz.func104.trans (congrArg some (by kernel_rfl))⟩
  f7 := ⟨ "slices.pdqsortOrdered[int]", by decide, Tryz.func128.trans (congrArg some (by kernel_rfl))⟩
  f8 := Tryz.func129.trans (congrArg some (by kernel_rfl))
  f10 := ⟨ "slices.insertionSortOrdered[int]", by decide, Tryz.func143.trans (congrArg some (by kernel_rfl))⟩
  f11 := ⟨ "slices.heapSortOrdered[int]", by decide, Tryz.func144.trans (congrArg some (by kernel_rfl))⟩
  f12 := ⟨ "slices.breakPatternsOrdered[int]", by decide, Tryz.func145.trans (congrArg some (by kernel_rfl))⟩
  f13 := ⟨ "slices.choosePivotOrdered[int]", by decide, Tryz.func146.trans (congrArg some (by kernel_rfl))⟩
  f14 := ⟨ "slices.reverseRangeOrdered[int]", by decide, Tryz.func147.trans (congrArg some (by kernel_rfl))⟩
  f15 := ⟨ "slices.partialInsertionSortOrdered[int]", by decide, Tryz.func148.trans (congrArg some (by kernel_rfl))⟩
  f16 := ⟨ "cmp.Less[int]", by decide, Tryz.func149.trans (congrArg some (by kernel_rfl))⟩
  f17 := ⟨ "slices.partitionEqualOrdered[int]", by decide, Tryz.func150.trans (congrArg some (by kernel_rfl))⟩
  f18 := ⟨ "slices.partitionOrdered[int]", by decide, Tryz.func151.trans (congrArg some (by kernel_rfl))⟩
  f19 := Tryz.func152.trans (congrArg some (by kernel_rfl))
  f20 := Tryz.func153.trans (congrArg some (by kernel_rfl))
  f30 := ⟨ "slices.siftDownOrdered[int]", by decide, Tryz.func163.trans (congrArg some (by kernel_rfl))⟩
  f31 := Tryz.func164.trans (congrArg some (by kernel_rfl))
  f32 := Tryz.func165.trans (congrArg some (by kernel_rfl))
  f33 := ⟨ "slices.medianAdjacentOrdered[int]", by decide, Tryz.func166.trans (congrArg some (by kernel_rfl))⟩
  f34 := ⟨ "slices.medianOrdered[int]", by decide, Tryz.func167.trans (congrArg some (by kernel_rfl))⟩
  f35 := ⟨ "cmp.isNaN[int]", by decide, Tryz.func168.trans (congrArg some (by kernel_rfl))⟩
  f40 := ⟨ "slices.order2Ordered[int]", by decide, Tryz.func172.trans (congrArg some (by kernel_rfl))⟩
  t0 := Tryz.underlying0
  a0 := Tryz.isAgg0
  z0 := Tryz.sizeOf0
  v0 := Tryz.zeroValue0
  t3 := Tryz.underlying3
  a3 := Tryz.isAgg3
  z3 := Tryz.sizeOf3
  v3 := Tryz.zeroValue3
  t4 := Tryz.underlying4
  a4 := Tryz.isAgg4
  z4 := Tryz.sizeOf4
  v4 := Tryz.zeroValue4
  t5 := Tryz.underlying5
  a5 := Tryz.isAgg5
  z5 := Tryz.sizeOf5
  v5 := Tryz.zeroValue5
  t9 := Tryz.underlying9
  a9 := Tryz.isAgg9
  z9 := Tryz.sizeOf9
  v9 := Tryz.zeroValue9
  t22 := Tryz.underlying23
  a22 := Tryz.isAgg23
  z22 := Tryz.sizeOf23
  v22 := Tryz.zeroValue23
  t23 := Tryz.underlying23
  a23 := Tryz.isAgg23
  z23 := Tryz.sizeOf23
  v23 := Tryz.zeroValue23
  t25 := Tryz.underlying3
  a25 := Tryz.isAgg3
  z25 := Tryz.sizeOf3
  v25 := Tryz.zeroValue3
  t32 := Tryz.underlying196
  a32 := Tryz.isAgg196
  z32 := Tryz.sizeOf196
  v32 := Tryz.zeroValue196
  t35 := Tryz.underlying216
  a35 := Tryz.isAgg216
  z35 := Tryz.sizeOf216
  v35 := Tryz.zeroValue216
  t36 := Tryz.underlying217
  a36 := Tryz.isAgg217
  z36 := Tryz.sizeOf217
  v36 := Tryz.zeroValue217
  t41 := Tryz.underlying59
  a41 := Tryz.isAgg59
  z41 := Tryz.sizeOf59
  v41 := Tryz.zeroValue59
  t44 := Tryz.underlying203
  a44 := Tryz.isAgg203
  z44 := Tryz.sizeOf203
  v44 := Tryz.zeroValue203
  t46 := Tryz.underlying224
  a46 := Tryz.isAgg224
  z46 := Tryz.sizeOf224
  v46 := Tryz.zeroValue224
  t53 := Tryz.underlying232
  a53 := Tryz.isAgg232
  z53 := Tryz.sizeOf232
  v53 := Tryz.zeroValue232
  t57 := Tryz.underlying197
  a57 := Tryz.isAgg197
  z57 := Tryz.sizeOf197
  v57 := Tryz.zeroValue197
  t63 := Tryz.underlying240
  a63 := Tryz.isAgg240
  z63 := Tryz.sizeOf240
  v63 := Tryz.zeroValue240
  t64 := Tryz.underlying129
  a64 := Tryz.isAgg129
  z64 := Tryz.sizeOf129
  v64 := Tryz.zeroValue129
theorem poSorts (m : Nat) : AnyZI.SortsIn Tryz.prog posortedA_ren Fence.wide m :=
  ⟨fun blk off cap ss W hH hblk hsz => callsIn_wide.2 (AnyM.slices_Sort_int posortA blk off cap ss W hH hblk hsz),
   fun p cap W => callsIn_wide.2 (AnyM.slices_Sort_int_none posortA p cap W)⟩
/-- How a value reads here: as anything. -/
def noR : Value → Option (DataW Unit × List MemPlace) := fun _ => some (.nil, [])
theorem key_of {P : Program} {k : TypeId} (hk : P.underlying k = some (.int .i64)) {z : Int} (h0 : 0 ≤ z) (h1 : z ≤ 100000) : Go.keyOf P k (.int .i64 z) = some (.int .i64 z) := by
  have hw : (Lit.int .i64 z).wf = true := by
    show (decide (IntKind.i64.min ≤ z) && decide (z ≤ IntKind.i64.max)) = true
    rw [Bool.and_eq_true]
    have e1 : IntKind.i64.min = -9223372036854775808 := by decide
    have e2 : IntKind.i64.max = 9223372036854775807 := by decide
    rw [e1, e2]
    exact ⟨decide_eq_true (by omega), decide_eq_true (by omega)⟩
  simp [Go.keyOf, hk, mapKey, hw]
theorem ents_owns {P : Program} {k : TypeId} (hk : P.underlying k = some (.int .i64)) {w : World} {b clock : Nat} {l : List MapEntry} (hb : w.heap[b]? = some (.map l.toArray clock)) (E : Ents l clock) (hr : ∀ e ∈ l, 0 ≤ kI e ∧ kI e ≤ 100000) (hl : l.length ≤ 100000) :
    ∃ D0 : DataW Unit, w.ownsMap P k noR b l.length D0 ∧ (intKeys D0).Perm (l.map kI) ∧ Maps.size D0 = l.length := by
  have hrd : ∀ e ∈ l, WideElems.rd P k noR e = some (.int .i64 (kI e), .nil) := fun e he => by
    unfold WideElems.rd
    rw [E.key e he, key_of hk (hr e he).1 (hr e he).2]
    rfl
  have hrg : l.map (WideElems.rg P k noR) = l.map fun e => ((.int .i64 (kI e), .nil) : Lit × DataW Unit) := List.map_congr_left fun e he => WideElems.rg_of (hrd e he)
  refine ⟨_, ⟨l.toArray, clock, hb, ⟨by rw [List.size_toArray]; unfold maxLen; omega, ⟨fun x hx => E.clock x hx, E.born, ?_⟩, fun x hx => ⟨_, hrd x hx⟩⟩, Nat.le_refl _, rfl⟩, ?_, ?_⟩
  · show (l.map (·.key)).Nodup
    have : l.map (·.key) = (l.map kI).map (Value.int .i64) := by
      rw [List.map_map]
      exact List.map_congr_left fun e he => E.key e he
    rw [this]
    exact List.Pairwise.map _ (fun a b hab h => hab (by injection h)) E.one
  · show (((l.map (WideElems.rg P k noR)).foldr DataW.insert []).map fun p => _root_.Go.intOf p.1).Perm (l.map kI)
    rw [hrg]
    refine ((Go.WideShapes.sorted_perm _).map _).trans ?_
    rw [List.map_map]
    exact List.Perm.refl _
  · show ((l.map (WideElems.rg P k noR)).foldr DataW.insert []).length = l.length
    rw [length_sorted, List.length_map]
theorem pokeys_any (mb : Option Nat) (w : World) : Calls Tryz.prog 62 #[.map mb] w fun e w' => e = .returned (.func (.func 105) #[] #[.pointer (some ⟨w.heap.size, 0, none⟩)]) ∧ w' = w.alloc (.cells #[.map mb] 90) :=
  (callsIn_wide (n := 5)).1 (AnyZI.keys_in pokeysA Fence.wide 5 trivial rfl mb w)
/-- The keys in increasing order. -/
def keysZ (l : List MapEntry) : List Int := (l.map kI).mergeSort fun x y => decide (x ≤ y)
set_option maxRecDepth 100000 in
theorem posorted_any {w : World} {b clock Bm : Nat} {l : List MapEntry} (hb : w.heap[b]? = some (.map l.toArray clock)) (E : Ents l clock) (hr : ∀ e ∈ l, 0 ≤ kI e ∧ kI e ≤ 100000) (hl : l.length ≤ 100000) (hm : w.heap[Bm]? = some (.cells #[.map (some b)] 90 (0, 0))) :
    Calls Tryz.prog 61 #[.func (.func 105) #[] #[.pointer (some ⟨Bm, 0, none⟩)]] w fun e w' => ∃ v : Value, e = .returned v ∧ w'.ownsRow w.heap.size 3 1 v l.length ((keysZ l).map (Value.int .i64)) ∧ Below w.heap.size w w' := by
  obtain ⟨D0, hown, hperm, hsz⟩ := ents_owns Tryz.underlying3 hb E hr hl
  have hcell : w.cell? ⟨Bm, 0, none⟩ = some (.map (some b)) := by rw [cell_of_row _ _ _ _ _ _ hm]; rfl
  have hseq : SeqGives Fence.wide 2 Tryz.prog 105 #[.pointer (some ⟨Bm, 0, none⟩)] encZ (fun ss => ss.Perm (intKeys D0)) (Maps.size D0) w :=
    AnyZI.keys_gives (ρ := pokeysA_ren) { pokeysA with } Fence.wide _ trivial rfl (by omega) Bm b l.length D0 _ (lt_of_heap hm) hcell hown
  have cS := AnyZI.sorted_in posortedA Fence.wide 5 trivial trivial trivial trivial rfl (by omega) (poSorts _) (enters_of Tryz.func104 (by kernel_rfl) rfl) 105 #[.pointer (some ⟨Bm, 0, none⟩)] trivial (enters_of Tryz.func105 (by kernel_rfl) rfl) _ _ (by rw [hsz]; unfold maxLen; omega) (by rw [hsz]; omega) w hseq
  refine ((callsIn_wide (n := 5)).1 cS).mono ?_
  rintro e w' ⟨v, ss, rfl, hS, hrow, _, hB⟩
  have hp : ss.Perm (l.map kI) := hS.trans hperm
  have hlen : ss.length = l.length := by rw [hp.length_eq, List.length_map]
  rw [hlen, mergeSort_of_perm_i hp] at hrow
  exact ⟨v, rfl, hrow, hB⟩
/-! ### Sorted keys -/
theorem lt_unique : ∀ {l m : List Nat}, l.Pairwise (· < ·) → m.Pairwise (· < ·) → (∀ x, x ∈ l ↔ x ∈ m) → l = m
  | [], [], _, _, _ => rfl
  | [], b :: m, _, _, h => by have := (h b).2 (by simp); cases this
  | a :: l, [], _, _, h => by have := (h a).1 (by simp); cases this
  | a :: l, b :: m, hl, hm, h => by
    rw [List.pairwise_cons] at hl hm
    have hab : a = b := by
      rcases List.mem_cons.1 ((h a).1 (by simp)) with e | e
      · exact e
      · rcases List.mem_cons.1 ((h b).2 (by simp)) with e2 | e2
        · exact e2.symm
        · have := hm.1 a e; have := hl.1 b e2; omega
    subst hab
    rw [lt_unique hl.2 hm.2 fun x => ?_]
    constructor
    · intro hx
      rcases List.mem_cons.1 ((h x).1 (by simp [hx])) with e | e
      · subst e; have := hl.1 x hx; omega
      · exact e
    · intro hx
      rcases List.mem_cons.1 ((h x).2 (by simp [hx])) with e | e
      · subst e; have := hm.1 x hx; omega
      · exact e
/-- The keys of a map whose keys are the sectors below n that f has. -/
theorem keysZ_eq {l : List MapEntry} {clock n : Nat} (E : Ents l clock) (f : Nat → Bool) (h1 : ∀ e ∈ l, ∃ a : Nat, a < n ∧ kI e = a) (h2 : ∀ a : Nat, a < n → ((getE a l).isSome = f a)) : keysZ l = ((List.range n).filter f).map fun a : Nat => (a : Int) := by
  have hp : (keysZ l).Perm (l.map kI) := List.mergeSort_perm _ _
  have hnd : (keysZ l).Nodup := (List.Perm.nodup_iff hp).2 E.one
  have hso : (keysZ l).Pairwise fun a b => decide (a ≤ b) = true := List.pairwise_mergeSort (fun a b c h1 h2 => by simp at *; omega) (fun a b => by simp; omega) _
  have hmem : ∀ z, z ∈ keysZ l ↔ ∃ a : Nat, a < n ∧ f a = true ∧ z = a := fun z => by
    rw [hp.mem_iff, List.mem_map]
    constructor
    · rintro ⟨e, he, rfl⟩
      obtain ⟨a, ha, hk⟩ := h1 e he
      refine ⟨a, ha, ?_, hk⟩
      rw [← h2 a ha, ← hk, getE_of_mem E.one he]
      rfl
    · rintro ⟨a, ha, hf, rfl⟩
      rw [← h2 a ha] at hf
      obtain ⟨v, hv⟩ := Option.isSome_iff_exists.1 hf
      obtain ⟨e, he, hk, _⟩ := getE_mem hv
      exact ⟨e, he, hk⟩
  have hnat : ∀ z ∈ keysZ l, ((z.toNat : Nat) : Int) = z := fun z hz => by
    obtain ⟨a, _, _, rfl⟩ := (hmem z).1 hz
    simp
  have hkey : keysZ l = ((keysZ l).map Int.toNat).map fun a : Nat => (a : Int) := by
    rw [List.map_map]
    conv => lhs; rw [← List.map_id (keysZ l)]
    exact List.map_congr_left fun z hz => (hnat z hz).symm
  rw [hkey]
  congr 1
  refine lt_unique ?_ ?_ fun x => ?_
  · refine List.pairwise_map.2 ?_
    refine (hso.and hnd).imp_of_mem fun {a b} ha hb h => ?_
    have h3 := hnat a ha
    have h4 := hnat b hb
    have h5 : a ≤ b := of_decide_eq_true h.1
    have h6 : a ≠ b := h.2
    omega
  · exact List.Pairwise.filter _ List.pairwise_lt_range
  · rw [List.mem_map, List.mem_filter, List.mem_range]
    constructor
    · rintro ⟨z, hz, rfl⟩
      obtain ⟨a, ha, hf, rfl⟩ := (hmem z).1 hz
      exact ⟨by simpa using ha, by simpa using hf⟩
    · rintro ⟨ha, hf⟩
      exact ⟨(x : Int), (hmem _).2 ⟨x, ha, hf, rfl⟩, by simp⟩
end Go.Proofs.YtgedmodnkiijkaaGreatDoor
