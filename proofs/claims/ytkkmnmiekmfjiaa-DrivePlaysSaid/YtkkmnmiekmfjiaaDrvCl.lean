/- Clone. -/
import Derived.Test.YtkkmnmiekmfjiaaDrvH
import Derived.Test.YtkkmnmiekmfjiaaRefC
namespace Go.Proofs.Ytkkmnmiekmfjiaa
open Go Go.RowKit Go.Proofs
open Go.ChangeMaps (setBlock)

def apC (ts : Array TypeId) (ty : TypeId) (args : Array Value) : Sem Value := Builtin.append_ ts ty args
theorem apC_shut (ts : Array TypeId) (ty : TypeId) (args : Array Value) : Builtin.append_ ts ty args = apC ts ty args := rfl
attribute [local go_sem ↓] apC_shut
/-- Rows of sectors, copied: a slice of the call's own, with all that was there. -/
theorem copied_any (w : World) (g n c : Nat) (xs : List Value) (hl : xs.length = n * 256) (hx : ∀ j u, xs[j]? = some u → w.cell? ⟨g, j, none⟩ = some u) (h1 : ∀ u ∈ xs, u.oneCell' = true) (hn : 0 < n) (hn2 : n ≤ 2000000) :
    Calls Try.prog 34 #[.slice (some ⟨g, 0, none⟩) n c] w fun e w' => ∃ g' c', e = .returned (.slice (some ⟨g', 0, none⟩) n c') ∧ w'.ownsRow w.heap.size 57 256 (.slice (some ⟨g', 0, none⟩) n c') n xs ∧ Below w.heap.size w w' := by
  obtain ⟨i, hi, hz0, hz1, hz2⟩ := info_parts TB
  obtain ⟨v1, w1, hrun, hown, hgrow, hnil, hat⟩ := run_append_own_at (P := Try.prog) w w.heap.size 50 50 57 i _ 256 256 Try.underlying50 hi hz0 hz1 hz2 (by simp [Value.cells]) (by omega) (.slice none 0 0) 0 [] (World.ownsRow_nil _ _ _ _)
    ⟨g, 0, none⟩ n c xs hl (fun j u hu => by rw [Addr.add_mid, Nat.zero_add]; exact hx j u hu) h1 (by unfold maxLen; omega) (by omega) (Nat.le_refl _)
  rw [Nat.zero_add, List.nil_append] at hown
  obtain ⟨g', c', rfl, -, -⟩ := owns_form hown hn
  have hrun : (apC #[50, 50] 50 #[.slice none 0 0, .slice (some ⟨g, 0, none⟩) n c]).run Try.prog w = .ok (.slice (some ⟨g', 0, none⟩) n c') w1 := hrun
  clear hnil hat
  go_enter Try.func34, Try.ntmps34
  go_wp2_with fail
  go_ret
  exact ⟨g', c', rfl, hown, (Below.refl _ _).grown hgrow (Nat.le_refl _) (by simp [Value.ownBlock])⟩

/-- What is sure of all sectors, one behind the other. -/
def DM.durs (D : DM) : List (List UInt8) := (List.range D.n).map D.dur
section
variable {w : World} {bp bd bm clock : Nat} {l : List MapEntry} {v : Nat → Value} {S : Nat → Prop} {D : DM}
theorem Lay.secs (L : Lay w bp bd bm l clock v S D) : Secs D.durs := fun y hy => by
  obtain ⟨s, _, rfl⟩ := List.mem_map.1 hy
  exact L.dl s
theorem durs_len (D : DM) : D.durs.length = D.n := by simp [DM.durs]
theorem Lay.dursAt (L : Lay w bp bd bm l clock v S D) (j : Nat) (u : Value) (hu : (flat D.durs)[j]? = some u) : w.cell? ⟨bd, j, none⟩ = some u := by
  have hlt := (List.getElem?_eq_some_iff.1 hu).1
  rw [flat_len L.secs, durs_len] at hlt
  have hi : j / 256 < D.n := by omega
  have h := flat_at L.secs (j / 256) (by rw [durs_len]; exact hi) (j % 256) (by omega)
  rw [show j / 256 * 256 + j % 256 = j by omega] at h
  have e : D.durs[j / 256]'(by rw [durs_len]; exact hi) = D.dur (j / 256) := by simp [DM.durs]
  rw [e] at h
  have := L.dur (j / 256) hi (j % 256) u (h.symm.trans hu)
  rw [show j / 256 * 256 + j % 256 = j by omega] at this
  exact this
theorem run_len_ents {w : World} {b clock : Nat} {l : List MapEntry} (hb : w.heap[b]? = some (.map l.toArray clock)) : (Builtin.len_ #[51] 3 #[.map (some b)]).run Try.prog w = .ok (.int .i64 (l.length : Int)) w := by
  simp [Builtin.len_, run_underlying Try.underlying51, MapKept.run_getObj_map hb, goInt]
theorem run_makeMap_hint (w : World) (n : Int) : (Instr.makeMap 51 (some (.int .i64 n))).run Try.prog w = .ok (.map (some w.heap.size)) (w.alloc (.map #[] 0)) := by
  simp [Instr.makeMap, run_underlying Try.underlying51, asInt, asIntOf]
/-- How many entries an iterator has not shown. Kept shut. -/
def iterLeft (w : World) (it : Nat) (es : Array MapEntry) : Nat := match w.heap[it]? with | some (.mapIter _ _ seen _) => (leftOf es seen).size | _ => 0
theorem iterLeft_eq {w : World} {it : Nat} {es : Array MapEntry} {b : Option Nat} {c c' : Nat} {seen : Array Nat} (h : w.heap[it]? = some (.mapIter b c seen c')) : iterLeft w it es = (leftOf es seen).size := by unfold iterLeft; rw [h]
theorem nodup_inj {α β : Type} (f : α → β) : ∀ {l : List α}, (l.map f).Nodup → ∀ {x y : α}, x ∈ l → y ∈ l → f x = f y → x = y
  | [], _, _, _, h, _, _ => by cases h
  | a :: r, hn, x, y, hx, hy, e => by
    rw [List.map_cons, List.nodup_cons] at hn
    rcases List.mem_cons.1 hx with h1 | h1
    · rcases List.mem_cons.1 hy with h2 | h2
      · rw [h1, h2]
      · subst h1; exact absurd (List.mem_map.2 ⟨y, h2, e.symm⟩) hn.1
    · rcases List.mem_cons.1 hy with h2 | h2
      · subst h2; exact absurd (List.mem_map.2 ⟨x, h1, e⟩) hn.1
      · exact nodup_inj f hn.2 h1 h2 e
/-- A clone on its way. -/
structure Half (D : DM) (l : List MapEntry) (seen : Array Nat) (C : Nat → List (List UInt8)) : Prop where
  or : ∀ s, C s = [] ∨ C s = D.cac s
  at_ : ∀ e ∈ l, ∀ s : Nat, kI e = s → C s = if seen.contains e.born then D.cac s else []
theorem Half.done {D : DM} {l : List MapEntry} {seen : Array Nat} {C : Nat → List (List UInt8)} {v : Nat → Value} (h : Half D l seen C) (hE : (leftOf l.toArray seen).size = 0) (hl : ∀ s : Nat, getE s l = if D.cac s = [] then none else some (v s)) : C = D.cac := funext fun s => by
  by_cases hc : D.cac s = []
  · rcases h.or s with e | e
    · rw [e, hc]
    · exact e
  · have h1 := hl s
    rw [if_neg hc] at h1
    obtain ⟨e, he, hk, _⟩ := getE_mem h1
    have h2 := h.at_ e he s hk
    have h3 : seen.contains e.born = true := by
      cases hb : seen.contains e.born with
      | true => rfl
      | false =>
        exfalso
        have : e ∈ leftOf l.toArray seen := by
          unfold leftOf
          rw [Array.mem_filter]
          exact ⟨by simpa using he, by rw [hb]; rfl⟩
        have := Array.size_pos_of_mem this
        omega
    rw [h2, h3]; rfl
theorem Half.next {D : DM} {l : List MapEntry} {seen : Array Nat} {C : Nat → List (List UInt8)} {clock : Nat} (h : Half D l seen C) (E : Ents l clock) {e : MapEntry} (he : e ∈ l) (s : Nat) (hs : kI e = s) : Half D l (seen.push e.born) (upd C s (D.cac s)) := by
  refine ⟨fun z => ?_, fun x hx z hz => ?_⟩
  · by_cases hzs : z = s
    · subst hzs; right; exact upd_same _ _ _
    · rw [upd_other _ _ hzs]; exact h.or z
  · rw [contains_push]
    by_cases hzs : z = s
    · subst hzs
      have hxe : x = e := nodup_inj kI E.one hx he (hz.trans hs.symm)
      subst hxe
      rw [upd_same]; simp
    · rw [upd_other _ _ hzs, h.at_ x hx z hz]
      have hb : ¬ x.born = e.born := fun hb => hzs (by have := born_inj E.born hx he hb; subst this; omega)
      simp [hb]
theorem flat_one (ls : List (List UInt8)) : ∀ u ∈ flat ls, u.oneCell' = true := fun u hu => by
  unfold flat at hu
  exact bv_one _ u hu
end
set_option maxRecDepth 10000 in
set_option maxHeartbeats 2000000 in
theorem clone_any {w : World} {bp bd bm clock : Nat} {l : List MapEntry} {v : Nat → Value} {S : Nat → Prop} {D : DM} (L : Lay w bp bd bm l clock v S D) (hcl : ∀ k, (D.cac k).length ≤ 1000000) :
    Calls Try.prog 21 #[.pointer (some ⟨bp, 0, none⟩)] w fun e w' => ∃ bp' c', e = .returned (.pointer (some ⟨bp', 0, none⟩)) ∧ Drv w' bp' (fun k => w.heap.size ≤ k) { D with cap := c' } ∧ Below w.heap.size w w' := by
  have c0 := L.c0
  have c1 := L.c1
  have c2 := L.c2
  have c3 := L.c3
  have c4 := L.c4
  have c5 := L.c5
  have hn := L.n32
  have hbp := lt_of_heap L.me
  have hbmlt := lt_of_heap L.map
  obtain ⟨_, _, _, hbd⟩ := L.bdlt
  have hbdlt := lt_of_heap hbd
  have cA0 : ∀ ob, (w.alloc ob).cell? ⟨bp, 0, none⟩ = some (.slice (some ⟨bd, 0, none⟩) D.n D.cap) := fun ob => (World.cell?_of_block (w := w) (a := ⟨bp, 0, none⟩) (heap_alloc_old w ob hbp)).trans c0
  have H1 := fun ob => copied_any (w.alloc ob) bd D.n D.cap (flat D.durs) (by rw [flat_len L.secs, durs_len]) (fun j u hu => (World.cell?_of_block (w := w) (a := ⟨bd, j, none⟩) (heap_alloc_old w ob hbdlt)).trans (L.dursAt j u hu)) (flat_one _) (by have := hn.1; omega) (by have := hn.2; omega)
  have hmm := @run_makeMap Try.prog
  go_enter Try.func21, Try.ntmps21
  go_wp2_with fail
  refine (H1 _).mono ?_
  rintro e w2 ⟨g', c', rfl, hown, hb2⟩
  have hz2 := hb2.size
  simp only [World.size_alloc] at hz2 hown hb2
  have hme2 : w2.heap[w.heap.size]? = some (.cells #[.slice (some ⟨bd, 0, none⟩) D.n D.cap, .map (some bm), .bool D.off, .bool D.fused, .int .i64 D.left, .int .i64 D.steps] 53 (0, 0)) := (hb2.block _ (by omega)).trans (heap_alloc_new w _)
  have old2 : ∀ k, k < w.heap.size → w2.heap[k]? = w.heap[k]? := fun k hk => (hb2.block k (by omega)).trans (heap_alloc_old w _ hk)
  have q0 : w2.cell? ⟨w.heap.size, 0, none⟩ = some (.slice (some ⟨bd, 0, none⟩) D.n D.cap) := by rw [cell_of_row w2 w.heap.size 0 _ _ _ hme2]; rfl
  have qf : ∀ j, w2.frozen? ⟨w.heap.size, j, none⟩ = false := fz_row hme2
  have old3 : ∀ k x, k < w.heap.size → (w2.setCell ⟨w.heap.size, 0, none⟩ x).heap[k]? = w.heap[k]? := fun k x hk => (Below.heap_setCell _ _ _ _ (show k ≠ w.heap.size by omega)).trans (old2 k hk)
  have p1 : ∀ x, (w2.setCell ⟨w.heap.size, 0, none⟩ x).cell? ⟨bp, 1, none⟩ = some (.map (some bm)) := fun x => (World.cell?_of_block (w := w) (a := ⟨bp, 1, none⟩) (old3 bp x hbp)).trans c1
  have hm3 : ∀ x, (w2.setCell ⟨w.heap.size, 0, none⟩ x).heap[bm]? = some (.map l.toArray clock) := fun x => (old3 bm x hbmlt).trans L.map
  have hlm : ∀ x, (Builtin.len_ #[51] 3 #[.map (some bm)]).run Try.prog (w2.setCell ⟨w.heap.size, 0, none⟩ x) = .ok (.int .i64 (l.length : Int)) (w2.setCell ⟨w.heap.size, 0, none⟩ x) := fun x => run_len_ents (hm3 x)
  have hmk := fun w' => run_makeMap_hint w' (l.length : Int)
  clear H1 cA0 hmm
  have hz3 : (w2.setCell ⟨w.heap.size, 0, none⟩ (.slice (some ⟨g', 0, none⟩) D.n c')).heap.size = w2.heap.size := by simp [World.setCell]
  have hme3 : (w2.setCell ⟨w.heap.size, 0, none⟩ (.slice (some ⟨g', 0, none⟩) D.n c')).heap[w.heap.size]? = some (.cells #[(.slice (some ⟨g', 0, none⟩) D.n c'), .map (some bm), .bool D.off, .bool D.fused, .int .i64 D.left, .int .i64 D.steps] 53 (0, 0)) := by rw [setCell_at _ hme2]; rfl
  have hme4 : ((w2.setCell ⟨w.heap.size, 0, none⟩ (.slice (some ⟨g', 0, none⟩) D.n c')).alloc (.map #[] 0)).heap[w.heap.size]? = some (.cells #[(.slice (some ⟨g', 0, none⟩) D.n c'), .map (some bm), .bool D.off, .bool D.fused, .int .i64 D.left, .int .i64 D.steps] 53 (0, 0)) := (heap_alloc_old _ _ (by omega)).trans hme3
  have q1 : ((w2.setCell ⟨w.heap.size, 0, none⟩ (.slice (some ⟨g', 0, none⟩) D.n c')).alloc (.map #[] 0)).cell? ⟨w.heap.size, 1, none⟩ = some (.map (some bm)) := by rw [cell_of_row _ w.heap.size 1 _ _ _ hme4]; rfl
  have q1f : ((w2.setCell ⟨w.heap.size, 0, none⟩ (.slice (some ⟨g', 0, none⟩) D.n c')).alloc (.map #[] 0)).frozen? ⟨w.heap.size, 1, none⟩ = false := fz_row hme4 1
  have old5 : ∀ k y, k < w.heap.size → (((w2.setCell ⟨w.heap.size, 0, none⟩ (.slice (some ⟨g', 0, none⟩) D.n c')).alloc (.map #[] 0)).setCell ⟨w.heap.size, 1, none⟩ y).heap[k]? = w.heap[k]? := fun k y hk => (Below.heap_setCell _ _ _ _ (show k ≠ w.heap.size by omega)).trans ((heap_alloc_old _ _ (by omega)).trans (old3 k _ hk))
  have p5 : ∀ y, (((w2.setCell ⟨w.heap.size, 0, none⟩ (.slice (some ⟨g', 0, none⟩) D.n c')).alloc (.map #[] 0)).setCell ⟨w.heap.size, 1, none⟩ y).cell? ⟨bp, 1, none⟩ = some (.map (some bm)) := fun y => (World.cell?_of_block (w := w) (a := ⟨bp, 1, none⟩) (old5 bp y hbp)).trans c1
  have hm5 : ∀ y, (((w2.setCell ⟨w.heap.size, 0, none⟩ (.slice (some ⟨g', 0, none⟩) D.n c')).alloc (.map #[] 0)).setCell ⟨w.heap.size, 1, none⟩ y).heap[bm]? = some (.map l.toArray clock) := fun y => (old5 bm y hbmlt).trans L.map
  have hrg := fun y => run_range_map (P := Try.prog) (((w2.setCell ⟨w.heap.size, 0, none⟩ (.slice (some ⟨g', 0, none⟩) D.n c')).alloc (.map #[] 0)).setCell ⟨w.heap.size, 1, none⟩ y) 51 _ _ bm l.toArray clock Try.underlying51 (hm5 y)
  go_wp2_with fail
  have hz5 : (((w2.setCell ⟨w.heap.size, 0, none⟩ (.slice (some ⟨g', 0, none⟩) D.n c')).alloc (.map #[] 0)).setCell ⟨w.heap.size, 1, none⟩ (.map (some w2.heap.size))).heap.size = w2.heap.size + 1 := by simp [World.setCell]
  have old5 := fun k hk => old5 k (.map (some w2.heap.size)) hk
  have hme5 : (((w2.setCell ⟨w.heap.size, 0, none⟩ (.slice (some ⟨g', 0, none⟩) D.n c')).alloc (.map #[] 0)).setCell ⟨w.heap.size, 1, none⟩ (.map (some w2.heap.size))).heap[w.heap.size]? = some (.cells #[(.slice (some ⟨g', 0, none⟩) D.n c'), .map (some w2.heap.size), .bool D.off, .bool D.fused, .int .i64 D.left, .int .i64 D.steps] 53 (0, 0)) := by rw [setCell_at _ hme4]; rfl
  have hmm5 : (((w2.setCell ⟨w.heap.size, 0, none⟩ (.slice (some ⟨g', 0, none⟩) D.n c')).alloc (.map #[] 0)).setCell ⟨w.heap.size, 1, none⟩ (.map (some w2.heap.size))).heap[w2.heap.size]? = some (.map #[] 0) := by
    rw [Below.heap_setCell _ _ _ _ (show w2.heap.size ≠ w.heap.size by omega), ← hz3]; exact heap_alloc_new _ _
  have hg : w.heap.size + 1 ≤ g' ∧ g' < w2.heap.size := World.ownsRow.lt hown g' rfl
  have hown5 : (((w2.setCell ⟨w.heap.size, 0, none⟩ (.slice (some ⟨g', 0, none⟩) D.n c')).alloc (.map #[] 0)).setCell ⟨w.heap.size, 1, none⟩ (.map (some w2.heap.size))).ownsRow (w.heap.size + 1) 57 256 (.slice (some ⟨g', 0, none⟩) D.n c') D.n (flat D.durs) := owns_keep hown fun k hk => by
    obtain rfl : g' = k := Option.some.inj hk
    exact (Below.heap_setCell _ _ _ _ (show g' ≠ w.heap.size by omega)).trans ((heap_alloc_old _ _ (by rw [hz3]; omega)).trans (Below.heap_setCell _ _ _ _ (show g' ≠ w.heap.size by omega)))
  have hb5 : Below w.heap.size w (((w2.setCell ⟨w.heap.size, 0, none⟩ (.slice (some ⟨g', 0, none⟩) D.n c')).alloc (.map #[] 0)).setCell ⟨w.heap.size, 1, none⟩ (.map (some w2.heap.size))) := by
    have h1 : Below w.heap.size w w2 := ((Below.refl _ _).alloc (Nat.le_refl _) _).trans (hb2.mono (by omega))
    have h2 := (turn_setCell (S := fun z => w.heap.size ≤ z) (w := w2) (a := ⟨w.heap.size, 0, none⟩) (.slice (some ⟨g', 0, none⟩) D.n c') (Nat.le_refl _)).below (fun _ h => h) (by omega)
    have h3 := (h1.trans h2).alloc (by rw [hz3]; omega) (Obj.map #[] 0)
    exact h3.trans ((turn_setCell (S := fun z => w.heap.size ≤ z) (a := ⟨w.heap.size, 1, none⟩) (.map (some w2.heap.size)) (Nat.le_refl _)).below (fun _ h => h) (by show w.heap.size ≤ ((w2.setCell _ _).alloc _).heap.size; rw [World.size_alloc, hz3]; omega))
  clear hrg hm5 p5 q1f q1 hme4 hme3 hz3 hmk hlm hm3 p1 old3 qf q0 old2 hme2 hown hb2
  generalize (((w2.setCell ⟨w.heap.size, 0, none⟩ (.slice (some ⟨g', 0, none⟩) D.n c')).alloc (.map #[] 0)).setCell ⟨w.heap.size, 1, none⟩ (.map (some w2.heap.size))) = W5 at *
  have LN : Lay (W5.alloc (.mapIter (some bm) clock #[] clock)) w.heap.size g' w2.heap.size [] 0 (fun _ => .slice none 0 0) (fun k => w.heap.size ≤ k ∧ k ≠ w2.heap.size + 1) { D with cap := c', cac := fun _ => [] } := by
    have ka : ∀ k, k < w2.heap.size + 1 → (W5.alloc (.mapIter (some bm) clock #[] clock)).heap[k]? = W5.heap[k]? := fun k hk => heap_alloc_old W5 _ (by omega)
    have hoa := owns_keep (w' := W5.alloc (.mapIter (some bm) clock #[] clock)) hown5 fun k hk => by cases hk; exact ka g' (by omega)
    have hdc : ∀ s, s < D.n → ∀ j, j < 256 → (W5.alloc (.mapIter (some bm) clock #[] clock)).cell? ⟨g', s * 256 + j, none⟩ = (bvs (D.dur s))[j]? := fun s hs j hj => by
      have h := flat_at L.secs s (by rw [durs_len]; exact hs) j hj
      have e : D.durs[s]'(by rw [durs_len]; exact hs) = D.dur s := by simp [DM.durs]
      rw [e] at h
      rw [← h, World.ownsRow.cellAt hoa _ (by have : s * 256 + 256 ≤ D.n * 256 := by omega
                                              omega)]
    refine ⟨(ka _ (by omega)).trans hme5, fun s hs j u hu => ?_, fun s hs j hj => ⟨?_, World.ownsRow.frozenAt hoa _⟩, (ka _ (by omega)).trans hmm5, ents_nil, fun s => (by simp [getE]), fun e he => (by cases he), fun s => World.ownsRow_nil _ _ _ _, fun _ _ => rfl, L.dl, fun s y hy => (by cases hy), fun _ _ => rfl,
      ⟨⟨Nat.le_refl _, by omega⟩, ⟨by omega, by omega⟩, ⟨by omega, by omega⟩, fun s g hg => (by cases hg)⟩, ⟨by omega, fun s g hg => (by cases hg)⟩, fun s s' g hg => (by cases hg), L.n32, L.left⟩
    · have hj : j < 256 := by have := (List.getElem?_eq_some_iff.1 hu).1; rw [bvs_len] at this; have h2 := L.dl s; have h3 : j < (D.dur s).length := this; omega
      rw [hdc s hs j hj]; exact hu
    · rw [hdc s hs j hj, List.getElem?_eq_getElem (by rw [bvs_len, L.dl s]; exact hj)]; rfl
  have hit0 : (W5.alloc (.mapIter (some bm) clock #[] clock)).heap[w2.heap.size + 1]? = some (.mapIter (some bm) clock #[] clock) := by rw [← hz5]; exact heap_alloc_new W5 _
  have hb6 : Below w.heap.size w (W5.alloc (.mapIter (some bm) clock #[] clock)) := hb5.alloc (by omega) _
  generalize W5.alloc (.mapIter (some bm) clock #[] clock) = W6 at *
  clear hb5 hown5 hmm5 hme5 old5 hz5
  have hn1 : 0 < D.n := by have := hn.1; omega
  clear hg
  go_loopw [] (fun wr => ∃ (l' : List MapEntry) (clock' : Nat) (v' : Nat → Value) (C : Nat → List (List UInt8)) (seen : Array Nat), Lay wr w.heap.size g' w2.heap.size l' clock' v' (fun k => w.heap.size ≤ k ∧ k ≠ w2.heap.size + 1) { D with cap := c', cac := C } ∧ Half D l seen C ∧ wr.heap[w2.heap.size + 1]? = some (.mapIter (some bm) clock seen clock) ∧ Below w.heap.size w wr) (fun wr => iterLeft wr (w2.heap.size + 1) l.toArray)
  case atStart => exact ⟨[], 0, _, _, #[], LN, ⟨fun _ => .inl rfl, fun e he s hs => by simp⟩, hit0, hb6⟩
  case round =>
    clear LN hit0 hb6
    obtain ⟨l', clock', v', C, seen, L', HF, hit, hb⟩ := hrel
    have LK : Lay wr bp bd bm l clock v S D := L.keep fun k hk _ => hb.block k hk
    rcases run_next_at (P := Try.prog) wr 0 (w2.heap.size + 1) bm clock clock seen l.toArray clock hit LK.map (fun x hx => L.ents.clock x (by simpa using hx)) (Nat.le_refl _) with ⟨h0, hrun⟩ | ⟨e, he, w3, hal, hrun⟩
    · have hC := HF.done h0 L.look
      subst hC
      go_wp2_with fail
      go_ret
      exact ⟨w.heap.size, c', rfl, ⟨_, _, _, _, _, L'.mono fun _ _ h => h.1⟩, hb⟩
    · obtain ⟨he1, he2⟩ := mem_left he
      have he1 : e ∈ l := by simpa using he1
      obtain ⟨s, hs, hks⟩ := L.keys e he1
      have hCs : C s = [] := by rw [HF.at_ e he1 s hks, he2]; rfl
      have hcs : D.cac s ≠ [] := fun h => by
        have h1 := L.look s
        rw [if_pos h, ← hks, getE_of_mem L.ents.one he1] at h1; cases h1
      have hval : e.val = v s := by
        have h1 := L.look s
        rw [if_neg hcs, ← hks, getE_of_mem L.ents.one he1] at h1; exact Option.some.inj h1
      have hkey : e.key = .int .i64 (s : Int) := by rw [L.ents.key e he1, hks]
      have hcl0 : 0 < (D.cac s).length := List.length_pos_iff.2 hcs
      obtain ⟨gs, cs, hvs, -, -⟩ := owns_form (L.row s) hcl0
      have hsz : w3.heap.size = wr.heap.size := by rcases hal with rfl | rfl <;> rfl
      have T2 : Turn (fun k => k = w2.heap.size + 1) wr w3 := by
        rcases hal with rfl | rfl
        · exact Turn.refl _ _
        · exact (Turn.refl _ _).drew
      have T3 := T2.then (turn_setBlock (w := w3) (.mapIter (some bm) clock (seen.push e.born) clock) (b := w2.heap.size + 1) (S := fun k => k = w2.heap.size + 1) rfl)
      have hwr := hb.size
      have hitl := lt_of_heap hit
      have hb3 : Below w.heap.size w (setBlock w3 (w2.heap.size + 1) (.mapIter (some bm) clock (seen.push e.born) clock)) := hb.trans (T3.below (fun k h => by omega) hwr)
      have hit3 : (setBlock w3 (w2.heap.size + 1) (.mapIter (some bm) clock (seen.push e.born) clock)).heap[w2.heap.size + 1]? = some (.mapIter (some bm) clock (seen.push e.born) clock) := setBlock_at (by omega)
      have L3' := L'.keep (w' := setBlock w3 (w2.heap.size + 1) (.mapIter (some bm) clock (seen.push e.born) clock)) fun k hk h => T3.block k hk h.2
      have hms : iterLeft wr (w2.heap.size + 1) l.toArray = (leftOf l.toArray seen).size := iterLeft_eq hit
      generalize setBlock w3 (w2.heap.size + 1) (.mapIter (some bm) clock (seen.push e.born) clock) = w4 at *
      have L3 : Lay w4 bp bd bm l clock v S D := L.keep fun k hk _ => hb3.block k hk
      have hent := run_entry_at (P := Try.prog) _ (w2.heap.size + 1) bm clock seen l.toArray clock e hit3 L3.map (by simpa using he1) (by simpa using L.ents.born)
      have hrow := L3.row s
      rw [hvs] at hrow
      rw [hkey, hval, hvs] at hrun hent
      have H3 := copied_any w4.drew gs (D.cac s).length cs (flat (D.cac s)) (flat_len (L.cl s)) (fun j u hu => by
        have hj : j < (D.cac s).length * 256 := by have := (List.getElem?_eq_some_iff.1 hu).1; rw [flat_len (L.cl s)] at this; exact this
        exact (World.ownsRow.cellAt hrow j hj).trans hu) (flat_one _) hcl0 (by have := hcl s; omega)
      have p1 : w4.drew.cell? ⟨w.heap.size, 1, none⟩ = some (.map (some w2.heap.size)) := L3'.c1
      have hshr := left_shrinks l.toArray seen e he
      have HN := HF.next L.ents he1 s hks
      have fin : ∀ (w5 : World) (g5 c5 : Nat), w5.ownsRow w4.drew.heap.size 57 256 (.slice (some ⟨g5, 0, none⟩) (D.cac s).length c5) (D.cac s).length (flat (D.cac s)) → Below w4.drew.heap.size w4.drew w5 →
          w5.heap[w2.heap.size]? = some (.map l'.toArray clock') ∧ w5.cell? ⟨w.heap.size, 1, none⟩ = some (.map (some w2.heap.size)) ∧
          ∃ v'', Lay (setBlock w5 w2.heap.size (.map (putE s (.slice (some ⟨g5, 0, none⟩) (D.cac s).length c5) clock' l').toArray (if getE s l' = none then clock' + 1 else clock'))) w.heap.size g' w2.heap.size (putE s (.slice (some ⟨g5, 0, none⟩) (D.cac s).length c5) clock' l') (if getE s l' = none then clock' + 1 else clock') v'' (fun k => w.heap.size ≤ k ∧ k ≠ w2.heap.size + 1) { D with cap := c', cac := upd C s (D.cac s) } ∧
            (setBlock w5 w2.heap.size (.map (putE s (.slice (some ⟨g5, 0, none⟩) (D.cac s).length c5) clock' l').toArray (if getE s l' = none then clock' + 1 else clock'))).heap[w2.heap.size + 1]? = some (.mapIter (some bm) clock (seen.push e.born) clock) ∧
            Below w.heap.size w (setBlock w5 w2.heap.size (.map (putE s (.slice (some ⟨g5, 0, none⟩) (D.cac s).length c5) clock' l').toArray (if getE s l' = none then clock' + 1 else clock'))) := fun w5 g5 c5 ho5 hb5 => by
        have hmap5 : w5.heap[w2.heap.size]? = some (.map l'.toArray clock') := (hb5.block _ (lt_of_heap L3'.map)).trans L3'.map
        have hl5 : w4.heap.size ≤ w5.heap.size := hb5.size
        have hg5 : w4.heap.size ≤ g5 ∧ g5 < w5.heap.size := World.ownsRow.lt ho5 g5 rfl
        have hbm4 := lt_of_heap L3'.map
        have hit4 := lt_of_heap hit3
        have hT := turn_setBlock (w := w5) (S := fun k => k = w2.heap.size) (b := w2.heap.size) (.map (putE s (.slice (some ⟨g5, 0, none⟩) (D.cac s).length c5) clock' l').toArray (if getE s l' = none then clock' + 1 else clock')) rfl
        refine ⟨hmap5, (World.cell?_of_block (w := w4.drew) (a := ⟨w.heap.size, 1, none⟩) (hb5.block _ (lt_of_heap L3'.me))).trans p1, _, L3'.setCac s hs (.slice (some ⟨g5, 0, none⟩) (D.cac s).length c5) (D.cac s) (L.cl s) (fun _ _ h => h) (fun k hk hn _ => (hT.block k (by omega) hn).trans (hb5.block k hk)) (setBlock_at (lt_of_heap hmap5)) (L3'.ents.put s _) (fun z => ?_) (fun x hx => ?_) ?_ (fun h => absurd h hcs) (.inr (.inr ⟨g5, rfl, hg5.1, by omega, by omega⟩)), ?_, ?_⟩
        · rw [getE_put]
          by_cases h : z = s
          · subst h; rw [if_pos rfl, if_pos rfl, if_neg hcs]
          · rw [if_neg (by omega), if_neg h]
        · rcases mem_put hx with h | ⟨h, _⟩
          · exact .inl h
          · right; unfold kI; rw [h]
        · exact owns_keep (owns_base ho5 (Nat.zero_le _)) fun k hk => by
            obtain rfl : g5 = k := Option.some.inj hk
            exact hT.block g5 hg5.2 (by omega)
        · exact (hT.block _ (by omega) (by omega)).trans ((hb5.block _ hit4).trans hit3)
        · exact ((hb3.drew).trans (hb5.mono (by show w.heap.size ≤ w4.heap.size; omega))).trans (hT.below (fun k h => by omega) (by omega))
      go_wp2_with fail
      go_region_with (go_at_call 34; refine H3.mono ?_; rintro e5 w5 ⟨g5, c5, rfl, hown5, hb5⟩; obtain ⟨m5, p5, v5, L5, i5, b5⟩ := fin w5 g5 c5 hown5 hb5; have hup := Lay.run_update m5 L3'.ents s (.slice (some ⟨g5, 0, none⟩) (D.cac s).length c5))
      all_goals (go_wp2_with fail; exact ⟨⟨_, _, _, _, _, L5, HN, i5, b5⟩, by rw [iterLeft_eq i5, hms]; exact hshr⟩)
end Go.Proofs.Ytkkmnmiekmfjiaa
