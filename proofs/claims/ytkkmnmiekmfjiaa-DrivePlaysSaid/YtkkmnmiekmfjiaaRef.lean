/- The reference's drive, of the same plain data: how it lies in memory. -/
import Derived.Test.YtkkmnmiekmfjiaaDrvR
namespace Go.Proofs.Ytkkmnmiekmfjiaa
open Go Go.RowKit Go.Proofs

/-- What is there of a sector: what is sure, then its cached writes. -/
def DM.all (D : DM) (s : Nat) : List (List UInt8) := D.dur s :: D.cac s
/-- A slice that holds vs, and may be appended to. -/
def IRow (w : World) (v : Value) (vs : List Value) : Prop := ∃ g o c, v = .slice (some ⟨g, o, none⟩) vs.length c ∧ vs.length ≤ c ∧ c ≤ maxLen ∧ w.rangeAt g o vs ∧ w.there g o c
/-- A slice of a sector's bytes. -/
def BRow (w : World) (v : Value) (l : List UInt8) : Prop := ∃ g o c, v = .slice (some ⟨g, o, none⟩) 256 c ∧ 256 ≤ c ∧ c ≤ maxLen ∧ l.length = 256 ∧ w.rangeAt g o (bvs l) ∧ w.there g o 256
section
variable {w w' : World} {v : Value} {vs : List Value} {l : List UInt8}
theorem IRow.keep (h : IRow w v vs) (hk : ∀ g, v.ownBlock = some g → w'.heap[g]? = w.heap[g]?) : IRow w' v vs := by
  obtain ⟨g, o, c, rfl, h1, h2, h3, h4⟩ := h
  exact ⟨g, o, c, rfl, h1, h2, range_keep h3 (hk g rfl), there_keep h4 (hk g rfl)⟩
theorem BRow.keep (h : BRow w v l) (hk : ∀ g, v.ownBlock = some g → w'.heap[g]? = w.heap[g]?) : BRow w' v l := by
  obtain ⟨g, o, c, rfl, h1, h2, h3, h4, h5⟩ := h
  exact ⟨g, o, c, rfl, h1, h2, h3, range_keep h4 (hk g rfl), there_keep h5 (hk g rfl)⟩
theorem BRow.lt (h : BRow w v l) {g : Nat} (hg : v.ownBlock = some g) : g < w.heap.size := by
  obtain ⟨g', o, c, rfl, _, _, _, _, h5⟩ := h
  cases hg
  obtain ⟨u, hu⟩ := Option.isSome_iff_exists.1 (h5 0 (by omega)).1
  exact World.block_lt_of_cell? w _ hu
theorem IRow.lt (h : IRow w v vs) (hv : 0 < vs.length) {g : Nat} (hg : v.ownBlock = some g) : g < w.heap.size := by
  obtain ⟨g', o, c, rfl, h1, _, _, h4⟩ := h
  cases hg
  obtain ⟨u, hu⟩ := Option.isSome_iff_exists.1 (h4 0 (by omega)).1
  exact World.block_lt_of_cell? w _ hu
theorem BRow.sl (h : BRow w v l) : ∃ A c, v = .slice A 256 c ∧ Sl w A 256 c l := by
  obtain ⟨g, o, c, rfl, h1, h2, h3, h4, h5⟩ := h
  have hg := BRow.lt (w := w) (v := .slice (some ⟨g, o, none⟩) 256 c) (l := l) ⟨g, o, c, rfl, h1, h2, h3, h4, h5⟩ rfl
  have := sl_range h4 hg (by omega) h2
  rw [h3] at this
  exact ⟨_, c, rfl, this⟩
end

/-- How it lies. -/
structure RLay (w : World) (rp ro oc : Nat) (iv : Nat → Value) (vs : Nat → List Value) (S : Nat → Prop) (D : DM) : Prop where
  me : w.heap[rp]? = some (.cells #[.slice (some ⟨ro, 0, none⟩) D.n oc, .bool D.off, .bool D.fused, .int .i64 D.left, .int .i64 D.steps] 48 (0, 0))
  out : ∀ s, s < D.n → w.cell? ⟨ro, s, none⟩ = some (iv s) ∧ w.frozen? ⟨ro, s, none⟩ = false
  irow : ∀ s, s < D.n → IRow w (iv s) (vs s)
  len : ∀ s, s < D.n → (vs s).length = (D.all s).length
  brow : ∀ s, s < D.n → ∀ (i : Nat) (v : Value) (l : List UInt8), (vs s)[i]? = some v → (D.all s)[i]? = some l → BRow w v l
  off : ∀ s, D.n ≤ s → D.cac s = []
  inS : S rp ∧ S ro ∧ (∀ s, s < D.n → ∀ g, (iv s).ownBlock = some g → S g) ∧ ∀ s, s < D.n → ∀ v ∈ vs s, ∀ g, v.ownBlock = some g → S g
  ne : rp ≠ ro ∧ (∀ s, s < D.n → ∀ g, (iv s).ownBlock = some g → g ≠ rp ∧ g ≠ ro) ∧ ∀ s, s < D.n → ∀ v ∈ vs s, ∀ g, v.ownBlock = some g → g ≠ rp ∧ g ≠ ro ∧ ∀ z, z < D.n → (iv z).ownBlock ≠ some g
  isep : ∀ s s' g, s < D.n → s' < D.n → (iv s).ownBlock = some g → (iv s').ownBlock = some g → s = s'
  bsep : ∀ s s' (i i' : Nat) (v v' : Value) (g : Nat), s < D.n → s' < D.n → (vs s)[i]? = some v → (vs s')[i']? = some v' → v.ownBlock = some g → v'.ownBlock = some g → s = s' ∧ i = i'
  n32 : sectors D.n
  left : D.left ≤ 9223372036854775807
def RDrv (w : World) (rp : Nat) (S : Nat → Prop) (D : DM) : Prop := ∃ ro oc iv vs, RLay w rp ro oc iv vs S D

section
variable {w w' : World} {rp ro oc : Nat} {iv : Nat → Value} {vs : Nat → List Value} {S : Nat → Prop} {D : DM}
theorem RLay.pos (L : RLay w rp ro oc iv vs S D) : 0 < D.n := by have := L.n32; unfold sectors at this; omega
theorem RLay.rolt (L : RLay w rp ro oc iv vs S D) : ro < w.heap.size := World.block_lt_of_cell? w _ (L.out 0 L.pos).1
theorem RLay.vpos (L : RLay w rp ro oc iv vs S D) {s : Nat} (hs : s < D.n) : 0 < (vs s).length := by rw [L.len s hs]; simp [DM.all]
theorem RLay.ilt (L : RLay w rp ro oc iv vs S D) {s g : Nat} (hs : s < D.n) (hg : (iv s).ownBlock = some g) : g < w.heap.size := (L.irow s hs).lt (L.vpos hs) hg
theorem RLay.b_at (L : RLay w rp ro oc iv vs S D) {s : Nat} (hs : s < D.n) {v : Value} (hv : v ∈ vs s) : ∃ (i : Nat) (l : List UInt8), (vs s)[i]? = some v ∧ (D.all s)[i]? = some l ∧ BRow w v l := by
  obtain ⟨i, hi, rfl⟩ := List.getElem_of_mem hv
  have hl : i < (D.all s).length := by rw [← L.len s hs]; exact hi
  exact ⟨i, (D.all s)[i], List.getElem?_eq_getElem hi, List.getElem?_eq_getElem hl, L.brow s hs i _ _ (List.getElem?_eq_getElem hi) (List.getElem?_eq_getElem hl)⟩
theorem RLay.blt (L : RLay w rp ro oc iv vs S D) {s g : Nat} (hs : s < D.n) {v : Value} (hv : v ∈ vs s) (hg : v.ownBlock = some g) : g < w.heap.size := by
  obtain ⟨i, l, _, _, h⟩ := L.b_at hs hv
  exact h.lt hg
theorem RLay.keep (L : RLay w rp ro oc iv vs S D) (hk : ∀ k, k < w.heap.size → S k → w'.heap[k]? = w.heap[k]?) : RLay w' rp ro oc iv vs S D := by
  have e1 := hk rp (lt_of_heap L.me) L.inS.1
  have e2 := hk ro L.rolt L.inS.2.1
  exact ⟨e1.trans L.me, fun s hs => ⟨(World.cell?_of_block (w := w) (w' := w') (a := ⟨ro, s, none⟩) e2).trans (L.out s hs).1, (World.frozen?_of_block (w := w) (w' := w') (a := ⟨ro, s, none⟩) e2).trans (L.out s hs).2⟩,
    fun s hs => (L.irow s hs).keep fun g hg => hk g (L.ilt hs hg) (L.inS.2.2.1 s hs g hg), L.len,
    fun s hs i v l hv hl => (L.brow s hs i v l hv hl).keep fun g hg => hk g ((L.brow s hs i v l hv hl).lt hg) (L.inS.2.2.2 s hs v (List.mem_of_getElem? hv) g hg), L.off, L.inS, L.ne, L.isep, L.bsep, L.n32, L.left⟩
theorem RLay.mono {S' : Nat → Prop} (L : RLay w rp ro oc iv vs S D) (h : ∀ k, k < w.heap.size → S k → S' k) : RLay w rp ro oc iv vs S' D :=
  ⟨L.me, L.out, L.irow, L.len, L.brow, L.off, ⟨h _ (lt_of_heap L.me) L.inS.1, h _ L.rolt L.inS.2.1, fun s hs g hg => h g (L.ilt hs hg) (L.inS.2.2.1 s hs g hg), fun s hs v hv g hg => h g (L.blt hs hv hg) (L.inS.2.2.2 s hs v hv g hg)⟩, L.ne, L.isep, L.bsep, L.n32, L.left⟩
/-- The struct's plain fields turn. -/
theorem RLay.struct (L : RLay w rp ro oc iv vs S D) (off fused : Bool) (left steps : Nat) (hl : left ≤ 9223372036854775807)
    (h1 : w'.heap[rp]? = some (.cells #[.slice (some ⟨ro, 0, none⟩) D.n oc, .bool off, .bool fused, .int .i64 left, .int .i64 steps] 48 (0, 0)))
    (h2 : ∀ k, k < w.heap.size → k ≠ rp → w'.heap[k]? = w.heap[k]?) : RLay w' rp ro oc iv vs S { D with off := off, fused := fused, left := left, steps := steps } := by
  have e2 := h2 ro L.rolt (fun e => L.ne.1 e.symm)
  exact ⟨h1, fun s hs => ⟨(World.cell?_of_block (w := w) (w' := w') (a := ⟨ro, s, none⟩) e2).trans (L.out s hs).1, (World.frozen?_of_block (w := w) (w' := w') (a := ⟨ro, s, none⟩) e2).trans (L.out s hs).2⟩,
    fun s hs => (L.irow s hs).keep fun g hg => h2 g (L.ilt hs hg) (L.ne.2.1 s hs g hg).1, L.len,
    fun s hs i v l hv hl => (L.brow s hs i v l hv hl).keep fun g hg => h2 g ((L.brow s hs i v l hv hl).lt hg) (L.ne.2.2 s hs v (List.mem_of_getElem? hv) g hg).1, L.off, L.inS, L.ne, L.isep, L.bsep, L.n32, hl⟩
/-- One sector's row turns. -/
theorem RLay.setRow (L : RLay w rp ro oc iv vs S D) (s : Nat) (hs : s < D.n) {S' : Nat → Prop} (iv1 : Value) (vs1 : List Value) (d1 : List UInt8) (c1 : List (List UInt8))
    (hS : ∀ k, k < w.heap.size → S k → S' k)
    (h1 : ∀ k, k < w.heap.size → k ≠ ro → (iv s).ownBlock ≠ some k → w'.heap[k]? = w.heap[k]?)
    (ho : ∀ z, z < D.n → w'.cell? ⟨ro, z, none⟩ = some (upd iv s iv1 z) ∧ w'.frozen? ⟨ro, z, none⟩ = false)
    (hi : IRow w' iv1 vs1) (hlen : vs1.length = c1.length + 1) (hb : ∀ (i : Nat) (v : Value) (l : List UInt8), vs1[i]? = some v → (d1 :: c1)[i]? = some l → BRow w' v l)
    (hat : (iv1.ownBlock = (iv s).ownBlock) ∨ ∃ g, iv1.ownBlock = some g ∧ w.heap.size ≤ g ∧ S' g)
    (hbat : ∀ v ∈ vs1, ∀ g, v.ownBlock = some g → v ∈ vs s ∨ (w.heap.size ≤ g ∧ S' g ∧ iv1.ownBlock ≠ some g))
    (hinj : ∀ (i i' : Nat) (v v' : Value) (g : Nat), vs1[i]? = some v → vs1[i']? = some v' → v.ownBlock = some g → v'.ownBlock = some g → i = i') :
    RLay w' rp ro oc (upd iv s iv1) (upd vs s vs1) S' { D with dur := upd D.dur s d1, cac := upd D.cac s c1 } := by
  have e1 := h1 rp (lt_of_heap L.me) L.ne.1 (fun e => (L.ne.2.1 s hs rp e).1 rfl)
  have hall : ∀ z, ({ D with dur := upd D.dur s d1, cac := upd D.cac s c1 } : DM).all z = if z = s then d1 :: c1 else D.all z := fun z => by
    unfold DM.all
    by_cases h : z = s
    · subst h; simp [upd]
    · simp [upd, h]
  have hiv : ∀ z, z < D.n → ∀ g, (upd iv s iv1 z).ownBlock = some g → (z ≠ s ∧ (iv z).ownBlock = some g) ∨ (z = s ∧ ((iv s).ownBlock = some g ∨ (w.heap.size ≤ g ∧ S' g))) := fun z hz g hg => by
    by_cases h : z = s
    · subst h
      rw [upd_same] at hg
      rcases hat with e | ⟨g', e, e2, e3⟩
      · exact .inr ⟨rfl, .inl (e ▸ hg)⟩
      · rw [e] at hg; cases hg; exact .inr ⟨rfl, .inr ⟨e2, e3⟩⟩
    · rw [upd_other _ _ h] at hg; exact .inl ⟨h, hg⟩
  have hbv : ∀ z, z < D.n → ∀ v ∈ upd vs s vs1 z, ∀ g, v.ownBlock = some g → v ∈ vs z ∨ (z = s ∧ w.heap.size ≤ g ∧ S' g ∧ iv1.ownBlock ≠ some g) := fun z hz v hv g hg => by
    by_cases h : z = s
    · subst h
      rw [upd_same] at hv
      rcases hbat v hv g hg with e | e
      · exact .inl e
      · exact .inr ⟨rfl, e⟩
    · rw [upd_other _ _ h] at hv; exact .inl hv
  have hrlt := L.rolt
  have hplt := lt_of_heap L.me
  refine ⟨e1.trans L.me, ho, fun z hz => ?_, fun z hz => ?_, fun z hz i v l hv hl => ?_, fun z hz => ?_, ⟨hS _ hplt L.inS.1, hS _ hrlt L.inS.2.1, fun z hz g hg => ?_, fun z hz v hv g hg => ?_⟩,
    ⟨L.ne.1, fun z hz g hg => ?_, fun z hz v hv g hg => ?_⟩, fun z z' g hz hz' hg hg' => ?_, fun z z' i i' v v' g hz hz' hv hv' hg hg' => ?_, L.n32, L.left⟩
  · by_cases h : z = s
    · subst h; rw [upd_same, upd_same]; exact hi
    · rw [upd_other _ _ h, upd_other _ _ h]
      exact (L.irow z hz).keep fun g hg => h1 g (L.ilt hz hg) (L.ne.2.1 z hz g hg).2 fun e => h (L.isep z s g hz hs hg e)
  · rw [hall]
    by_cases h : z = s
    · subst h; rw [upd_same, if_pos rfl, hlen]; simp
    · rw [upd_other _ _ h, if_neg h]; exact L.len z hz
  · rw [hall] at hl
    by_cases h : z = s
    · subst h; rw [upd_same] at hv; rw [if_pos rfl] at hl; exact hb i v l hv hl
    · rw [upd_other _ _ h] at hv; rw [if_neg h] at hl
      have hm := List.mem_of_getElem? hv
      exact (L.brow z hz i v l hv hl).keep fun g hg => h1 g (L.blt hz hm hg) (L.ne.2.2 z hz v hm g hg).2.1 ((L.ne.2.2 z hz v hm g hg).2.2 s hs)
  · show upd D.cac s c1 z = []
    have : D.n ≤ z := hz
    rw [upd_other _ _ (by omega)]; exact L.off z hz
  · rcases hiv z hz g hg with ⟨_, h⟩ | ⟨_, h | h⟩
    · exact hS g (L.ilt hz h) (L.inS.2.2.1 z hz g h)
    · exact hS g (L.ilt hs h) (L.inS.2.2.1 s hs g h)
    · exact h.2
  · rcases hbv z hz v hv g hg with h | ⟨_, _, h, _⟩
    · exact hS g (L.blt hz h hg) (L.inS.2.2.2 z hz v h g hg)
    · exact h
  · rcases hiv z hz g hg with ⟨_, h⟩ | ⟨_, h | h⟩
    · exact L.ne.2.1 z hz g h
    · exact L.ne.2.1 s hs g h
    · omega
  · rcases hbv z hz v hv g hg with h | ⟨rfl, h, _, h3⟩
    · have hlt := L.blt hz h hg
      obtain ⟨a, b, c⟩ := L.ne.2.2 z hz v h g hg
      refine ⟨a, b, fun y hy e => ?_⟩
      rcases hiv y hy g e with ⟨_, e2⟩ | ⟨_, e2 | e2⟩
      · exact c y hy e2
      · exact c s hs e2
      · omega
    · refine ⟨by omega, by omega, fun y hy e => ?_⟩
      rcases hiv y hy g e with ⟨_, e2⟩ | ⟨hy2, _⟩
      · have := L.ilt hy e2; omega
      · rw [hy2, upd_same] at e; exact h3 e
  · rcases hiv z hz g hg with ⟨a, b⟩ | ⟨a, b⟩ <;> rcases hiv z' hz' g hg' with ⟨c, d⟩ | ⟨c, d⟩
    · exact L.isep z z' g hz hz' b d
    · rcases d with d | d
      · rw [c]; exact L.isep z s g hz hs b d
      · have := L.ilt hz b; omega
    · rcases b with b | b
      · rw [a]; exact L.isep s z' g hs hz' b d
      · have := L.ilt hz' d; omega
    · rw [a, c]
  · have m1 := List.mem_of_getElem? hv
    have m2 := List.mem_of_getElem? hv'
    by_cases h : z = s
    · by_cases h' : z' = s
      · subst h; subst h'
        rw [upd_same] at hv hv'
        exact ⟨rfl, hinj i i' v v' g hv hv' hg hg'⟩
      · exfalso
        rw [upd_other _ _ h'] at hv' m2
        have hlt := L.blt hz' m2 hg'
        rcases hbv z hz v m1 g hg with e | ⟨_, e, _⟩
        · obtain ⟨j, hj, ej⟩ := List.getElem_of_mem e
          exact h' ((L.bsep z z' j i' v v' g hz hz' (by rw [← ej]; exact List.getElem?_eq_getElem hj) hv' hg hg').1.symm.trans h)
        · omega
    · by_cases h' : z' = s
      · exfalso
        rw [upd_other _ _ h] at hv m1
        have hlt := L.blt hz m1 hg
        rcases hbv z' hz' v' m2 g hg' with e | ⟨_, e, _⟩
        · obtain ⟨j, hj, ej⟩ := List.getElem_of_mem e
          exact h ((L.bsep z z' i j v v' g hz hz' hv (by rw [← ej]; exact List.getElem?_eq_getElem hj) hg hg').1.trans h')
        · omega
      · rw [upd_other _ _ h] at hv; rw [upd_other _ _ h'] at hv'
        exact L.bsep z z' i i' v v' g hz hz' hv hv' hg hg'
end
end Go.Proofs.Ytkkmnmiekmfjiaa
