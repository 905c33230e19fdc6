/- A drive as plain data, and how it lies in memory. The drive's small calls: has, Size, On, Steps, Cached, choice, step, Fuse; the laws' kind and filled. A sector full of a byte; the newest write of a sector; Read. settle: a cached write of a sector becomes durable, or none, and the others are forgotten. Write: a step that adds what is handed in to the cached writes of its sector. New: a drive of noughts, or none. -/
import Derived.Test.YtgedmodnkiijkaaGreatDoorFn3
import Derived.Test.YtgedmodnkiijkaaGreatDoorChecked
import Derived.Deep.RegionHeld3
import Derived.Maps.AppendAt
import Derived.Great.BuildSlice
import Derived.BigRegion
namespace Go.Proofs.YtgedmodnkiijkaaGreatDoor
open Go Go.RowKit
open Go.ChangeMaps (setBlock)

/-- A drive: of each sector what is sure, and its cached writes. -/
structure DM where
  n : Nat
  dur : Nat → List UInt8
  cac : Nat → List (List UInt8)
  off : Bool
  fused : Bool
  left : Nat
  steps : Nat
  cap : Nat

def upd {α : Type} (f : Nat → α) (s : Nat) (x : α) : Nat → α := fun k => if k = s then x else f k
theorem upd_same {α : Type} (f : Nat → α) (s : Nat) (x : α) : upd f s x s = x := by simp [upd]
theorem upd_other {α : Type} (f : Nat → α) {s k : Nat} (x : α) (h : k ≠ s) : upd f s x k = f k := by simp [upd, h]

def sectors (n : Nat) : Prop := 32 ≤ n ∧ n ≤ 2048
theorem TB : (Tryz.prog.info? 106).map (fun i => (i.zero, i.size, i.bytes)) = some (some (.agg (Array.replicate 256 (.int .u8 0))), 256, 256) := by kernel_rfl

/-- How it lies. -/
structure Lay (w : World) (bp bd bm : Nat) (l : List MapEntry) (clock : Nat) (v : Nat → Value) (S : Nat → Prop) (D : DM) : Prop where
  me : w.heap[bp]? = some (.cells #[.slice (some ⟨bd, 0, none⟩) D.n D.cap, .map (some bm), .bool D.off, .bool D.fused, .int .i64 D.left, .int .i64 D.steps] 110 (0, 0))
  dur : ∀ s, s < D.n → w.rangeAt bd (s * 256) (bvs (D.dur s))
  durw : ∀ s, s < D.n → w.there bd (s * 256) 256
  map : w.heap[bm]? = some (.map l.toArray clock)
  ents : Ents l clock
  look : ∀ s : Nat, getE s l = if D.cac s = [] then none else some (v s)
  keys : ∀ e ∈ l, ∃ s : Nat, s < D.n ∧ kI e = s
  row : ∀ s, w.ownsRow 0 106 256 (v s) (D.cac s).length (flat (D.cac s))
  nil : ∀ s, D.cac s = [] → v s = .slice none 0 0
  dl : ∀ s, (D.dur s).length = 256
  cl : ∀ s, Secs (D.cac s)
  out : ∀ s, D.n ≤ s → D.cac s = []
  inS : S bp ∧ S bd ∧ S bm ∧ ∀ s g, (v s).ownBlock = some g → S g
  ne : bp ≠ bd ∧ ∀ s g, (v s).ownBlock = some g → g ≠ bp ∧ g ≠ bd
  sep : ∀ s s' g, (v s).ownBlock = some g → (v s').ownBlock = some g → s = s'
  n32 : sectors D.n
  left : D.left ≤ 9223372036854775807

def Drv (w : World) (bp : Nat) (S : Nat → Prop) (D : DM) : Prop := ∃ bd bm l clock v, Lay w bp bd bm l clock v S D

section
variable {w w' : World} {bp bd bm clock : Nat} {l : List MapEntry} {v : Nat → Value} {S : Nat → Prop} {D : DM}
theorem Lay.pos (L : Lay w bp bd bm l clock v S D) : 0 < D.n := by have := L.n32; unfold sectors at this; omega
theorem Lay.bdlt (L : Lay w bp bd bm l clock v S D) : ∃ c t fr, w.heap[bd]? = some (.cells c t fr) := by
  have h := (L.durw 0 L.pos 0 (by omega)).1
  unfold World.cell? at h
  split at h
  · rename_i c t fr hb; exact ⟨c, t, fr, hb⟩
  · cases h
theorem Lay.bd_bm (L : Lay w bp bd bm l clock v S D) : bd ≠ bm := fun e => by
  obtain ⟨c, t, fr, h⟩ := L.bdlt
  rw [e, L.map] at h; cases h
theorem Lay.bp_bm (L : Lay w bp bd bm l clock v S D) : bp ≠ bm := fun e => by
  have h := L.me
  rw [e, L.map] at h; cases h
theorem Lay.rowblock (L : Lay w bp bd bm l clock v S D) {s g : Nat} (h : (v s).ownBlock = some g) : ∃ c t, w.heap[g]? = some (.cells c t (0, 0)) := by
  rcases (L.row s).2 with ⟨hv, _⟩ | ⟨g', cap, cur, hv, _, hg, _⟩
  · rw [hv] at h; cases h
  · rw [hv] at h; cases h; exact ⟨_, _, hg⟩
theorem Lay.row_bm (L : Lay w bp bd bm l clock v S D) {s g : Nat} (h : (v s).ownBlock = some g) : g ≠ bm := fun e => by
  obtain ⟨c, t, hg⟩ := L.rowblock h
  rw [e, L.map] at hg; cases hg
/-- Its blocks are as they were. -/
theorem Lay.keep (L : Lay w bp bd bm l clock v S D) (hk : ∀ k, k < w.heap.size → S k → w'.heap[k]? = w.heap[k]?) : Lay w' bp bd bm l clock v S D := by
  obtain ⟨c, t, fr, hbd⟩ := L.bdlt
  have e1 := hk bp (lt_of_heap L.me) L.inS.1
  have e2 := hk bd (lt_of_heap hbd) L.inS.2.1
  have e3 := hk bm (lt_of_heap L.map) L.inS.2.2.1
  exact ⟨e1.trans L.me, fun s hs => range_keep (L.dur s hs) e2, fun s hs => there_keep (L.durw s hs) e2, e3.trans L.map, L.ents, L.look, L.keys,
    fun s => owns_keep (L.row s) fun g hg => by obtain ⟨c, t, h⟩ := L.rowblock hg; exact hk g (lt_of_heap h) (L.inS.2.2.2 s g hg), L.nil, L.dl, L.cl, L.out, L.inS, L.ne, L.sep, L.n32, L.left⟩
theorem Lay.mono {S' : Nat → Prop} (L : Lay w bp bd bm l clock v S D) (h : ∀ k, k < w.heap.size → S k → S' k) : Lay w bp bd bm l clock v S' D := by
  obtain ⟨c, t, fr, hbd⟩ := L.bdlt
  exact ⟨L.me, L.dur, L.durw, L.map, L.ents, L.look, L.keys, L.row, L.nil, L.dl, L.cl, L.out,
    ⟨h _ (lt_of_heap L.me) L.inS.1, h _ (lt_of_heap hbd) L.inS.2.1, h _ (lt_of_heap L.map) L.inS.2.2.1, fun s g hg => by obtain ⟨c, t, h2⟩ := L.rowblock hg; exact h g (lt_of_heap h2) (L.inS.2.2.2 s g hg)⟩, L.ne, L.sep, L.n32, L.left⟩
/-- The struct's plain fields turn. -/
theorem Lay.struct (L : Lay w bp bd bm l clock v S D) (off fused : Bool) (left steps : Nat) (hl : left ≤ 9223372036854775807)
    (h1 : w'.heap[bp]? = some (.cells #[.slice (some ⟨bd, 0, none⟩) D.n D.cap, .map (some bm), .bool off, .bool fused, .int .i64 left, .int .i64 steps] 110 (0, 0)))
    (h2 : ∀ k, k < w.heap.size → k ≠ bp → w'.heap[k]? = w.heap[k]?) : Lay w' bp bd bm l clock v S { D with off := off, fused := fused, left := left, steps := steps } := by
  obtain ⟨c, t, fr, hbd⟩ := L.bdlt
  have e2 := h2 bd (lt_of_heap hbd) (fun e => L.ne.1 e.symm)
  have e3 := h2 bm (lt_of_heap L.map) (fun e => L.bp_bm e.symm)
  exact ⟨h1, fun s hs => range_keep (L.dur s hs) e2, fun s hs => there_keep (L.durw s hs) e2, e3.trans L.map, L.ents, L.look, L.keys,
    fun s => owns_keep (L.row s) fun g hg => by obtain ⟨c, t, h⟩ := L.rowblock hg; exact h2 g (lt_of_heap h) (L.ne.2 s g hg).1, L.nil, L.dl, L.cl, L.out, L.inS, L.ne, L.sep, L.n32, hl⟩
/-- What is sure of a sector turns. -/
theorem Lay.setDur (L : Lay w bp bd bm l clock v S D) (s : Nat) (x : List UInt8) (hx : x.length = 256)
    (h1 : ∀ k, k < w.heap.size → k ≠ bd → w'.heap[k]? = w.heap[k]?) (h2 : s < D.n → w'.rangeAt bd (s * 256) (bvs x)) (h3 : ∀ z, z < D.n → z ≠ s → w'.rangeAt bd (z * 256) (bvs (D.dur z))) (h4 : ∀ z, z < D.n → w'.there bd (z * 256) 256) :
    Lay w' bp bd bm l clock v S { D with dur := upd D.dur s x } := by
  have e1 := h1 bp (lt_of_heap L.me) L.ne.1
  have e3 := h1 bm (lt_of_heap L.map) (fun e => L.bd_bm e.symm)
  refine ⟨e1.trans L.me, fun z hz => ?_, h4, e3.trans L.map, L.ents, L.look, L.keys,
    fun s => owns_keep (L.row s) fun g hg => by obtain ⟨c, t, h⟩ := L.rowblock hg; exact h1 g (lt_of_heap h) (L.ne.2 s g hg).2, L.nil, fun z => ?_, L.cl, L.out, L.inS, L.ne, L.sep, L.n32, L.left⟩
  · show w'.rangeAt bd (z * 256) (bvs (upd D.dur s x z))
    by_cases hzs : z = s
    · subst hzs; rw [upd_same]; exact h2 hz
    · rw [upd_other _ _ hzs]; exact h3 z hz hzs
  · show (upd D.dur s x z).length = 256
    by_cases hzs : z = s
    · rw [hzs, upd_same]; exact hx
    · rw [upd_other _ _ hzs]; exact L.dl z
/-- A whole sector is laid over what was sure. -/
theorem Lay.store (L : Lay w bp bd bm l clock v S D) (s : Nat) (hs : s < D.n) (x : List UInt8) (hx : x.length = 256) :
    Lay (w.setCells bd (s * 256) (bvs x)) bp bd bm l clock v S { D with dur := upd D.dur s x } := by
  have hT := turn_setCells (S := fun k => k = bd) (b := bd) rfl (bvs x) (s * 256) w
  refine L.setDur s x hx (fun k hk hn => hT.block k hk hn) (fun _ => World.rangeAt_setCells_same _ _ _ _ ?_) (fun z hz hzs => World.rangeAt_setCells_apart (L.dur z hz) _ _ _ ?_) fun z hz => World.there_setCells (L.durw z hz) _ _ _
  · rw [bvs_len, hx]; exact L.durw s hs
  · rw [bvs_len, bvs_len, hx, L.dl z]
    rcases Nat.lt_or_gt_of_ne hzs with h | h
    · right; left; omega
    · right; right; omega
/-- The cached writes of a sector turn. -/
theorem Lay.setCac (L : Lay w bp bd bm l clock v S D) (s : Nat) (hs : s < D.n) {l' : List MapEntry} {clock' : Nat} {S' : Nat → Prop} (v1 : Value) (ls : List (List UInt8)) (hls : Secs ls)
    (hS : ∀ k, k < w.heap.size → S k → S' k) (h1 : ∀ k, k < w.heap.size → k ≠ bm → some k ≠ (v s).ownBlock → w'.heap[k]? = w.heap[k]?) (hm : w'.heap[bm]? = some (.map l'.toArray clock')) (hE : Ents l' clock')
    (hlook : ∀ z : Nat, getE z l' = if z = s then (if ls = [] then none else some v1) else getE z l) (hkeys : ∀ e ∈ l', e ∈ l ∨ kI e = s)
    (hrow : w'.ownsRow 0 106 256 v1 ls.length (flat ls)) (hnil : ls = [] → v1 = .slice none 0 0)
    (hat : v1.ownBlock = none ∨ v1.ownBlock = (v s).ownBlock ∨ ∃ g, v1.ownBlock = some g ∧ w.heap.size ≤ g ∧ S' g) :
    Lay w' bp bd bm l' clock' (upd v s v1) S' { D with cac := upd D.cac s ls } := by
  obtain ⟨c, t, fr, hbd⟩ := L.bdlt
  have b1 := lt_of_heap L.me
  have b2 := lt_of_heap hbd
  have b3 := lt_of_heap L.map
  have e1 := h1 bp b1 L.bp_bm (fun e => (L.ne.2 s bp e.symm).1 rfl)
  have e2 := h1 bd b2 L.bd_bm (fun e => (L.ne.2 s bd e.symm).2 rfl)
  have hown : ∀ z g, (upd v s v1 z).ownBlock = some g → (z ≠ s ∧ (v z).ownBlock = some g) ∨ (z = s ∧ ((v s).ownBlock = some g ∨ (w.heap.size ≤ g ∧ S' g))) := by
    intro z g hg
    by_cases hz : z = s
    · subst hz
      rw [upd_same] at hg
      rcases hat with h | h | ⟨g', h, h2, h3⟩
      · rw [h] at hg; cases hg
      · exact .inr ⟨rfl, .inl (h ▸ hg)⟩
      · rw [h] at hg; cases hg; exact .inr ⟨rfl, .inr ⟨h2, h3⟩⟩
    · rw [upd_other _ _ hz] at hg; exact .inl ⟨hz, hg⟩
  have hlt : ∀ z g, (v z).ownBlock = some g → g < w.heap.size := fun z g hg => by obtain ⟨c, t, h⟩ := L.rowblock hg; exact lt_of_heap h
  refine ⟨e1.trans L.me, fun z hz => range_keep (L.dur z hz) e2, fun z hz => there_keep (L.durw z hz) e2, hm, hE, fun z => ?_, fun e he => ?_, fun z => ?_, fun z hz => ?_, L.dl, fun z => ?_, fun z hz => ?_,
    ⟨hS _ b1 L.inS.1, hS _ b2 L.inS.2.1, hS _ b3 L.inS.2.2.1, fun z g hg => ?_⟩, ⟨L.ne.1, fun z g hg => ?_⟩, fun z z' g hg hg' => ?_, L.n32, L.left⟩
  · rw [hlook z]
    show _ = if upd D.cac s ls z = [] then none else some (upd v s v1 z)
    by_cases hz : z = s
    · rw [hz, if_pos rfl, upd_same, upd_same]
    · rw [if_neg hz, upd_other _ _ hz, upd_other _ _ hz]; exact L.look z
  · rcases hkeys e he with h | h
    · exact L.keys e h
    · exact ⟨s, hs, h⟩
  · show w'.ownsRow 0 _ 256 (upd v s v1 z) (upd D.cac s ls z).length (flat (upd D.cac s ls z))
    by_cases hz : z = s
    · rw [hz, upd_same, upd_same]; exact hrow
    · rw [upd_other _ _ hz, upd_other _ _ hz]
      exact owns_keep (L.row z) fun g hg => h1 g (hlt z g hg) (L.row_bm hg) fun e => hz (L.sep z s g hg e.symm)
  · show upd v s v1 z = _
    by_cases hzs : z = s
    · subst hzs
      rw [upd_same]; exact hnil (by simpa [upd_same] using hz)
    · rw [upd_other _ _ hzs]; exact L.nil z (by simpa [upd_other _ _ hzs] using hz)
  · show Secs (upd D.cac s ls z)
    by_cases hzs : z = s
    · rw [hzs, upd_same]; exact hls
    · rw [upd_other _ _ hzs]; exact L.cl z
  · show upd D.cac s ls z = []
    have : D.n ≤ z := hz
    rw [upd_other _ _ (by omega)]; exact L.out z hz
  · rcases hown z g hg with ⟨_, h⟩ | ⟨_, h | h⟩
    · exact hS _ (hlt z g h) (L.inS.2.2.2 z g h)
    · exact hS _ (hlt s g h) (L.inS.2.2.2 s g h)
    · exact h.2
  · rcases hown z g hg with ⟨_, h⟩ | ⟨_, h | h⟩
    · exact L.ne.2 z g h
    · exact L.ne.2 s g h
    · omega
  · rcases hown z g hg with ⟨h0, h⟩ | ⟨h0, h⟩ <;> rcases hown z' g hg' with ⟨k0, k⟩ | ⟨k0, k⟩
    · exact L.sep z z' g h k
    · rcases k with k | k
      · rw [k0]; exact L.sep z s g h k
      · have := hlt z g h; omega
    · rcases h with h | h
      · rw [h0]; exact L.sep s z' g h k
      · have := hlt z' g k; omega
    · rw [h0, k0]
/-- The cached writes of a sector are forgotten. -/
theorem Lay.forget (L : Lay w bp bd bm l clock v S D) (s : Nat) (hs : s < D.n) :
    Lay (setBlock w bm (.map (delE s l).toArray clock)) bp bd bm (delE s l) clock (upd v s (.slice none 0 0)) S { D with cac := upd D.cac s [] } := by
  have hT := turn_setBlock (w := w) (S := fun k => k = bm) (b := bm) (.map (delE s l).toArray clock) rfl
  refine L.setCac s hs _ [] (by simp [Secs]) (fun _ _ h => h) (fun k hk hn _ => hT.block k hk hn) (setBlock_at (lt_of_heap L.map)) (L.ents.del s) (fun z => ?_) (fun e he => .inl (mem_del he)) (World.ownsRow_nil _ _ _ _) (fun _ => rfl) (.inl rfl)
  rw [getE_del z L.ents.one, if_pos rfl]
  by_cases h : z = s
  · subst h; simp
  · rw [if_neg (by omega), if_neg h]
end
end Go.Proofs.YtgedmodnkiijkaaGreatDoor

namespace Go.Proofs.YtgedmodnkiijkaaGreatDoor
open Go Go.RowKit Go.Proofs

section
variable {w : World} {bp bd bm clock : Nat} {l : List MapEntry} {v : Nat → Value} {S : Nat → Prop} {D : DM}
theorem Lay.c0 (L : Lay w bp bd bm l clock v S D) : w.cell? ⟨bp, 0, none⟩ = some (.slice (some ⟨bd, 0, none⟩) D.n D.cap) := by rw [cell_of_row w bp 0 _ _ _ L.me]; rfl
theorem Lay.c1 (L : Lay w bp bd bm l clock v S D) : w.cell? ⟨bp, 1, none⟩ = some (.map (some bm)) := by rw [cell_of_row w bp 1 _ _ _ L.me]; rfl
theorem Lay.c2 (L : Lay w bp bd bm l clock v S D) : w.cell? ⟨bp, 2, none⟩ = some (.bool D.off) := by rw [cell_of_row w bp 2 _ _ _ L.me]; rfl
theorem Lay.c3 (L : Lay w bp bd bm l clock v S D) : w.cell? ⟨bp, 3, none⟩ = some (.bool D.fused) := by rw [cell_of_row w bp 3 _ _ _ L.me]; rfl
theorem Lay.c4 (L : Lay w bp bd bm l clock v S D) : w.cell? ⟨bp, 4, none⟩ = some (.int .i64 D.left) := by rw [cell_of_row w bp 4 _ _ _ L.me]; rfl
theorem Lay.c5 (L : Lay w bp bd bm l clock v S D) : w.cell? ⟨bp, 5, none⟩ = some (.int .i64 D.steps) := by rw [cell_of_row w bp 5 _ _ _ L.me]; rfl
theorem Lay.fz (L : Lay w bp bd bm l clock v S D) (j : Nat) : w.frozen? ⟨bp, j, none⟩ = false := by simp [World.frozen?, L.me]
end

theorem has_any {w : World} {bp bd bm clock : Nat} {l : List MapEntry} {v : Nat → Value} {S : Nat → Prop} {D : DM} (L : Lay w bp bd bm l clock v S D) (s : Int) :
    Calls Tryz.prog 49 #[.pointer (some ⟨bp, 0, none⟩), .int .i64 s] w fun e w' => e = .returned (.bool (decide (0 ≤ s ∧ s < (D.n : Int)))) ∧ w = w' := by
  have c0 := L.c0
  go_enter Tryz.func49, Tryz.ntmps49
  by_cases h0 : 0 ≤ s
  · by_cases h1 : s < (D.n : Int)
    · go_wp2
      go_ret
      simp [h0, h1]
    · go_wp2
      go_ret
      simp [h1]
      try omega
  · go_wp2
    go_ret
    simp
    intro; omega

theorem size_any {w : World} {bp bd bm clock : Nat} {l : List MapEntry} {v : Nat → Value} {S : Nat → Prop} {D : DM} (L : Lay w bp bd bm l clock v S D) :
    Calls Tryz.prog 52 #[.pointer (some ⟨bp, 0, none⟩)] w fun e w' => e = .returned (.int .i64 (D.n : Int)) ∧ w = w' := by
  have c0 := L.c0
  go_enter Tryz.func52, Tryz.ntmps52
  go_wp2
  go_ret
  exact ⟨rfl, rfl⟩
theorem on_any {w : World} {bp bd bm clock : Nat} {l : List MapEntry} {v : Nat → Value} {S : Nat → Prop} {D : DM} (L : Lay w bp bd bm l clock v S D) :
    Calls Tryz.prog 89 #[.pointer (some ⟨bp, 0, none⟩)] w fun e w' => e = .returned (.bool (!D.off)) ∧ w = w' := by
  have c0 := L.c2
  go_enter Tryz.func89, Tryz.ntmps89
  go_wp2
  go_ret
  exact ⟨rfl, rfl⟩
/-- How many sectors have cached writes. -/
def DM.cnt (D : DM) : Nat := ((List.range D.n).filter fun s => !(D.cac s).isEmpty).length
theorem Lay.count {w : World} {bp bd bm clock : Nat} {l : List MapEntry} {v : Nat → Value} {S : Nat → Prop} {D : DM} (L : Lay w bp bd bm l clock v S D) : l.length = D.cnt := by
  have hn : (l.map fun e => (kI e).toNat).Nodup := by
    have h := L.ents.one
    rw [List.nodup_iff_pairwise_ne, List.pairwise_map] at h ⊢
    refine h.imp_of_mem fun {a b} ha hb hne he => hne ?_
    obtain ⟨x, _, hx⟩ := L.keys a ha
    obtain ⟨y, _, hy⟩ := L.keys b hb
    rw [hx, hy] at he ⊢
    simp at he; omega
  have hp : (l.map fun e => (kI e).toNat).Perm ((List.range D.n).filter fun s => !(D.cac s).isEmpty) := by
    rw [List.perm_ext_iff_of_nodup hn (List.nodup_range.filter _)]
    intro s
    constructor
    · intro h
      obtain ⟨e, he, rfl⟩ := List.mem_map.1 h
      obtain ⟨x, hx, hk⟩ := L.keys e he
      have hl := getE_of_mem L.ents.one he
      rw [hk, L.look x] at hl
      rw [hk, Int.toNat_natCast]
      rw [List.mem_filter, List.mem_range]
      refine ⟨hx, ?_⟩
      split at hl
      · cases hl
      · rename_i hc
        cases hq : D.cac x with
        | nil => exact absurd hq hc
        | cons a b => rfl
    · intro h
      rw [List.mem_filter] at h
      have hl := L.look s
      rw [if_neg (by intro hq; rw [hq] at h; simp at h)] at hl
      obtain ⟨e, he, hk, _⟩ := getE_mem hl
      exact List.mem_map.2 ⟨e, he, by rw [hk]; simp⟩
  have := hp.length_eq
  rw [List.length_map] at this
  exact this
/-- The step is not done. -/
def DM.stop (D : DM) : Bool := D.off || (D.fused && decide (D.left = 0))
def DM.stepD (D : DM) : DM := { D with off := D.stop, left := if D.stop then D.left else if D.fused then D.left - 1 else D.left, steps := if D.stop then D.steps else D.steps + 1 }
def DM.err (D : DM) : Int := if D.stop then 4 else 0
/-- A plain field is written. -/
theorem Lay.off1 {w : World} {bp bd bm clock : Nat} {l : List MapEntry} {v : Nat → Value} {S : Nat → Prop} {D : DM} (L : Lay w bp bd bm l clock v S D) (b : Bool) :
    Lay (w.setCell ⟨bp, 2, none⟩ (.bool b)) bp bd bm l clock v S { D with off := b } :=
  L.struct b D.fused D.left D.steps L.left (by rw [setCell_at _ L.me]; rfl) fun k _ hn => Below.heap_setCell _ _ _ _ hn
theorem Lay.left1 {w : World} {bp bd bm clock : Nat} {l : List MapEntry} {v : Nat → Value} {S : Nat → Prop} {D : DM} (L : Lay w bp bd bm l clock v S D) (n : Nat) (hn : n ≤ 9223372036854775807) {x : Int} (hx : x = (n : Int)) :
    Lay (w.setCell ⟨bp, 4, none⟩ (.int .i64 x)) bp bd bm l clock v S { D with left := n } := by
  subst hx
  exact L.struct D.off D.fused n D.steps hn (by rw [setCell_at _ L.me]; rfl) fun k _ hn => Below.heap_setCell _ _ _ _ hn
theorem Lay.steps1 {w : World} {bp bd bm clock : Nat} {l : List MapEntry} {v : Nat → Value} {S : Nat → Prop} {D : DM} (L : Lay w bp bd bm l clock v S D) (n : Nat) {x : Int} (hx : x = (n : Int)) :
    Lay (w.setCell ⟨bp, 5, none⟩ (.int .i64 x)) bp bd bm l clock v S { D with steps := n } := by
  subst hx
  exact L.struct D.off D.fused D.left n L.left (by rw [setCell_at _ L.me]; rfl) fun k _ hn => Below.heap_setCell _ _ _ _ hn
theorem turn_at {bp : Nat} (w : World) (j : Nat) (u : Value) : Turn (fun k => k = bp) w (w.setCell ⟨bp, j, none⟩ u) := turn_setCell u rfl

set_option maxRecDepth 100000 in
set_option maxHeartbeats 1000000 in
theorem step_any {w : World} {bp bd bm clock : Nat} {l : List MapEntry} {v : Nat → Value} {S : Nat → Prop} {D : DM} (L : Lay w bp bd bm l clock v S D) (hst : D.steps ≤ 1000000000) :
    Calls Tryz.prog 106 #[.pointer (some ⟨bp, 0, none⟩)] w fun e w' => e = .returned (.int .i64 D.err) ∧ Lay w' bp bd bm l clock v S D.stepD ∧ Turn (fun k => k = bp) w w' := by
  have c2 := L.c2
  have c3 := L.c3
  have c4 := L.c4
  have c5 := L.c5
  have f2 := L.fz 2
  have f4 := L.fz 4
  have f5 := L.fz 5
  have hle := L.left
  obtain ⟨n, dur, cac, off, fused, left, steps, cap⟩ := D
  simp only at c2 c3 c4 c5 hst hle
  cases off with
  | true =>
    rw [show (DM.stepD ⟨n, dur, cac, true, fused, left, steps, cap⟩) = ⟨n, dur, cac, true, fused, left, steps, cap⟩ from rfl, show (DM.err ⟨n, dur, cac, true, fused, left, steps, cap⟩) = 4 from rfl]
    cases fused with
    | true =>
      by_cases h0 : left = 0
      · subst h0
        go_enter Tryz.func106, Tryz.ntmps106
        go_wp2
        go_ret
        exact ⟨rfl, L.off1 true, turn_at _ _ _⟩
      · go_enter Tryz.func106, Tryz.ntmps106
        go_wp2
        go_ret
        exact ⟨rfl, L, Turn.refl _ _⟩
    | false =>
      go_enter Tryz.func106, Tryz.ntmps106
      go_wp2
      go_ret
      exact ⟨rfl, L, Turn.refl _ _⟩
  | false =>
    cases fused with
    | true =>
      by_cases h0 : left = 0
      · subst h0
        rw [show (DM.stepD ⟨n, dur, cac, false, true, 0, steps, cap⟩) = ⟨n, dur, cac, true, true, 0, steps, cap⟩ from rfl, show (DM.err ⟨n, dur, cac, false, true, 0, steps, cap⟩) = 4 from rfl]
        go_enter Tryz.func106, Tryz.ntmps106
        go_wp2
        go_ret
        exact ⟨rfl, L.off1 true, turn_at _ _ _⟩
      · have hs : (DM.stop ⟨n, dur, cac, false, true, left, steps, cap⟩) = false := by simp [DM.stop, h0]
        have E1 : (DM.stepD ⟨n, dur, cac, false, true, left, steps, cap⟩) = ⟨n, dur, cac, false, true, left - 1, steps + 1, cap⟩ := by simp [DM.stepD, hs]
        have E2 : (DM.err ⟨n, dur, cac, false, true, left, steps, cap⟩) = 0 := by simp [DM.err, hs]
        rw [E1, E2]
        go_enter Tryz.func106, Tryz.ntmps106
        go_wp2
        go_ret
        exact ⟨rfl, (L.left1 (left - 1) (by omega) (by omega)).steps1 (steps + 1) (by omega), (turn_at _ _ _).then (turn_at _ _ _)⟩
    | false =>
      rw [show (DM.stepD ⟨n, dur, cac, false, false, left, steps, cap⟩) = ⟨n, dur, cac, false, false, left, steps + 1, cap⟩ from rfl, show (DM.err ⟨n, dur, cac, false, false, left, steps, cap⟩) = 0 from rfl]
      go_enter Tryz.func106, Tryz.ntmps106
      go_wp2
      go_ret
      exact ⟨rfl, L.steps1 (steps + 1) (by omega), turn_at _ _ _⟩

end Go.Proofs.YtgedmodnkiijkaaGreatDoor

namespace Go.Proofs.YtgedmodnkiijkaaGreatDoor
open Go Go.RowKit Go.Proofs

/-- Noughts, kept shut. -/
def zeros (n : Nat) : List UInt8 := List.replicate n 0
theorem results_cell1d {fn : Func} {p : Tmp} {ty : TypeId} (h : fn.results = #[.cell p ty]) (tmps : Array Value) (P : Program) (w : World) :
    (results fn tmps).run P w = ((asAddr (tmps.getD p undef)).run P w).andThen fun a w₁ => (loadVar ty a).run P w₁ := by
  simp only [results, h]
  simp [Sem.run_bind, Result.andThen]

/-- What a sector reads as. -/
def DM.newest (D : DM) (s : Nat) : List UInt8 := (D.cac s).getLastD (D.dur s)
theorem getLastD_mem {α : Type} : ∀ (l : List α) (a : α), l ≠ [] → l.getLastD a ∈ l
  | [], a, h => absurd rfl h
  | [x], a, _ => by simp
  | x :: y :: r, a, _ => by
    rw [List.getLastD_cons, List.getLastD_cons]
    have := getLastD_mem (y :: r) x (by simp)
    rw [List.getLastD_cons] at this
    exact List.mem_cons_of_mem _ this
theorem Lay.newest_len {w : World} {bp bd bm clock : Nat} {l : List MapEntry} {v : Nat → Value} {S : Nat → Prop} {D : DM} (L : Lay w bp bd bm l clock v S D) (s : Nat) : (D.newest s).length = 256 := by
  unfold DM.newest
  rcases hc : D.cac s with _ | ⟨a, r⟩
  · exact L.dl s
  · exact L.cl s _ (by rw [hc]; exact getLastD_mem _ _ (by simp))
/-- The value that the map holds at s, nil where it holds none. -/
theorem Lay.lookup {w : World} {bp bd bm clock : Nat} {l : List MapEntry} {v : Nat → Value} {S : Nat → Prop} {D : DM} (L : Lay w bp bd bm l clock v S D) (s : Nat) :
    (Instr.lookup 108 (.map (some bm)) (.int .i64 s) false).run Tryz.prog w = .ok (v s) w := by
  have h := run_lookup_ints (P := Tryz.prog) (w := w) L.ents Tryz.underlying108 Tryz.underlying3 (z := .slice none 0 0) (by kernel_rfl) L.map s
  rw [h, L.look s]
  split
  · rename_i hc; rw [L.nil s hc]; rfl
  · rfl

theorem UB : Tryz.prog.underlying 106 = some (.array 256 5) := Tryz.underlying106
theorem SBk : (Tryz.prog.info? 106).map (·.size) = some 256 := by kernel_rfl
theorem ZB (w : World) : (zeroValue 106).run Tryz.prog w = .ok (.agg (Array.replicate 256 (.int .u8 0))) w := by
  have h := TB
  obtain ⟨i, hi, hz0, _⟩ := info_parts h
  simp [zeroValue, typeInfo, hi, hz0]
/-- An array variable of the call's own. Kept shut. -/
def varB (w : World) : World := w.alloc (.cells (Array.replicate 256 (.int .u8 0)) 106)
theorem varB_size (w : World) : (varB w).heap.size = w.heap.size + 1 := by simp [varB]
theorem varB_there (w : World) : (varB w).there w.heap.size 0 256 := fun j hj => by
  have hb : (varB w).heap[w.heap.size]? = some (.cells (Array.replicate 256 (.int .u8 0)) 106 (0, 0)) := heap_alloc_new w _
  refine ⟨?_, by simp [World.frozen?, hb]⟩
  rw [cell_of_row _ _ _ _ _ _ hb, Nat.zero_add, Array.getElem?_replicate, if_pos hj]; rfl
theorem varB_below (w : World) : Below w.heap.size w (varB w) := (Below.refl _ _).alloc (Nat.le_refl _) _
/-- An array variable in which a sector was laid. -/
theorem varB_laid (w : World) (l : List UInt8) (hl : l.length = 256) : Below w.heap.size w ((varB w).setCells w.heap.size 0 (bvs l)) ∧ ((varB w).setCells w.heap.size 0 (bvs l)).rangeAt w.heap.size 0 (bvs l) := by
  refine ⟨(varB_below w).trans ((turn_setCells (S := fun k => k = w.heap.size) rfl (bvs l) 0 (varB w)).below (fun x hx => by omega) (by rw [varB_size]; omega)), World.rangeAt_setCells_same _ _ _ _ ?_⟩
  rw [bvs_len, hl]; exact varB_there w
theorem wp_varB {ops : Array Oper} {rest : List Oper} {o : Oper} {a : Act} {w : World} {Q : Exit → Act → World → Prop} (hg : o.guard = none) (hop : o.op = Op.alloc 106)
    (hK : wpList Tryz.prog ops Q rest (a.put o.dst (.pointer (some ⟨w.heap.size, 0, none⟩))) (varB w)) : wpList Tryz.prog ops Q (o :: rest) a w :=
  wpList_plain hg fun K hK' => by
    have hrun : (Instr.alloc 106 true (.tuple #[])).run Tryz.prog w = .ok (.pointer (some ⟨w.heap.size, 0, none⟩)) (varB w) := by
      have zb := ZB
      first
        | (simp [Instr.alloc, newVar, newRow, Value.cells, varB, *]; done)
        | (simp [Instr.alloc, newVar, newRow, Value.cells, varB]; refine congrArg (fun x => w.alloc (.cells x 106)) ?_; kernel_rfl)
    unfold Oper.wp execOp
    simp only [hop, Sem.run_bind, Sem.run_pure, Result.andThen_ok, hrun]
    exact hK' _ _ hK

/-- An index into a slice of sectors. -/
theorem run_index_sec (w : World) (g n c i : Nat) (hi : i < n) : (Instr.indexAt 107 (.slice (some ⟨g, 0, none⟩) n c) (.int .i64 (i : Int))).run Tryz.prog w = .ok (.pointer (some ⟨g, i * 256, none⟩)) w := by
  have hz : (sizeOf 106).run Tryz.prog w = .ok 256 w := by
    obtain ⟨z, hz, _, hs, _⟩ := info_parts TB
    simp [sizeOf, typeInfo, hz, hs]
  have ha : (⟨g, 0, none⟩ : Addr).add (i * 256) = ⟨g, i * 256, none⟩ := by rw [Addr.add_lit, Nat.zero_add]
  simp [Instr.indexAt, asIntOf, run_underlying Tryz.underlying107, hi, ha]
theorem wp_index_sec {ops : Array Oper} {rest : List Oper} {o : Oper} {a : Act} {w : World} {Q : Exit → Act → World → Prop} (hg : o.guard = none) (x y : Operand) (hop : o.op = Op.indexAddr 107 x y)
    (g n c i : Nat) (hx : a.eval x = .slice (some ⟨g, 0, none⟩) n c) (z : Int) (hy : a.eval y = .int .i64 z) (hz : z = (i : Int)) (hi : i < n)
    (hK : wpList Tryz.prog ops Q rest (a.put o.dst (.pointer (some ⟨g, i * 256, none⟩))) w) : wpList Tryz.prog ops Q (o :: rest) a w :=
  wpList_plain hg fun K hK' => by
    subst hz
    unfold Oper.wp execOp
    simp only [hop, hx, hy, Sem.run_bind, Sem.run_pure, Result.andThen_ok, run_index_sec w g n c i hi]
    exact hK' _ _ hK

/-- A sector out of, and into, the middle of a block. -/
theorem wp_load_sec {ops : Array Oper} {rest : List Oper} {o : Oper} {a : Act} {w : World} {Q : Exit → Act → World → Prop} (hg : o.guard = none) (x : Operand) (hop : o.op = Op.load 106 x)
    (b p : Nat) (hx : a.eval x = .pointer (some ⟨b, p, none⟩)) (l : List UInt8) (hl : l.length = 256) (hc : w.rangeAt b p (bvs l))
    (hK : wpList Tryz.prog ops Q rest (a.put o.dst (.agg (bvs l).toArray)) w) : wpList Tryz.prog ops Q (o :: rest) a w :=
  wpList_load_mid hg _ x hop b p hx (bvs l) _ hc UB rfl (by rw [SBk, bvs_len, hl]) hK
theorem wp_store_sec {ops : Array Oper} {rest : List Oper} {o : Oper} {a : Act} {w : World} {Q : Exit → Act → World → Prop} (hg : o.guard = none) (x y : Operand) (hop : o.op = Op.store 106 x y)
    (b p : Nat) (hx : a.eval x = .pointer (some ⟨b, p, none⟩)) (l : List UInt8) (hy : a.eval y = .agg (bvs l).toArray) (hl : l.length = 256) (ht : w.there b p 256)
    (hK : wpList Tryz.prog ops Q rest (a.put o.dst undef) (w.setCells b p (bvs l))) : wpList Tryz.prog ops Q (o :: rest) a w :=
  wpList_store_mid hg _ x y hop b p (bvs l).toArray hx hy (by rw [List.size_toArray, bvs_len, hl]; exact ht) (by rw [SBk, List.size_toArray, bvs_len, hl]) (all_oneCell_toArray (bvs_one l)) hK

set_option maxRecDepth 100000 in
set_option maxHeartbeats 1000000 in
theorem newest_any {w : World} {bp bd bm clock : Nat} {l : List MapEntry} {v : Nat → Value} {S : Nat → Prop} {D : DM} (L : Lay w bp bd bm l clock v S D) (s : Nat) (hs : s < D.n) :
    Calls Tryz.prog 114 #[.pointer (some ⟨bp, 0, none⟩), .int .i64 s] w fun e w' => e = .returned (.agg (bvs (D.newest s)).toArray) ∧ Below w.heap.size w w' := by
  have LV : Lay (varB w) bp bd bm l clock v S D := L.keep fun k hk _ => (varB_below w).block k hk
  have c0 := LV.c0
  have c1 := LV.c1
  have hlk := LV.lookup s
  have hlen := L.newest_len s
  obtain ⟨hb, hr⟩ := varB_laid w (D.newest s) hlen
  have hbl : (bvs (D.newest s)).length = 256 := by rw [bvs_len, hlen]
  rcases hc : D.cac s with _ | ⟨x, r⟩
  · have hn := L.nil s hc
    have hd := LV.dur s hs
    have e1 : D.newest s = D.dur s := by unfold DM.newest; rw [hc]; rfl
    rw [e1] at hlen hb hr hbl ⊢
    rw [hn] at hlk
    go_enter Tryz.func114, Tryz.ntmps114
    go_wp2_with (first
      | (refine wp_varB (by rfl) (by rfl) ?_)
      | (refine wp_index_sec rfl _ _ rfl bd D.n D.cap s rfl _ rfl rfl hs ?_)
      | (refine wp_load_sec (by rfl) _ (by rfl) bd (s * 256) (by rfl) (D.dur s) hlen hd ?_)
      | (refine wp_store_sec (by rfl) _ _ (by rfl) w.heap.size 0 (by rfl) (D.dur s) (by rfl) hlen (varB_there w) ?_))
    (try simp only [Exit.inBlock, Exit.then])
    refine bodyPost_ret (v := .agg (bvs (D.dur s)).toArray) ?_ rfl ⟨rfl, hb⟩
    refine (results_cell1d Tryz.results114 _ _ _).trans ?_
    simp only [go_sem]
    have := run_loadVar_mid (P := Tryz.prog) _ _ _ 106 _ _ hr UB rfl (by rw [SBk, hbl])
    exact this
  · obtain ⟨g, c, hv, hnc, hcm⟩ := owns_form (L.row s) (by rw [hc]; simp)
    have hg : (v s).ownBlock = some g := by rw [hv]; rfl
    have hrow := LV.row s
    rw [hv] at hrow hlk
    have hk : (D.cac s).length - 1 < (D.cac s).length := by rw [hc]; simp
    have e1 : (D.cac s)[(D.cac s).length - 1] = D.newest s := by
      unfold DM.newest
      rw [← List.getLast_eq_getElem (by rw [hc]; simp), List.getLastD_eq_getLast?, List.getLast?_eq_some_getLast (by rw [hc]; simp)]; rfl
    have hd := owns_range hrow (L.cl s) rfl ((D.cac s).length - 1) hk
    rw [e1] at hd
    have hk0 : 0 < (D.cac s).length := by omega
    have hmax : (D.cac s).length ≤ 9223372036854775807 := by unfold maxLen at hcm; omega
    clear hc e1
    generalize (D.cac s).length = k at *
    go_enter Tryz.func114, Tryz.ntmps114
    go_wp2_with (first
      | (refine wp_varB (by rfl) (by rfl) ?_)
      | (refine wp_index_sec (by rfl) _ _ (by rfl) g k c (k - 1) (by rfl) _ (by rfl) (by first | rfl | omega) hk ?_)
      | (refine wp_load_sec (by rfl) _ (by rfl) g ((k - 1) * 256) (by rfl) (D.newest s) hlen hd ?_)
      | (refine wp_store_sec (by rfl) _ _ (by rfl) w.heap.size 0 (by rfl) (D.newest s) (by rfl) hlen (varB_there w) ?_))
    (try simp only [Exit.inBlock, Exit.then])
    refine bodyPost_ret (v := .agg (bvs (D.newest s)).toArray) ?_ rfl ⟨rfl, hb⟩
    refine (results_cell1d Tryz.results114 _ _ _).trans ?_
    simp only [go_sem]
    have := run_loadVar_mid (P := Tryz.prog) _ _ _ 106 _ _ hr UB rfl (by rw [SBk, hbl])
    exact this

/-- Read. -/
def DM.readE (D : DM) (s : Int) : Int := if D.off then 4 else if 0 ≤ s ∧ s < (D.n : Int) then 0 else 1
def DM.readL (D : DM) (s : Int) : List UInt8 := if D.off then [] else if 0 ≤ s ∧ s < (D.n : Int) then D.newest s.toNat else []
set_option maxRecDepth 100000 in
set_option maxHeartbeats 1000000 in
theorem read_any {w : World} {bp bd bm clock : Nat} {l : List MapEntry} {v : Nat → Value} {S : Nat → Prop} {D : DM} (L : Lay w bp bd bm l clock v S D) (s : Int) :
    Calls Tryz.prog 80 #[.pointer (some ⟨bp, 0, none⟩), .int .i64 s] w fun e w' => ∃ A n, e = .returned (.tuple #[.slice A n n, .int .i64 (D.readE s)]) ∧ Sl w' A n n (D.readL s) ∧ n ≤ 256 ∧ Below w.heap.size w w' ∧ ∀ ad, A = some ad → w.heap.size ≤ ad.block ∧ ad.block < w'.heap.size := by
  have c2 := L.c2
  unfold DM.readE DM.readL
  cases hoff : D.off with
  | true =>
    rw [hoff] at c2
    go_enter Tryz.func80, Tryz.ntmps80
    go_wp2
    go_ret2
    exact ⟨none, 0, rfl, sl_nil w, by omega, Below.refl _ _, fun ad h => by cases h⟩
  | false =>
    rw [hoff] at c2
    by_cases hs : 0 ≤ s ∧ s < (D.n : Int)
    · obtain ⟨k, rfl⟩ := Int.eq_ofNat_of_zero_le hs.1
      have hk : k < D.n := by omega
      have hlen := L.newest_len k
      have hbl : (bvs (D.newest k)).length = 256 := by rw [bvs_len, hlen]
      have H1 := has_any L (k : Int)
      rw [show decide (0 ≤ (k : Int) ∧ (k : Int) < (D.n : Int)) = true by simpa using hs] at H1
      rw [if_pos hs, if_pos hs, Int.toNat_natCast]
      simp only [Bool.false_eq_true, if_false]
      go_enter Tryz.func80, Tryz.ntmps80
      go_wp2_with fail
      refine H1.mono ?_
      rintro e w1 ⟨rfl, rfl⟩
      go_wp2_with fail
      refine (newest_any L k hk).mono ?_
      rintro e w1 ⟨rfl, hb1⟩
      obtain ⟨hb, hr⟩ := varB_laid w1 (D.newest k) hlen
      go_wp2_with (first
        | (refine wp_varB (by rfl) (by rfl) ?_)
        | (refine wp_store_sec (by rfl) _ _ (by rfl) w1.heap.size 0 (by rfl) (D.newest k) (by rfl) hlen (varB_there w1) ?_))
      go_ret2
      refine ⟨some ⟨w1.heap.size, 0, none⟩, 256, rfl, ?_, by omega, hb1.trans (hb.mono hb1.size), fun ad h => by cases h; exact ⟨hb1.size, by rw [setCells_size, varB_size]; simp⟩⟩
      have := sl_range hr (by rw [setCells_size, varB_size]; omega) (c := 256) (by omega) (by unfold maxLen; omega)
      rw [hlen] at this; exact this
    · have H1 := has_any L s
      rw [show decide (0 ≤ s ∧ s < (D.n : Int)) = false by simpa using hs] at H1
      rw [if_neg hs, if_neg hs]
      simp only [Bool.false_eq_true, if_false]
      go_enter Tryz.func80, Tryz.ntmps80
      go_wp2_with fail
      refine H1.mono ?_
      rintro e w1 ⟨rfl, rfl⟩
      go_wp2_with fail
      go_ret2
      exact ⟨none, 0, rfl, sl_nil w, by omega, Below.refl _ _, fun ad h => by cases h⟩
end Go.Proofs.YtgedmodnkiijkaaGreatDoor

namespace Go.Proofs.YtgedmodnkiijkaaGreatDoor
open Go Go.RowKit Go.Proofs
open Go.ChangeMaps (setBlock)

def DM.settle (D : DM) (s i : Nat) : DM := { D with dur := if i = 0 then D.dur else upd D.dur s ((D.cac s).getD (i - 1) []), cac := upd D.cac s [] }
theorem Lay.drew {w : World} {bp bd bm clock : Nat} {l : List MapEntry} {v : Nat → Value} {S : Nat → Prop} {D : DM} (L : Lay w bp bd bm l clock v S D) : Lay w.drew bp bd bm l clock v S D := L.keep fun _ _ _ => rfl

theorem Lay.run_delete {w : World} {bp bd bm clock : Nat} {l : List MapEntry} {v : Nat → Value} {S : Nat → Prop} {D : DM} (L : Lay w bp bd bm l clock v S D) (s : Nat) (ty : TypeId) :
    (Builtin.delete_ #[108, 3] ty #[.map (some bm), .int .i64 s]).run Tryz.prog w = .ok (.tuple #[]) (setBlock w bm (.map (delE s l).toArray clock)) :=
  run_delete_ints (P := Tryz.prog) (w := w) L.ents Tryz.underlying108 Tryz.underlying3 L.map s _ ty

set_option maxRecDepth 100000 in
set_option maxHeartbeats 2000000 in
theorem settle_any {w : World} {bp bd bm clock : Nat} {l : List MapEntry} {v : Nat → Value} {S : Nat → Prop} {D : DM} (L : Lay w bp bd bm l clock v S D) (s : Nat) (hs : s < D.n) (i : Nat) (hi : i ≤ (D.cac s).length) :
    Calls Tryz.prog 112 #[.pointer (some ⟨bp, 0, none⟩), .int .i64 s, .int .i64 i] w fun e w' => e = .returned (.tuple #[]) ∧ Lay w' bp bd bm (delE s l) clock (upd v s (.slice none 0 0)) S (D.settle s i) ∧ Turn (fun k => k = bd ∨ k = bm) w w' := by
  by_cases h0 : i = 0
  · subst h0
    have c1 := L.c1
    have hdel := L.run_delete s
    have LF := L.forget s hs
    go_enter Tryz.func112, Tryz.ntmps112
    go_wp2
    go_end0
    exact ⟨rfl, LF, turn_setBlock _ (.inr rfl)⟩
  · obtain ⟨g, c, hv, hnc, hcm⟩ := owns_form (L.row s) (by omega)
    have hg : (v s).ownBlock = some g := by rw [hv]; rfl
    have hk : i - 1 < (D.cac s).length := by omega
    have e0 : (D.cac s).getD (i - 1) [] = (D.cac s)[i - 1] := by rw [List.getD_eq_getElem?_getD, List.getElem?_eq_getElem hk]; rfl
    have hlen : ((D.cac s)[i - 1]).length = 256 := L.cl s _ (List.getElem_mem hk)
    have Ed : D.settle s i = { { D with dur := upd D.dur s (D.cac s)[i - 1] } with cac := upd D.cac s [] } := by unfold DM.settle; rw [if_neg h0, e0]
    rw [Ed]
    have hrow := L.row s
    rw [hv] at hrow
    have hd := owns_range hrow (L.cl s) rfl (i - 1) hk
    clear Ed e0 hrow
    generalize (D.cac s)[i - 1] = x at hd hlen ⊢
    have hbl : (bvs x).length = 256 := by rw [bvs_len, hlen]
    have LD := L.drew
    have c0 := LD.c0
    have c1 := LD.c1
    have hlk := LD.lookup s
    rw [hv] at hlk
    have ht := LD.durw s hs
    have hd : w.drew.rangeAt g ((i - 1) * 256) (bvs x) := hd
    have LS := LD.store s hs x hlen
    have c0' := LS.c0
    have c1' := LS.c1
    have hlk' := LS.lookup s
    rw [hv] at hlk'
    have ht' := LS.durw s hs
    have hd' : (w.drew.setCells bd (s * 256) (bvs x)).rangeAt g ((i - 1) * 256) (bvs x) := World.rangeAt_setCells_apart hd _ _ _ (.inl (L.ne.2 s g hg).2)
    have hdel := LS.run_delete s
    have LF := LS.forget s hs
    have hu := UB
    have hin : (Tryz.prog.info? 106).map (·.size) = some (bvs x).length := by rw [hbl]; exact SBk
    have h1 := bvs_one x
    have hx1 : ∀ w' : World, (Instr.indexAt 107 (.slice (some ⟨g, 0, none⟩) (D.cac s).length c) (.int .i64 ((i : Int) - 1))).run Tryz.prog w' = .ok (.pointer (some ⟨g, (i - 1) * 256, none⟩)) w' := fun w' => by
      have := run_index_sec w' g (D.cac s).length c (i - 1) hk
      rw [show ((i - 1 : Nat) : Int) = (i : Int) - 1 by omega] at this
      exact this
    have hx2 : ∀ w' : World, (Instr.indexAt 107 (.slice (some ⟨bd, 0, none⟩) D.n D.cap) (.int .i64 (s : Int))).run Tryz.prog w' = .ok (.pointer (some ⟨bd, s * 256, none⟩)) w' := fun w' => run_index_sec w' bd D.n D.cap s hs
    have hi63 : i ≤ 9223372036854775807 := by unfold maxLen at hcm; omega
    have hw : IntKind.i64.wrap ((i : Int) - 1) = (i : Int) - 1 := IntWalk.i64_in _ (by omega)
    go_enter Tryz.func112, Tryz.ntmps112
    go_wp2_with fail
    go_region_held3 (fun w' => w'.cell? ⟨bp, 0, none⟩ = some (.slice (some ⟨bd, 0, none⟩) D.n D.cap) ∧ w'.cell? ⟨bp, 1, none⟩ = some (.map (some bm)) ∧ (Instr.lookup 108 (.map (some bm)) (.int .i64 s) false).run Tryz.prog w' = .ok (.slice (some ⟨g, 0, none⟩) (D.cac s).length c) w' ∧
      w'.rangeAt g ((i - 1) * 256) (bvs x) ∧ w'.there bd (s * 256) 256) (first | exact ⟨c0, c1, hlk, hd, ht⟩ | exact ⟨c0', c1', hlk', hd', ht'⟩) (fail)
    go_wp2
    go_end0
    exact ⟨rfl, LF, ((Turn.refl _ w).drew.then (turn_setCells (.inl rfl) _ _ _)).then (turn_setBlock _ (.inr rfl))⟩
end Go.Proofs.YtgedmodnkiijkaaGreatDoor

namespace Go.Proofs.YtgedmodnkiijkaaGreatDoor
open Go Go.RowKit Go.Proofs
open Go.ChangeMaps (setBlock)

/-- The one-sector slice that append is handed. -/
def oneB (w : World) (l : List UInt8) : World := w.alloc (.cells (bvs l).toArray 106)
theorem run_build_one (w : World) (l : List UInt8) (hl : l.length = 256) : (Instr.buildSlice 107 1 #[(0, .agg (bvs l).toArray)]).run Tryz.prog w = .ok (.slice (some ⟨w.heap.size, 0, none⟩) 1 1) (oneB w l) := by
  obtain ⟨i, hi, hz0, hz1, hz2⟩ := info_parts TB
  refine run_buildSlice w _ _ 1 _ (bvs l).toArray i _ Tryz.underlying107 hi hz0 (by rw [hz1]; omega) (by rw [hz1]; omega) ?_
  have hs : (Value.agg (bvs l).toArray).cells.size = 256 := by show (bvs l).toArray.size = 256; rw [List.size_toArray, bvs_len, hl]
  have h := Great.fill_whole (s := 256) (by omega) [.agg (bvs l).toArray] ((Array.range (1 * 256)).map ((Value.agg (Array.replicate 256 (Value.int .u8 0))).cells[· % (Value.agg (Array.replicate 256 (Value.int .u8 0))).cells.size]!)) (by intro v hv; rw [List.mem_singleton.1 hv]; exact hs) (by rw [Array.size_map, Array.size_range]; rfl)
  rw [hz1]
  refine Eq.trans ?_ (h.trans ?_)
  · simp only [List.zipIdx_cons, List.zipIdx_nil, List.map_cons, List.map_nil]
  · simp [Value.cells]
theorem run_array_at (w : World) (g o c : Nat) : (Instr.arrayAt 106 (.slice (some ⟨g, o, none⟩) 256 c)).run Tryz.prog w = .ok (.pointer (some ⟨g, o, none⟩)) w := by
  simp [Instr.arrayAt, run_underlying UB]
/-- The bytes that are handed in lie elsewhere than the drive itself. -/
theorem Lay.apart {w : World} {bp bd bm clock : Nat} {l : List MapEntry} {v : Nat → Value} {S : Nat → Prop} {D : DM} (L : Lay w bp bd bm l clock v S D) {g o : Nat} {x : List UInt8} (hx : 0 < x.length) (h : w.rangeAt g o (bvs x)) : g ≠ bp := fun e => by
  subst e
  have hc := h 0 (bv x[0]) (by simp [bvs, hx])
  rw [cell_of_row w g (o + 0) _ _ _ L.me, Nat.add_zero] at hc
  rcases o with _ | _ | _ | _ | _ | _ | o <;> simp [bv] at hc
theorem Lay.run_update {w : World} {bm clock : Nat} {l : List MapEntry} (hb : w.heap[bm]? = some (.map l.toArray clock)) (E : Ents l clock) (s : Nat) (x : Value) :
    (Instr.mapUpdate 108 (.map (some bm)) (.int .i64 s) x).run Tryz.prog w = .ok () (setBlock w bm (.map (putE s x clock l).toArray (if getE s l = none then clock + 1 else clock))) :=
  run_update_ints (P := Tryz.prog) (w := w) E Tryz.underlying108 Tryz.underlying3 hb s x

/-- A sector is appended to the cached writes of s: what that leaves. -/
theorem Lay.append {w : World} {bp bd bm clock : Nat} {l : List MapEntry} {v : Nat → Value} {S : Nat → Prop} {D : DM} (L : Lay w bp bd bm l clock v S D) (s : Nat) (hs : s < D.n) (x : List UInt8) (hx : x.length = 256) (hcl : (D.cac s).length ≤ 1000000) (ty : TypeId) :
    ∃ v1 w1, (Builtin.append_ #[107, 107] ty #[v s, .slice (some ⟨w.heap.size, 0, none⟩) 1 1]).run Tryz.prog (oneB w x) = .ok v1 w1 ∧ w1.heap[bm]? = some (.map l.toArray clock) ∧ w1.cell? ⟨bp, 1, none⟩ = some (.map (some bm)) ∧
      Lay (setBlock w1 bm (.map (putE s v1 clock l).toArray (if getE s l = none then clock + 1 else clock))) bp bd bm (putE s v1 clock l) (if getE s l = none then clock + 1 else clock) (upd v s v1) (fun k => S k ∨ w.heap.size ≤ k) { D with cac := upd D.cac s (D.cac s ++ [x]) } ∧
      Turn S w (setBlock w1 bm (.map (putE s v1 clock l).toArray (if getE s l = none then clock + 1 else clock))) ∧ Turn S w w1 := by
  obtain ⟨i, hi, hz0, hz1, hz2⟩ := info_parts TB
  have La : Lay (oneB w x) bp bd bm l clock v S D := L.keep fun k hk _ => heap_alloc_old w _ hk
  have hsz : (oneB w x).heap.size = w.heap.size + 1 := by simp [oneB]
  obtain ⟨v1, w1, hrun, hown, hgrow, hnil, hat⟩ := run_append_own_at (P := Tryz.prog) (oneB w x) 0 107 ty 106 i _ 256 256 Tryz.underlying107 hi hz0 hz1 hz2 (by simp [Value.cells]) (by omega) (v s) _ _ (La.row s)
    ⟨w.heap.size, 0, none⟩ 1 1 (bvs x) (by rw [bvs_len, hx]) (fun j u hu => by unfold oneB; rw [newCell]; simpa using hu) (bvs_one x) (by unfold maxLen; omega) (by omega) (Nat.zero_le _)
  have hlt : ∀ z g, (v z).ownBlock = some g → g < w.heap.size := fun z g hg => by obtain ⟨c, t, h⟩ := L.rowblock hg; exact lt_of_heap h
  have bm1 := lt_of_heap L.map
  have old : ∀ k, k < w.heap.size → some k ≠ (v s).ownBlock → w1.heap[k]? = w.heap[k]? := fun k hk hn => (hgrow.block k (by omega) hn).trans (heap_alloc_old w _ hk)
  have hm1 : w1.heap[bm]? = some (.map l.toArray clock) := (old bm bm1 fun e => L.row_bm e.symm rfl).trans L.map
  have hp1 : w1.heap[bp]? = w.heap[bp]? := old bp (lt_of_heap L.me) fun e => (L.ne.2 s bp e.symm).1 rfl
  have hnb : ∀ g, v1.ownBlock = some g → g ≠ bm := fun g hg e => by
    rcases hown.2 with ⟨hv, _⟩ | ⟨g', cap, cur, hv, _, h3, _⟩
    · rw [hv] at hg; cases hg
    · rw [hv] at hg; cases hg; rw [show g' = bm from e, hm1] at h3; cases h3
  have hT := turn_setBlock (w := w1) (S := fun k => k = bm) (b := bm) (.map (putE s v1 clock l).toArray (if getE s l = none then clock + 1 else clock)) rfl
  refine ⟨v1, w1, hrun, hm1, (World.cell?_of_block (a := ⟨bp, 1, none⟩) hp1).trans L.c1, ?_, ?_, ⟨hgrow.os, hgrow.tape, hgrow.output, by have := hgrow.size; omega, fun k hk hn => old k hk fun e => hn (L.inS.2.2.2 s k e.symm)⟩⟩
  · refine L.setCac s hs v1 (D.cac s ++ [x]) ?_ (fun k _ h => .inl h) (fun k hk hn hr => (hT.block k (by have := hgrow.size; omega) hn).trans (old k hk hr)) (setBlock_at (lt_of_heap hm1)) (L.ents.put s v1) (fun z => ?_) (fun e he => ?_) ?_ (fun h => by simp at h) ?_
    · intro y hy
      rcases List.mem_append.1 hy with h | h
      · exact L.cl s y h
      · rw [List.mem_singleton.1 h]; exact hx
    · rw [getE_put]
      by_cases h : z = s
      · subst h; simp
      · rw [if_neg (by omega), if_neg h]
    · rcases mem_put he with h | ⟨h, _⟩
      · exact .inl h
      · right; unfold kI; rw [h]
    · rw [List.length_append, flat_snoc]
      exact owns_keep hown fun g hg => hT.block g (by
        rcases hown.2 with ⟨hv, _⟩ | ⟨g', cap, cur, hv, _, h3, _⟩
        · rw [hv] at hg; cases hg
        · rw [hv] at hg; cases hg; exact lt_of_heap h3) (hnb g hg)
    · rcases hat with h | h
      · exact .inr (.inl h)
      · exact .inr (.inr ⟨_, h, by omega, .inr (by omega)⟩)
  · refine ⟨hgrow.os, hgrow.tape, hgrow.output, by rw [setBlock_size]; have := hgrow.size; omega, fun k hk hn => ?_⟩
    rw [hT.block k (by have := hgrow.size; omega) (fun e => hn (e ▸ L.inS.2.2.1))]
    exact old k hk fun e => hn (L.inS.2.2.2 s k e.symm)

/-- Write. -/
def DM.bad (D : DM) (s : Int) (x : List UInt8) : Bool := decide (¬ (0 ≤ s ∧ s < (D.n : Int)) ∨ x.length ≠ 256)
def DM.writeE (D : DM) (s : Int) (x : List UInt8) : Int := if D.bad s x then 1 else D.err
def DM.writeD (D : DM) (s : Int) (x : List UInt8) : DM := if D.bad s x then D else if D.stop then D.stepD else { D.stepD with cac := upd D.cac s.toNat (D.cac s.toNat ++ [x]) }
/-- A slice literal of sectors, kept shut. -/
def litB (n : Nat) (parts : Array (Nat × Value)) : Sem Value := Instr.buildSlice 107 n parts
theorem litB_shut (n : Nat) (parts : Array (Nat × Value)) : Instr.buildSlice 107 n parts = litB n parts := rfl
/-- A sector's load, and append, kept shut. -/
def ldB (p : Value) : Sem Value := Instr.loadAt 106 p
theorem ldB_shut (p : Value) : Instr.loadAt 106 p = ldB p := rfl
def apB (ts : Array TypeId) (ty : TypeId) (args : Array Value) : Sem Value := Builtin.append_ ts ty args
theorem apB_shut (ts : Array TypeId) (ty : TypeId) (args : Array Value) : Builtin.append_ ts ty args = apB ts ty args := rfl
attribute [local go_sem ↓] litB_shut ldB_shut apB_shut
set_option maxRecDepth 100000 in
set_option maxHeartbeats 2000000 in
theorem write_any {w : World} {bp : Nat} {S : Nat → Prop} {D : DM} (L0 : Drv w bp S D) (s : Int) (A : Option Addr) (n c : Nat) (x : List UInt8) (h : Sl w A n c x) (hst : D.steps ≤ 1000000000) (hcl : ∀ k, (D.cac k).length ≤ 1000000) :
    Calls Tryz.prog 63 #[.pointer (some ⟨bp, 0, none⟩), .int .i64 s, .slice A n c] w fun e w' => e = .returned (.int .i64 (D.writeE s x)) ∧ Drv w' bp (fun k => S k ∨ w.heap.size ≤ k) (D.writeD s x) ∧ Turn S w w' := by
  obtain ⟨bd, bm, l, clock, v, L⟩ := L0
  have up : ∀ {w' : World} {l' clock' v' D'}, Lay w' bp bd bm l' clock' v' S D' → Drv w' bp (fun k => S k ∨ w.heap.size ≤ k) D' := fun L' => ⟨bd, bm, _, _, _, L'.mono fun _ _ h => .inl h⟩
  have hn := h.len
  have hsp : ∀ k, k = bp → S k := fun k e => e ▸ L.inS.1
  by_cases hs : 0 ≤ s ∧ s < (D.n : Int)
  · have H1 := has_any L s
    rw [show decide (0 ≤ s ∧ s < (D.n : Int)) = true by simpa using hs] at H1
    by_cases hx : x.length = 256
    · have hbad : D.bad s x = false := by simp [DM.bad, hs, hx]
      unfold DM.writeE DM.writeD
      rw [hbad]
      simp only [Bool.false_eq_true, if_false]
      obtain ⟨k, rfl⟩ := Int.eq_ofNat_of_zero_le hs.1
      have hk : k < D.n := by omega
      rw [Int.toNat_natCast]
      obtain rfl : n = 256 := by omega
      obtain ⟨g, o, rfl, hgl, hr⟩ := range_sl h (by omega)
      have hap := L.apart (by omega) hr
      have H2 := step_any L hst
      unfold DM.err at H2 ⊢
      cases hstop : D.stop with
      | true =>
        rw [hstop] at H2
        go_enter Tryz.func63, Tryz.ntmps63
        go_wp2_with fail
        refine H1.mono ?_
        rintro e w1 ⟨rfl, rfl⟩
        go_wp2_with fail
        refine H2.mono ?_
        rintro e w1 ⟨rfl, L1, T1⟩
        go_wp2_with fail
        go_ret
        exact ⟨rfl, up L1, T1.mono hsp⟩
      | false =>
        rw [hstop] at H2
        go_enter Tryz.func63, Tryz.ntmps63
        go_wp2_with fail
        refine H1.mono ?_
        rintro e w1 ⟨rfl, rfl⟩
        go_wp2_with fail
        refine H2.mono ?_
        rintro e w1 ⟨rfl, L1, T1⟩
        have hr1 : w1.drew.rangeAt g o (bvs x) := range_keep hr (T1.block g hgl hap)
        have LD := L1.drew
        have La : Lay (oneB w1.drew x) bp bd bm l clock v S D.stepD := LD.keep fun k hk _ => heap_alloc_old w1.drew _ hk
        obtain ⟨v1, w2, happ, hm2, hc2, L2, T2, T2b⟩ := LD.append k hk x hx (hcl k) 107
        have hupd := Lay.run_update hm2 L1.ents k v1
        generalize (if getE (k : Int) l = none then clock + 1 else clock) = ck at L2 T2 hupd
        have c1 := LD.c1
        have c1a := La.c1
        have c1b := L2.c1
        have hlk := LD.lookup k
        have hlka := La.lookup k
        have hbs : (litB 1 #[(0, .agg (bvs x).toArray)]).run Tryz.prog w1.drew = .ok (.slice (some ⟨w1.heap.size, 0, none⟩) 1 1) (oneB w1.drew x) := run_build_one w1.drew x hx
        have har := run_array_at
        have hld : (ldB (.pointer (some ⟨g, o, none⟩))).run Tryz.prog w1.drew = .ok (.agg (bvs x).toArray) w1.drew := run_loadAt_mid (P := Tryz.prog) w1.drew g o 106 (bvs x) _ hr1 UB rfl (by rw [SBk, bvs_len, hx])
        have happ : (apB #[107, 107] 107 #[v k, .slice (some ⟨w1.heap.size, 0, none⟩) 1 1]).run Tryz.prog (oneB w1.drew x) = .ok v1 w2 := happ
        go_wp2_with fail
        go_region
        all_goals (go_wp2; go_ret; exact ⟨rfl, ⟨bd, bm, _, _, _, L2.mono fun z _ hz => hz.imp id fun hz => by have := T1.size; simp at hz; omega⟩, ((T1.mono hsp).drew).then T2⟩)
    · have hbad : D.bad s x = true := by simp [DM.bad, hx]
      unfold DM.writeE DM.writeD
      rw [hbad]
      have hn2 : ¬ (n : Int) = 256 := by omega
      go_enter Tryz.func63, Tryz.ntmps63
      go_wp2_with fail
      refine H1.mono ?_
      rintro e w1 ⟨rfl, rfl⟩
      go_wp2_with fail
      go_ret
      exact ⟨rfl, up L, Turn.refl _ _⟩
  · have H1 := has_any L s
    rw [show decide (0 ≤ s ∧ s < (D.n : Int)) = false by simpa using hs] at H1
    have hbad : D.bad s x = true := by simp [DM.bad, hs]
    unfold DM.writeE DM.writeD
    rw [hbad]
    go_enter Tryz.func63, Tryz.ntmps63
    go_wp2_with fail
    refine H1.mono ?_
    rintro e w1 ⟨rfl, rfl⟩
    go_wp2_with fail
    go_ret
    exact ⟨rfl, up L, Turn.refl _ _⟩
end Go.Proofs.YtgedmodnkiijkaaGreatDoor

namespace Go.Proofs.YtgedmodnkiijkaaGreatDoor
open Go Go.RowKit Go.Proofs
open Go.ChangeMaps (setBlock)

def DM.mk0 (n : Nat) : DM := ⟨n, fun _ => zeros 256, fun _ => [], false, false, 0, 0, n⟩
theorem zeros_at (n : Nat) {j : Nat} (h : j < n) : (bvs (zeros n))[j]? = some (.int .u8 0) := by
  unfold bvs zeros
  rw [List.getElem?_map, List.getElem?_replicate, if_pos h]; rfl
theorem made_at (n j : Nat) (h : j < n) : (madeCells (Value.agg (Array.replicate 256 (.int .u8 0))).cells n).toList[j]? = some (.int .u8 0) := by
  unfold madeCells
  rw [Array.toList_map, List.getElem?_map, Array.toList_range, List.getElem?_range h]
  show some ((Array.replicate 256 (Value.int .u8 0))[j % (Array.replicate 256 (Value.int .u8 0)).size]!) = _
  have hlt : j % 256 < 256 := Nat.mod_lt _ (by omega)
  rw [Array.size_replicate, getElem!_pos _ _ (by rw [Array.size_replicate]; exact hlt), Array.getElem_replicate]

/-- A fresh drive, out of its three blocks. -/
theorem lay_new {w1 w' : World} {bd bm bp n : Nat} (hn : sectors n) (hown : w1.ownsRow 0 106 256 (.slice (some ⟨bd, 0, none⟩) n n) n (madeCells (Value.agg (Array.replicate 256 (.int .u8 0))).cells (n * 256)).toList)
    (h1 : w'.heap[bd]? = w1.heap[bd]?) (h2 : w'.heap[bm]? = some (.map #[] 0)) (h3 : w'.heap[bp]? = some (.cells #[.slice (some ⟨bd, 0, none⟩) n n, .map (some bm), .bool false, .bool false, .int .i64 0, .int .i64 0] 110 (0, 0)))
    (hne : bp ≠ bd) (S : Nat → Prop) (hS : S bp ∧ S bd ∧ S bm) : Lay w' bp bd bm [] 0 (fun _ => .slice none 0 0) S (DM.mk0 n) := by
  have hown' : w'.ownsRow 0 106 256 (.slice (some ⟨bd, 0, none⟩) n n) n (madeCells (Value.agg (Array.replicate 256 (.int .u8 0))).cells (n * 256)).toList := owns_keep hown fun g hg => by cases hg; exact h1
  have hc : ∀ s, s < n → ∀ j, j < 256 → w'.cell? ⟨bd, s * 256 + j, none⟩ = some (.int .u8 0) := fun s hs j hj => by
    rw [World.ownsRow.cellAt hown' _ (by omega), made_at _ _ (by omega)]
  refine ⟨h3, fun s hs j v hv => ?_, fun s hs j hj => ⟨by rw [hc s hs j hj]; rfl, World.ownsRow.frozenAt hown' _⟩, h2, ents_nil, fun s => ?_, fun e he => (by simp at he), fun s => World.ownsRow_nil _ _ _ _, fun _ _ => rfl, fun s => List.length_replicate, fun s => by simp [Secs, DM.mk0], fun _ _ => rfl,
    ⟨hS.1, hS.2.1, hS.2.2, fun s g hg => by cases hg⟩, ⟨hne, fun s g hg => by cases hg⟩, fun s s' g hg => (by cases hg), hn, by simp [DM.mk0]⟩
  · have hj : j < 256 := by
      have h0 := (List.getElem?_eq_some_iff.1 hv).1
      rw [bvs_len, show (DM.mk0 n).dur s = zeros 256 from rfl, show (zeros 256).length = 256 from List.length_replicate] at h0
      exact h0
    have h0 : (bvs (zeros 256))[j]? = some v := hv
    rw [zeros_at 256 hj] at h0
    rw [hc s hs j hj, h0]
  · simp [DM.mk0, getE]

set_option maxRecDepth 100000 in
set_option maxHeartbeats 1000000 in
theorem new_yes (n : Nat) (hn : sectors n) (w : World) :
    Calls Tryz.prog 27 #[.int .i64 n] w fun e w' => ∃ bp, e = .returned (.tuple #[.pointer (some ⟨bp, 0, none⟩), .int .i64 0]) ∧ Drv w' bp (fun k => w.heap.size ≤ k) (DM.mk0 n) ∧ Below w.heap.size w w' := by
  obtain ⟨i, hi, hz0, hz1, hz2⟩ := info_parts TB
  have hmm := @run_makeMap Tryz.prog
  have h1 : 32 ≤ n := hn.1
  have h2 : n ≤ 2048 := hn.2
  go_enter Tryz.func27, Tryz.ntmps27
  go_wp2_with (at_make; refine wpList_make_full w (by rfl) _ _ _ (by rfl) 0 106 i _ 256 Tryz.underlying107 hi hz0 hz1 .i64 .i64 n n n (by rfl) (by rfl) rfl rfl (by rw [hz2]; omega) (by unfold maxLen; omega) (Nat.zero_le _) ?_)
  intro w1 hown hgrow
  go_wp2_with fail
  go_ret2
  have hs1 := hgrow.size
  have hbd : w.heap.size < w1.heap.size := by
    have h := World.ownsRow.lt hown w.heap.size rfl
    exact h.2
  have hb : Below w.heap.size w ((w1.alloc (.map #[] 0)).alloc (.cells #[.slice (some ⟨w.heap.size, 0, none⟩) n n, .map (some w1.heap.size), .bool false, .bool false, .int .i64 0, .int .i64 0] 110)) :=
    (((Below.refl _ _).grown hgrow (Nat.le_refl _) (by simp)).alloc hs1 _).alloc (by simp; omega) _
  refine ⟨_, rfl, ⟨w.heap.size, w1.heap.size, _, _, _, lay_new hn hown ?_ ?_ ?_ (by omega) _ ⟨by omega, by omega, by omega⟩⟩, hb⟩
  · rw [heap_alloc_old _ _ (by simp; omega), heap_alloc_old _ _ hbd]
  · rw [heap_alloc_old _ _ (by simp), heap_alloc_new]
  · have e : w1.heap.size + 1 = (w1.alloc (.map #[] 0)).heap.size := by simp
    rw [e, heap_alloc_new]
end Go.Proofs.YtgedmodnkiijkaaGreatDoor
