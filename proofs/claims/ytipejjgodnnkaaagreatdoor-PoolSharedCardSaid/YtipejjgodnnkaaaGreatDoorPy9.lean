/- A drive as plain data, and how it lies in memory. The drive's small calls: has, Size, On, Steps, Cached, choice, step, Fuse; the laws' kind and filled. A sector full of a byte; the newest write of a sector; Read. -/
import Derived.Test.YtipejjgodnnkaaaGreatDoorTurn
import Derived.Test.YtipejjgodnnkaaaGreatDoorChecked
namespace Go.Proofs.YtipejjgodnnkaaaGreatDoor
open Go Go.RowKit
open Go.ChangeMaps (setBlock)

/-- A drive: of each sector what is sure, and its cached writes. -/
structure DM where
  n : Nat
  dur : Nat → List UInt8
  cac : Nat → List (List UInt8)
  off : Bool
  fused : Bool
  left : Nat
  steps : Nat
  cap : Nat

def upd {α : Type} (f : Nat → α) (s : Nat) (x : α) : Nat → α := fun k => if k = s then x else f k
theorem upd_same {α : Type} (f : Nat → α) (s : Nat) (x : α) : upd f s x s = x := by simp [upd]
theorem upd_other {α : Type} (f : Nat → α) {s k : Nat} (x : α) (h : k ≠ s) : upd f s x k = f k := by simp [upd, h]

def sectors (n : Nat) : Prop := 32 ≤ n ∧ n ≤ 2048
theorem TB : (Tryz.prog.info? 125).map (fun i => (i.zero, i.size, i.bytes)) = some (some (.agg (Array.replicate 256 (.int .u8 0))), 256, 256) := by kernel_rfl

/-- How it lies. -/
structure Lay (w : World) (bp bd bm : Nat) (l : List MapEntry) (clock : Nat) (v : Nat → Value) (S : Nat → Prop) (D : DM) : Prop where
  me : w.heap[bp]? = some (.cells #[.slice (some ⟨bd, 0, none⟩) D.n D.cap, .map (some bm), .bool D.off, .bool D.fused, .int .i64 D.left, .int .i64 D.steps] 129 (0, 0))
  dur : ∀ s, s < D.n → w.rangeAt bd (s * 256) (bvs (D.dur s))
  durw : ∀ s, s < D.n → w.there bd (s * 256) 256
  map : w.heap[bm]? = some (.map l.toArray clock)
  ents : Ents l clock
  look : ∀ s : Nat, getE s l = if D.cac s = [] then none else some (v s)
  keys : ∀ e ∈ l, ∃ s : Nat, s < D.n ∧ kI e = s
  row : ∀ s, w.ownsRow 0 125 256 (v s) (D.cac s).length (flat (D.cac s))
  nil : ∀ s, D.cac s = [] → v s = .slice none 0 0
  dl : ∀ s, (D.dur s).length = 256
  cl : ∀ s, Secs (D.cac s)
  out : ∀ s, D.n ≤ s → D.cac s = []
  inS : S bp ∧ S bd ∧ S bm ∧ ∀ s g, (v s).ownBlock = some g → S g
  ne : bp ≠ bd ∧ ∀ s g, (v s).ownBlock = some g → g ≠ bp ∧ g ≠ bd
  sep : ∀ s s' g, (v s).ownBlock = some g → (v s').ownBlock = some g → s = s'
  n32 : sectors D.n
  left : D.left ≤ 9223372036854775807

def Drv (w : World) (bp : Nat) (S : Nat → Prop) (D : DM) : Prop := ∃ bd bm l clock v, Lay w bp bd bm l clock v S D

section
variable {w w' : World} {bp bd bm clock : Nat} {l : List MapEntry} {v : Nat → Value} {S : Nat → Prop} {D : DM}
theorem Lay.pos (L : Lay w bp bd bm l clock v S D) : 0 < D.n := by have := L.n32; unfold sectors at this; omega
theorem Lay.bdlt (L : Lay w bp bd bm l clock v S D) : ∃ c t fr, w.heap[bd]? = some (.cells c t fr) := by
  have h := (L.durw 0 L.pos 0 (by omega)).1
  unfold World.cell? at h
  split at h
  · rename_i c t fr hb; exact ⟨c, t, fr, hb⟩
  · cases h
theorem Lay.bd_bm (L : Lay w bp bd bm l clock v S D) : bd ≠ bm := fun e => by
  obtain ⟨c, t, fr, h⟩ := L.bdlt
  rw [e, L.map] at h; cases h
theorem Lay.bp_bm (L : Lay w bp bd bm l clock v S D) : bp ≠ bm := fun e => by
  have h := L.me
  rw [e, L.map] at h; cases h
theorem Lay.rowblock (L : Lay w bp bd bm l clock v S D) {s g : Nat} (h : (v s).ownBlock = some g) : ∃ c t, w.heap[g]? = some (.cells c t (0, 0)) := by
  rcases (L.row s).2 with ⟨hv, _⟩ | ⟨g', cap, cur, hv, _, hg, _⟩
  · rw [hv] at h; cases h
  · rw [hv] at h; cases h; exact ⟨_, _, hg⟩
theorem Lay.row_bm (L : Lay w bp bd bm l clock v S D) {s g : Nat} (h : (v s).ownBlock = some g) : g ≠ bm := fun e => by
  obtain ⟨c, t, hg⟩ := L.rowblock h
  rw [e, L.map] at hg; cases hg
/-- Its blocks are as they were. -/
theorem Lay.keep (L : Lay w bp bd bm l clock v S D) (hk : ∀ k, k < w.heap.size → S k → w'.heap[k]? = w.heap[k]?) : Lay w' bp bd bm l clock v S D := by
  obtain ⟨c, t, fr, hbd⟩ := L.bdlt
  have e1 := hk bp (lt_of_heap L.me) L.inS.1
  have e2 := hk bd (lt_of_heap hbd) L.inS.2.1
  have e3 := hk bm (lt_of_heap L.map) L.inS.2.2.1
  exact ⟨e1.trans L.me, fun s hs => range_keep (L.dur s hs) e2, fun s hs => there_keep (L.durw s hs) e2, e3.trans L.map, L.ents, L.look, L.keys,
    fun s => owns_keep (L.row s) fun g hg => by obtain ⟨c, t, h⟩ := L.rowblock hg; exact hk g (lt_of_heap h) (L.inS.2.2.2 s g hg), L.nil, L.dl, L.cl, L.out, L.inS, L.ne, L.sep, L.n32, L.left⟩
theorem Lay.mono {S' : Nat → Prop} (L : Lay w bp bd bm l clock v S D) (h : ∀ k, k < w.heap.size → S k → S' k) : Lay w bp bd bm l clock v S' D := by
  obtain ⟨c, t, fr, hbd⟩ := L.bdlt
  exact ⟨L.me, L.dur, L.durw, L.map, L.ents, L.look, L.keys, L.row, L.nil, L.dl, L.cl, L.out,
    ⟨h _ (lt_of_heap L.me) L.inS.1, h _ (lt_of_heap hbd) L.inS.2.1, h _ (lt_of_heap L.map) L.inS.2.2.1, fun s g hg => by obtain ⟨c, t, h2⟩ := L.rowblock hg; exact h g (lt_of_heap h2) (L.inS.2.2.2 s g hg)⟩, L.ne, L.sep, L.n32, L.left⟩
/-- The struct's plain fields turn. -/
theorem Lay.struct (L : Lay w bp bd bm l clock v S D) (off fused : Bool) (left steps : Nat) (hl : left ≤ 9223372036854775807)
    (h1 : w'.heap[bp]? = some (.cells #[.slice (some ⟨bd, 0, none⟩) D.n D.cap, .map (some bm), .bool off, .bool fused, .int .i64 left, .int .i64 steps] 129 (0, 0)))
    (h2 : ∀ k, k < w.heap.size → k ≠ bp → w'.heap[k]? = w.heap[k]?) : Lay w' bp bd bm l clock v S { D with off := off, fused := fused, left := left, steps := steps } := by
  obtain ⟨c, t, fr, hbd⟩ := L.bdlt
  have e2 := h2 bd (lt_of_heap hbd) (fun e => L.ne.1 e.symm)
  have e3 := h2 bm (lt_of_heap L.map) (fun e => L.bp_bm e.symm)
  exact ⟨h1, fun s hs => range_keep (L.dur s hs) e2, fun s hs => there_keep (L.durw s hs) e2, e3.trans L.map, L.ents, L.look, L.keys,
    fun s => owns_keep (L.row s) fun g hg => by obtain ⟨c, t, h⟩ := L.rowblock hg; exact h2 g (lt_of_heap h) (L.ne.2 s g hg).1, L.nil, L.dl, L.cl, L.out, L.inS, L.ne, L.sep, L.n32, hl⟩
/-- What is sure of a sector turns. -/
theorem Lay.setDur (L : Lay w bp bd bm l clock v S D) (s : Nat) (x : List UInt8) (hx : x.length = 256)
    (h1 : ∀ k, k < w.heap.size → k ≠ bd → w'.heap[k]? = w.heap[k]?) (h2 : s < D.n → w'.rangeAt bd (s * 256) (bvs x)) (h3 : ∀ z, z < D.n → z ≠ s → w'.rangeAt bd (z * 256) (bvs (D.dur z))) (h4 : ∀ z, z < D.n → w'.there bd (z * 256) 256) :
    Lay w' bp bd bm l clock v S { D with dur := upd D.dur s x } := by
  have e1 := h1 bp (lt_of_heap L.me) L.ne.1
  have e3 := h1 bm (lt_of_heap L.map) (fun e => L.bd_bm e.symm)
  refine ⟨e1.trans L.me, fun z hz => ?_, h4, e3.trans L.map, L.ents, L.look, L.keys,
    fun s => owns_keep (L.row s) fun g hg => by obtain ⟨c, t, h⟩ := L.rowblock hg; exact h1 g (lt_of_heap h) (L.ne.2 s g hg).2, L.nil, fun z => ?_, L.cl, L.out, L.inS, L.ne, L.sep, L.n32, L.left⟩
  · show w'.rangeAt bd (z * 256) (bvs (upd D.dur s x z))
    by_cases hzs : z = s
    · subst hzs; rw [upd_same]; exact h2 hz
    · rw [upd_other _ _ hzs]; exact h3 z hz hzs
  · show (upd D.dur s x z).length = 256
    by_cases hzs : z = s
    · rw [hzs, upd_same]; exact hx
    · rw [upd_other _ _ hzs]; exact L.dl z
/-- A whole sector is laid over what was sure. -/
theorem Lay.store (L : Lay w bp bd bm l clock v S D) (s : Nat) (hs : s < D.n) (x : List UInt8) (hx : x.length = 256) :
    Lay (w.setCells bd (s * 256) (bvs x)) bp bd bm l clock v S { D with dur := upd D.dur s x } := by
  have hT := turn_setCells (S := fun k => k = bd) (b := bd) rfl (bvs x) (s * 256) w
  refine L.setDur s x hx (fun k hk hn => hT.block k hk hn) (fun _ => World.rangeAt_setCells_same _ _ _ _ ?_) (fun z hz hzs => World.rangeAt_setCells_apart (L.dur z hz) _ _ _ ?_) fun z hz => World.there_setCells (L.durw z hz) _ _ _
  · rw [bvs_len, hx]; exact L.durw s hs
  · rw [bvs_len, bvs_len, hx, L.dl z]
    rcases Nat.lt_or_gt_of_ne hzs with h | h
    · right; left; omega
    · right; right; omega
/-- The cached writes of a sector turn. -/
theorem Lay.setCac (L : Lay w bp bd bm l clock v S D) (s : Nat) (hs : s < D.n) {l' : List MapEntry} {clock' : Nat} {S' : Nat → Prop} (v1 : Value) (ls : List (List UInt8)) (hls : Secs ls)
    (hS : ∀ k, k < w.heap.size → S k → S' k) (h1 : ∀ k, k < w.heap.size → k ≠ bm → some k ≠ (v s).ownBlock → w'.heap[k]? = w.heap[k]?) (hm : w'.heap[bm]? = some (.map l'.toArray clock')) (hE : Ents l' clock')
    (hlook : ∀ z : Nat, getE z l' = if z = s then (if ls = [] then none else some v1) else getE z l) (hkeys : ∀ e ∈ l', e ∈ l ∨ kI e = s)
    (hrow : w'.ownsRow 0 125 256 v1 ls.length (flat ls)) (hnil : ls = [] → v1 = .slice none 0 0)
    (hat : v1.ownBlock = none ∨ v1.ownBlock = (v s).ownBlock ∨ ∃ g, v1.ownBlock = some g ∧ w.heap.size ≤ g ∧ S' g) :
    Lay w' bp bd bm l' clock' (upd v s v1) S' { D with cac := upd D.cac s ls } := by
  obtain ⟨c, t, fr, hbd⟩ := L.bdlt
  have b1 := lt_of_heap L.me
  have b2 := lt_of_heap hbd
  have b3 := lt_of_heap L.map
  have e1 := h1 bp b1 L.bp_bm (fun e => (L.ne.2 s bp e.symm).1 rfl)
  have e2 := h1 bd b2 L.bd_bm (fun e => (L.ne.2 s bd e.symm).2 rfl)
  have hown : ∀ z g, (upd v s v1 z).ownBlock = some g → (z ≠ s ∧ (v z).ownBlock = some g) ∨ (z = s ∧ ((v s).ownBlock = some g ∨ (w.heap.size ≤ g ∧ S' g))) := by
    intro z g hg
    by_cases hz : z = s
    · subst hz
      rw [upd_same] at hg
      rcases hat with h | h | ⟨g', h, h2, h3⟩
      · rw [h] at hg; cases hg
      · exact .inr ⟨rfl, .inl (h ▸ hg)⟩
      · rw [h] at hg; cases hg; exact .inr ⟨rfl, .inr ⟨h2, h3⟩⟩
    · rw [upd_other _ _ hz] at hg; exact .inl ⟨hz, hg⟩
  have hlt : ∀ z g, (v z).ownBlock = some g → g < w.heap.size := fun z g hg => by obtain ⟨c, t, h⟩ := L.rowblock hg; exact lt_of_heap h
  refine ⟨e1.trans L.me, fun z hz => range_keep (L.dur z hz) e2, fun z hz => there_keep (L.durw z hz) e2, hm, hE, fun z => ?_, fun e he => ?_, fun z => ?_, fun z hz => ?_, L.dl, fun z => ?_, fun z hz => ?_,
    ⟨hS _ b1 L.inS.1, hS _ b2 L.inS.2.1, hS _ b3 L.inS.2.2.1, fun z g hg => ?_⟩, ⟨L.ne.1, fun z g hg => ?_⟩, fun z z' g hg hg' => ?_, L.n32, L.left⟩
  · rw [hlook z]
    show _ = if upd D.cac s ls z = [] then none else some (upd v s v1 z)
    by_cases hz : z = s
    · rw [hz, if_pos rfl, upd_same, upd_same]
    · rw [if_neg hz, upd_other _ _ hz, upd_other _ _ hz]; exact L.look z
  · rcases hkeys e he with h | h
    · exact L.keys e h
    · exact ⟨s, hs, h⟩
  · show w'.ownsRow 0 _ 256 (upd v s v1 z) (upd D.cac s ls z).length (flat (upd D.cac s ls z))
    by_cases hz : z = s
    · rw [hz, upd_same, upd_same]; exact hrow
    · rw [upd_other _ _ hz, upd_other _ _ hz]
      exact owns_keep (L.row z) fun g hg => h1 g (hlt z g hg) (L.row_bm hg) fun e => hz (L.sep z s g hg e.symm)
  · show upd v s v1 z = _
    by_cases hzs : z = s
    · subst hzs
      rw [upd_same]; exact hnil (by simpa [upd_same] using hz)
    · rw [upd_other _ _ hzs]; exact L.nil z (by simpa [upd_other _ _ hzs] using hz)
  · show Secs (upd D.cac s ls z)
    by_cases hzs : z = s
    · rw [hzs, upd_same]; exact hls
    · rw [upd_other _ _ hzs]; exact L.cl z
  · show upd D.cac s ls z = []
    have : D.n ≤ z := hz
    rw [upd_other _ _ (by omega)]; exact L.out z hz
  · rcases hown z g hg with ⟨_, h⟩ | ⟨_, h | h⟩
    · exact hS _ (hlt z g h) (L.inS.2.2.2 z g h)
    · exact hS _ (hlt s g h) (L.inS.2.2.2 s g h)
    · exact h.2
  · rcases hown z g hg with ⟨_, h⟩ | ⟨_, h | h⟩
    · exact L.ne.2 z g h
    · exact L.ne.2 s g h
    · omega
  · rcases hown z g hg with ⟨h0, h⟩ | ⟨h0, h⟩ <;> rcases hown z' g hg' with ⟨k0, k⟩ | ⟨k0, k⟩
    · exact L.sep z z' g h k
    · rcases k with k | k
      · rw [k0]; exact L.sep z s g h k
      · have := hlt z g h; omega
    · rcases h with h | h
      · rw [h0]; exact L.sep s z' g h k
      · have := hlt z' g k; omega
    · rw [h0, k0]
/-- The cached writes of a sector are forgotten. -/
theorem Lay.forget (L : Lay w bp bd bm l clock v S D) (s : Nat) (hs : s < D.n) :
    Lay (setBlock w bm (.map (delE s l).toArray clock)) bp bd bm (delE s l) clock (upd v s (.slice none 0 0)) S { D with cac := upd D.cac s [] } := by
  have hT := turn_setBlock (w := w) (S := fun k => k = bm) (b := bm) (.map (delE s l).toArray clock) rfl
  refine L.setCac s hs _ [] (by simp [Secs]) (fun _ _ h => h) (fun k hk hn _ => hT.block k hk hn) (setBlock_at (lt_of_heap L.map)) (L.ents.del s) (fun z => ?_) (fun e he => .inl (mem_del he)) (World.ownsRow_nil _ _ _ _) (fun _ => rfl) (.inl rfl)
  rw [getE_del z L.ents.one, if_pos rfl]
  by_cases h : z = s
  · subst h; simp
  · rw [if_neg (by omega), if_neg h]
end
end Go.Proofs.YtipejjgodnnkaaaGreatDoor

namespace Go.Proofs.YtipejjgodnnkaaaGreatDoor
open Go Go.RowKit Go.Proofs

section
variable {w : World} {bp bd bm clock : Nat} {l : List MapEntry} {v : Nat → Value} {S : Nat → Prop} {D : DM}
theorem Lay.c0 (L : Lay w bp bd bm l clock v S D) : w.cell? ⟨bp, 0, none⟩ = some (.slice (some ⟨bd, 0, none⟩) D.n D.cap) := by rw [cell_of_row w bp 0 _ _ _ L.me]; rfl
theorem Lay.c1 (L : Lay w bp bd bm l clock v S D) : w.cell? ⟨bp, 1, none⟩ = some (.map (some bm)) := by rw [cell_of_row w bp 1 _ _ _ L.me]; rfl
theorem Lay.c2 (L : Lay w bp bd bm l clock v S D) : w.cell? ⟨bp, 2, none⟩ = some (.bool D.off) := by rw [cell_of_row w bp 2 _ _ _ L.me]; rfl
theorem Lay.c3 (L : Lay w bp bd bm l clock v S D) : w.cell? ⟨bp, 3, none⟩ = some (.bool D.fused) := by rw [cell_of_row w bp 3 _ _ _ L.me]; rfl
theorem Lay.c4 (L : Lay w bp bd bm l clock v S D) : w.cell? ⟨bp, 4, none⟩ = some (.int .i64 D.left) := by rw [cell_of_row w bp 4 _ _ _ L.me]; rfl
theorem Lay.c5 (L : Lay w bp bd bm l clock v S D) : w.cell? ⟨bp, 5, none⟩ = some (.int .i64 D.steps) := by rw [cell_of_row w bp 5 _ _ _ L.me]; rfl
theorem Lay.fz (L : Lay w bp bd bm l clock v S D) (j : Nat) : w.frozen? ⟨bp, j, none⟩ = false := by simp [World.frozen?, L.me]
end

theorem has_any {w : World} {bp bd bm clock : Nat} {l : List MapEntry} {v : Nat → Value} {S : Nat → Prop} {D : DM} (L : Lay w bp bd bm l clock v S D) (s : Int) :
    Calls Tryz.prog 74 #[.pointer (some ⟨bp, 0, none⟩), .int .i64 s] w fun e w' => e = .returned (.bool (decide (0 ≤ s ∧ s < (D.n : Int)))) ∧ w = w' := by
  have c0 := L.c0
  go_enter Tryz.func74, Tryz.ntmps74
  by_cases h0 : 0 ≤ s
  · by_cases h1 : s < (D.n : Int)
    · go_wp2
      go_ret
      simp [h0, h1]
    · go_wp2
      go_ret
      simp [h1]
      try omega
  · go_wp2
    go_ret
    simp
    intro; omega

theorem size_any {w : World} {bp bd bm clock : Nat} {l : List MapEntry} {v : Nat → Value} {S : Nat → Prop} {D : DM} (L : Lay w bp bd bm l clock v S D) :
    Calls Tryz.prog 88 #[.pointer (some ⟨bp, 0, none⟩)] w fun e w' => e = .returned (.int .i64 (D.n : Int)) ∧ w = w' := by
  have c0 := L.c0
  go_enter Tryz.func88, Tryz.ntmps88
  go_wp2
  go_ret
  exact ⟨rfl, rfl⟩
theorem on_any {w : World} {bp bd bm clock : Nat} {l : List MapEntry} {v : Nat → Value} {S : Nat → Prop} {D : DM} (L : Lay w bp bd bm l clock v S D) :
    Calls Tryz.prog 59 #[.pointer (some ⟨bp, 0, none⟩)] w fun e w' => e = .returned (.bool (!D.off)) ∧ w = w' := by
  have c0 := L.c2
  go_enter Tryz.func59, Tryz.ntmps59
  go_wp2
  go_ret
  exact ⟨rfl, rfl⟩
/-- How many sectors have cached writes. -/
def DM.cnt (D : DM) : Nat := ((List.range D.n).filter fun s => !(D.cac s).isEmpty).length
theorem Lay.count {w : World} {bp bd bm clock : Nat} {l : List MapEntry} {v : Nat → Value} {S : Nat → Prop} {D : DM} (L : Lay w bp bd bm l clock v S D) : l.length = D.cnt := by
  have hn : (l.map fun e => (kI e).toNat).Nodup := by
    have h := L.ents.one
    rw [List.nodup_iff_pairwise_ne, List.pairwise_map] at h ⊢
    refine h.imp_of_mem fun {a b} ha hb hne he => hne ?_
    obtain ⟨x, _, hx⟩ := L.keys a ha
    obtain ⟨y, _, hy⟩ := L.keys b hb
    rw [hx, hy] at he ⊢
    simp at he; omega
  have hp : (l.map fun e => (kI e).toNat).Perm ((List.range D.n).filter fun s => !(D.cac s).isEmpty) := by
    rw [List.perm_ext_iff_of_nodup hn (List.nodup_range.filter _)]
    intro s
    constructor
    · intro h
      obtain ⟨e, he, rfl⟩ := List.mem_map.1 h
      obtain ⟨x, hx, hk⟩ := L.keys e he
      have hl := getE_of_mem L.ents.one he
      rw [hk, L.look x] at hl
      rw [hk, Int.toNat_natCast]
      rw [List.mem_filter, List.mem_range]
      refine ⟨hx, ?_⟩
      split at hl
      · cases hl
      · rename_i hc
        cases hq : D.cac x with
        | nil => exact absurd hq hc
        | cons a b => rfl
    · intro h
      rw [List.mem_filter] at h
      have hl := L.look s
      rw [if_neg (by intro hq; rw [hq] at h; simp at h)] at hl
      obtain ⟨e, he, hk, _⟩ := getE_mem hl
      exact List.mem_map.2 ⟨e, he, by rw [hk]; simp⟩
  have := hp.length_eq
  rw [List.length_map] at this
  exact this
/-- The step is not done. -/
def DM.stop (D : DM) : Bool := D.off || (D.fused && decide (D.left = 0))
def DM.stepD (D : DM) : DM := { D with off := D.stop, left := if D.stop then D.left else if D.fused then D.left - 1 else D.left, steps := if D.stop then D.steps else D.steps + 1 }
def DM.err (D : DM) : Int := if D.stop then 4 else 0
/-- A plain field is written. -/
theorem Lay.off1 {w : World} {bp bd bm clock : Nat} {l : List MapEntry} {v : Nat → Value} {S : Nat → Prop} {D : DM} (L : Lay w bp bd bm l clock v S D) (b : Bool) :
    Lay (w.setCell ⟨bp, 2, none⟩ (.bool b)) bp bd bm l clock v S { D with off := b } :=
  L.struct b D.fused D.left D.steps L.left (by rw [setCell_at _ L.me]; rfl) fun k _ hn => Below.heap_setCell _ _ _ _ hn
theorem Lay.left1 {w : World} {bp bd bm clock : Nat} {l : List MapEntry} {v : Nat → Value} {S : Nat → Prop} {D : DM} (L : Lay w bp bd bm l clock v S D) (n : Nat) (hn : n ≤ 9223372036854775807) {x : Int} (hx : x = (n : Int)) :
    Lay (w.setCell ⟨bp, 4, none⟩ (.int .i64 x)) bp bd bm l clock v S { D with left := n } := by
  subst hx
  exact L.struct D.off D.fused n D.steps hn (by rw [setCell_at _ L.me]; rfl) fun k _ hn => Below.heap_setCell _ _ _ _ hn
theorem Lay.steps1 {w : World} {bp bd bm clock : Nat} {l : List MapEntry} {v : Nat → Value} {S : Nat → Prop} {D : DM} (L : Lay w bp bd bm l clock v S D) (n : Nat) {x : Int} (hx : x = (n : Int)) :
    Lay (w.setCell ⟨bp, 5, none⟩ (.int .i64 x)) bp bd bm l clock v S { D with steps := n } := by
  subst hx
  exact L.struct D.off D.fused D.left n L.left (by rw [setCell_at _ L.me]; rfl) fun k _ hn => Below.heap_setCell _ _ _ _ hn
theorem turn_at {bp : Nat} (w : World) (j : Nat) (u : Value) : Turn (fun k => k = bp) w (w.setCell ⟨bp, j, none⟩ u) := turn_setCell u rfl

set_option maxRecDepth 100000 in
set_option maxHeartbeats 1000000 in
theorem step_any {w : World} {bp bd bm clock : Nat} {l : List MapEntry} {v : Nat → Value} {S : Nat → Prop} {D : DM} (L : Lay w bp bd bm l clock v S D) (hst : D.steps ≤ 1000000000) :
    Calls Tryz.prog 100 #[.pointer (some ⟨bp, 0, none⟩)] w fun e w' => e = .returned (.int .i64 D.err) ∧ Lay w' bp bd bm l clock v S D.stepD ∧ Turn (fun k => k = bp) w w' := by
  have c2 := L.c2
  have c3 := L.c3
  have c4 := L.c4
  have c5 := L.c5
  have f2 := L.fz 2
  have f4 := L.fz 4
  have f5 := L.fz 5
  have hle := L.left
  obtain ⟨n, dur, cac, off, fused, left, steps, cap⟩ := D
  simp only at c2 c3 c4 c5 hst hle
  cases off with
  | true =>
    rw [show (DM.stepD ⟨n, dur, cac, true, fused, left, steps, cap⟩) = ⟨n, dur, cac, true, fused, left, steps, cap⟩ from rfl, show (DM.err ⟨n, dur, cac, true, fused, left, steps, cap⟩) = 4 from rfl]
    cases fused with
    | true =>
      by_cases h0 : left = 0
      · subst h0
        go_enter Tryz.func100, Tryz.ntmps100
        go_wp2
        go_ret
        exact ⟨rfl, L.off1 true, turn_at _ _ _⟩
      · go_enter Tryz.func100, Tryz.ntmps100
        go_wp2
        go_ret
        exact ⟨rfl, L, Turn.refl _ _⟩
    | false =>
      go_enter Tryz.func100, Tryz.ntmps100
      go_wp2
      go_ret
      exact ⟨rfl, L, Turn.refl _ _⟩
  | false =>
    cases fused with
    | true =>
      by_cases h0 : left = 0
      · subst h0
        rw [show (DM.stepD ⟨n, dur, cac, false, true, 0, steps, cap⟩) = ⟨n, dur, cac, true, true, 0, steps, cap⟩ from rfl, show (DM.err ⟨n, dur, cac, false, true, 0, steps, cap⟩) = 4 from rfl]
        go_enter Tryz.func100, Tryz.ntmps100
        go_wp2
        go_ret
        exact ⟨rfl, L.off1 true, turn_at _ _ _⟩
      · have hs : (DM.stop ⟨n, dur, cac, false, true, left, steps, cap⟩) = false := by simp [DM.stop, h0]
        have E1 : (DM.stepD ⟨n, dur, cac, false, true, left, steps, cap⟩) = ⟨n, dur, cac, false, true, left - 1, steps + 1, cap⟩ := by simp [DM.stepD, hs]
        have E2 : (DM.err ⟨n, dur, cac, false, true, left, steps, cap⟩) = 0 := by simp [DM.err, hs]
        rw [E1, E2]
        go_enter Tryz.func100, Tryz.ntmps100
        go_wp2
        go_ret
        exact ⟨rfl, (L.left1 (left - 1) (by omega) (by omega)).steps1 (steps + 1) (by omega), (turn_at _ _ _).then (turn_at _ _ _)⟩
    | false =>
      rw [show (DM.stepD ⟨n, dur, cac, false, false, left, steps, cap⟩) = ⟨n, dur, cac, false, false, left, steps + 1, cap⟩ from rfl, show (DM.err ⟨n, dur, cac, false, false, left, steps, cap⟩) = 0 from rfl]
      go_enter Tryz.func100, Tryz.ntmps100
      go_wp2
      go_ret
      exact ⟨rfl, L.steps1 (steps + 1) (by omega), turn_at _ _ _⟩

end Go.Proofs.YtipejjgodnnkaaaGreatDoor

namespace Go.Proofs.YtipejjgodnnkaaaGreatDoor
open Go Go.RowKit Go.Proofs

theorem T22 : ByteT Tryz.prog 30 5 := ⟨Tryz.underlying30, by kernel_rfl⟩
/-- Noughts, kept shut. -/
def zeros (n : Nat) : List UInt8 := List.replicate n 0
theorem results_cell1d {fn : Func} {p : Tmp} {ty : TypeId} (h : fn.results = #[.cell p ty]) (tmps : Array Value) (P : Program) (w : World) :
    (results fn tmps).run P w = ((asAddr (tmps.getD p undef)).run P w).andThen fun a w₁ => (loadVar ty a).run P w₁ := by
  simp only [results, h]
  simp [Sem.run_bind, Result.andThen]

/-- What a sector reads as. -/
def DM.newest (D : DM) (s : Nat) : List UInt8 := (D.cac s).getLastD (D.dur s)
theorem getLastD_mem {α : Type} : ∀ (l : List α) (a : α), l ≠ [] → l.getLastD a ∈ l
  | [], a, h => absurd rfl h
  | [x], a, _ => by simp
  | x :: y :: r, a, _ => by
    rw [List.getLastD_cons, List.getLastD_cons]
    have := getLastD_mem (y :: r) x (by simp)
    rw [List.getLastD_cons] at this
    exact List.mem_cons_of_mem _ this
theorem Lay.newest_len {w : World} {bp bd bm clock : Nat} {l : List MapEntry} {v : Nat → Value} {S : Nat → Prop} {D : DM} (L : Lay w bp bd bm l clock v S D) (s : Nat) : (D.newest s).length = 256 := by
  unfold DM.newest
  rcases hc : D.cac s with _ | ⟨a, r⟩
  · exact L.dl s
  · exact L.cl s _ (by rw [hc]; exact getLastD_mem _ _ (by simp))
/-- The value that the map holds at s, nil where it holds none. -/
theorem Lay.lookup {w : World} {bp bd bm clock : Nat} {l : List MapEntry} {v : Nat → Value} {S : Nat → Prop} {D : DM} (L : Lay w bp bd bm l clock v S D) (s : Nat) :
    (Instr.lookup 127 (.map (some bm)) (.int .i64 s) false).run Tryz.prog w = .ok (v s) w := by
  have h := run_lookup_ints (P := Tryz.prog) (w := w) L.ents Tryz.underlying127 Tryz.underlying3 (z := .slice none 0 0) (by kernel_rfl) L.map s
  rw [h, L.look s]
  split
  · rename_i hc; rw [L.nil s hc]; rfl
  · rfl

theorem UB : Tryz.prog.underlying 125 = some (.array 256 5) := Tryz.underlying125
theorem SBk : (Tryz.prog.info? 125).map (·.size) = some 256 := by kernel_rfl
theorem ZB (w : World) : (zeroValue 125).run Tryz.prog w = .ok (.agg (Array.replicate 256 (.int .u8 0))) w := by
  have h := TB
  obtain ⟨i, hi, hz0, _⟩ := info_parts h
  simp [zeroValue, typeInfo, hi, hz0]
/-- An array variable of the call's own. Kept shut. -/
def varB (w : World) : World := w.alloc (.cells (Array.replicate 256 (.int .u8 0)) 125)
theorem varB_size (w : World) : (varB w).heap.size = w.heap.size + 1 := by simp [varB]
theorem varB_there (w : World) : (varB w).there w.heap.size 0 256 := fun j hj => by
  have hb : (varB w).heap[w.heap.size]? = some (.cells (Array.replicate 256 (.int .u8 0)) 125 (0, 0)) := heap_alloc_new w _
  refine ⟨?_, by simp [World.frozen?, hb]⟩
  rw [cell_of_row _ _ _ _ _ _ hb, Nat.zero_add, Array.getElem?_replicate, if_pos hj]; rfl
theorem varB_below (w : World) : Below w.heap.size w (varB w) := (Below.refl _ _).alloc (Nat.le_refl _) _
/-- An array variable in which a sector was laid. -/
theorem varB_laid (w : World) (l : List UInt8) (hl : l.length = 256) : Below w.heap.size w ((varB w).setCells w.heap.size 0 (bvs l)) ∧ ((varB w).setCells w.heap.size 0 (bvs l)).rangeAt w.heap.size 0 (bvs l) := by
  refine ⟨(varB_below w).trans ((turn_setCells (S := fun k => k = w.heap.size) rfl (bvs l) 0 (varB w)).below (fun x hx => by omega) (by rw [varB_size]; omega)), World.rangeAt_setCells_same _ _ _ _ ?_⟩
  rw [bvs_len, hl]; exact varB_there w
theorem wp_varB {ops : Array Oper} {rest : List Oper} {o : Oper} {a : Act} {w : World} {Q : Exit → Act → World → Prop} (hg : o.guard = none) (hop : o.op = Op.alloc 125)
    (hK : wpList Tryz.prog ops Q rest (a.put o.dst (.pointer (some ⟨w.heap.size, 0, none⟩))) (varB w)) : wpList Tryz.prog ops Q (o :: rest) a w :=
  wpList_plain hg fun K hK' => by
    have hrun : (Instr.alloc 125 true (.tuple #[])).run Tryz.prog w = .ok (.pointer (some ⟨w.heap.size, 0, none⟩)) (varB w) := by
      have zb := ZB
      first
        | (simp [Instr.alloc, newVar, newRow, Value.cells, varB, *]; done)
        | (simp [Instr.alloc, newVar, newRow, Value.cells, varB]; refine congrArg (fun x => w.alloc (.cells x 125)) ?_; kernel_rfl)
    unfold Oper.wp execOp
    simp only [hop, Sem.run_bind, Sem.run_pure, Result.andThen_ok, hrun]
    exact hK' _ _ hK

/-- An index into a slice of sectors. -/
theorem run_index_sec (w : World) (g n c i : Nat) (hi : i < n) : (Instr.indexAt 126 (.slice (some ⟨g, 0, none⟩) n c) (.int .i64 (i : Int))).run Tryz.prog w = .ok (.pointer (some ⟨g, i * 256, none⟩)) w := by
  have hz : (sizeOf 125).run Tryz.prog w = .ok 256 w := by
    obtain ⟨z, hz, _, hs, _⟩ := info_parts TB
    simp [sizeOf, typeInfo, hz, hs]
  have ha : (⟨g, 0, none⟩ : Addr).add (i * 256) = ⟨g, i * 256, none⟩ := by rw [Addr.add_lit, Nat.zero_add]
  simp [Instr.indexAt, asIntOf, run_underlying Tryz.underlying126, hi, ha]
theorem wp_index_sec {ops : Array Oper} {rest : List Oper} {o : Oper} {a : Act} {w : World} {Q : Exit → Act → World → Prop} (hg : o.guard = none) (x y : Operand) (hop : o.op = Op.indexAddr 126 x y)
    (g n c i : Nat) (hx : a.eval x = .slice (some ⟨g, 0, none⟩) n c) (z : Int) (hy : a.eval y = .int .i64 z) (hz : z = (i : Int)) (hi : i < n)
    (hK : wpList Tryz.prog ops Q rest (a.put o.dst (.pointer (some ⟨g, i * 256, none⟩))) w) : wpList Tryz.prog ops Q (o :: rest) a w :=
  wpList_plain hg fun K hK' => by
    subst hz
    unfold Oper.wp execOp
    simp only [hop, hx, hy, Sem.run_bind, Sem.run_pure, Result.andThen_ok, run_index_sec w g n c i hi]
    exact hK' _ _ hK

/-- A sector out of, and into, the middle of a block. -/
theorem wp_load_sec {ops : Array Oper} {rest : List Oper} {o : Oper} {a : Act} {w : World} {Q : Exit → Act → World → Prop} (hg : o.guard = none) (x : Operand) (hop : o.op = Op.load 125 x)
    (b p : Nat) (hx : a.eval x = .pointer (some ⟨b, p, none⟩)) (l : List UInt8) (hl : l.length = 256) (hc : w.rangeAt b p (bvs l))
    (hK : wpList Tryz.prog ops Q rest (a.put o.dst (.agg (bvs l).toArray)) w) : wpList Tryz.prog ops Q (o :: rest) a w :=
  wpList_load_mid hg _ x hop b p hx (bvs l) _ hc UB rfl (by rw [SBk, bvs_len, hl]) hK
theorem wp_store_sec {ops : Array Oper} {rest : List Oper} {o : Oper} {a : Act} {w : World} {Q : Exit → Act → World → Prop} (hg : o.guard = none) (x y : Operand) (hop : o.op = Op.store 125 x y)
    (b p : Nat) (hx : a.eval x = .pointer (some ⟨b, p, none⟩)) (l : List UInt8) (hy : a.eval y = .agg (bvs l).toArray) (hl : l.length = 256) (ht : w.there b p 256)
    (hK : wpList Tryz.prog ops Q rest (a.put o.dst undef) (w.setCells b p (bvs l))) : wpList Tryz.prog ops Q (o :: rest) a w :=
  wpList_store_mid hg _ x y hop b p (bvs l).toArray hx hy (by rw [List.size_toArray, bvs_len, hl]; exact ht) (by rw [SBk, List.size_toArray, bvs_len, hl]) (all_oneCell_toArray (bvs_one l)) hK

set_option maxRecDepth 100000 in
set_option maxHeartbeats 1000000 in
theorem newest_any {w : World} {bp bd bm clock : Nat} {l : List MapEntry} {v : Nat → Value} {S : Nat → Prop} {D : DM} (L : Lay w bp bd bm l clock v S D) (s : Nat) (hs : s < D.n) :
    Calls Tryz.prog 150 #[.pointer (some ⟨bp, 0, none⟩), .int .i64 s] w fun e w' => e = .returned (.agg (bvs (D.newest s)).toArray) ∧ Below w.heap.size w w' := by
  have LV : Lay (varB w) bp bd bm l clock v S D := L.keep fun k hk _ => (varB_below w).block k hk
  have c0 := LV.c0
  have c1 := LV.c1
  have hlk := LV.lookup s
  have hlen := L.newest_len s
  obtain ⟨hb, hr⟩ := varB_laid w (D.newest s) hlen
  have hbl : (bvs (D.newest s)).length = 256 := by rw [bvs_len, hlen]
  rcases hc : D.cac s with _ | ⟨x, r⟩
  · have hn := L.nil s hc
    have hd := LV.dur s hs
    have e1 : D.newest s = D.dur s := by unfold DM.newest; rw [hc]; rfl
    rw [e1] at hlen hb hr hbl ⊢
    rw [hn] at hlk
    go_enter Tryz.func150, Tryz.ntmps150
    go_wp2_with (first
      | (refine wp_varB (by rfl) (by rfl) ?_)
      | (refine wp_index_sec rfl _ _ rfl bd D.n D.cap s rfl _ rfl rfl hs ?_)
      | (refine wp_load_sec (by rfl) _ (by rfl) bd (s * 256) (by rfl) (D.dur s) hlen hd ?_)
      | (refine wp_store_sec (by rfl) _ _ (by rfl) w.heap.size 0 (by rfl) (D.dur s) (by rfl) hlen (varB_there w) ?_))
    (try simp only [Exit.inBlock, Exit.then])
    refine bodyPost_ret (v := .agg (bvs (D.dur s)).toArray) ?_ rfl ⟨rfl, hb⟩
    refine (results_cell1d Tryz.results150 _ _ _).trans ?_
    simp only [go_sem]
    have := run_loadVar_mid (P := Tryz.prog) _ _ _ 125 _ _ hr UB rfl (by rw [SBk, hbl])
    exact this
  · obtain ⟨g, c, hv, hnc, hcm⟩ := owns_form (L.row s) (by rw [hc]; simp)
    have hg : (v s).ownBlock = some g := by rw [hv]; rfl
    have hrow := LV.row s
    rw [hv] at hrow hlk
    have hk : (D.cac s).length - 1 < (D.cac s).length := by rw [hc]; simp
    have e1 : (D.cac s)[(D.cac s).length - 1] = D.newest s := by
      unfold DM.newest
      rw [← List.getLast_eq_getElem (by rw [hc]; simp), List.getLastD_eq_getLast?, List.getLast?_eq_some_getLast (by rw [hc]; simp)]; rfl
    have hd := owns_range hrow (L.cl s) rfl ((D.cac s).length - 1) hk
    rw [e1] at hd
    have hk0 : 0 < (D.cac s).length := by omega
    have hmax : (D.cac s).length ≤ 9223372036854775807 := by unfold maxLen at hcm; omega
    clear hc e1
    generalize (D.cac s).length = k at *
    go_enter Tryz.func150, Tryz.ntmps150
    go_wp2_with (first
      | (refine wp_varB (by rfl) (by rfl) ?_)
      | (refine wp_index_sec (by rfl) _ _ (by rfl) g k c (k - 1) (by rfl) _ (by rfl) (by first | rfl | omega) hk ?_)
      | (refine wp_load_sec (by rfl) _ (by rfl) g ((k - 1) * 256) (by rfl) (D.newest s) hlen hd ?_)
      | (refine wp_store_sec (by rfl) _ _ (by rfl) w.heap.size 0 (by rfl) (D.newest s) (by rfl) hlen (varB_there w) ?_))
    (try simp only [Exit.inBlock, Exit.then])
    refine bodyPost_ret (v := .agg (bvs (D.newest s)).toArray) ?_ rfl ⟨rfl, hb⟩
    refine (results_cell1d Tryz.results150 _ _ _).trans ?_
    simp only [go_sem]
    have := run_loadVar_mid (P := Tryz.prog) _ _ _ 125 _ _ hr UB rfl (by rw [SBk, hbl])
    exact this

/-- Read. -/
def DM.readE (D : DM) (s : Int) : Int := if D.off then 4 else if 0 ≤ s ∧ s < (D.n : Int) then 0 else 1
def DM.readL (D : DM) (s : Int) : List UInt8 := if D.off then [] else if 0 ≤ s ∧ s < (D.n : Int) then D.newest s.toNat else []
set_option maxRecDepth 100000 in
set_option maxHeartbeats 1000000 in
theorem read_any {w : World} {bp bd bm clock : Nat} {l : List MapEntry} {v : Nat → Value} {S : Nat → Prop} {D : DM} (L : Lay w bp bd bm l clock v S D) (s : Int) :
    Calls Tryz.prog 93 #[.pointer (some ⟨bp, 0, none⟩), .int .i64 s] w fun e w' => ∃ A n, e = .returned (.tuple #[.slice A n n, .int .i64 (D.readE s)]) ∧ Sl w' A n n (D.readL s) ∧ n ≤ 256 ∧ Below w.heap.size w w' ∧ ∀ ad, A = some ad → w.heap.size ≤ ad.block ∧ ad.block < w'.heap.size := by
  have c2 := L.c2
  unfold DM.readE DM.readL
  cases hoff : D.off with
  | true =>
    rw [hoff] at c2
    go_enter Tryz.func93, Tryz.ntmps93
    go_wp2
    go_ret2
    exact ⟨none, 0, rfl, sl_nil w, by omega, Below.refl _ _, fun ad h => by cases h⟩
  | false =>
    rw [hoff] at c2
    by_cases hs : 0 ≤ s ∧ s < (D.n : Int)
    · obtain ⟨k, rfl⟩ := Int.eq_ofNat_of_zero_le hs.1
      have hk : k < D.n := by omega
      have hlen := L.newest_len k
      have hbl : (bvs (D.newest k)).length = 256 := by rw [bvs_len, hlen]
      have H1 := has_any L (k : Int)
      rw [show decide (0 ≤ (k : Int) ∧ (k : Int) < (D.n : Int)) = true by simpa using hs] at H1
      rw [if_pos hs, if_pos hs, Int.toNat_natCast]
      simp only [Bool.false_eq_true, if_false]
      go_enter Tryz.func93, Tryz.ntmps93
      go_wp2_with fail
      refine H1.mono ?_
      rintro e w1 ⟨rfl, rfl⟩
      go_wp2_with fail
      refine (newest_any L k hk).mono ?_
      rintro e w1 ⟨rfl, hb1⟩
      obtain ⟨hb, hr⟩ := varB_laid w1 (D.newest k) hlen
      go_wp2_with (first
        | (refine wp_varB (by rfl) (by rfl) ?_)
        | (refine wp_store_sec (by rfl) _ _ (by rfl) w1.heap.size 0 (by rfl) (D.newest k) (by rfl) hlen (varB_there w1) ?_))
      go_ret2
      refine ⟨some ⟨w1.heap.size, 0, none⟩, 256, rfl, ?_, by omega, hb1.trans (hb.mono hb1.size), fun ad h => by cases h; exact ⟨hb1.size, by rw [setCells_size, varB_size]; simp⟩⟩
      have := sl_range hr (by rw [setCells_size, varB_size]; omega) (c := 256) (by omega) (by unfold maxLen; omega)
      rw [hlen] at this; exact this
    · have H1 := has_any L s
      rw [show decide (0 ≤ s ∧ s < (D.n : Int)) = false by simpa using hs] at H1
      rw [if_neg hs, if_neg hs]
      simp only [Bool.false_eq_true, if_false]
      go_enter Tryz.func93, Tryz.ntmps93
      go_wp2_with fail
      refine H1.mono ?_
      rintro e w1 ⟨rfl, rfl⟩
      go_wp2_with fail
      go_ret2
      exact ⟨none, 0, rfl, sl_nil w, by omega, Below.refl _ _, fun ad h => by cases h⟩
end Go.Proofs.YtipejjgodnnkaaaGreatDoor
