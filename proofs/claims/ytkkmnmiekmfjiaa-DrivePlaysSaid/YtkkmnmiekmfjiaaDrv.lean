/- A drive as plain data, and how it lies in memory. -/
import Derived.Test.YtkkmnmiekmfjiaaTurn
import Derived.Test.YtkkmnmiekmfjiaaChecked
namespace Go.Proofs.Ytkkmnmiekmfjiaa
open Go Go.RowKit
open Go.ChangeMaps (setBlock)

/-- A drive: of each sector what is sure, and its cached writes. -/
structure DM where
  n : Nat
  dur : Nat → List UInt8
  cac : Nat → List (List UInt8)
  off : Bool
  fused : Bool
  left : Nat
  steps : Nat
  cap : Nat

def upd {α : Type} (f : Nat → α) (s : Nat) (x : α) : Nat → α := fun k => if k = s then x else f k
theorem upd_same {α : Type} (f : Nat → α) (s : Nat) (x : α) : upd f s x s = x := by simp [upd]
theorem upd_other {α : Type} (f : Nat → α) {s k : Nat} (x : α) (h : k ≠ s) : upd f s x k = f k := by simp [upd, h]

def sectors (n : Nat) : Prop := 32 ≤ n ∧ n ≤ 2048
theorem TB : (Try.prog.info? 57).map (fun i => (i.zero, i.size, i.bytes)) = some (some (.agg (Array.replicate 256 (.int .u8 0))), 256, 256) := by kernel_rfl

/-- How it lies. -/
structure Lay (w : World) (bp bd bm : Nat) (l : List MapEntry) (clock : Nat) (v : Nat → Value) (S : Nat → Prop) (D : DM) : Prop where
  me : w.heap[bp]? = some (.cells #[.slice (some ⟨bd, 0, none⟩) D.n D.cap, .map (some bm), .bool D.off, .bool D.fused, .int .i64 D.left, .int .i64 D.steps] 53 (0, 0))
  dur : ∀ s, s < D.n → w.rangeAt bd (s * 256) (bvs (D.dur s))
  durw : ∀ s, s < D.n → w.there bd (s * 256) 256
  map : w.heap[bm]? = some (.map l.toArray clock)
  ents : Ents l clock
  look : ∀ s : Nat, getE s l = if D.cac s = [] then none else some (v s)
  keys : ∀ e ∈ l, ∃ s : Nat, s < D.n ∧ kI e = s
  row : ∀ s, w.ownsRow 0 57 256 (v s) (D.cac s).length (flat (D.cac s))
  nil : ∀ s, D.cac s = [] → v s = .slice none 0 0
  dl : ∀ s, (D.dur s).length = 256
  cl : ∀ s, Secs (D.cac s)
  out : ∀ s, D.n ≤ s → D.cac s = []
  inS : S bp ∧ S bd ∧ S bm ∧ ∀ s g, (v s).ownBlock = some g → S g
  ne : bp ≠ bd ∧ ∀ s g, (v s).ownBlock = some g → g ≠ bp ∧ g ≠ bd
  sep : ∀ s s' g, (v s).ownBlock = some g → (v s').ownBlock = some g → s = s'
  n32 : sectors D.n
  left : D.left ≤ 9223372036854775807

def Drv (w : World) (bp : Nat) (S : Nat → Prop) (D : DM) : Prop := ∃ bd bm l clock v, Lay w bp bd bm l clock v S D

section
variable {w w' : World} {bp bd bm clock : Nat} {l : List MapEntry} {v : Nat → Value} {S : Nat → Prop} {D : DM}
theorem Lay.pos (L : Lay w bp bd bm l clock v S D) : 0 < D.n := by have := L.n32; unfold sectors at this; omega
theorem Lay.bdlt (L : Lay w bp bd bm l clock v S D) : ∃ c t fr, w.heap[bd]? = some (.cells c t fr) := by
  have h := (L.durw 0 L.pos 0 (by omega)).1
  unfold World.cell? at h
  split at h
  · rename_i c t fr hb; exact ⟨c, t, fr, hb⟩
  · cases h
theorem Lay.bd_bm (L : Lay w bp bd bm l clock v S D) : bd ≠ bm := fun e => by
  obtain ⟨c, t, fr, h⟩ := L.bdlt
  rw [e, L.map] at h; cases h
theorem Lay.bp_bm (L : Lay w bp bd bm l clock v S D) : bp ≠ bm := fun e => by
  have h := L.me
  rw [e, L.map] at h; cases h
theorem Lay.rowblock (L : Lay w bp bd bm l clock v S D) {s g : Nat} (h : (v s).ownBlock = some g) : ∃ c t, w.heap[g]? = some (.cells c t (0, 0)) := by
  rcases (L.row s).2 with ⟨hv, _⟩ | ⟨g', cap, cur, hv, _, hg, _⟩
  · rw [hv] at h; cases h
  · rw [hv] at h; cases h; exact ⟨_, _, hg⟩
theorem Lay.row_bm (L : Lay w bp bd bm l clock v S D) {s g : Nat} (h : (v s).ownBlock = some g) : g ≠ bm := fun e => by
  obtain ⟨c, t, hg⟩ := L.rowblock h
  rw [e, L.map] at hg; cases hg
/-- Its blocks are as they were. -/
theorem Lay.keep (L : Lay w bp bd bm l clock v S D) (hk : ∀ k, k < w.heap.size → S k → w'.heap[k]? = w.heap[k]?) : Lay w' bp bd bm l clock v S D := by
  obtain ⟨c, t, fr, hbd⟩ := L.bdlt
  have e1 := hk bp (lt_of_heap L.me) L.inS.1
  have e2 := hk bd (lt_of_heap hbd) L.inS.2.1
  have e3 := hk bm (lt_of_heap L.map) L.inS.2.2.1
  exact ⟨e1.trans L.me, fun s hs => range_keep (L.dur s hs) e2, fun s hs => there_keep (L.durw s hs) e2, e3.trans L.map, L.ents, L.look, L.keys,
    fun s => owns_keep (L.row s) fun g hg => by obtain ⟨c, t, h⟩ := L.rowblock hg; exact hk g (lt_of_heap h) (L.inS.2.2.2 s g hg), L.nil, L.dl, L.cl, L.out, L.inS, L.ne, L.sep, L.n32, L.left⟩
theorem Lay.mono {S' : Nat → Prop} (L : Lay w bp bd bm l clock v S D) (h : ∀ k, k < w.heap.size → S k → S' k) : Lay w bp bd bm l clock v S' D := by
  obtain ⟨c, t, fr, hbd⟩ := L.bdlt
  exact ⟨L.me, L.dur, L.durw, L.map, L.ents, L.look, L.keys, L.row, L.nil, L.dl, L.cl, L.out,
    ⟨h _ (lt_of_heap L.me) L.inS.1, h _ (lt_of_heap hbd) L.inS.2.1, h _ (lt_of_heap L.map) L.inS.2.2.1, fun s g hg => by obtain ⟨c, t, h2⟩ := L.rowblock hg; exact h g (lt_of_heap h2) (L.inS.2.2.2 s g hg)⟩, L.ne, L.sep, L.n32, L.left⟩
/-- The struct's plain fields turn. -/
theorem Lay.struct (L : Lay w bp bd bm l clock v S D) (off fused : Bool) (left steps : Nat) (hl : left ≤ 9223372036854775807)
    (h1 : w'.heap[bp]? = some (.cells #[.slice (some ⟨bd, 0, none⟩) D.n D.cap, .map (some bm), .bool off, .bool fused, .int .i64 left, .int .i64 steps] 53 (0, 0)))
    (h2 : ∀ k, k < w.heap.size → k ≠ bp → w'.heap[k]? = w.heap[k]?) : Lay w' bp bd bm l clock v S { D with off := off, fused := fused, left := left, steps := steps } := by
  obtain ⟨c, t, fr, hbd⟩ := L.bdlt
  have e2 := h2 bd (lt_of_heap hbd) (fun e => L.ne.1 e.symm)
  have e3 := h2 bm (lt_of_heap L.map) (fun e => L.bp_bm e.symm)
  exact ⟨h1, fun s hs => range_keep (L.dur s hs) e2, fun s hs => there_keep (L.durw s hs) e2, e3.trans L.map, L.ents, L.look, L.keys,
    fun s => owns_keep (L.row s) fun g hg => by obtain ⟨c, t, h⟩ := L.rowblock hg; exact h2 g (lt_of_heap h) (L.ne.2 s g hg).1, L.nil, L.dl, L.cl, L.out, L.inS, L.ne, L.sep, L.n32, hl⟩
/-- What is sure of a sector turns. -/
theorem Lay.setDur (L : Lay w bp bd bm l clock v S D) (s : Nat) (x : List UInt8) (hx : x.length = 256)
    (h1 : ∀ k, k < w.heap.size → k ≠ bd → w'.heap[k]? = w.heap[k]?) (h2 : s < D.n → w'.rangeAt bd (s * 256) (bvs x)) (h3 : ∀ z, z < D.n → z ≠ s → w'.rangeAt bd (z * 256) (bvs (D.dur z))) (h4 : ∀ z, z < D.n → w'.there bd (z * 256) 256) :
    Lay w' bp bd bm l clock v S { D with dur := upd D.dur s x } := by
  have e1 := h1 bp (lt_of_heap L.me) L.ne.1
  have e3 := h1 bm (lt_of_heap L.map) (fun e => L.bd_bm e.symm)
  refine ⟨e1.trans L.me, fun z hz => ?_, h4, e3.trans L.map, L.ents, L.look, L.keys,
    fun s => owns_keep (L.row s) fun g hg => by obtain ⟨c, t, h⟩ := L.rowblock hg; exact h1 g (lt_of_heap h) (L.ne.2 s g hg).2, L.nil, fun z => ?_, L.cl, L.out, L.inS, L.ne, L.sep, L.n32, L.left⟩
  · show w'.rangeAt bd (z * 256) (bvs (upd D.dur s x z))
    by_cases hzs : z = s
    · subst hzs; rw [upd_same]; exact h2 hz
    · rw [upd_other _ _ hzs]; exact h3 z hz hzs
  · show (upd D.dur s x z).length = 256
    by_cases hzs : z = s
    · rw [hzs, upd_same]; exact hx
    · rw [upd_other _ _ hzs]; exact L.dl z
/-- A whole sector is laid over what was sure. -/
theorem Lay.store (L : Lay w bp bd bm l clock v S D) (s : Nat) (hs : s < D.n) (x : List UInt8) (hx : x.length = 256) :
    Lay (w.setCells bd (s * 256) (bvs x)) bp bd bm l clock v S { D with dur := upd D.dur s x } := by
  have hT := turn_setCells (S := fun k => k = bd) (b := bd) rfl (bvs x) (s * 256) w
  refine L.setDur s x hx (fun k hk hn => hT.block k hk hn) (fun _ => World.rangeAt_setCells_same _ _ _ _ ?_) (fun z hz hzs => World.rangeAt_setCells_apart (L.dur z hz) _ _ _ ?_) fun z hz => World.there_setCells (L.durw z hz) _ _ _
  · rw [bvs_len, hx]; exact L.durw s hs
  · rw [bvs_len, bvs_len, hx, L.dl z]
    rcases Nat.lt_or_gt_of_ne hzs with h | h
    · right; left; omega
    · right; right; omega
/-- The cached writes of a sector turn. -/
theorem Lay.setCac (L : Lay w bp bd bm l clock v S D) (s : Nat) (hs : s < D.n) {l' : List MapEntry} {clock' : Nat} {S' : Nat → Prop} (v1 : Value) (ls : List (List UInt8)) (hls : Secs ls)
    (hS : ∀ k, k < w.heap.size → S k → S' k) (h1 : ∀ k, k < w.heap.size → k ≠ bm → some k ≠ (v s).ownBlock → w'.heap[k]? = w.heap[k]?) (hm : w'.heap[bm]? = some (.map l'.toArray clock')) (hE : Ents l' clock')
    (hlook : ∀ z : Nat, getE z l' = if z = s then (if ls = [] then none else some v1) else getE z l) (hkeys : ∀ e ∈ l', e ∈ l ∨ kI e = s)
    (hrow : w'.ownsRow 0 57 256 v1 ls.length (flat ls)) (hnil : ls = [] → v1 = .slice none 0 0)
    (hat : v1.ownBlock = none ∨ v1.ownBlock = (v s).ownBlock ∨ ∃ g, v1.ownBlock = some g ∧ w.heap.size ≤ g ∧ S' g) :
    Lay w' bp bd bm l' clock' (upd v s v1) S' { D with cac := upd D.cac s ls } := by
  obtain ⟨c, t, fr, hbd⟩ := L.bdlt
  have b1 := lt_of_heap L.me
  have b2 := lt_of_heap hbd
  have b3 := lt_of_heap L.map
  have e1 := h1 bp b1 L.bp_bm (fun e => (L.ne.2 s bp e.symm).1 rfl)
  have e2 := h1 bd b2 L.bd_bm (fun e => (L.ne.2 s bd e.symm).2 rfl)
  have hown : ∀ z g, (upd v s v1 z).ownBlock = some g → (z ≠ s ∧ (v z).ownBlock = some g) ∨ (z = s ∧ ((v s).ownBlock = some g ∨ (w.heap.size ≤ g ∧ S' g))) := by
    intro z g hg
    by_cases hz : z = s
    · subst hz
      rw [upd_same] at hg
      rcases hat with h | h | ⟨g', h, h2, h3⟩
      · rw [h] at hg; cases hg
      · exact .inr ⟨rfl, .inl (h ▸ hg)⟩
      · rw [h] at hg; cases hg; exact .inr ⟨rfl, .inr ⟨h2, h3⟩⟩
    · rw [upd_other _ _ hz] at hg; exact .inl ⟨hz, hg⟩
  have hlt : ∀ z g, (v z).ownBlock = some g → g < w.heap.size := fun z g hg => by obtain ⟨c, t, h⟩ := L.rowblock hg; exact lt_of_heap h
  refine ⟨e1.trans L.me, fun z hz => range_keep (L.dur z hz) e2, fun z hz => there_keep (L.durw z hz) e2, hm, hE, fun z => ?_, fun e he => ?_, fun z => ?_, fun z hz => ?_, L.dl, fun z => ?_, fun z hz => ?_,
    ⟨hS _ b1 L.inS.1, hS _ b2 L.inS.2.1, hS _ b3 L.inS.2.2.1, fun z g hg => ?_⟩, ⟨L.ne.1, fun z g hg => ?_⟩, fun z z' g hg hg' => ?_, L.n32, L.left⟩
  · rw [hlook z]
    show _ = if upd D.cac s ls z = [] then none else some (upd v s v1 z)
    by_cases hz : z = s
    · rw [hz, if_pos rfl, upd_same, upd_same]
    · rw [if_neg hz, upd_other _ _ hz, upd_other _ _ hz]; exact L.look z
  · rcases hkeys e he with h | h
    · exact L.keys e h
    · exact ⟨s, hs, h⟩
  · show w'.ownsRow 0 _ 256 (upd v s v1 z) (upd D.cac s ls z).length (flat (upd D.cac s ls z))
    by_cases hz : z = s
    · rw [hz, upd_same, upd_same]; exact hrow
    · rw [upd_other _ _ hz, upd_other _ _ hz]
      exact owns_keep (L.row z) fun g hg => h1 g (hlt z g hg) (L.row_bm hg) fun e => hz (L.sep z s g hg e.symm)
  · show upd v s v1 z = _
    by_cases hzs : z = s
    · subst hzs
      rw [upd_same]; exact hnil (by simpa [upd_same] using hz)
    · rw [upd_other _ _ hzs]; exact L.nil z (by simpa [upd_other _ _ hzs] using hz)
  · show Secs (upd D.cac s ls z)
    by_cases hzs : z = s
    · rw [hzs, upd_same]; exact hls
    · rw [upd_other _ _ hzs]; exact L.cl z
  · show upd D.cac s ls z = []
    have : D.n ≤ z := hz
    rw [upd_other _ _ (by omega)]; exact L.out z hz
  · rcases hown z g hg with ⟨_, h⟩ | ⟨_, h | h⟩
    · exact hS _ (hlt z g h) (L.inS.2.2.2 z g h)
    · exact hS _ (hlt s g h) (L.inS.2.2.2 s g h)
    · exact h.2
  · rcases hown z g hg with ⟨_, h⟩ | ⟨_, h | h⟩
    · exact L.ne.2 z g h
    · exact L.ne.2 s g h
    · omega
  · rcases hown z g hg with ⟨h0, h⟩ | ⟨h0, h⟩ <;> rcases hown z' g hg' with ⟨k0, k⟩ | ⟨k0, k⟩
    · exact L.sep z z' g h k
    · rcases k with k | k
      · rw [k0]; exact L.sep z s g h k
      · have := hlt z g h; omega
    · rcases h with h | h
      · rw [h0]; exact L.sep s z' g h k
      · have := hlt z' g k; omega
    · rw [h0, k0]
/-- The cached writes of a sector are forgotten. -/
theorem Lay.forget (L : Lay w bp bd bm l clock v S D) (s : Nat) (hs : s < D.n) :
    Lay (setBlock w bm (.map (delE s l).toArray clock)) bp bd bm (delE s l) clock (upd v s (.slice none 0 0)) S { D with cac := upd D.cac s [] } := by
  have hT := turn_setBlock (w := w) (S := fun k => k = bm) (b := bm) (.map (delE s l).toArray clock) rfl
  refine L.setCac s hs _ [] (by simp [Secs]) (fun _ _ h => h) (fun k hk hn _ => hT.block k hk hn) (setBlock_at (lt_of_heap L.map)) (L.ents.del s) (fun z => ?_) (fun e he => .inl (mem_del he)) (World.ownsRow_nil _ _ _ _) (fun _ => rfl) (.inl rfl)
  rw [getE_del z L.ents.one, if_pos rfl]
  by_cases h : z = s
  · subst h; simp
  · rw [if_neg (by omega), if_neg h]
end
end Go.Proofs.Ytkkmnmiekmfjiaa
