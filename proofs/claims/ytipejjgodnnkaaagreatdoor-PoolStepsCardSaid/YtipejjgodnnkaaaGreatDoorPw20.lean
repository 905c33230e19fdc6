/- The code's pool as it lies. The code's pool: area, headOfCounts, dated, longest, noughts; a disk's steps; blank. The code's pool: settle. The code's pool: load. -/
import Derived.Test.YtipejjgodnnkaaaGreatDoorPw5
import Derived.Test.YtipejjgodnnkaaaGreatDoorPw13
import Derived.Test.YtipejjgodnnkaaaGreatDoorPw14
import Derived.Test.YtipejjgodnnkaaaGreatDoorPw15
import Derived.Test.YtipejjgodnnkaaaGreatDoorNodeW
import Derived.Test.YtipejjgodnnkaaaGreatDoorPw18
import Derived.Test.YtipejjgodnnkaaaGreatDoorPw19
import Derived.Lib.SliceRun
import Derived.Deep.RegionWith
namespace Go.Proofs.YtipejjgodnnkaaaGreatDoor
open Go Go.RowKit Go.Proofs
open Go.ChangeMaps (setBlock)

/-- The cells of a pool: its disk, its superblock's, its counts' (CCo says which), its map. -/
structure PH (cur : Array Value) (d m : Nat) (S : Sp) : Prop where
  size : cur.size = 41
  disk : cur[0]? = some (.pointer (some ⟨d, 0, none⟩))
  sup : ∀ (j : Nat) x, S.vs[j]? = some x → cur[1 + j]? = some x
  fresh : cur[40]? = some (.map (some m))
/-- A pool's block and its map's. -/
structure PL (w : World) (p d m : Nat) (cur : Array Value) (l : List MapEntry) (clock : Nat) (v : Nat → Value) (Sc S T : Nat → Prop) (P : Pl) : Prop where
  me : w.heap[p]? = some (.cells cur 110 (0, 0))
  ph : PH cur d m P.S
  ct : CCo w p 36 Sc P.C
  map : w.heap[m]? = some (.map l.toArray clock)
  ents : Ents l clock
  look : ∀ a : Nat, getE a l = (P.live a).map fun _ => v a
  keys : ∀ e ∈ l, ∃ a : Nat, a < P.C.n ∧ kI e = a
  row : ∀ a b, P.live a = some b → ∃ g c, v a = .slice (some ⟨g, 0, none⟩) 256 c ∧ Sl w (some ⟨g, 0, none⟩) 256 c (b.out a 0) ∧ ¬ T g
  good : ∀ a b, P.L a = some b → b.good
  inS : S p ∧ S m ∧ (∀ k, Sc k → S k)
  ne : ∀ k, Sc k → k ≠ p ∧ k ≠ m
  sub : ∀ k, S k → T k
  ok : P.ok
  fineS : P.S.fine
/-- A pool on a drive at d: S may turn; the drive's blocks and others' are in T. -/
def Pool (w : World) (p d : Nat) (S T : Nat → Prop) (P : Pl) : Prop := ∃ m cur l clock v Sc, PL w p d m cur l clock v Sc S T P

section
variable {w w' : World} {p d m clock : Nat} {cur : Array Value} {l : List MapEntry} {v : Nat → Value} {Sc S T : Nat → Prop} {P : Pl}
theorem PL.p_m (L : PL w p d m cur l clock v Sc S T P) : p ≠ m := fun e => by
  have h := L.me
  rw [e, L.map] at h; cases h
theorem PL.plt (L : PL w p d m cur l clock v Sc S T P) : p < w.heap.size := lt_of_heap L.me
theorem PL.mlt (L : PL w p d m cur l clock v Sc S T P) : m < w.heap.size := lt_of_heap L.map
/-- Its blocks are as they were, and what its new blocks hold. -/
theorem PL.keep (L : PL w p d m cur l clock v Sc S T P) (hk : ∀ k, k < w.heap.size → S k ∨ ¬ T k → w'.heap[k]? = w.heap[k]?) (hz : w.heap.size ≤ w'.heap.size) : PL w' p d m cur l clock v Sc S T P := by
  have e1 := hk p L.plt (.inl L.inS.1)
  have e2 := hk m L.mlt (.inl L.inS.2.1)
  refine ⟨e1.trans L.me, L.ph, L.ct.keep e1 fun k hk' hs => hk k hk' (.inl (L.inS.2.2 k hs)), e2.trans L.map, L.ents, L.look, L.keys, fun a b h => ?_, L.good, L.inS, L.ne, L.sub, L.ok, L.fineS⟩
  obtain ⟨g, c, e, hs, hT⟩ := L.row a b h
  refine ⟨g, c, e, ?_, hT⟩
  exact stay_slice hs hz fun hg => hk g hg (.inr hT)
 where
  stay_slice {w w' : World} {g n c : Nat} {x : List UInt8} (h : Sl w (some ⟨g, 0, none⟩) n c x) (hz : w.heap.size ≤ w'.heap.size) (hg : g < w.heap.size → w'.heap[g]? = w.heap[g]?) : Sl w' (some ⟨g, 0, none⟩) n c x :=
    ⟨h.1, h.2.1, h.2.2.1, fun j u hu => by
      obtain ⟨ad, e, hb, hc⟩ := h.2.2.2 j u hu
      injection e with e
      subst e
      exact ⟨_, rfl, Nat.lt_of_lt_of_le hb hz, (World.cell?_of_block (a := (⟨g, 0, none⟩ : Addr).add j) (by rw [addr_block]; exact hg hb)).trans hc⟩⟩
/-- Some blocks of T that aren't its own turn. -/
theorem PL.other (L : PL w p d m cur l clock v Sc S T P) {S' : Nat → Prop} (t : Turn S' w w') (hT : ∀ k, S' k → T k) (hS : ∀ k, S' k → ¬ S k) : PL w' p d m cur l clock v Sc S T P :=
  L.keep (fun k hk h => t.block k hk fun hs => h.elim (hS k hs) fun h2 => h2 (hT k hs)) t.size
theorem PL.below (L : PL w p d m cur l clock v Sc S T P) (hb : Below w.heap.size w w') : PL w' p d m cur l clock v Sc S T P := L.keep (fun k hk _ => hb.block k hk) hb.size
theorem PL.mono {S' T' : Nat → Prop} (L : PL w p d m cur l clock v Sc S T P) (hS : ∀ k, k < w.heap.size → S k → S' k) (hT : ∀ k, k < w.heap.size → T' k → T k) (hST : ∀ k, S' k → T' k) : PL w p d m cur l clock v (fun k => Sc k ∧ k < w.heap.size) S' T' P :=
  ⟨L.me, L.ph, L.ct.shrink, L.map, L.ents, L.look, L.keys, fun a b h => by
    obtain ⟨g, c, e, hs, hg⟩ := L.row a b h
    have hlt : g < w.heap.size := by
      have h1 := hs.len
      obtain ⟨ad, e2, hb, _⟩ := hs.2.2.2 0 (bv ((b.out a 0).getD 0 0)) (by rw [List.getElem?_map, List.getD_eq_getElem?_getD, List.getElem?_eq_getElem (by omega)]; rfl)
      injection e2 with e2
      subst e2
      exact hb
    exact ⟨g, c, e, hs, fun h => hg (hT g hlt h)⟩, L.good, ⟨hS p L.plt L.inS.1, hS m L.mlt L.inS.2.1, fun k hk => hS k hk.2 (L.inS.2.2 k hk.1)⟩, fun k hk => L.ne k hk.1, hST, L.ok, L.fineS⟩
theorem PL.c0 (L : PL w p d m cur l clock v Sc S T P) : w.cell? ⟨p, 0, none⟩ = some (.pointer (some ⟨d, 0, none⟩)) := cell_at L.me L.ph.disk
theorem PL.c40 (L : PL w p d m cur l clock v Sc S T P) : w.cell? ⟨p, 40, none⟩ = some (.map (some m)) := cell_at L.me L.ph.fresh
theorem PL.sup (L : PL w p d m cur l clock v Sc S T P) : w.rangeAt p 1 P.S.vs := fun j x hx => cell_at L.me (L.ph.sup j x hx)
theorem PL.fz (L : PL w p d m cur l clock v Sc S T P) (j : Nat) : w.frozen? ⟨p, j, none⟩ = false := by unfold World.frozen?; rw [L.me]; simp
theorem PL.there (L : PL w p d m cur l clock v Sc S T P) {o n : Nat} (h : o + n ≤ 41) : w.there p o n := fun j hj => by
  refine ⟨?_, L.fz _⟩
  rw [cell_of_row _ _ _ _ _ _ L.me, Array.getElem?_eq_getElem (by rw [L.ph.size]; omega)]
  rfl
/-- The counts turn. -/
theorem PL.setC (L : PL w p d m cur l clock v Sc S T P) {C' : Ct} (t : Turn Sc w w') (H : CCo w' p 36 Sc C') (hn : C'.n = P.C.n) (hlive : ∀ a : Nat, C'.get (a : Int) = 0 ↔ P.C.get (a : Int) = 0) (hok : Pl.ok ⟨P.S, C', P.L⟩) : PL w' p d m cur l clock v Sc S T ⟨P.S, C', P.L⟩ := by
  have hp := t.block p L.plt fun h => (L.ne p h).1 rfl
  have hm := t.block m L.mlt fun h => (L.ne m h).2 rfl
  have hl : ∀ a, Pl.live ⟨P.S, C', P.L⟩ a = P.live a := fun a => by
    unfold Pl.live
    by_cases h : P.C.get (a : Int) = 0
    · rw [if_pos h, if_pos ((hlive a).2 h)]
    · rw [if_neg h, if_neg fun h2 => h ((hlive a).1 h2)]
  refine ⟨hp.trans L.me, L.ph, H, hm.trans L.map, L.ents, fun a => by rw [hl a]; exact L.look a, fun e he => by rw [hn]; exact L.keys e he, fun a b h => ?_, L.good, L.inS, L.ne, L.sub, hok, L.fineS⟩
  rw [hl a] at h
  obtain ⟨g, c, e, hs, hT⟩ := L.row a b h
  exact ⟨g, c, e, PL.keep.stay_slice hs t.size fun hg => t.block g hg fun h => hT (L.sub g (L.inS.2.2 g h)), hT⟩
end
theorem Pool.below {w w' : World} {p d : Nat} {S T : Nat → Prop} {P : Pl} (h : Pool w p d S T P) (hb : Below w.heap.size w w') : Pool w' p d S T P := by
  obtain ⟨m, cur, l, clock, v, Sc, L⟩ := h
  exact ⟨m, cur, l, clock, v, Sc, L.below hb⟩
theorem Pool.other {w w' : World} {p d : Nat} {S T : Nat → Prop} {P : Pl} (h : Pool w p d S T P) {S' : Nat → Prop} (t : Turn S' w w') (hT : ∀ k, S' k → T k) (hS : ∀ k, S' k → ¬ S k) : Pool w' p d S T P := by
  obtain ⟨m, cur, l, clock, v, Sc, L⟩ := h
  exact ⟨m, cur, l, clock, v, Sc, L.other t hT hS⟩
theorem Pool.mono {w : World} {p d : Nat} {S T S' T' : Nat → Prop} {P : Pl} (h : Pool w p d S T P) (hS : ∀ k, k < w.heap.size → S k → S' k) (hT : ∀ k, k < w.heap.size → T' k → T k) (hST : ∀ k, S' k → T' k) : Pool w p d S' T' P := by
  obtain ⟨m, cur, l, clock, v, Sc, L⟩ := h
  exact ⟨m, cur, l, clock, v, _, L.mono hS hT hST⟩
theorem Pool.ok {w : World} {p d : Nat} {S T : Nat → Prop} {P : Pl} (h : Pool w p d S T P) : P.ok := by
  obtain ⟨m, cur, l, clock, v, Sc, L⟩ := h
  exact L.ok
theorem Pool.lt {w : World} {p d : Nat} {S T : Nat → Prop} {P : Pl} (h : Pool w p d S T P) : p < w.heap.size := by
  obtain ⟨m, cur, l, clock, v, Sc, L⟩ := h
  exact L.plt
end Go.Proofs.YtipejjgodnnkaaaGreatDoor

namespace Go.Proofs.YtipejjgodnnkaaaGreatDoor
open Go Go.RowKit Go.Proofs

set_option maxRecDepth 100000 in
set_option maxHeartbeats 2000000 in
theorem parea_any (S : Sp) (n : Nat) (hs : S.sectors = (n : Int)) (hn : n ≤ 2048) (hg : 0 ≤ S.gen ∧ S.gen ≤ 1099511627776) (w : World) :
    Calls Tryz.prog 118 #[.agg S.vs.toArray] w fun e w' => e = .returned (.tuple #[.int .i64 (areaAt n S.gen : Int), .int .i64 (areaN n : Int)]) ∧ Below w.heap.size w w' := by
  have H1 := SB.new w S 56
  have b1 : Below w.heap.size w (w.alloc (.cells S.vs.toArray 56)) := (Below.refl _ _).alloc (Nat.le_refl _) _
  have q1 := H1.c1
  have q0 := H1.c0
  rw [hs] at q1
  obtain ⟨g, hgg⟩ : ∃ g, S.gen = g := ⟨_, rfl⟩
  rw [hgg] at q0 hg ⊢
  obtain ⟨hg1, hg2⟩ := hg
  obtain ⟨ar, hm⟩ : ∃ m, areaN n = m := ⟨_, rfl⟩
  have har : ar ≤ 18 := by unfold areaN at hm; omega
  obtain ⟨t, ht⟩ : ∃ t, (g % 2).toNat = t := ⟨_, rfl⟩
  have ht2 : t < 2 := by omega
  have htm : g.tmod 2 = (t : Int) := by rw [Int.tmod_eq_emod_of_nonneg (by omega)]; omega
  obtain ⟨u, hu⟩ : ∃ u, ar * t = u := ⟨_, rfl⟩
  have hu2 : u ≤ 18 := by rw [← hu]; rcases (show t = 0 ∨ t = 1 by omega) with e | e <;> rw [e] <;> omega
  have hmul : (t : Int) * (ar : Int) = (u : Int) := by rw [← hu, Int.mul_comm]; exact (Int.natCast_mul ar t).symm
  obtain ⟨a, ha⟩ : ∃ a, 2 + u = a := ⟨_, rfl⟩
  have ha2 : (2 : Int) + (u : Int) = (a : Int) := by omega
  have ha3 : a ≤ 20 := by omega
  have Hat := Lib.hid (show areaAt n g = a by unfold areaAt; rw [hm, ht, hu, ha])
  have Hm := Lib.hid hm
  rw [hm]
  clear hm ht hu ha hs hgg H1
  go_enter Tryz.func118, Tryz.ntmps118
  go_wp2_with fail
  generalize w.alloc (.cells S.vs.toArray 56) = w1 at b1 q0 q1 ⊢
  refine (xareas_any (n : Int) n rfl (by omega) ar Hm.out w1).mono ?_
  rintro e w2 ⟨rfl, rfl⟩
  go_wp2
  go_ret2
  rw [Hat.out]
  exact ⟨rfl, b1⟩

theorem wp_store_hB {ops : Array Oper} {rest : List Oper} {o : Oper} {a : Act} {w : World} {Q : Exit → Act → World → Prop} (hg : o.guard = none) (x y : Operand) (hop : o.op = Op.store 118 x y)
    (b : Nat) (hx : a.eval x = .pointer (some ⟨b, 0, none⟩)) (h h0 : Hd) (hy : a.eval y = h.v) (H : HB w b h0) (hb : b < w.heap.size)
    (hK : ∀ w', HB w' b h → (∀ B, B ≤ b → Below B w w') → Turn (fun k => k = b) w w' → wpList Tryz.prog ops Q rest (a.put o.dst undef) w') : wpList Tryz.prog ops Q (o :: rest) a w := by
  refine wpList_store_mid hg _ x y hop b 0 h.vs.toArray hx hy H.there (by kernel_rfl) (by simp [Hd.vs, Value.oneCell']) ?_
  have T := turn_setCells (S := fun k => k = b) rfl h.vs 0 w
  refine hK _ ?_ (fun B hB => T.below (fun x hx => by omega) (by omega)) T
  obtain ⟨t, H⟩ := H
  have e := heap_setCells_row b t h.vs 0 w h0.vs H (by show 0 + 5 ≤ 5; omega)
  rw [splice_over h0.vs h.vs rfl] at e
  exact ⟨t, e⟩

set_option maxRecDepth 100000 in
set_option maxHeartbeats 1000000 in
theorem phead_any (a g : Int) (w : World) : Calls Tryz.prog 119 #[.int .i64 a, .int .i64 g] w fun e w' => e = .returned (.agg #[.int .i64 2, .int .i64 a, .int .i64 0, .int .i64 0, .int .i64 g]) ∧ Below w.heap.size w w' := by
  have HZ := HB.zero w 118
  have b0 : Below w.heap.size w (w.alloc (.cells #[.int .i64 0, .int .i64 0, .int .i64 0, .int .i64 0, .int .i64 0] 118)) := (Below.refl _ _).alloc (Nat.le_refl _) _
  go_enter Tryz.func119, Tryz.ntmps119
  go_wp2_with (first
    | (refine wp_store_hd rfl _ _ rfl w.heap.size rfl ⟨2, a, 0, 0, g⟩ _ rfl HZ (by simp) ?_; intro wz hrz hbz Tz)
    | fail)
  refine bodyPost_ret (results_cell1 Tryz.results119 rfl (load_hd hrz)) rfl ?_
  exact ⟨rfl, b0.trans (hbz _ (Nat.le_refl _))⟩

set_option maxRecDepth 100000 in
set_option maxHeartbeats 2000000 in
theorem pdated_any (b : Bk) (hb : b.good) (a : Nat) (ha : a ≤ 2047) (g : Int) (hg : gen0 g) (A : Option Addr) (n c : Nat) (w : World) (hs : Sl w A n c (b.out a 0)) (ht : Tab w) :
    Calls Tryz.prog 117 #[.slice A n c, .int .i64 g] w fun e w' => ∃ q, e = .returned (.slice (some ⟨q, 0, none⟩) 256 256) ∧ Own w' w.heap.size 5 (some ⟨q, 0, none⟩) 256 256 (b.out a g) ∧ Below w.heap.size w w' := by
  obtain ⟨o1, o2, o3⟩ := hb.opens (a := a) (g := 0) ha gen0_zero
  obtain ⟨s1, s2⟩ := hb.dates (a := a) (g := g) ha hg
  have hO := open_any A n c _ w hs ht
  unfold OpenSays at hO
  rw [o1, o2, o3] at hO
  obtain ⟨H1, hH1⟩ : ∃ H, b.hd a g = H := ⟨_, rfl⟩
  obtain ⟨H0, hH0⟩ : ∃ H, b.hd a 0 = H := ⟨_, rfl⟩
  have h01 : H0.set 4 g = H1 := by rw [← hH0, ← hH1]; exact (hd_dated b a 0 g).symm
  have h0g : H0.gen = 0 := by rw [← hH0, hd_dated b a 1 0]
  rw [hH1] at s1 s2
  rw [hH0] at hO
  obtain ⟨bd, hbd⟩ : ∃ bd, b.body ++ List.replicate (236 - b.body.length) 0 = bd := ⟨_, rfl⟩
  rw [hbd] at s1 s2 hO
  have HS1 := Lib.hid s1
  have HS2 := Lib.hid s2
  clear s1 s2 o1 o2 o3 hbd hH0 hH1
  go_enter Tryz.func117, Tryz.ntmps117
  go_wp2_with fail
  refine hO.mono ?_
  rintro e w3 ⟨A3, n3, c3, rfl, own3, hb3⟩
  have ht3 := ht.below hb3 ht.1
  clear hO
  go_wp2_with (first
    | (refine wp_store_hB rfl (.tmp 5) (.tmp 11) rfl w3.heap.size rfl H0 _ rfl (HB.zero w3 _) (by simp) ?_; intro w6 H6 hb6 T6; have q4 := H6.at_ 4; have f4 := H6.fz 4; have H7 := H6.set_ 4 g; rw [h01] at H7; simp only [foff, Hd.fld] at q4 f4 H7; have b37 : Below w3.heap.size w3 (w6.setCell ⟨w3.heap.size, 4, none⟩ (.int .i64 g)) := (((Below.refl _ _).alloc (Nat.le_refl _) _).trans (hb6 _ (Nat.le_refl _))).trans ((Below.refl _ w6).setCell (p := ⟨w3.heap.size, 4, none⟩) (Nat.le_refl _) _); have own7 := own3.sl.below b37; have ht7 := ht3.below b37 ht3.1)
    | (refine wp_load_hd rfl _ rfl _ rfl _ H7 ?_)
    | (go_at_call 90; refine (seal_any H1 A3 n3 c3 bd _ own7 ht7).mono ?_; rw [HS1.out, HS2.out]; rintro e w8 ⟨A8, n8, c8, rfl, own8, hg8, hb8⟩)
    | fail)
  obtain ⟨q, rfl, rfl, rfl⟩ := hg8 (by first | trivial | rfl)
  have b38 := hb3.trans (b37.mono hb3.size)
  go_ret
  exact ⟨q, rfl, own8.less b38.size, b38.trans (hb8.mono b38.size)⟩

def mostV (k : Int) : Int := match mostK k with | some m => (m : Int) | none => 0
set_option maxRecDepth 100000 in
set_option maxHeartbeats 1000000 in
theorem plongest_any (k : Int) (w : World) : Calls Tryz.prog 77 #[.int .i64 k] w fun e w' => e = .returned (.tuple #[.int .i64 (mostV k), .bool (mostK k).isSome]) ∧ w = w' := by
  by_cases h5 : k = 5
  · subst h5
    go_enter Tryz.func77, Tryz.ntmps77
    go_wp2
    go_ret2
    exact ⟨rfl, rfl⟩
  · by_cases h6 : k = 6
    · subst h6
      go_enter Tryz.func77, Tryz.ntmps77
      go_wp2
      go_ret2
      exact ⟨rfl, rfl⟩
    · have b5 : (k == 5) = false := by simpa using h5
      have b6 : (k == 6) = false := by simpa using h6
      have hm := Lib.hid (show mostK k = none by unfold mostK; rw [if_neg h5, if_neg h6])
      go_enter Tryz.func77, Tryz.ntmps77
      go_wp2
      go_ret2
      unfold mostV
      rw [hm.out]
      exact ⟨rfl, rfl⟩

set_option maxRecDepth 100000 in
set_option maxHeartbeats 4000000 in
theorem pnoughts_any (A : Option Addr) (n c : Nat) (l : List UInt8) (r : Bool) (hr : allZ l = r) (w : World) (h : Sl w A n c l) :
    Calls Tryz.prog 80 #[.slice A n c] w fun e w' => e = .returned (.bool r) ∧ Below w.heap.size w w' := by
  have hlen := h.len
  have b1 : Below w.heap.size w (w.alloc (.cells #[.int .u8 0] 5)) := (Below.refl _ _).alloc (Nat.le_refl _) _
  have hc : (w.alloc (.cells #[.int .u8 0] 5)).cell? ⟨w.heap.size, 0, none⟩ = some (.int .u8 0) := by rw [cell_of_row _ _ _ _ _ _ (heap_alloc_new w _)]; rfl
  obtain ⟨q, hq⟩ : ∃ q, Lib.countByte l 0 = q := ⟨_, rfl⟩
  have hres := Lib.hid (show ((q : Int) == (n : Int)) = r by
    have := count_all l
    rw [hq, hlen, hr] at this
    cases r
    · exact decide_eq_false (fun e : (q : Int) = (n : Int) => by have := this.1 (by omega); cases this)
    · exact decide_eq_true (by have := this.2 rfl; omega : (q : Int) = (n : Int)))
  clear hlen
  go_enter Tryz.func80, Tryz.ntmps80
  go_wp2_with fail
  refine (ccount_any A n c l w.heap.size 1 _ (h.below b1) hc).mono ?_
  rw [hq]
  rintro e w2 ⟨rfl, rfl⟩
  go_wp2
  go_ret
  exact ⟨by rw [← hres.out]; rfl, b1⟩

/-! ### A disk's steps -/
theorem Drv.below {w w' : World} {d : Nat} {S : Nat → Prop} {D : DM} (L : Drv w d S D) (hb : Below w.heap.size w w') : Drv w' d S D := L.keep fun k hk _ => hb.block k hk
theorem Drv.sectors {w : World} {d : Nat} {S : Nat → Prop} {D : DM} (L : Drv w d S D) : Go.Proofs.YtipejjgodnnkaaaGreatDoor.sectors D.n := by
  obtain ⟨bd, bm, l, clock, v, L⟩ := L
  exact L.n32
theorem Drv.lt {w : World} {d : Nat} {S : Nat → Prop} {D : DM} (L : Drv w d S D) : d < w.heap.size := by
  obtain ⟨bd, bm, l, clock, v, L⟩ := L
  exact lt_of_heap L.me
theorem Drv.at_ {w : World} {d : Nat} {S : Nat → Prop} {D : DM} (L : Drv w d S D) : S d := by
  obtain ⟨bd, bm, l, clock, v, L⟩ := L
  exact L.inS.1
/-- A drive on which a call has gone on since w0: its own blocks are S's, or new. -/
structure Dsk (w0 w : World) (d : Nat) (S : Nat → Prop) (D : DM) : Prop where
  drv : Drv w d (fun k => S k ∨ w0.heap.size ≤ k) D
  turn : Turn S w0 w
theorem Drv.dsk {w : World} {d : Nat} {S : Nat → Prop} {D : DM} (L : Drv w d S D) : Dsk w w d S D := ⟨L.mono fun _ _ h => .inl h, Turn.refl _ _⟩
theorem Dsk.below {w0 w w' : World} {d : Nat} {S : Nat → Prop} {D : DM} (L : Dsk w0 w d S D) (hb : Below w.heap.size w w') : Dsk w0 w' d S D := ⟨L.drv.below hb, L.turn.trans (turn_below hb) fun _ hk => .inl hk⟩
theorem dwrite_any {w0 w : World} {d : Nat} {S : Nat → Prop} {D : DM} (L : Dsk w0 w d S D) {m : Nat} (ht : D.tame m) (hm : m ≤ 900000) (s : Nat) (z : Int) (hz : z = (s : Int)) (A : Option Addr) (n c : Nat) (x : List UInt8) (h : Sl w A n c x) :
    Calls Tryz.prog 37 #[.pointer (some ⟨d, 0, none⟩), .int .i64 z, .slice A n c] w fun e w' => e = .returned (.int .i64 (D.says (.w s x))) ∧ Dsk w0 w' d S (D.does (.w s x)) := by
  subst hz
  refine (write_any L.drv (s : Int) A n c x h (by have := ht.steps; omega) fun k => by have := ht.rows k; omega).mono ?_
  rintro e w' ⟨rfl, R, T⟩
  have hz := L.turn.size
  exact ⟨rfl, R.mono fun k _ hk => hk.elim id fun h => .inr (by omega), L.turn.trans T fun k hk => hk⟩
theorem dflush_any {w0 w : World} {d : Nat} {S : Nat → Prop} {D : DM} (L : Dsk w0 w d S D) {m : Nat} (ht : D.tame m) (hm : m ≤ 900000) :
    Calls Tryz.prog 121 #[.pointer (some ⟨d, 0, none⟩)] w fun e w' => e = .returned (.int .i64 (D.says .fl)) ∧ Dsk w0 w' d S (D.does .fl) := by
  refine (flush_any L.drv (by have := ht.steps; omega) fun k => by have := ht.rows k; omega).mono ?_
  rintro e w' ⟨rfl, R, T⟩
  exact ⟨rfl, R, L.turn.trans T fun k hk => hk⟩
/-- The answer whether all went well. -/
def DM.runB (D : DM) (l : List Stp) : Bool := decide (D.runE l = 0)
set_option maxRecDepth 100000 in
set_option maxHeartbeats 2000000 in
theorem pblank_any {w : World} {d : Nat} {S : Nat → Prop} {D : DM} (L : Drv w d S D) {m : Nat} (ht : D.tame m) (hm : m ≤ 800000) :
    Calls Tryz.prog 86 #[.pointer (some ⟨d, 0, none⟩)] w fun e w' => e = .returned (.bool (D.runB (fmtA D.n))) ∧ Dsk w w' d S (D.runD (fmtA D.n)) := by
  have L0 := L.dsk
  have hA : fmtA D.n = [.w 0 noughtB, .w 1 noughtB] ++ [.fl] := rfl
  have hw : ∀ j, j < 2 → ([.w 0 noughtB, .w 1 noughtB] : List Stp).take (j + 1) = ([.w 0 noughtB, .w 1 noughtB] : List Stp).take j ++ [.w j noughtB] := fun j hj => by
    rcases (show j = 0 ∨ j = 1 by omega) with e | e <;> subst e <;> rfl
  obtain ⟨W2, hW2⟩ : ∃ W : List Stp, [.w 0 noughtB, .w 1 noughtB] = W := ⟨_, rfl⟩
  rw [hW2] at hA hw
  have hl2 : W2.length = 2 := by rw [← hW2]; rfl
  have HA := Lib.hid hA
  have HW := Lib.hid hw
  have HL := Lib.hid hl2
  clear hA hw hW2 hl2
  go_enter Tryz.func86, Tryz.ntmps86
  go_wp2_with fail
  go_loopw [3, 4] (fun _ i wr => ∃ j : Nat, j ≤ 2 ∧ i = .int .i64 (j : Int) ∧ D.runE (W2.take j) = 0 ∧ Dsk w wr d S (D.runD (W2.take j))) (fun _ i _ => 2 - (intOf i).toNat)
  case atStart => exact ⟨0, by omega, rfl, rfl, L0⟩
  case round =>
    clear L0
    obtain ⟨j, hj, rfl, hE, L1⟩ := hrel
    have htj := tame_run (W2.take j) ht
    have hlen : (W2.take j).length ≤ 2 := by rw [List.length_take]; omega
    obtain ⟨D1, hD1⟩ : ∃ D1, D.runD (W2.take j) = D1 := ⟨_, rfl⟩
    rw [hD1] at L1 htj
    have HD1 := Lib.hid hD1
    have HE := Lib.hid hE
    clear hD1 hE
    by_cases hlt : j < 2
    · have e3 : (j : Int) < 2 := by omega
      have Hnx := Lib.hid (HW.out j hlt)
      have hE1 := Lib.hid (show D.runE (W2.take (j + 1)) = D1.says (.w j noughtB) by rw [Hnx.out, runE_snoc, if_pos HE.out, HD1.out])
      have hD2 := Lib.hid (show D.runD (W2.take (j + 1)) = D1.does (.w j noughtB) by rw [Hnx.out, runD_snoc, if_pos HE.out, HD1.out])
      obtain ⟨E, hEE⟩ : ∃ E, D1.says (.w j noughtB) = E := ⟨_, rfl⟩
      have HEE := Lib.hid hEE
      clear hEE
      by_cases h0 : E = 0
      · have nb : (E != 0) = false := by simpa using h0
        have H0 := Lib.hid h0
        clear h0
        go_wp2_with (first
          | (at_make; refine wp_make_r _ T22 rfl _ _ rfl _ _ 256 rfl rfl (by omega) ?_; intro w3 own3 hb3; have L3 := L1.below hb3)
          | (go_at_call 37; refine (dwrite_any L3 htj (by omega) j _ rfl _ 256 256 noughtB own3.sl).mono ?_; rw [HEE.out]; rintro e w4 ⟨rfl, L4⟩)
          | fail)
        exact ⟨⟨j + 1, by omega, by go_num, hE1.out.trans (HEE.out.trans H0.out), by rw [hD2.out]; exact L4⟩, by simp [intOf]; omega⟩
      · have nb : (E != 0) = true := by simpa using h0
        have hstop : D.runE (W2.take (j + 1)) ≠ 0 := fun h => h0 (HEE.out.symm.trans (hE1.out.symm.trans h))
        have hall : fmtA D.n = W2.take (j + 1) ++ (W2.drop (j + 1) ++ [.fl]) := by rw [HA.out, ← List.append_assoc, List.take_append_drop]
        obtain ⟨r1, r2⟩ := run_stopped (l' := W2.drop (j + 1) ++ [.fl]) hstop
        have R1 := Lib.hid (show D.runB (fmtA D.n) = false by unfold DM.runB; rw [hall, r1]; exact decide_eq_false hstop)
        have R2 := Lib.hid (show D.runD (fmtA D.n) = D1.does (.w j noughtB) by rw [hall, r2, hD2.out])
        clear hall r1 r2 hstop h0
        go_wp2_with (first
          | (at_make; refine wp_make_r _ T22 rfl _ _ rfl _ _ 256 rfl rfl (by omega) ?_; intro w3 own3 hb3; have L3 := L1.below hb3)
          | (go_at_call 37; refine (dwrite_any L3 htj (by omega) j _ rfl _ 256 256 noughtB own3.sl).mono ?_; rw [HEE.out]; rintro e w4 ⟨rfl, L4⟩)
          | fail)
        go_ret
        exact ⟨by rw [R1.out]; rfl, by rw [R2.out]; exact L4⟩
    · have hj2 : j = 2 := by omega
      subst hj2
      have hfull : W2.take 2 = W2 := List.take_of_length_le (by rw [HL.out]; exact Nat.le_refl _)
      have R1 := Lib.hid (show D.runB (fmtA D.n) = decide (D1.says .fl = 0) by unfold DM.runB; rw [HA.out, runE_snoc, ← hfull, if_pos HE.out, HD1.out])
      have R2 := Lib.hid (show D.runD (fmtA D.n) = D1.does .fl by rw [HA.out, runD_snoc, ← hfull, if_pos HE.out, HD1.out])
      clear hfull
      go_wp2_with (first
        | (go_at_call 121; refine (dflush_any L1 htj (by omega)).mono ?_; rintro e w4 ⟨rfl, L4⟩)
        | fail)
      go_ret
      exact ⟨by rw [R1.out]; rfl, by rw [R2.out]; exact L4⟩
end Go.Proofs.YtipejjgodnnkaaaGreatDoor

namespace Go.Proofs.YtipejjgodnnkaaaGreatDoor
open Go Go.RowKit Go.Proofs

theorem Tab.turned {w w' : World} {S : Nat → Prop} (h : Tab w) (T : Turn S w w') (hS : ¬ S 1) : Tab w' :=
  ⟨Nat.lt_of_lt_of_le h.1 T.size, fun k hk => (World.cell?_of_block (a := ⟨1, k, none⟩) (T.block _ h.1 hS)).trans (h.2 k hk)⟩
theorem Drv.tight {w : World} {d : Nat} {S : Nat → Prop} {D : DM} (L : Drv w d S D) : Drv w d (fun k => S k ∧ k < w.heap.size) D := L.mono fun _ h1 h2 => ⟨h2, h1⟩
/-- A drive's turning within a call that began earlier. -/
theorem Dsk.from {w0 w1 w : World} {d : Nat} {S : Nat → Prop} {D : DM} (L : Dsk w1 w d (fun k => S k ∧ k < w0.heap.size) D) (b : Below w0.heap.size w0 w1) : Dsk w0 w d S D :=
  ⟨L.drv.mono fun k _ hk => hk.elim (fun h => .inl h.1) fun h => .inr (by have := b.size; omega), (turn_below b |>.mono (S' := S) fun _ h => h).trans L.turn fun _ hk => .inl hk.1⟩
/-- What settle does. -/
def setL (C : Ct) (S : Sp) : List Stp := cmtL (wAt (areaAt C.n S.gen) (areaL C S.gen)) (S.gen % 2).toNat (swB S (S.gen % 2))
theorem run_cons (D : DM) (a : Stp) (l : List Stp) : D.runE (a :: l) = (if D.says a = 0 then (D.does a).runE l else D.says a) ∧ D.runD (a :: l) = (if D.says a = 0 then (D.does a).runD l else D.does a) := ⟨rfl, rfl⟩
theorem cmt_runs {D : DM} {A : List Stp} (slot : Nat) (sb : List UInt8) (h : D.runE A = 0) : D.runE (cmtL A slot sb) = (D.runD A).runE [.fl, .w slot sb, .fl] ∧ D.runD (cmtL A slot sb) = (D.runD A).runD [.fl, .w slot sb, .fl] := by
  unfold cmtL
  rw [runE_append, runD_append, if_pos h, if_pos h]
  exact ⟨rfl, rfl⟩
theorem one_run (D : DM) (a : Stp) : D.runE [a] = D.says a ∧ D.runD [a] = D.does a := by
  rw [(run_cons D a []).1, (run_cons D a []).2]
  constructor
  · split
    · rename_i h; exact h.symm
    · rfl
  · split <;> rfl

attribute [local go_sem ↓] ldS_shut
set_option maxRecDepth 100000 in
set_option maxHeartbeats 8000000 in
theorem psettle_any {w : World} {d pc o : Nat} {S0 Sc : Nat → Prop} {D : DM} {C : Ct} (L : Drv w d S0 D) (H : CCo w pc o Sc C) (hsep : ∀ k, S0 k → k ≠ pc ∧ ¬ Sc k) (hG : ¬ S0 1) (S : Sp) (hmay : S.may = true) (hfine : S.fine) (hsec : S.sectors = (C.n : Int)) (ht : Tab w) {m : Nat} (htm : D.tame m) (hm : m ≤ 800000) :
    Calls Tryz.prog 65 #[.pointer (some ⟨d, 0, none⟩), .agg S.vs.toArray, .pointer (some ⟨pc, o, none⟩)] w fun e w' => e = .returned (.bool (D.runB (setL C S))) ∧ Dsk w w' d S0 (D.runD (setL C S)) := by
  have hok := H.ok.1
  have hgen := (may_parts hmay).1
  have hg : genOk S.gen := ⟨hgen.1, hgen.2.1⟩
  -- the parts
  obtain ⟨g, hgg⟩ : ∃ g, S.gen = g := ⟨_, rfl⟩
  rw [hgg] at hg
  obtain ⟨ar, har⟩ : ∃ m, areaN C.n = m := ⟨_, rfl⟩
  have har2 : ar ≤ 18 := by unfold areaN at har; omega
  obtain ⟨t, htt⟩ : ∃ t, (g % 2).toNat = t := ⟨_, rfl⟩
  have hgmod : g % 2 = (t : Int) := by have := hg.1; omega
  have ht2 : t < 2 := by omega
  have htm2 : g.tmod 2 = (t : Int) := by rw [Int.tmod_eq_emod_of_nonneg (by have := hg.1; omega)]; exact hgmod
  obtain ⟨a, ha⟩ : ∃ a, areaAt C.n g = a := ⟨_, rfl⟩
  have ha3 : a ≤ 40 := by
    rw [← ha]
    unfold areaAt
    rw [har, htt]
    rcases (show t = 0 ∨ t = 1 by omega) with e | e <;> rw [e] <;> omega
  obtain ⟨sb, hsb⟩ : ∃ x, swB S (t : Int) = x := ⟨_, rfl⟩
  have hswo : swOk S (t : Int) = true := by unfold swOk; rw [hmay, Bool.true_and]; exact decide_eq_true ⟨by omega, by omega⟩
  have hsw1 := (sw_yes hswo).1
  -- the plain steps
  obtain ⟨W, hW⟩ : ∃ W, wAt (areaAt C.n S.gen) (areaL C S.gen) = W := ⟨_, rfl⟩
  have hset : setL C S = cmtL W t sb := by unfold setL; rw [hW, hgg, hgmod, hsb, ← hgmod, htt]
  have hWl : W.length = ar := by rw [← hW, wAt_len, areaL_len, har]
  have hWn : ∀ j, j < ar → W.take (j + 1) = W.take j ++ [.w (a + j) (blkL (cntH C.n g j) (C.body (j : Int)))] := fun j hj => by
    rw [← hW, wAt_take _ _ (by rw [areaL_len, har]; exact hj), areaL_at _ _ (by rw [har]; exact hj), hgg, ha]
  have hseal : ∀ j, j < ar → sealE ⟨2, ((a + j : Nat) : Int), 0, 0, g⟩ (C.body (j : Int)) = 0 ∧ sealB ⟨2, ((a + j : Nat) : Int), 0, 0, g⟩ (C.body (j : Int)) = blkL (cntH C.n g j) (C.body (j : Int)) := fun j hj => by
    have hko := cntH_ok hok.1 hok.2 hg (i := j) (by rw [har]; exact hj)
    have hbl := Ct.body_len (C := C) (i := j) (by rw [har]; exact hj)
    have hcn : cntH C.n g j = ⟨2, ((a + j : Nat) : Int), 0, 0, g⟩ := by unfold cntH; rw [ha]
    rw [← hcn]
    unfold sealE sealB
    rw [if_pos hko, if_pos hko, if_pos (by rw [hbl]; exact Nat.le_refl _), if_pos (by rw [hbl]; exact Nat.le_refl _)]
    exact ⟨rfl, rfl⟩
  have hA := parea_any S C.n hsec hok.2 ⟨by rw [hgg]; have := hg.1; omega, by rw [hgg]; have := hg.2; omega⟩
  rw [hgg, ha, har] at hA
  have HA := Lib.hid hA
  have HS := Lib.hid hset
  have HWl := Lib.hid hWl
  have HWn := Lib.hid hWn
  have Hseal := Lib.hid hseal
  have Hgm := Lib.hid hgmod
  have Hsb := Lib.hid hsb
  have Hsw := Lib.hid hsw1
  have Hswo := Lib.hid hswo
  have Hfine := Lib.hid hfine
  have Hsep := Lib.hid hsep
  have HGn := Lib.hid hG
  -- the box
  have X1 := SB.new w S 56
  have b1 : Below w.heap.size w (w.alloc (.cells S.vs.toArray 56)) := (Below.refl _ _).alloc (Nat.le_refl _) _
  have L1 := L.tight.below b1
  have H1 := H.below b1
  have t1 := ht.below b1 ht.1
  have hpc := H.lt
  have htl := ht.1
  clear hA hset hW hWl hWn hseal hgen hgmod hsb hsw1 hswo hfine ha hsec hsep hG hmay htt hg L ht H
  have hl1 := X1.ld
  go_enter Tryz.func65, Tryz.ntmps65
  go_wp2_with fail
  generalize w.alloc (.cells S.vs.toArray 56) = w1 at b1 L1 H1 t1 X1 hl1 ⊢
  refine (HA.out w1).mono ?_
  rintro e w2 ⟨rfl, b2⟩
  have L2 := L1.below b2
  have H2 := H1.below b2
  have t2 := t1.below b2 t1.1
  have X2 := X1.below b2 X1.lt
  have B2 := b1.trans (b2.mono b1.size)
  have hz2 : w.heap.size < w2.heap.size := X2.lt
  clear hl1 L1 H1 t1 X1 b1 b2
  have L0 := L2.dsk
  -- what stays while the drive turns
  have hstay : ∀ wr, Turn (fun k => S0 k ∧ k < w.heap.size) w2 wr → SB wr w.heap.size S ∧ CCo wr pc o Sc C ∧ Tab wr := fun wr T =>
    ⟨X2.block (T.block _ hz2 (fun h => by have := h.2; omega)), H2.keep (T.block pc (by omega) fun h => (Hsep.out pc h.1).1 rfl) (fun k hk hs => T.block k hk fun h => (Hsep.out k h.1).2 hs), t2.turned T fun h => HGn.out h.1⟩
  have Hst := Lib.hid hstay
  clear hstay X2 H2 t2 L2
  go_wp2_with fail
  go_loopw [9, 10, 11, 21] (fun _ _ _ i wr => ∃ j : Nat, j ≤ ar ∧ i = .int .i64 (j : Int) ∧ D.runE (W.take j) = 0 ∧ Dsk w2 wr d (fun k => S0 k ∧ k < w.heap.size) (D.runD (W.take j))) (fun _ _ _ i _ => ar - (intOf i).toNat)
  case atStart => exact ⟨0, by omega, rfl, rfl, L0⟩
  case round =>
    clear L0
    obtain ⟨j, hj, rfl, hE, L1⟩ := hrel
    have htj := tame_run (W.take j) htm
    have hlen : (W.take j).length ≤ 18 := by rw [List.length_take, HWl.out]; omega
    obtain ⟨D1, hD1⟩ : ∃ D1, D.runD (W.take j) = D1 := ⟨_, rfl⟩
    rw [hD1] at L1 htj
    have HD1 := Lib.hid hD1
    have HE := Lib.hid hE
    obtain ⟨X3, H3, t3⟩ := Hst.out wr L1.turn
    clear hD1 hE
    by_cases hlt : j < ar
    · have e3 : (j : Int) < (ar : Int) := by omega
      have Hnx := Lib.hid (HWn.out j hlt)
      obtain ⟨s1, s2⟩ := Hseal.out j hlt
      obtain ⟨x, hx⟩ : ∃ x, blkL (cntH C.n g j) (C.body (j : Int)) = x := ⟨_, rfl⟩
      rw [hx] at s2
      obtain ⟨s, hs⟩ : ∃ s, a + j = s := ⟨_, rfl⟩
      rw [hs] at s1 s2
      have hs2 : (a : Int) + (j : Int) = (s : Int) := by omega
      have hs3 : s ≤ 100 := by omega
      have hE1 := Lib.hid (show D.runE (W.take (j + 1)) = D1.says (.w s x) by rw [Hnx.out, runE_snoc, if_pos HE.out, HD1.out, hx, hs])
      have hD2 := Lib.hid (show D.runD (W.take (j + 1)) = D1.does (.w s x) by rw [Hnx.out, runD_snoc, if_pos HE.out, HD1.out, hx, hs])
      have S1 := Lib.hid s1
      have S2 := Lib.hid s2
      have q0 := X3.c0
      rw [hgg] at q0
      obtain ⟨E, hEE⟩ : ∃ E, D1.says (.w s x) = E := ⟨_, rfl⟩
      have HEE := Lib.hid hEE
      clear hEE hx hs s1 s2
      by_cases h0 : E = 0
      · have nb : (E != 0) = false := by simpa using h0
        have H0 := Lib.hid h0
        clear h0
        go_wp2_with (first
          | (go_at_call 119; refine (phead_any _ g wr).mono ?_; rintro e w4 ⟨rfl, b4⟩; have H4 := H3.below b4; have t4 := t3.below b4 t3.1)
          | (go_at_call 120; refine (cbody_any H4 (j : Int)).mono ?_; rintro e w5 ⟨V, n5, c5, rfl, s5, b5, _⟩; have t5 := t4.below b5 t4.1)
          | (go_at_call 90; refine (seal_any ⟨2, (s : Int), 0, 0, g⟩ V n5 c5 _ w5 s5 t5).mono ?_; rw [S1.out, S2.out]; rintro e w6 ⟨A6, n6, c6, rfl, own6, hg6, b6⟩; have L6 := L1.below (b4.trans ((b5.mono b4.size).trans (b6.mono (Nat.le_trans b4.size b5.size)))))
          | (go_at_call 37; refine (dwrite_any L6 htj (by omega) s _ rfl A6 n6 c6 x own6.sl).mono ?_; rw [HEE.out]; rintro e w7 ⟨rfl, L7⟩)
          | fail)
        exact ⟨⟨j + 1, by omega, by go_num, hE1.out.trans (HEE.out.trans H0.out), by rw [hD2.out]; exact L7⟩, by simp [intOf]; omega⟩
      · have nb : (E != 0) = true := by simpa using h0
        have hstop : D.runE (W.take (j + 1)) ≠ 0 := fun h => h0 (HEE.out.symm.trans (hE1.out.symm.trans h))
        have hall : setL C S = W.take (j + 1) ++ (W.drop (j + 1) ++ .fl :: [.w t sb, .fl]) := by rw [HS.out]; unfold cmtL; rw [← List.append_assoc, List.take_append_drop]
        obtain ⟨r1, r2⟩ := run_stopped (l' := W.drop (j + 1) ++ .fl :: [.w t sb, .fl]) hstop
        have R1 := Lib.hid (show D.runB (setL C S) = false by unfold DM.runB; rw [hall, r1]; exact decide_eq_false hstop)
        have R2 := Lib.hid (show D.runD (setL C S) = D1.does (.w s x) by rw [hall, r2, hD2.out])
        clear hall r1 r2 hstop h0
        go_wp2_with (first
          | (go_at_call 119; refine (phead_any _ g wr).mono ?_; rintro e w4 ⟨rfl, b4⟩; have H4 := H3.below b4; have t4 := t3.below b4 t3.1)
          | (go_at_call 120; refine (cbody_any H4 (j : Int)).mono ?_; rintro e w5 ⟨V, n5, c5, rfl, s5, b5, _⟩; have t5 := t4.below b5 t4.1)
          | (go_at_call 90; refine (seal_any ⟨2, (s : Int), 0, 0, g⟩ V n5 c5 _ w5 s5 t5).mono ?_; rw [S1.out, S2.out]; rintro e w6 ⟨A6, n6, c6, rfl, own6, hg6, b6⟩; have L6 := L1.below (b4.trans ((b5.mono b4.size).trans (b6.mono (Nat.le_trans b4.size b5.size)))))
          | (go_at_call 37; refine (dwrite_any L6 htj (by omega) s _ rfl A6 n6 c6 x own6.sl).mono ?_; rw [HEE.out]; rintro e w7 ⟨rfl, L7⟩)
          | fail)
        go_ret
        exact ⟨by rw [R1.out]; rfl, by rw [R2.out]; exact L7.from B2⟩
    · have hja : j = ar := by omega
      subst hja
      have hfull : W.take j = W := List.take_of_length_le (by rw [HWl.out]; exact Nat.le_refl _)
      have hE0 := HE.out
      have hD0 := HD1.out
      rw [hfull] at hE0 hD0
      obtain ⟨r1, r2⟩ := cmt_runs (D := D) (A := W) t sb hE0
      rw [hD0, ← HS.out] at r1 r2
      have e3 : ¬ (j : Int) < (j : Int) := by omega
      have hf1 := tame_does htj .fl
      obtain ⟨E1, hE1⟩ : ∃ E, D1.says .fl = E := ⟨_, rfl⟩
      obtain ⟨D2, hD2⟩ : ∃ E, D1.does .fl = E := ⟨_, rfl⟩
      rw [hD2] at hf1
      rw [(run_cons _ _ _).1, hE1, hD2] at r1
      rw [(run_cons _ _ _).2, hE1, hD2] at r2
      have HE1 := Lib.hid hE1
      have HD2 := Lib.hid hD2
      clear hE1 hD2 hE0 hD0 hfull
      by_cases h1 : E1 = 0
      · have nb1 : (E1 != 0) = false := by simpa using h1
        rw [if_pos h1] at r1 r2
        have hf2 := tame_does hf1 (.w t sb)
        obtain ⟨E2, hE2⟩ : ∃ E, D2.says (.w t sb) = E := ⟨_, rfl⟩
        obtain ⟨D3, hD3⟩ : ∃ E, D2.does (.w t sb) = E := ⟨_, rfl⟩
        rw [hD3] at hf2
        rw [(run_cons _ _ _).1, hE2, hD3] at r1
        rw [(run_cons _ _ _).2, hE2, hD3] at r2
        have HE2 := Lib.hid hE2
        have HD3 := Lib.hid hD3
        clear hE2 hD3 h1
        have q0 := X3.c0
        rw [hgg] at q0
        have hcs := Lib.hid (fun (w' : World) (l' : Dsk w2 w' d (fun k => S0 k ∧ k < w.heap.size) D2) => Hst.out w' l'.turn)
        by_cases h2 : E2 = 0
        · rw [if_pos h2, (one_run _ _).1] at r1
          rw [if_pos h2, (one_run _ _).2] at r2
          have nb2 : (E2 == 0) = true := by simpa using h2
          have R1 := Lib.hid (show D.runB (setL C S) = decide (D3.says .fl = 0) by unfold DM.runB; rw [r1])
          have R2 := Lib.hid r2
          clear r1 r2 h2
          go_wp2_with (first
            | (go_at_call 121; refine (dflush_any L1 htj (by omega)).mono ?_; rw [HE1.out, HD2.out]; rintro e w4 ⟨rfl, L4⟩; obtain ⟨X4, H4, t4⟩ := hcs.out w4 L4; have q04 := X4.c0; rw [hgg] at q04; have hl4 := X4.ld)
            | (go_at_call 122; refine (swrite_any S (t : Int) Hfine.out w4 t4).mono ?_; rw [Hsw.out, Hsb.out]; rintro e w5 ⟨A5, n5, c5, rfl, own5, _, b5⟩; have L5 := L4.below b5)
            | (go_at_call 37; refine (dwrite_any L5 hf1 (by omega) t _ rfl A5 n5 c5 sb own5.sl).mono ?_; rw [HE2.out, HD3.out]; rintro e w6 ⟨rfl, L6⟩)
            | (go_at_call 121; have hh := L6; refine (dflush_any L6 hf2 (by omega)).mono ?_; rintro e w7 ⟨rfl, L7⟩)
            | fail)
          go_ret
          exact ⟨by rw [R1.out]; rfl, by rw [R2.out]; exact L7.from B2⟩
        · rw [if_neg h2] at r1 r2
          have nb2 : (E2 == 0) = false := by simpa using h2
          have R1 := Lib.hid (show D.runB (setL C S) = false by unfold DM.runB; rw [r1]; exact decide_eq_false h2)
          have R2 := Lib.hid r2
          clear r1 r2 h2
          go_wp2_with (first
            | (go_at_call 121; refine (dflush_any L1 htj (by omega)).mono ?_; rw [HE1.out, HD2.out]; rintro e w4 ⟨rfl, L4⟩; obtain ⟨X4, H4, t4⟩ := hcs.out w4 L4; have q04 := X4.c0; rw [hgg] at q04; have hl4 := X4.ld)
            | (go_at_call 122; refine (swrite_any S (t : Int) Hfine.out w4 t4).mono ?_; rw [Hsw.out, Hsb.out]; rintro e w5 ⟨A5, n5, c5, rfl, own5, _, b5⟩; have L5 := L4.below b5)
            | (go_at_call 37; refine (dwrite_any L5 hf1 (by omega) t _ rfl A5 n5 c5 sb own5.sl).mono ?_; rw [HE2.out, HD3.out]; rintro e w6 ⟨rfl, L6⟩)
            | fail)
          go_ret
          exact ⟨by rw [R1.out]; rfl, by rw [R2.out]; exact L6.from B2⟩
      · have nb1 : (E1 != 0) = true := by simpa using h1
        rw [if_neg h1] at r1 r2
        have R1 := Lib.hid (show D.runB (setL C S) = false by unfold DM.runB; rw [r1]; exact decide_eq_false h1)
        have R2 := Lib.hid r2
        clear r1 r2 h1
        go_wp2_with (first
          | (go_at_call 121; refine (dflush_any L1 htj (by omega)).mono ?_; rw [HE1.out, HD2.out]; rintro e w4 ⟨rfl, L4⟩)
          | fail)
        go_ret
        exact ⟨by rw [R1.out]; rfl, by rw [R2.out]; exact L4.from B2⟩
end Go.Proofs.YtipejjgodnnkaaaGreatDoor

namespace Go.Proofs.YtipejjgodnnkaaaGreatDoor
open Go Go.RowKit Go.Proofs

def Hd.same (a b : Hd) : Bool := a.kind == b.kind && (a.addr == b.addr && (a.count == b.count && (a.level == b.level && a.gen == b.gen)))
theorem Hd.same_iff (a b : Hd) : a.same b = true ↔ a = b := by
  unfold Hd.same
  simp only [Bool.and_eq_true, beq_iff_eq]
  constructor
  · rintro ⟨h1, h2, h3, h4, h5⟩
    cases a; cases b; simp_all
  · rintro rfl
    simp
theorem eqlIn_hd (d : Nat) (a b : Hd) (w : World) : (Op.equalIn (d + 2) 118 a.v b.v).run Tryz.prog w = .ok (a.same b) w := by
  unfold Hd.v
  rw [run_equalIn_agg w (d + 1) 118 _ _ (by kernel_rfl) (by kernel_rfl)]
  unfold Program.fieldsOf
  rw [Tryz.underlying118]
  simp [go_sem, Tryz.underlying3]
  unfold Hd.same
  by_cases h1 : a.kind = b.kind
  · by_cases h2 : a.addr = b.addr
    · by_cases h3 : a.count = b.count
      · by_cases h4 : a.level = b.level
        · by_cases h5 : a.gen = b.gen
          · simp [h1, h2, h3, h4, h5]
          · simp [h1, h2, h3, h4, h5]
        · simp [h1, h2, h3, h4]
      · simp [h1, h2, h3]
    · simp [h1, h2]
  · simp [h1]
theorem neq_hd (a b : Hd) (r : Bool) (h : a.same b = r) (w : World) : (binOp .neq 118 (.agg #[.int .i64 a.kind, .int .i64 a.addr, .int .i64 a.count, .int .i64 a.level, .int .i64 a.gen]) (.agg #[.int .i64 b.kind, .int .i64 b.addr, .int .i64 b.count, .int .i64 b.level, .int .i64 b.gen])).run Tryz.prog w = .ok (.bool (!r)) w := by
  rw [run_neq_struct]
  have := eqlIn_hd 9998 a b w
  unfold Hd.v at this
  rw [this, h]
  rfl
theorem grd_hd (op : BinOp) (x y : Operand) (xs ys : Array Value) (w : World) : (eqGuard op 118 x y (.agg xs) (.agg ys)).run Tryz.prog w = .ok () w :=
  run_eqGuard_agg w op 118 x y xs ys (by kernel_rfl)
theorem cnt_same {x : List UInt8} {a : Nat} {g : Int} : cntOk x a g = (okB x && (opH x).same ⟨2, (a : Int), 0, 0, g⟩) := by
  cases ho : okB x
  · unfold cntOk ckOk
    rw [ho]
    rfl
  · rw [Bool.true_and, Bool.eq_iff_iff, Hd.same_iff]
    unfold cntOk ckOk
    rw [ho, Bool.true_and, Bool.and_eq_true]
    constructor
    · rintro ⟨h1, h2⟩
      obtain ⟨h3, h4⟩ := of_decide_eq_true h1
      obtain ⟨h5, h6, h7⟩ := of_decide_eq_true h2
      cases hh : opH x
      rw [hh] at h3 h4 h5 h6 h7
      simp_all
    · intro h
      rw [h]
      exact ⟨decide_eq_true ⟨rfl, rfl⟩, decide_eq_true ⟨rfl, rfl, rfl⟩⟩

/-- make of slices of bytes, kept shut. -/
def mkP (a b : Value) : Sem Value := Instr.makeSlice 67 a b
theorem mkP_shut (a b : Value) : Instr.makeSlice 67 a b = mkP a b := rfl
def litP (n : Nat) (w : World) : World := w.alloc (.cells (madeCells #[.slice none 0 0] (n * 1)) 30)
theorem run_mkP (n : Nat) (hn : n ≤ 1000) (w : World) : (mkP (.int .i64 (n : Int)) (.int .i64 (n : Int))).run Tryz.prog w = .ok (.slice (some ⟨w.heap.size, 0, none⟩) n n) (litP n w) := by
  obtain ⟨i, hi, hz0, hz1, hz2⟩ := info_parts (show (Tryz.prog.info? 30).map (fun i => (i.zero, i.size, i.bytes)) = some (some (.slice none 0 0), 1, 24) by kernel_rfl)
  have h := run_makeSlice (P := Tryz.prog) w 67 30 i _ Tryz.underlying67 hi hz0 .i64 .i64 n n (by omega) (by omega) (by rw [hz1, Int.toNat_natCast]; omega) (by rw [hz2]; omega) (by omega)
  rw [hz1] at h
  exact h
theorem litP_row (n : Nat) (w : World) : (litP n w).heap[w.heap.size]? = some (.cells (madeCells #[.slice none 0 0] (n * 1)) 30 (0, 0)) := heap_alloc_new w _
/-- A row of slices, the first j of which are filled. -/
def BR (w : World) (b n j : Nat) (ls : Nat → List UInt8) : Prop := ∃ cur : Array Value, w.heap[b]? = some (.cells cur 30 (0, 0)) ∧ cur.size = n ∧ ∀ i, i < j → ∃ A m c, cur[i]? = some (.slice A m c) ∧ Sl w A m c (ls i) ∧ ∀ ad, A = some ad → ad.block ≠ b
theorem BR.lt {w : World} {b n j : Nat} {ls : Nat → List UInt8} (H : BR w b n j ls) : b < w.heap.size := by
  obtain ⟨cur, h, _⟩ := H
  exact lt_of_heap h
theorem BR.below {w w' : World} {b n j : Nat} {ls : Nat → List UInt8} (H : BR w b n j ls) (hb : Below w.heap.size w w') : BR w' b n j ls := by
  obtain ⟨cur, h, h2, h3⟩ := H
  refine ⟨cur, (hb.block b (lt_of_heap h)).trans h, h2, fun i hi => ?_⟩
  obtain ⟨A, m, c, e, hs, hne⟩ := h3 i hi
  exact ⟨A, m, c, e, hs.below hb, hne⟩
theorem BR.at_ {w : World} {b n j : Nat} {ls : Nat → List UInt8} (H : BR w b n j ls) {i : Nat} (hi : i < n) : (∃ v, w.cell? ⟨b, i, none⟩ = some v) ∧ w.frozen? ⟨b, i, none⟩ = false := by
  obtain ⟨cur, h, h2, _⟩ := H
  refine ⟨⟨cur[i], ?_⟩, by unfold World.frozen?; rw [h]; simp⟩
  rw [cell_of_row _ _ _ _ _ _ h, Array.getElem?_eq_getElem (by omega)]
theorem BR.set_ {w : World} {b n j : Nat} {ls : Nat → List UInt8} (H : BR w b n j ls) (hj : j < n) {A : Option Addr} {m c : Nat} (hs : Sl w A m c (ls j)) (hA : ∀ ad, A = some ad → ad.block ≠ b) : BR (w.setCell ⟨b, j, none⟩ (.slice A m c)) b n (j + 1) ls := by
  obtain ⟨cur, h, h2, h3⟩ := H
  have T : Turn (fun k => k = b) w (w.setCell ⟨b, j, none⟩ (.slice A m c)) := turn_setCell (a := ⟨b, j, none⟩) _ rfl
  refine ⟨_, heap_setCell_same w b j cur _ _ h, by simp [h2], fun i hi => ?_⟩
  by_cases e : i = j
  · subst e
    exact ⟨A, m, c, by simp [h2, hj], ct_turned hs T fun ad e => hA ad e, hA⟩
  · obtain ⟨A', m', c', e', hs', hne⟩ := h3 i (by omega)
    exact ⟨A', m', c', by rw [Array.getElem?_setIfInBounds_ne (Ne.symm e)]; exact e', ct_turned hs' T fun ad e => hne ad e, hne⟩
theorem BR.parts {w : World} {b n : Nat} {ls : Nat → List UInt8} (H : BR w b n n ls) (hn : n ≤ 1000) : Parts w (some ⟨b, 0, none⟩) n n ((List.range n).map ls) := by
  have hlt := H.lt
  obtain ⟨cur, h, h2, h3⟩ := H
  refine ⟨by simp, Nat.le_refl _, by unfold maxLen; omega, fun j l hl => ?_⟩
  have hj : j < n := by have := (List.getElem?_eq_some_iff.1 hl).1; simpa using this
  rw [List.getElem?_map, List.getElem?_range hj] at hl
  obtain rfl : ls j = l := by simpa using hl
  obtain ⟨A, m, c, e, hs, _⟩ := h3 j hj
  refine ⟨_, A, m, c, rfl, hlt, ?_, hs⟩
  rw [show (⟨b, 0, none⟩ : Addr).add j = ⟨b, j, none⟩ by simp [Addr.add]; exact fun h => h.symm, cell_of_row _ _ _ _ _ _ h]
  exact e
theorem readL_in {D : DM} (hon : D.off = false) {s : Nat} (hs : s < D.n) : D.readL (s : Int) = D.newest s ∧ D.readE (s : Int) = 0 := by
  unfold DM.readL DM.readE
  have h : 0 ≤ (s : Int) ∧ (s : Int) < (D.n : Int) := by omega
  rw [hon]
  simp only [Bool.false_eq_true, if_false]
  rw [if_pos h, if_pos h, Int.toNat_natCast]
  exact ⟨rfl, rfl⟩

attribute [local go_sem ↓] ldS_shut mkP_shut
set_option maxRecDepth 100000 in
set_option maxHeartbeats 8000000 in
theorem pload_any {w : World} {d : Nat} {S0 : Nat → Prop} {D : DM} (L : Drv w d S0 D) (hon : D.off = false) (S : Sp) (hmay : S.may = true) (hsec : S.sectors = (D.n : Int)) (ht : Tab w) :
    Calls Tryz.prog 95 #[.pointer (some ⟨d, 0, none⟩), .agg S.vs.toArray] w fun e w' =>
      ((((∀ i, i < areaN D.n → cntOk (D.newest (areaAt D.n S.gen + i)) (areaAt D.n S.gen + i) S.gen = true) ∧ loadE (D.n : Int) (mtB D.newest D.n S.gen) = 0) ∧ ∃ p, e = .returned (.tuple #[.pointer (some ⟨p, 0, none⟩), .int .i64 0]) ∧ CCo w' p 0 (fun k => w.heap.size ≤ k) (mtC D.newest D.n S.gen) ∧ w.heap.size ≤ p) ∨
        (¬ ((∀ i, i < areaN D.n → cntOk (D.newest (areaAt D.n S.gen + i)) (areaAt D.n S.gen + i) S.gen = true) ∧ loadE (D.n : Int) (mtB D.newest D.n S.gen) = 0) ∧ ∃ E, E ≠ 0 ∧ e = .returned (.tuple #[.pointer none, .int .i64 E]))) ∧ Below w.heap.size w w' := by
  have hok := L.sectors
  unfold sectors at hok
  have hgen := (may_parts hmay).1
  have hg : genOk S.gen := ⟨hgen.1, hgen.2.1⟩
  obtain ⟨g, hgg⟩ : ∃ g, S.gen = g := ⟨_, rfl⟩
  rw [hgg] at hg ⊢
  have hin := fun i hi => areaAt_in hok.1 hok.2 g (i := i) hi
  obtain ⟨ar, har⟩ : ∃ m, areaN D.n = m := ⟨_, rfl⟩
  have har2 : ar ≤ 18 := by unfold areaN at har; omega
  obtain ⟨a, ha⟩ : ∃ a, areaAt D.n g = a := ⟨_, rfl⟩
  have hA := parea_any S D.n hsec hok.2 ⟨by rw [hgg]; have := hg.1; omega, by rw [hgg]; have := hg.2; omega⟩
  rw [hgg, ha, har] at hA
  rw [ha, har] at hin
  have hB : mtB D.newest D.n g = (List.range ar).map fun i => (D.newest (a + i)).drop 20 := by unfold mtB; rw [har, ha]
  have hC : mtC D.newest D.n g = loadC D.n (mtB D.newest D.n g) := rfl
  rw [hC, hB, ha, har]
  generalize hG : ((∀ i, i < ar → cntOk (D.newest (a + i)) (a + i) g = true) ∧ loadE (D.n : Int) ((List.range ar).map fun i => (D.newest (a + i)).drop 20) = 0) = G
  have HG := Lib.hid hG
  have HA := Lib.hid hA
  have Hin := Lib.hid hin
  have hl1 := fun w' (H : SB w' w.heap.size S) => H.ld
  have q1 := fun w' (H : SB w' w.heap.size S) => H.c1
  have q0 := fun w' (H : SB w' w.heap.size S) => H.c0
  rw [hsec] at q1
  rw [hgg] at q0
  have Hl1 := Lib.hid hl1
  have Q0 := Lib.hid q0
  have Q1 := Lib.hid q1
  have X1 := SB.new w S 56
  have b1 : Below w.heap.size w (w.alloc (.cells S.vs.toArray 56)) := (Below.refl _ _).alloc (Nat.le_refl _) _
  have htl := ht.1
  have L1 := L.tight.below b1
  have t1 := ht.below b1 ht.1
  have hll := X1.ld
  have hmk := run_mkP ar (by omega)
  clear hG hA hin hgen hg hsec hmay har ha hl1 q0 q1 hgg L ht hB hC
  go_enter Tryz.func95, Tryz.ntmps95
  go_wp2_with fail
  generalize w.alloc (.cells S.vs.toArray 56) = w1 at b1 L1 t1 X1 hll ⊢
  refine (HA.out w1).mono ?_
  rintro e w2 ⟨rfl, b2⟩
  have L2 := L1.below b2
  have t2 := t1.below b2 t1.1
  have X2 := X1.below b2 X1.lt
  have B2 := b1.trans (b2.mono b1.size)
  clear hll L1 t1 X1 b1 b2
  have b3 : Below w2.heap.size w2 (litP ar w2) := (Below.refl _ _).alloc (Nat.le_refl _) _
  have R3 : BR (litP ar w2) w2.heap.size ar 0 (fun i => (D.newest (a + i)).drop 20) := ⟨_, litP_row ar w2, by rw [size_madeCells, Nat.mul_one], fun i hi => absurd hi (Nat.not_lt_zero _)⟩
  go_wp2_with fail
  have L3 := L2.below b3
  have t3 := t2.below b3 t2.1
  have X3 := X2.below b3 X2.lt
  have B3 := B2.trans (b3.mono B2.size)
  have hz3 : w.heap.size < w2.heap.size := X2.lt
  generalize litP ar w2 = w3 at R3 L3 t3 X3 B3 ⊢
  obtain ⟨bb, hbb⟩ : ∃ b, w2.heap.size = b := ⟨_, rfl⟩
  rw [hbb] at R3 hz3 ⊢
  clear L2 t2 X2 B2 b3 hbb hmk
  go_loopw [9, 10, 11, 12, 13, 14, 23] (fun _ _ _ _ _ _ i wr => ∃ j : Nat, j ≤ ar ∧ i = .int .i64 (j : Int) ∧ (∀ q, q < j → cntOk (D.newest (a + q)) (a + q) g = true) ∧ BR wr bb ar j (fun i => (D.newest (a + i)).drop 20) ∧ Drv wr d (fun k => S0 k ∧ k < w.heap.size) D ∧ Tab wr ∧ SB wr w.heap.size S ∧ Below w.heap.size w wr) (fun _ _ _ _ _ _ i _ => ar - (intOf i).toNat)
  case atStart => exact ⟨0, by omega, rfl, fun q hq => absurd hq (Nat.not_lt_zero _), R3, L3, t3, X3, B3⟩
  case round =>
    clear R3 L3 t3 X3 B3
    obtain ⟨j, hj, rfl, hall, R, L, t, X, B⟩ := hrel
    have Hall := Lib.hid hall
    clear hall
    by_cases hlt : j < ar
    · have e3 : (j : Int) < (ar : Int) := by omega
      obtain ⟨_, i2, _, i4⟩ := Hin.out j hlt
      obtain ⟨s, hs⟩ : ∃ s, a + j = s := ⟨_, rfl⟩
      rw [hs] at i2 i4
      have hs2 : (a : Int) + (j : Int) = (s : Int) := by omega
      obtain ⟨r1, r2⟩ := readL_in hon i4
      obtain ⟨x, hx⟩ : ∃ x, D.newest s = x := ⟨_, rfl⟩
      rw [hx] at r1
      obtain ⟨_, _, _, _, _, L'⟩ := L
      have hrd := read_any L' (s : Int)
      rw [r1, r2] at hrd
      have L : Drv wr d (fun k => S0 k ∧ k < w.heap.size) D := ⟨_, _, _, _, _, L'⟩
      have Hrd := Lib.hid hrd
      have Hs := Lib.hid hs
      have Hx := Lib.hid hx
      clear hrd r1 r2 hs hx L'
      cases hoe : okB x
      · have hno : cntOk (D.newest (a + j)) (a + j) g = false := by rw [Hs.out, Hx.out, cnt_same, hoe]; rfl
        have Hno := Lib.hid (show ¬ G by rw [← HG.out]; exact fun h => by have := h.1 j hlt; rw [hno] at this; cases this)
        obtain ⟨o1, o2, o3⟩ := op_no hoe
        clear hno
        go_wp2_with (first
          | (go_at_call 93; refine Hrd.out.mono ?_; rintro e w4 ⟨A4, n4, rfl, s4, _, b4, _⟩; have t4 := t.below b4 t.1)
          | (go_at_call 132; have hO := open_any A4 n4 n4 x w4 s4 t4; unfold OpenSays at hO; rw [o1, o2, o3] at hO; refine hO.mono ?_; rintro e w5 ⟨A5, n5, c5, rfl, own5, b5⟩)
          | (refine wp_store_hB rfl (.tmp 12) (.tmp 37) rfl w5.heap.size rfl Hd.zero _ rfl (HB.zero w5 _) (by simp) ?_; intro w6 H6 hb6 T6; have b56 : Below w5.heap.size w5 w6 := ((Below.refl _ _).alloc (Nat.le_refl _) _).trans (hb6 _ (Nat.le_refl _)); have b46 : Below wr.heap.size wr w6 := b4.trans ((b5.trans (b56.mono b5.size)).mono b4.size))
          | fail)
        have B6 := B.trans (b46.mono B.size)
        go_quiet (fail)
        generalize hw7 : World.drewN w6 _ = w7
        have B7 : Below w.heap.size w w7 := by rw [← hw7]; exact ⟨B6.os, B6.tape, B6.output, B6.size, B6.block⟩
        clear hw7
        go_wp2
        go_ret2
        exact ⟨.inr ⟨Hno.out, 5, by omega, rfl⟩, B7⟩
      · obtain ⟨o1, o2, o3⟩ := op_yes hoe
        obtain ⟨H, hH⟩ : ∃ H, opH x = H := ⟨_, rfl⟩
        have o1 : opH x = H := hH
        obtain ⟨r, hr⟩ : ∃ r, H.same ⟨2, (s : Int), 0, 0, g⟩ = r := ⟨_, rfl⟩
        have hcn : cntOk (D.newest (a + j)) (a + j) g = r := by rw [Hs.out, Hx.out, cnt_same, hoe, hH, hr]; rfl
        have hneq := neq_hd H ⟨2, (s : Int), 0, 0, g⟩ r hr
        have hgrd := grd_hd
        have q0 := Q0.out wr X
        have zX := X.lt
        have Hcn := Lib.hid hcn
        clear hcn hr hH
        cases r
        · have Hno := Lib.hid (show ¬ G by rw [← HG.out]; exact fun h => by have := h.1 j hlt; rw [Hcn.out] at this; cases this)
          go_wp2_with (first
            | (go_at_call 93; refine Hrd.out.mono ?_; rintro e w4 ⟨A4, n4, rfl, s4, _, b4, _⟩; have t4 := t.below b4 t.1)
            | (go_at_call 132; have hO := open_any A4 n4 n4 x w4 s4 t4; unfold OpenSays at hO; rw [o1, o2, o3] at hO; refine hO.mono ?_; rintro e w5 ⟨A5, n5, c5, rfl, own5, b5⟩)
            | (refine wp_store_hB rfl (.tmp 12) (.tmp 37) rfl w5.heap.size rfl H _ rfl (HB.zero w5 _) (by simp) ?_; intro w6 H6 hb6 T6; have b56 : Below w5.heap.size w5 w6 := ((Below.refl _ _).alloc (Nat.le_refl _) _).trans (hb6 _ (Nat.le_refl _)); have b46 : Below wr.heap.size wr w6 := b4.trans ((b5.trans (b56.mono b5.size)).mono b4.size))
            | fail)
          have q06 := (b46.cell (p := ⟨w.heap.size, 0, none⟩) zX).trans q0
          have zX6 : w.heap.size < w6.heap.size := Nat.lt_of_lt_of_le zX b46.size
          have zH : w5.heap.size < w6.heap.size := by obtain ⟨_, h⟩ := H6; exact lt_of_heap h
          have B6 := B.trans (b46.mono B.size)
          have hc0 := H6.at_ 0
          have hc1 := H6.at_ 1
          have hc2 := H6.at_ 2
          have hc3 := H6.at_ 3
          have hc4 := H6.at_ 4
          simp only [foff, Hd.fld] at hc0 hc1 hc2 hc3 hc4
          have g0 : ∀ u : Grown w6, u.to.cell? ⟨w.heap.size, 0, none⟩ = some (.int .i64 g) := Grown.cell q06 zX6
          have g1 : ∀ u : Grown w6, u.to.cell? ⟨w5.heap.size, 0, none⟩ = some (.int .i64 H.kind) := Grown.cell hc0 zH
          have g2 : ∀ u : Grown w6, u.to.cell? ⟨w5.heap.size, 3, none⟩ = some (.int .i64 H.level) := Grown.cell hc1 zH
          have g3 : ∀ u : Grown w6, u.to.cell? ⟨w5.heap.size, 1, none⟩ = some (.int .i64 H.addr) := Grown.cell hc2 zH
          have g4 : ∀ u : Grown w6, u.to.cell? ⟨w5.heap.size, 2, none⟩ = some (.int .i64 H.count) := Grown.cell hc3 zH
          have g5 : ∀ u : Grown w6, u.to.cell? ⟨w5.heap.size, 4, none⟩ = some (.int .i64 H.gen) := Grown.cell hc4 zH
          refine wp_region_grown (by kernel_rfl) (by kernel_rfl) ?_
          repeat (go_big_quiet_step (first
            | (go_at_call 119; exact Calls.grown (phead_any _ g _))
            | fail))
          refine wpQuiet_nil ?_
          rintro _ ⟨u, rfl⟩
          have B7 := B6.trans (u.ok.mono B6.size)
          go_wp2
          go_ret2
          exact ⟨.inr ⟨Hno.out, 5, by omega, rfl⟩, B7⟩
        · go_wp2_with (first
            | (go_at_call 93; refine Hrd.out.mono ?_; rintro e w4 ⟨A4, n4, rfl, s4, _, b4, _⟩; have t4 := t.below b4 t.1)
            | (go_at_call 132; have hO := open_any A4 n4 n4 x w4 s4 t4; unfold OpenSays at hO; rw [o1, o2, o3] at hO; refine hO.mono ?_; rintro e w5 ⟨A5, n5, c5, rfl, own5, b5⟩)
            | (refine wp_store_hB rfl (.tmp 12) (.tmp 37) rfl w5.heap.size rfl H _ rfl (HB.zero w5 _) (by simp) ?_; intro w6 H6 hb6 T6; have b56 : Below w5.heap.size w5 w6 := ((Below.refl _ _).alloc (Nat.le_refl _) _).trans (hb6 _ (Nat.le_refl _)); have b46 : Below wr.heap.size wr w6 := b4.trans ((b5.trans (b56.mono b5.size)).mono b4.size))
            | fail)
          have q06 := (b46.cell (p := ⟨w.heap.size, 0, none⟩) zX).trans q0
          have zX6 : w.heap.size < w6.heap.size := Nat.lt_of_lt_of_le zX b46.size
          have zH : w5.heap.size < w6.heap.size := by obtain ⟨_, h⟩ := H6; exact lt_of_heap h
          have hc0 := H6.at_ 0
          have hc1 := H6.at_ 1
          have hc2 := H6.at_ 2
          have hc3 := H6.at_ 3
          have hc4 := H6.at_ 4
          simp only [foff, Hd.fld] at hc0 hc1 hc2 hc3 hc4
          have g0 : ∀ u : Grown w6, u.to.cell? ⟨w.heap.size, 0, none⟩ = some (.int .i64 g) := Grown.cell q06 zX6
          have g1 : ∀ u : Grown w6, u.to.cell? ⟨w5.heap.size, 0, none⟩ = some (.int .i64 H.kind) := Grown.cell hc0 zH
          have g2 : ∀ u : Grown w6, u.to.cell? ⟨w5.heap.size, 3, none⟩ = some (.int .i64 H.level) := Grown.cell hc1 zH
          have g3 : ∀ u : Grown w6, u.to.cell? ⟨w5.heap.size, 1, none⟩ = some (.int .i64 H.addr) := Grown.cell hc2 zH
          have g4 : ∀ u : Grown w6, u.to.cell? ⟨w5.heap.size, 2, none⟩ = some (.int .i64 H.count) := Grown.cell hc3 zH
          have g5 : ∀ u : Grown w6, u.to.cell? ⟨w5.heap.size, 4, none⟩ = some (.int .i64 H.gen) := Grown.cell hc4 zH
          refine wp_region_grown (by kernel_rfl) (by kernel_rfl) ?_
          repeat (go_big_quiet_step (first
            | (go_at_call 119; exact Calls.grown (phead_any _ g _))
            | fail))
          refine wpQuiet_nil ?_
          rintro _ ⟨u, rfl⟩
          have b47 : Below wr.heap.size wr u.to := b46.trans (u.ok.mono b46.size)
          have B7 := B.trans (b47.mono B.size)
          have R7 := R.below b47
          have s7 : Sl u.to A5 n5 c5 ((D.newest (a + j)).drop 20) := by rw [Hs.out, Hx.out, ← o2]; exact (o2 ▸ own5.sl.below b56).below u.ok
          have hA7 : ∀ ad, A5 = some ad → ad.block ≠ bb := fun ad e => by have h1 := (own5.block ad e).1; have h2 := R.lt; have h3 := b4.size; omega
          obtain ⟨⟨v7, hv7⟩, f7⟩ := R7.at_ hlt
          have R8 := R7.set_ hlt s7 hA7
          have L7 := L.below b47
          have t7 := t.below b47 t.1
          have X7 := X.below b47 X.lt
          have hlb : bb < u.to.heap.size := R7.lt
          have T78 : Turn (fun k => k = bb) u.to (u.to.setCell ⟨bb, j, none⟩ (.slice A5 n5 c5)) := turn_setCell (a := ⟨bb, j, none⟩) _ rfl
          have B8 := B7.trans (T78.below (B := w.heap.size) (fun k hk => by omega) (by omega))
          have L8 := L7.keep fun k hk hs => T78.block k hk fun e => by have := hs.2; omega
          have t8 := t7.turned T78 (by omega)
          have X8 := X7.block (T78.block _ X7.lt (by omega))
          clear R L t X B R7 L7 t7 X7 B7 s7 hA7 g0 g1 g2 g3 g4 g5 hc0 hc1 hc2 hc3 hc4 q0 q06 b46 b47 T78
          go_wp2
          refine ⟨⟨j + 1, by omega, by go_num, fun q hq => ?_, R8, L8, t8, X8, B8⟩, by simp [intOf]; omega⟩
          by_cases e : q = j
          · rw [e]; exact Hcn.out
          · exact Hall.out q (by omega)
    · have hja : j = ar := by omega
      subst hja
      have q1 := Q1.out wr X
      have P := R.parts (by omega)
      have hld := cload_any (D.n : Int) _ _ _ _ P
      obtain ⟨LE, hLE⟩ : ∃ x, loadE (D.n : Int) ((List.range j).map fun i => (D.newest (a + i)).drop 20) = x := ⟨_, rfl⟩
      obtain ⟨LC, hLC⟩ : ∃ x, loadC D.n ((List.range j).map fun i => (D.newest (a + i)).drop 20) = x := ⟨_, rfl⟩
      rw [Int.toNat_natCast, hLE, hLC] at hld
      have HLE := Lib.hid hLE
      have HLC := Lib.hid hLC
      have e3 : ¬ (j : Int) < (j : Int) := by omega
      have Hld := Lib.hid hld
      clear hLE hLC hld
      go_wp2_with fail
      refine Hld.out.mono ?_
      rintro e w4 ⟨⟨h0, p, rfl, C4, hp⟩ | ⟨h0, rfl⟩, b4⟩
      · have hY := Lib.hid (show G by rw [← HG.out]; exact ⟨Hall.out, HLE.out.trans h0⟩)
        clear h0
        go_wp2
        go_ret2
        have := B.size
        exact ⟨.inl ⟨hY.out, p, rfl, by rw [HLC.out]; exact C4.mono fun k hk => by omega, by omega⟩, B.trans (b4.mono B.size)⟩
      · have hN := Lib.hid (show ¬ G by rw [← HG.out]; exact fun h => h0 (HLE.out.symm.trans h.2))
        have H0 := Lib.hid h0
        clear h0
        go_wp2
        go_ret2
        exact ⟨.inr ⟨hN.out, LE, H0.out, rfl⟩, B.trans (b4.mono B.size)⟩
end Go.Proofs.YtipejjgodnnkaaaGreatDoor
