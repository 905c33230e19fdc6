/- The drive's small calls: has, Size, On, Steps, Cached, choice, step, Fuse; the laws' kind and filled. -/
import Derived.Test.YtkkmnmiekmfjiaaDrv
namespace Go.Proofs.Ytkkmnmiekmfjiaa
open Go Go.RowKit Go.Proofs

section
variable {w : World} {bp bd bm clock : Nat} {l : List MapEntry} {v : Nat → Value} {S : Nat → Prop} {D : DM}
theorem Lay.c0 (L : Lay w bp bd bm l clock v S D) : w.cell? ⟨bp, 0, none⟩ = some (.slice (some ⟨bd, 0, none⟩) D.n D.cap) := by rw [cell_of_row w bp 0 _ _ _ L.me]; rfl
theorem Lay.c1 (L : Lay w bp bd bm l clock v S D) : w.cell? ⟨bp, 1, none⟩ = some (.map (some bm)) := by rw [cell_of_row w bp 1 _ _ _ L.me]; rfl
theorem Lay.c2 (L : Lay w bp bd bm l clock v S D) : w.cell? ⟨bp, 2, none⟩ = some (.bool D.off) := by rw [cell_of_row w bp 2 _ _ _ L.me]; rfl
theorem Lay.c3 (L : Lay w bp bd bm l clock v S D) : w.cell? ⟨bp, 3, none⟩ = some (.bool D.fused) := by rw [cell_of_row w bp 3 _ _ _ L.me]; rfl
theorem Lay.c4 (L : Lay w bp bd bm l clock v S D) : w.cell? ⟨bp, 4, none⟩ = some (.int .i64 D.left) := by rw [cell_of_row w bp 4 _ _ _ L.me]; rfl
theorem Lay.c5 (L : Lay w bp bd bm l clock v S D) : w.cell? ⟨bp, 5, none⟩ = some (.int .i64 D.steps) := by rw [cell_of_row w bp 5 _ _ _ L.me]; rfl
theorem Lay.fz (L : Lay w bp bd bm l clock v S D) (j : Nat) : w.frozen? ⟨bp, j, none⟩ = false := by simp [World.frozen?, L.me]
end

theorem has_any {w : World} {bp bd bm clock : Nat} {l : List MapEntry} {v : Nat → Value} {S : Nat → Prop} {D : DM} (L : Lay w bp bd bm l clock v S D) (s : Int) :
    Calls Try.prog 27 #[.pointer (some ⟨bp, 0, none⟩), .int .i64 s] w fun e w' => e = .returned (.bool (decide (0 ≤ s ∧ s < (D.n : Int)))) ∧ w = w' := by
  have c0 := L.c0
  go_enter Try.func27, Try.ntmps27
  by_cases h0 : 0 ≤ s
  · by_cases h1 : s < (D.n : Int)
    · go_wp2
      go_ret
      simp [h0, h1]
    · go_wp2
      go_ret
      simp [h1]
      try omega
  · go_wp2
    go_ret
    simp
    intro; omega

theorem size_any {w : World} {bp bd bm clock : Nat} {l : List MapEntry} {v : Nat → Value} {S : Nat → Prop} {D : DM} (L : Lay w bp bd bm l clock v S D) :
    Calls Try.prog 22 #[.pointer (some ⟨bp, 0, none⟩)] w fun e w' => e = .returned (.int .i64 (D.n : Int)) ∧ w = w' := by
  have c0 := L.c0
  go_enter Try.func22, Try.ntmps22
  go_wp2
  go_ret
  exact ⟨rfl, rfl⟩
theorem on_any {w : World} {bp bd bm clock : Nat} {l : List MapEntry} {v : Nat → Value} {S : Nat → Prop} {D : DM} (L : Lay w bp bd bm l clock v S D) :
    Calls Try.prog 25 #[.pointer (some ⟨bp, 0, none⟩)] w fun e w' => e = .returned (.bool (!D.off)) ∧ w = w' := by
  have c0 := L.c2
  go_enter Try.func25, Try.ntmps25
  go_wp2
  go_ret
  exact ⟨rfl, rfl⟩
theorem steps_any {w : World} {bp bd bm clock : Nat} {l : List MapEntry} {v : Nat → Value} {S : Nat → Prop} {D : DM} (L : Lay w bp bd bm l clock v S D) :
    Calls Try.prog 26 #[.pointer (some ⟨bp, 0, none⟩)] w fun e w' => e = .returned (.int .i64 (D.steps : Int)) ∧ w = w' := by
  have c0 := L.c5
  go_enter Try.func26, Try.ntmps26
  go_wp2
  go_ret
  exact ⟨rfl, rfl⟩
/-- How many sectors have cached writes. -/
def DM.cnt (D : DM) : Nat := ((List.range D.n).filter fun s => !(D.cac s).isEmpty).length
theorem Lay.count {w : World} {bp bd bm clock : Nat} {l : List MapEntry} {v : Nat → Value} {S : Nat → Prop} {D : DM} (L : Lay w bp bd bm l clock v S D) : l.length = D.cnt := by
  have hn : (l.map fun e => (kI e).toNat).Nodup := by
    have h := L.ents.one
    rw [List.nodup_iff_pairwise_ne, List.pairwise_map] at h ⊢
    refine h.imp_of_mem fun {a b} ha hb hne he => hne ?_
    obtain ⟨x, _, hx⟩ := L.keys a ha
    obtain ⟨y, _, hy⟩ := L.keys b hb
    rw [hx, hy] at he ⊢
    simp at he; omega
  have hp : (l.map fun e => (kI e).toNat).Perm ((List.range D.n).filter fun s => !(D.cac s).isEmpty) := by
    rw [List.perm_ext_iff_of_nodup hn (List.nodup_range.filter _)]
    intro s
    constructor
    · intro h
      obtain ⟨e, he, rfl⟩ := List.mem_map.1 h
      obtain ⟨x, hx, hk⟩ := L.keys e he
      have hl := getE_of_mem L.ents.one he
      rw [hk, L.look x] at hl
      rw [hk, Int.toNat_natCast]
      rw [List.mem_filter, List.mem_range]
      refine ⟨hx, ?_⟩
      split at hl
      · cases hl
      · rename_i hc
        cases hq : D.cac x with
        | nil => exact absurd hq hc
        | cons a b => rfl
    · intro h
      rw [List.mem_filter] at h
      have hl := L.look s
      rw [if_neg (by intro hq; rw [hq] at h; simp at h)] at hl
      obtain ⟨e, he, hk, _⟩ := getE_mem hl
      exact List.mem_map.2 ⟨e, he, by rw [hk]; simp⟩
  have := hp.length_eq
  rw [List.length_map] at this
  exact this
theorem DM.cnt_le (D : DM) : D.cnt ≤ D.n := by
  have h := List.length_filter_le (fun s => !(D.cac s).isEmpty) (List.range D.n)
  rw [List.length_range] at h
  exact h
theorem cached_any {w : World} {bp bd bm clock : Nat} {l : List MapEntry} {v : Nat → Value} {S : Nat → Prop} {D : DM} (L : Lay w bp bd bm l clock v S D) :
    Calls Try.prog 23 #[.pointer (some ⟨bp, 0, none⟩)] w fun e w' => e = .returned (.int .i64 (D.cnt : Int)) ∧ w = w' := by
  have c0 := L.c1
  have hb := L.map
  have hlen : ∀ (ty : TypeId), (Builtin.len_ #[51] ty #[.map (some bm)]).run Try.prog w = .ok (.int .i64 (D.cnt : Int)) w := fun ty => by
    have h1 := L.count
    have h2 := D.cnt_le
    have h3 := L.n32.2
    have h4 : goInt (l.length : Int) = .int .i64 (D.cnt : Int) := by rw [h1]; rfl
    simp [Builtin.len_, MapKept.run_getObj_map hb, h4]
  go_enter Try.func23, Try.ntmps23
  go_wp2
  go_ret
  exact ⟨rfl, rfl⟩

/-- A number turned into one of m. -/
def md (x : Int) (m : Nat) : Nat := ((if x < 0 then -(x + 1) else x) % (m : Int)).toNat
theorem md_lt (x : Int) {m : Nat} (h : 0 < m) : md x m < m := by
  unfold md
  have h1 := Int.emod_nonneg (if x < 0 then -(x + 1) else x) (show (m : Int) ≠ 0 by omega)
  have h2 := Int.emod_lt_of_pos (if x < 0 then -(x + 1) else x) (show (0 : Int) < m by omega)
  omega
theorem md_pos {x : Int} (m : Nat) (h : 0 ≤ x) (hm : 0 < m) : x.tmod (m : Int) = (md x m : Int) := by
  unfold md
  rw [if_neg (by omega), Int.tmod_eq_emod_of_nonneg h]
  have := Int.emod_nonneg x (show (m : Int) ≠ 0 by omega)
  omega
theorem md_neg {x : Int} (m : Nat) (h : x < 0) (hm : 0 < m) : (-(x + 1)).tmod (m : Int) = (md x m : Int) := by
  unfold md
  rw [if_pos h, Int.tmod_eq_emod_of_nonneg (by omega)]
  have := Int.emod_nonneg (-(x + 1)) (show (m : Int) ≠ 0 by omega)
  omega
theorem choice_any (x : Int) (c : Nat) (hx : -9223372036854775808 ≤ x ∧ x ≤ 9223372036854775807) (hc : c ≤ 1000000) (w : World) :
    Calls Try.prog 33 #[.int .i64 x, .int .i64 (c : Int)] w fun e w' => e = .returned (.int .i64 (md x (c + 1) : Int)) ∧ w = w' := by
  obtain ⟨hx1, hx2⟩ := hx
  go_enter Try.func33, Try.ntmps33
  have hn : ¬ ((c : Int) + 1 = 0) := by omega
  by_cases h0 : x < 0
  · have hm := md_neg (c + 1) h0 (by omega)
    go_wp2
    go_ret
    exact ⟨ret_int (by first | exact hm | simpa using hm), rfl⟩
  · have hm := md_pos (c + 1) (show 0 ≤ x by omega) (by omega)
    rw [Int.tmod_eq_emod_of_nonneg (by omega)] at hm
    go_wp2
    go_ret
    exact ⟨ret_int (by first | exact hm | simpa using hm), rfl⟩
theorem kind_any (x : Int) (m : Nat) (hx : -9223372036854775808 ≤ x ∧ x ≤ 9223372036854775807) (hm0 : 0 < m) (hc : m ≤ 1000000) (w : World) :
    Calls Try.prog 7 #[.int .i64 x, .int .i64 (m : Int)] w fun e w' => e = .returned (.int .i64 (md x m : Int)) ∧ w = w' := by
  obtain ⟨hx1, hx2⟩ := hx
  go_enter Try.func7, Try.ntmps7
  have hn : ¬ ((m : Int) = 0) := by omega
  by_cases h0 : x < 0
  · have hm := md_neg m h0 (by omega)
    go_wp2
    go_ret
    exact ⟨ret_int (by first | exact hm | simp), rfl⟩
  · have hm := md_pos m (show 0 ≤ x by omega) (by omega)
    go_wp2
    go_ret
    exact ⟨ret_int (by first | exact hm | simp), rfl⟩

/-- The step is not done. -/
def DM.stop (D : DM) : Bool := D.off || (D.fused && decide (D.left = 0))
def DM.stepD (D : DM) : DM := { D with off := D.stop, left := if D.stop then D.left else if D.fused then D.left - 1 else D.left, steps := if D.stop then D.steps else D.steps + 1 }
def DM.err (D : DM) : Int := if D.stop then 4 else 0
/-- A plain field is written. -/
theorem Lay.off1 {w : World} {bp bd bm clock : Nat} {l : List MapEntry} {v : Nat → Value} {S : Nat → Prop} {D : DM} (L : Lay w bp bd bm l clock v S D) (b : Bool) :
    Lay (w.setCell ⟨bp, 2, none⟩ (.bool b)) bp bd bm l clock v S { D with off := b } :=
  L.struct b D.fused D.left D.steps L.left (by rw [setCell_at _ L.me]; rfl) fun k _ hn => Below.heap_setCell _ _ _ _ hn
theorem Lay.fused1 {w : World} {bp bd bm clock : Nat} {l : List MapEntry} {v : Nat → Value} {S : Nat → Prop} {D : DM} (L : Lay w bp bd bm l clock v S D) (b : Bool) :
    Lay (w.setCell ⟨bp, 3, none⟩ (.bool b)) bp bd bm l clock v S { D with fused := b } :=
  L.struct D.off b D.left D.steps L.left (by rw [setCell_at _ L.me]; rfl) fun k _ hn => Below.heap_setCell _ _ _ _ hn
theorem Lay.left1 {w : World} {bp bd bm clock : Nat} {l : List MapEntry} {v : Nat → Value} {S : Nat → Prop} {D : DM} (L : Lay w bp bd bm l clock v S D) (n : Nat) (hn : n ≤ 9223372036854775807) {x : Int} (hx : x = (n : Int)) :
    Lay (w.setCell ⟨bp, 4, none⟩ (.int .i64 x)) bp bd bm l clock v S { D with left := n } := by
  subst hx
  exact L.struct D.off D.fused n D.steps hn (by rw [setCell_at _ L.me]; rfl) fun k _ hn => Below.heap_setCell _ _ _ _ hn
theorem Lay.steps1 {w : World} {bp bd bm clock : Nat} {l : List MapEntry} {v : Nat → Value} {S : Nat → Prop} {D : DM} (L : Lay w bp bd bm l clock v S D) (n : Nat) {x : Int} (hx : x = (n : Int)) :
    Lay (w.setCell ⟨bp, 5, none⟩ (.int .i64 x)) bp bd bm l clock v S { D with steps := n } := by
  subst hx
  exact L.struct D.off D.fused D.left n L.left (by rw [setCell_at _ L.me]; rfl) fun k _ hn => Below.heap_setCell _ _ _ _ hn
theorem turn_at {bp : Nat} (w : World) (j : Nat) (u : Value) : Turn (fun k => k = bp) w (w.setCell ⟨bp, j, none⟩ u) := turn_setCell u rfl

set_option maxHeartbeats 1000000 in
theorem step_any {w : World} {bp bd bm clock : Nat} {l : List MapEntry} {v : Nat → Value} {S : Nat → Prop} {D : DM} (L : Lay w bp bd bm l clock v S D) (hst : D.steps ≤ 1000000000) :
    Calls Try.prog 28 #[.pointer (some ⟨bp, 0, none⟩)] w fun e w' => e = .returned (.int .i64 D.err) ∧ Lay w' bp bd bm l clock v S D.stepD ∧ Turn (fun k => k = bp) w w' := by
  have c2 := L.c2
  have c3 := L.c3
  have c4 := L.c4
  have c5 := L.c5
  have f2 := L.fz 2
  have f4 := L.fz 4
  have f5 := L.fz 5
  have hle := L.left
  obtain ⟨n, dur, cac, off, fused, left, steps, cap⟩ := D
  simp only at c2 c3 c4 c5 hst hle
  cases off with
  | true =>
    rw [show (DM.stepD ⟨n, dur, cac, true, fused, left, steps, cap⟩) = ⟨n, dur, cac, true, fused, left, steps, cap⟩ from rfl, show (DM.err ⟨n, dur, cac, true, fused, left, steps, cap⟩) = 4 from rfl]
    cases fused with
    | true =>
      by_cases h0 : left = 0
      · subst h0
        go_enter Try.func28, Try.ntmps28
        go_wp2
        go_ret
        exact ⟨rfl, L.off1 true, turn_at _ _ _⟩
      · go_enter Try.func28, Try.ntmps28
        go_wp2
        go_ret
        exact ⟨rfl, L, Turn.refl _ _⟩
    | false =>
      go_enter Try.func28, Try.ntmps28
      go_wp2
      go_ret
      exact ⟨rfl, L, Turn.refl _ _⟩
  | false =>
    cases fused with
    | true =>
      by_cases h0 : left = 0
      · subst h0
        rw [show (DM.stepD ⟨n, dur, cac, false, true, 0, steps, cap⟩) = ⟨n, dur, cac, true, true, 0, steps, cap⟩ from rfl, show (DM.err ⟨n, dur, cac, false, true, 0, steps, cap⟩) = 4 from rfl]
        go_enter Try.func28, Try.ntmps28
        go_wp2
        go_ret
        exact ⟨rfl, L.off1 true, turn_at _ _ _⟩
      · have hs : (DM.stop ⟨n, dur, cac, false, true, left, steps, cap⟩) = false := by simp [DM.stop, h0]
        have E1 : (DM.stepD ⟨n, dur, cac, false, true, left, steps, cap⟩) = ⟨n, dur, cac, false, true, left - 1, steps + 1, cap⟩ := by simp [DM.stepD, hs]
        have E2 : (DM.err ⟨n, dur, cac, false, true, left, steps, cap⟩) = 0 := by simp [DM.err, hs]
        rw [E1, E2]
        go_enter Try.func28, Try.ntmps28
        go_wp2
        go_ret
        exact ⟨rfl, (L.left1 (left - 1) (by omega) (by omega)).steps1 (steps + 1) (by omega), (turn_at _ _ _).then (turn_at _ _ _)⟩
    | false =>
      rw [show (DM.stepD ⟨n, dur, cac, false, false, left, steps, cap⟩) = ⟨n, dur, cac, false, false, left, steps + 1, cap⟩ from rfl, show (DM.err ⟨n, dur, cac, false, false, left, steps, cap⟩) = 0 from rfl]
      go_enter Try.func28, Try.ntmps28
      go_wp2
      go_ret
      exact ⟨rfl, L.steps1 (steps + 1) (by omega), turn_at _ _ _⟩

/-- Fuse. -/
def DM.fuse (D : DM) (n : Int) : DM := { D with fused := decide (0 ≤ n), left := n.toNat }
set_option maxHeartbeats 1000000 in
theorem fuse_any {w : World} {bp bd bm clock : Nat} {l : List MapEntry} {v : Nat → Value} {S : Nat → Prop} {D : DM} (L : Lay w bp bd bm l clock v S D) (n : Int) (hn : n ≤ 9223372036854775807) :
    Calls Try.prog 15 #[.pointer (some ⟨bp, 0, none⟩), .int .i64 n] w fun e w' => e = .returned (.tuple #[]) ∧ Lay w' bp bd bm l clock v S (D.fuse n) ∧ Turn (fun k => k = bp) w w' := by
  have c3 := L.c3
  have c4 := L.c4
  have f3 := L.fz 3
  have f4 := L.fz 4
  by_cases h0 : 0 ≤ n
  · have hmax : max n 0 = n := by omega
    go_enter Try.func15, Try.ntmps15
    go_wp2
    go_end0
    exact ⟨rfl, by have := (L.fused1 true).left1 n.toNat (by omega) (x := n) (by omega); unfold DM.fuse; rw [show decide (0 ≤ n) = true by simpa using h0]; exact this, (turn_at _ _ _).then (turn_at _ _ _)⟩
  · have hmax : max n 0 = 0 := by omega
    go_enter Try.func15, Try.ntmps15
    go_wp2
    go_end0
    exact ⟨rfl, by have := (L.fused1 false).left1 n.toNat (by omega) (x := 0) (by omega); unfold DM.fuse; rw [show decide (0 ≤ n) = false by simpa using h0]; exact this, (turn_at _ _ _).then (turn_at _ _ _)⟩
end Go.Proofs.Ytkkmnmiekmfjiaa
