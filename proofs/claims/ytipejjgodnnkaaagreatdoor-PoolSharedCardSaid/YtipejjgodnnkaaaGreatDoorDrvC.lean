/- settle: a cached write of a sector becomes durable, or none, and the others are forgotten. -/
import Derived.Test.YtipejjgodnnkaaaGreatDoorPy9
import Derived.Deep.RegionHeld3
namespace Go.Proofs.YtipejjgodnnkaaaGreatDoor
open Go Go.RowKit Go.Proofs
open Go.ChangeMaps (setBlock)

def DM.settle (D : DM) (s i : Nat) : DM := { D with dur := if i = 0 then D.dur else upd D.dur s ((D.cac s).getD (i - 1) []), cac := upd D.cac s [] }
theorem Lay.drew {w : World} {bp bd bm clock : Nat} {l : List MapEntry} {v : Nat → Value} {S : Nat → Prop} {D : DM} (L : Lay w bp bd bm l clock v S D) : Lay w.drew bp bd bm l clock v S D := L.keep fun _ _ _ => rfl

theorem Lay.run_delete {w : World} {bp bd bm clock : Nat} {l : List MapEntry} {v : Nat → Value} {S : Nat → Prop} {D : DM} (L : Lay w bp bd bm l clock v S D) (s : Nat) (ty : TypeId) :
    (Builtin.delete_ #[127, 3] ty #[.map (some bm), .int .i64 s]).run Tryz.prog w = .ok (.tuple #[]) (setBlock w bm (.map (delE s l).toArray clock)) :=
  run_delete_ints (P := Tryz.prog) (w := w) L.ents Tryz.underlying127 Tryz.underlying3 L.map s _ ty

set_option maxRecDepth 100000 in
set_option maxHeartbeats 2000000 in
theorem settle_any {w : World} {bp bd bm clock : Nat} {l : List MapEntry} {v : Nat → Value} {S : Nat → Prop} {D : DM} (L : Lay w bp bd bm l clock v S D) (s : Nat) (hs : s < D.n) (i : Nat) (hi : i ≤ (D.cac s).length) :
    Calls Tryz.prog 91 #[.pointer (some ⟨bp, 0, none⟩), .int .i64 s, .int .i64 i] w fun e w' => e = .returned (.tuple #[]) ∧ Lay w' bp bd bm (delE s l) clock (upd v s (.slice none 0 0)) S (D.settle s i) ∧ Turn (fun k => k = bd ∨ k = bm) w w' := by
  by_cases h0 : i = 0
  · subst h0
    have c1 := L.c1
    have hdel := L.run_delete s
    have LF := L.forget s hs
    go_enter Tryz.func91, Tryz.ntmps91
    go_wp2
    go_end0
    exact ⟨rfl, LF, turn_setBlock _ (.inr rfl)⟩
  · obtain ⟨g, c, hv, hnc, hcm⟩ := owns_form (L.row s) (by omega)
    have hg : (v s).ownBlock = some g := by rw [hv]; rfl
    have hk : i - 1 < (D.cac s).length := by omega
    have e0 : (D.cac s).getD (i - 1) [] = (D.cac s)[i - 1] := by rw [List.getD_eq_getElem?_getD, List.getElem?_eq_getElem hk]; rfl
    have hlen : ((D.cac s)[i - 1]).length = 256 := L.cl s _ (List.getElem_mem hk)
    have Ed : D.settle s i = { { D with dur := upd D.dur s (D.cac s)[i - 1] } with cac := upd D.cac s [] } := by unfold DM.settle; rw [if_neg h0, e0]
    rw [Ed]
    have hrow := L.row s
    rw [hv] at hrow
    have hd := owns_range hrow (L.cl s) rfl (i - 1) hk
    clear Ed e0 hrow
    generalize (D.cac s)[i - 1] = x at hd hlen ⊢
    have hbl : (bvs x).length = 256 := by rw [bvs_len, hlen]
    have LD := L.drew
    have c0 := LD.c0
    have c1 := LD.c1
    have hlk := LD.lookup s
    rw [hv] at hlk
    have ht := LD.durw s hs
    have hd : w.drew.rangeAt g ((i - 1) * 256) (bvs x) := hd
    have LS := LD.store s hs x hlen
    have c0' := LS.c0
    have c1' := LS.c1
    have hlk' := LS.lookup s
    rw [hv] at hlk'
    have ht' := LS.durw s hs
    have hd' : (w.drew.setCells bd (s * 256) (bvs x)).rangeAt g ((i - 1) * 256) (bvs x) := World.rangeAt_setCells_apart hd _ _ _ (.inl (L.ne.2 s g hg).2)
    have hdel := LS.run_delete s
    have LF := LS.forget s hs
    have hu := UB
    have hin : (Tryz.prog.info? 125).map (·.size) = some (bvs x).length := by rw [hbl]; exact SBk
    have h1 := bvs_one x
    have hx1 : ∀ w' : World, (Instr.indexAt 126 (.slice (some ⟨g, 0, none⟩) (D.cac s).length c) (.int .i64 ((i : Int) - 1))).run Tryz.prog w' = .ok (.pointer (some ⟨g, (i - 1) * 256, none⟩)) w' := fun w' => by
      have := run_index_sec w' g (D.cac s).length c (i - 1) hk
      rw [show ((i - 1 : Nat) : Int) = (i : Int) - 1 by omega] at this
      exact this
    have hx2 : ∀ w' : World, (Instr.indexAt 126 (.slice (some ⟨bd, 0, none⟩) D.n D.cap) (.int .i64 (s : Int))).run Tryz.prog w' = .ok (.pointer (some ⟨bd, s * 256, none⟩)) w' := fun w' => run_index_sec w' bd D.n D.cap s hs
    have hi63 : i ≤ 9223372036854775807 := by unfold maxLen at hcm; omega
    have hw : IntKind.i64.wrap ((i : Int) - 1) = (i : Int) - 1 := IntWalk.i64_in _ (by omega)
    go_enter Tryz.func91, Tryz.ntmps91
    go_wp2_with fail
    go_region_held3 (fun w' => w'.cell? ⟨bp, 0, none⟩ = some (.slice (some ⟨bd, 0, none⟩) D.n D.cap) ∧ w'.cell? ⟨bp, 1, none⟩ = some (.map (some bm)) ∧ (Instr.lookup 127 (.map (some bm)) (.int .i64 s) false).run Tryz.prog w' = .ok (.slice (some ⟨g, 0, none⟩) (D.cac s).length c) w' ∧
      w'.rangeAt g ((i - 1) * 256) (bvs x) ∧ w'.there bd (s * 256) 256) (first | exact ⟨c0, c1, hlk, hd, ht⟩ | exact ⟨c0', c1', hlk', hd', ht'⟩) (fail)
    go_wp2
    go_end0
    exact ⟨rfl, LF, ((Turn.refl _ w).drew.then (turn_setCells (.inl rfl) _ _ _)).then (turn_setBlock _ (.inr rfl))⟩
end Go.Proofs.YtipejjgodnnkaaaGreatDoor
