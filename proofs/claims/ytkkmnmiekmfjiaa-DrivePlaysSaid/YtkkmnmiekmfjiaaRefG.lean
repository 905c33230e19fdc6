/- The reference's Corrupt. -/
import Derived.Test.YtkkmnmiekmfjiaaRefF
import Derived.Test.YtkkmnmiekmfjiaaDrvH
namespace Go.Proofs.Ytkkmnmiekmfjiaa
open Go Go.RowKit Go.Proofs

/-- A sector's writes, all set anew. -/
def DM.setAll (D : DM) (s : Nat) (ls : List (List UInt8)) : DM := { D with dur := upd D.dur s (ls.headD []), cac := upd D.cac s (ls.drop 1) }
theorem setAll_all (D : DM) (s : Nat) (ls : List (List UInt8)) (h : 0 < ls.length) (z : Nat) : (D.setAll s ls).all z = if z = s then ls else D.all z := by
  unfold DM.all DM.setAll
  by_cases hz : z = s
  · subst hz
    rcases ls with _ | ⟨a, r⟩
    · simp at h
    · simp [upd]
  · simp [upd, hz]
theorem setAll_self (D : DM) (s : Nat) : D.setAll s (D.all s) = D := by
  unfold DM.setAll DM.all
  simp [upd_self]
theorem setAll_set (D : DM) (s : Nat) (a b : List (List UInt8)) : (D.setAll s a).setAll s b = D.setAll s b := by
  unfold DM.setAll
  simp only [upd_upd]
theorem setAll_turn (D : DM) (s at_ m : Nat) : D.setAll s ((D.all s).map (turnB at_ m)) = D.turn s at_ m := by
  unfold DM.setAll DM.turn DM.all
  simp

section
variable {w : World} {rp ro oc : Nat} {iv : Nat → Value} {vs : Nat → List Value} {S : Nat → Prop} {D : DM}
theorem RLay.turnByte (L : RLay w rp ro oc iv vs S D) (s : Nat) (hs : s < D.n) (i g o c : Nat) (hv : (vs s)[i]? = some (.slice (some ⟨g, o, none⟩) 256 c)) (l : List UInt8) (hl : (D.all s)[i]? = some l) (j : Nat) (hj : j < 256) (b : UInt8) :
    w.cell? ⟨g, o + j, none⟩ = some (.int .u8 (byt l j : Int)) ∧ w.frozen? ⟨g, o + j, none⟩ = false ∧ RLay (w.setCell ⟨g, o + j, none⟩ (bv b)) rp ro oc iv vs S (D.setAll s ((D.all s).set i (l.set j b))) ∧ S g := by
  have hB := L.brow s hs i _ l hv hl
  have hgS : S g := L.inS.2.2.2 s hs _ (List.mem_of_getElem? hv) g rfl
  obtain ⟨hgp, hgo, hgi⟩ := L.ne.2.2 s hs _ (List.mem_of_getElem? hv) g rfl
  have hT := turn_setCell (S := fun k => k = g) (w := w) (a := ⟨g, o + j, none⟩) (bv b) rfl
  have hil : i < (D.all s).length := (List.getElem?_eq_some_iff.1 hl).1
  have hset : 0 < ((D.all s).set i (l.set j b)).length := by rw [List.length_set]; omega
  have hall := setAll_all D s ((D.all s).set i (l.set j b)) hset
  have hkeep : ∀ k, k < w.heap.size → k ≠ g → (w.setCell ⟨g, o + j, none⟩ (bv b)).heap[k]? = w.heap[k]? := fun k hk hn => hT.block k hk hn
  obtain ⟨g', o', c', e, h1, h2, h3, h4, h5⟩ := hB
  obtain ⟨rfl, rfl, rfl⟩ : g = g' ∧ o = o' ∧ c = c' := by cases e; exact ⟨rfl, rfl, rfl⟩
  have hc : w.cell? ⟨g, o + j, none⟩ = some (bv l[j]) := h4 j _ (by simp [bvs, List.getElem?_eq_getElem (show j < l.length by omega)])
  refine ⟨?_, (h5 j hj).2, ⟨(hkeep rp (lt_of_heap L.me) (Ne.symm hgp)).trans L.me, fun z hz => ⟨(World.cell?_of_block (w := w) (a := ⟨ro, z, none⟩) (hkeep ro L.rolt (Ne.symm hgo))).trans (L.out z hz).1, (World.frozen?_of_block (w := w) (a := ⟨ro, z, none⟩) (hkeep ro L.rolt (Ne.symm hgo))).trans (L.out z hz).2⟩,
    fun z hz => (L.irow z hz).keep fun k hk => hkeep k (L.ilt hz hk) fun e => hgi z hz (e ▸ hk), fun z hz => ?_, fun z hz i' v' l' hv' hl' => ?_, fun z hz => ?_, L.inS, L.ne, L.isep, L.bsep, L.n32, L.left⟩, hgS⟩
  · rw [hc]
    unfold byt bv; rw [List.getD_eq_getElem?_getD, List.getElem?_eq_getElem (by omega)]; rfl
  · rw [hall]
    by_cases h : z = s
    · subst h; rw [if_pos rfl, List.length_set]; exact L.len z hz
    · rw [if_neg h]; exact L.len z hz
  · rw [hall] at hl'
    by_cases h : z = s ∧ i' = i
    · obtain ⟨rfl, rfl⟩ := h
      rw [if_pos rfl, List.getElem?_set_self hil] at hl'
      obtain rfl := Option.some.inj hl'
      rw [hv] at hv'
      obtain rfl := Option.some.inj hv'
      refine ⟨g, o, c, rfl, h1, h2, by rw [List.length_set]; exact h3, fun i u hu => ?_, World.there_setCells h5 g (o + j) [bv b]⟩
      unfold bvs at hu
      rw [List.map_set] at hu
      by_cases hij : i = j
      · subst hij
        rw [List.getElem?_set_self (by simp; omega)] at hu
        rw [World.cell?_setCell_same _ _ _ hc]; exact hu
      · rw [List.getElem?_set_ne (fun e => hij e.symm)] at hu
        rw [World.cell?_setCell_other _ _ _ _ (fun e => hij (by injection e; omega))]
        exact h4 i u hu
    · have hl2 : (D.all z)[i']? = some l' := by
        by_cases hz : z = s
        · subst hz
          rw [if_pos rfl, List.getElem?_set_ne (fun e => h ⟨rfl, e.symm⟩)] at hl'
          exact hl'
        · rw [if_neg hz] at hl'; exact hl'
      have hb := L.brow z hz i' v' l' hv' hl2
      exact hb.keep fun k hk => hkeep k (hb.lt hk) fun e => h (L.bsep z s i' i v' _ g hz hs hv' hv (e ▸ hk) rfl)
  · have hzs : z ≠ s := by have : D.n ≤ z := hz; omega
    show upd D.cac s _ z = []
    rw [upd_other _ _ hzs]; exact L.off z hz
end
theorem S5 : (Try.prog.info? 5).map (·.size) = some 1 := by kernel_rfl

set_option maxRecDepth 10000 in
set_option maxHeartbeats 2000000 in
theorem rcorrupt_yes {w : World} {rp ro oc : Nat} {iv : Nat → Value} {vs : Nat → List Value} {S : Nat → Prop} {D : DM} (L : RLay w rp ro oc iv vs S D) (s at_ m : Nat) (hs : s < D.n) (hat : at_ < 256) (hm : m < 256) (hcl : ∀ k, (D.cac k).length ≤ 1000000) :
    Calls Try.prog 20 #[.pointer (some ⟨rp, 0, none⟩), .int .i64 s, .int .i64 at_, .int .i64 m] w fun e w' => e = .returned (.int .i64 0) ∧ RLay w' rp ro oc iv vs S (D.turn s at_ m) ∧ Turn S w w' := by
  have H1 := there_any L (s : Int)
  rw [show decide (0 ≤ (s : Int) ∧ (s : Int) < (D.n : Int)) = true by simp; omega] at H1
  have ha1 : ¬ ((at_ : Int) < 0) := by omega
  have ha2 : ¬ (255 : Int) < (at_ : Int) := by omega
  have hm1 : ¬ ((m : Int) < 0) := by omega
  have hm2 : ¬ (255 : Int) < (m : Int) := by omega
  have hmod : (m : Int) % 256 = (m : Int) := by omega
  have hle := hcl s
  have hal : (D.all s).length = (D.cac s).length + 1 := by simp [DM.all]
  clear hcl
  go_enter Try.func20, Try.ntmps20
  go_wp2_with fail
  refine H1.mono ?_
  rintro e w1 ⟨rfl, rfl⟩
  clear H1
  go_wp2_with fail
  go_loopw [10] (fun i wr => ∃ k : Nat, k ≤ (D.all s).length ∧ i = .int .i64 k ∧ RLay wr rp ro oc iv vs S (D.setAll s (turnTo at_ m k (D.all s))) ∧ Turn S w wr) (fun i _ => (D.all s).length - (intOf i).toNat)
  case atStart => exact ⟨0, Nat.zero_le _, rfl, by rw [turnTo_zero, setAll_self]; exact L, Turn.refl _ _⟩
  case round =>
    clear L
    obtain ⟨k, hk, rfl, LR, TR⟩ := hrel
    have hlen := turnTo_len at_ m k (D.all s)
    have hall : (D.setAll s (turnTo at_ m k (D.all s))).all s = turnTo at_ m k (D.all s) := by rw [setAll_all _ _ _ (by rw [hlen, hal]; omega), if_pos rfl]
    have hvl : (vs s).length = (D.all s).length := by rw [LR.len s hs, hall, hlen]
    obtain ⟨g0, o0, c0, hv0, hc01, hc02, hrng, _⟩ := LR.irow s hs
    rw [hvl] at hv0 hc01
    have hk0 : wr.cell? ⟨ro, s, none⟩ = some (iv s) := (LR.out s hs).1
    have hk0d : wr.drew.cell? ⟨ro, s, none⟩ = some (iv s) := hk0
    rw [hv0] at hk0 hk0d
    have cc : wr.cell? ⟨rp, 0, none⟩ = some (.slice (some ⟨ro, 0, none⟩) D.n oc) := LR.c0
    have cd : wr.drew.cell? ⟨rp, 0, none⟩ = some (.slice (some ⟨ro, 0, none⟩) D.n oc) := LR.c0
    have hix : ∀ w', (Instr.indexAt 46 (.slice (some ⟨ro, 0, none⟩) D.n oc) (.int .i64 (s : Int))).run Try.prog w' = .ok (.pointer (some ⟨ro, s, none⟩)) w' := fun w' => by
      have := run_index_one (P := Try.prog) Try.underlying46 S64 w' ro 0 D.n oc s hs
      simpa only [Nat.zero_add] using this
    by_cases hlt : k < (D.all s).length
    · have hvk := List.getElem?_eq_getElem (show k < (vs s).length by omega)
      have hlk : ((D.setAll s (turnTo at_ m k (D.all s))).all s)[k]? = some (D.all s)[k] := by
        rw [hall, List.getElem?_eq_getElem (by omega), turnTo_at _ _ _ _ hlt]
      have hbr := LR.brow s hs k _ _ hvk hlk
      obtain ⟨g1, o1, c1, hA, -, -, -, -, -⟩ := hbr
      have hi1 := hrng k _ hvk
      rw [hA] at hvk hi1
      have hi1d : wr.drew.cell? ⟨g0, o0 + k, none⟩ = some (.slice (some ⟨g1, o1, none⟩) 256 c1) := hi1
      obtain ⟨hb1, hb2, LE, hgS⟩ := LR.drew.turnByte s hs k g1 o1 c1 hvk _ hlk at_ hat (UInt8.ofNat (byt (D.all s)[k] at_) ^^^ UInt8.ofNat m)
      rw [hall, show (D.all s)[k].set at_ (UInt8.ofNat (byt (D.all s)[k] at_) ^^^ UInt8.ofNat m) = turnB at_ m (D.all s)[k] from rfl, turnTo_next at_ m k _ hlt, setAll_set, bv_xor _ m (byt_le _ _) (by omega)] at LE
      have hx2 : ∀ w', (Instr.indexAt 54 (.slice (some ⟨g0, o0, none⟩) (D.all s).length c0) (.int .i64 (k : Int))).run Try.prog w' = .ok (.pointer (some ⟨g0, o0 + k, none⟩)) w' := fun w' => run_index_one (P := Try.prog) Try.underlying54 S35 w' g0 o0 _ c0 k hlt
      have hx3 : ∀ w', (Instr.indexAt 35 (.slice (some ⟨g1, o1, none⟩) 256 c1) (.int .i64 (at_ : Int))).run Try.prog w' = .ok (.pointer (some ⟨g1, o1 + at_, none⟩)) w' := fun w' => run_index_one (P := Try.prog) Try.underlying35 S5 w' g1 o1 256 c1 at_ hat
      have TE := turn_setCell (S := S) (w := wr.drew) (a := ⟨g1, o1 + at_, none⟩) (.int .u8 (bits .xor .u8 (byt (D.all s)[k] at_ : Int) (m : Int))) hgS
      clear hrng hvk hlk hi1 hall hA hlen hvl
      generalize byt (D.all s)[k] at_ = bb at *
      generalize (D.all s).length = q at *
      go_wp2_with fail
      go_region
      all_goals (go_wp2_with fail; exact ⟨⟨k + 1, by omega, by go_num, LE, TR.drew.then TE⟩, by simp [intOf]; omega⟩)
    · obtain rfl : k = (D.all s).length := by omega
      rw [turnTo_all, setAll_turn] at LR
      generalize (D.all s).length = q at *
      go_wp2_with fail
      go_ret
      exact ⟨rfl, LR, TR⟩
set_option maxHeartbeats 1000000 in
theorem rcorrupt_no {w : World} {rp ro oc : Nat} {iv : Nat → Value} {vs : Nat → List Value} {S : Nat → Prop} {D : DM} (L : RLay w rp ro oc iv vs S D) (s at_ m : Int) (h : D.mayTurn s at_ m = false) :
    Calls Try.prog 20 #[.pointer (some ⟨rp, 0, none⟩), .int .i64 s, .int .i64 at_, .int .i64 m] w fun e w' => e = .returned (.int .i64 1) ∧ w = w' := by
  have H1 := there_any L s
  unfold DM.mayTurn at h
  rw [decide_eq_false_iff_not] at h
  by_cases hs : 0 ≤ s ∧ s < (D.n : Int)
  · rw [show decide (0 ≤ s ∧ s < (D.n : Int)) = true by simpa using hs] at H1
    by_cases a1 : at_ < 0
    · clear h hs
      go_enter Try.func20, Try.ntmps20
      go_wp2_with fail
      refine H1.mono ?_
      rintro e w1 ⟨rfl, rfl⟩
      go_wp2_with fail
      go_ret
      exact ⟨rfl, rfl⟩
    by_cases a2 : 255 < at_
    · clear h hs
      go_enter Try.func20, Try.ntmps20
      go_wp2_with fail
      refine H1.mono ?_
      rintro e w1 ⟨rfl, rfl⟩
      go_wp2_with fail
      go_ret
      exact ⟨rfl, rfl⟩
    by_cases a3 : m < 0
    · clear h hs
      go_enter Try.func20, Try.ntmps20
      go_wp2_with fail
      refine H1.mono ?_
      rintro e w1 ⟨rfl, rfl⟩
      go_wp2_with fail
      go_ret
      exact ⟨rfl, rfl⟩
    have a4 : 255 < m := by
      rcases Int.lt_or_le 255 m with h4 | h4
      · exact h4
      · exact absurd ⟨hs, ⟨by omega, by omega⟩, by omega, by omega⟩ h
    clear h hs
    go_enter Try.func20, Try.ntmps20
    go_wp2_with fail
    refine H1.mono ?_
    rintro e w1 ⟨rfl, rfl⟩
    go_wp2_with fail
    go_ret
    exact ⟨rfl, rfl⟩
  · rw [show decide (0 ≤ s ∧ s < (D.n : Int)) = false by simpa using hs] at H1
    clear h hs
    go_enter Try.func20, Try.ntmps20
    go_wp2_with fail
    refine H1.mono ?_
    rintro e w1 ⟨rfl, rfl⟩
    go_wp2_with fail
    go_ret
    exact ⟨rfl, rfl⟩
theorem rcorrupt_any {w : World} {rp : Nat} {S : Nat → Prop} {D : DM} (L0 : RDrv w rp S D) (s at_ m : Int) (hcl : ∀ k, (D.cac k).length ≤ 1000000) :
    Calls Try.prog 20 #[.pointer (some ⟨rp, 0, none⟩), .int .i64 s, .int .i64 at_, .int .i64 m] w fun e w' => e = .returned (.int .i64 (if D.mayTurn s at_ m then 0 else 1)) ∧ RDrv w' rp S (D.corrupt s at_ m) ∧ Turn S w w' := by
  obtain ⟨ro, oc, iv, vs, L⟩ := L0
  unfold DM.corrupt
  cases h : D.mayTurn s at_ m with
  | true =>
    have h2 := h
    unfold DM.mayTurn at h2
    rw [decide_eq_true_iff] at h2
    obtain ⟨⟨h3, h4⟩, ⟨h5, h6⟩, h7, h8⟩ := h2
    obtain ⟨s, rfl⟩ := Int.eq_ofNat_of_zero_le h3
    obtain ⟨at_, rfl⟩ := Int.eq_ofNat_of_zero_le h5
    obtain ⟨m, rfl⟩ := Int.eq_ofNat_of_zero_le h7
    refine (rcorrupt_yes L s at_ m (by omega) (by omega) (by omega) hcl).mono ?_
    rintro e w' ⟨rfl, h9, h10⟩
    exact ⟨rfl, ⟨ro, oc, iv, vs, h9⟩, h10⟩
  | false =>
    refine (rcorrupt_no L s at_ m h).mono ?_
    rintro e w' ⟨rfl, rfl⟩
    exact ⟨rfl, ⟨ro, oc, iv, vs, L⟩, Turn.refl _ _⟩
end Go.Proofs.Ytkkmnmiekmfjiaa
