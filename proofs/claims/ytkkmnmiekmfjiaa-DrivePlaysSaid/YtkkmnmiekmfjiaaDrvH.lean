/- Corrupt: a byte is turned in what is sure of a sector, and in each of its cached writes. -/
import Derived.Test.YtkkmnmiekmfjiaaDrvG
import Derived.Laws.BitsAll
namespace Go.Proofs.Ytkkmnmiekmfjiaa
open Go Go.RowKit Go.Proofs
open Go.ChangeMaps (setBlock)

/-- A sector with one byte turned. Kept shut. -/
def turnB (at_ m : Nat) (l : List UInt8) : List UInt8 := l.set at_ (UInt8.ofNat (byt l at_) ^^^ UInt8.ofNat m)
theorem turnB_len (at_ m : Nat) (l : List UInt8) : (turnB at_ m l).length = l.length := by simp [turnB]
theorem bv_xor (x y : Nat) (hx : x ≤ 255) (hy : y ≤ 255) : bv (UInt8.ofNat x ^^^ UInt8.ofNat y) = .int .u8 (bits .xor .u8 (x : Int) (y : Int)) := by
  rw [u8_xor_nat x y (by omega) (by omega)]
  unfold bv
  rw [UInt8.toNat_xor, UInt8.toNat_ofNat', UInt8.toNat_ofNat', Nat.mod_eq_of_lt (by omega), Nat.mod_eq_of_lt (by omega)]
/-- The first i sectors turned, the others as they were. Kept shut. -/
def turnTo (at_ m i : Nat) (ls : List (List UInt8)) : List (List UInt8) := (ls.take i).map (turnB at_ m) ++ ls.drop i
theorem turnTo_zero (at_ m : Nat) (ls : List (List UInt8)) : turnTo at_ m 0 ls = ls := by simp [turnTo]
theorem turnTo_all (at_ m : Nat) (ls : List (List UInt8)) : turnTo at_ m ls.length ls = ls.map (turnB at_ m) := by simp [turnTo]
theorem turnTo_len (at_ m i : Nat) (ls : List (List UInt8)) : (turnTo at_ m i ls).length = ls.length := by simp [turnTo]; omega
theorem turnTo_at (at_ m i : Nat) (ls : List (List UInt8)) (h : i < ls.length) (h' : i < (turnTo at_ m i ls).length) : (turnTo at_ m i ls)[i] = ls[i] := by
  have e : (turnTo at_ m i ls)[i]? = ls[i]? := by
    unfold turnTo
    have e : ((ls.take i).map (turnB at_ m)).length = i := by simp; omega
    rw [List.getElem?_append_right (by omega), e, Nat.sub_self, List.getElem?_drop, Nat.add_zero]
  rw [List.getElem?_eq_getElem h', List.getElem?_eq_getElem h] at e
  exact Option.some.inj e
theorem turnTo_next (at_ m i : Nat) (ls : List (List UInt8)) (h : i < ls.length) : (turnTo at_ m i ls).set i (turnB at_ m ls[i]) = turnTo at_ m (i + 1) ls := by
  unfold turnTo
  have e : ((ls.take i).map (turnB at_ m)).length = i := by simp; omega
  rw [List.set_append_right _ _ (by omega), e, Nat.sub_self, List.take_succ_eq_append_getElem h, List.map_append, List.append_assoc]
  congr 1
  rw [List.drop_eq_getElem_cons h]
  rfl
def DM.turn (D : DM) (s at_ m : Nat) : DM := { D with dur := upd D.dur s (turnB at_ m (D.dur s)), cac := upd D.cac s ((D.cac s).map (turnB at_ m)) }

section
variable {w : World} {bp bd bm clock : Nat} {l : List MapEntry} {v : Nat → Value} {S : Nat → Prop} {D : DM}
theorem Lay.cellDur (L : Lay w bp bd bm l clock v S D) (s : Nat) (hs : s < D.n) (j : Nat) (hj : j < 256) : w.cell? ⟨bd, s * 256 + j, none⟩ = some (.int .u8 (byt (D.dur s) j : Int)) := by
  have hl := L.dl s
  rw [L.dur s hs j (bv (D.dur s)[j]) (by simp [bvs, List.getElem?_eq_getElem (show j < (D.dur s).length by omega)])]
  unfold byt bv; rw [List.getD_eq_getElem?_getD, List.getElem?_eq_getElem (by omega)]; rfl
theorem Lay.turnDur (L : Lay w bp bd bm l clock v S D) (s : Nat) (hs : s < D.n) (j : Nat) (hj : j < 256) (b : UInt8) :
    Lay (w.setCell ⟨bd, s * 256 + j, none⟩ (bv b)) bp bd bm l clock v S { D with dur := upd D.dur s ((D.dur s).set j b) } := by
  have hT := turn_setCell (S := fun k => k = bd) (w := w) (a := ⟨bd, s * 256 + j, none⟩) (bv b) rfl
  have hc := L.cellDur s hs j hj
  refine L.setDur s _ (by rw [List.length_set]; exact L.dl s) (fun k hk hn => hT.block k hk hn) (fun _ i u hu => ?_) (fun z hz hzs i u hu => ?_) fun z hz i hi => ?_
  · unfold bvs at hu
    rw [List.map_set] at hu
    by_cases hij : i = j
    · subst hij
      rw [List.getElem?_set_self (by simp; have := L.dl s; omega)] at hu
      rw [World.cell?_setCell_same _ _ _ hc]; exact hu
    · rw [List.getElem?_set_ne (fun e => hij e.symm)] at hu
      rw [World.cell?_setCell_other _ _ _ _ (fun e => hij (by injection e; omega))]
      exact L.dur s hs i u hu
  · have hi : i < 256 := by have h0 := (List.getElem?_eq_some_iff.1 hu).1; rw [bvs_len, L.dl z] at h0; exact h0
    rw [World.cell?_setCell_other _ _ _ _ (fun e => hzs (by injection e; omega))]
    exact L.dur z hz i u hu
  · obtain ⟨h1, h2⟩ := L.durw z hz i hi
    refine ⟨?_, by rw [World.frozen?_setCell]; exact h2⟩
    obtain ⟨u, hu⟩ := Option.isSome_iff_exists.1 h1
    by_cases e : (⟨bd, s * 256 + j, none⟩ : Addr) = ⟨bd, z * 256 + i, none⟩
    · rw [← e, World.cell?_setCell_same _ _ _ hc]; rfl
    · rw [World.cell?_setCell_other _ _ _ _ e, hu]; rfl
theorem Lay.turnRow (L : Lay w bp bd bm l clock v S D) (s : Nat) (hs : s < D.n) {g c : Nat} (hv : v s = .slice (some ⟨g, 0, none⟩) (D.cac s).length c) (i : Nat) (hi : i < (D.cac s).length) (j : Nat) (hj : j < 256) (b : UInt8) :
    w.cell? ⟨g, i * 256 + j, none⟩ = some (.int .u8 (byt (D.cac s)[i] j : Int)) ∧ w.frozen? ⟨g, i * 256 + j, none⟩ = false ∧
    Lay (w.setCell ⟨g, i * 256 + j, none⟩ (bv b)) bp bd bm l clock (upd v s (v s)) S { D with cac := upd D.cac s ((D.cac s).set i ((D.cac s)[i].set j b)) } := by
  have hrow := L.row s
  rw [hv] at hrow
  have hg : (v s).ownBlock = some g := by rw [hv]; rfl
  have hl : ((D.cac s)[i]).length = 256 := L.cl s _ (List.getElem_mem hi)
  have hT := turn_setCell (S := fun k => k = g) (w := w) (a := ⟨g, i * 256 + j, none⟩) (bv b) rfl
  have hne : D.cac s ≠ [] := fun h => by rw [h] at hi; simp at hi
  refine ⟨?_, World.ownsRow.frozenAt hrow _, ?_⟩
  · rw [owns_range hrow (L.cl s) rfl i hi j (bv (D.cac s)[i][j]) (by simp [bvs, List.getElem?_eq_getElem (show j < ((D.cac s)[i]).length by omega)])]
    unfold byt bv; rw [List.getD_eq_getElem?_getD, List.getElem?_eq_getElem (by omega)]; rfl
  · have hst := (World.ownsRow.stored hrow (i * 256 + j) (bv b)).1
    rw [flat_set (L.cl s) i hi j hj] at hst
    have hlen : ((D.cac s).set i ((D.cac s)[i].set j b)).length = (D.cac s).length := List.length_set
    have hne2 : (D.cac s).set i ((D.cac s)[i].set j b) ≠ [] := fun h => hne (List.eq_nil_of_length_eq_zero (by rw [← hlen, h]; rfl))
    refine L.setCac s hs (v s) _ (fun y hy => ?_) (fun _ _ h => h) (fun k hk _ hn => hT.block k hk fun e => hn (by rw [hg, e])) ((hT.block bm (lt_of_heap L.map) fun e => L.row_bm hg e.symm).trans L.map) L.ents (fun z => ?_) (fun e he => .inl he) ?_ (fun h => absurd h hne2) (.inr (.inl rfl))
    · rcases List.mem_or_eq_of_mem_set hy with h | h
      · exact L.cl s y h
      · rw [h, List.length_set]; exact hl
    · by_cases hz : z = s
      · rw [if_pos hz, if_neg hne2, hz, L.look s, if_neg hne]
      · rw [if_neg hz]
    · rw [hlen, hv]; exact hst
end
theorem run_index_arr (w : World) (b o j : Nat) (hj : j < 256) : (Instr.indexAt 57 (.pointer (some ⟨b, o, none⟩)) (.int .i64 (j : Int))).run Try.prog w = .ok (.pointer (some ⟨b, o + j, none⟩)) w := by
  have hz : (sizeOf 5).run Try.prog w = .ok 1 w := by
    obtain ⟨z, hz, _, hs, _⟩ := info_parts T22.info
    simp [sizeOf, typeInfo, hz, hs]
  have ha : (⟨b, o, none⟩ : Addr).add j = ⟨b, o + j, none⟩ := Addr.add_mid b o j
  simp [Instr.indexAt, Instr.sureAddr, asIntOf, run_underlying UB, hj, ha]

theorem upd_self {α : Type} (f : Nat → α) (s : Nat) : upd f s (f s) = f := funext fun k => by
  unfold upd; split
  · rename_i h; rw [h]
  · rfl
theorem upd_upd {α : Type} (f : Nat → α) (s : Nat) (x y : α) : upd (upd f s x) s y = upd f s y := funext fun k => by unfold upd; split <;> rfl
/-- Corrupt, on the way. -/
def DM.turning (D : DM) (s at_ m i : Nat) : DM := { D with dur := upd D.dur s (turnB at_ m (D.dur s)), cac := upd D.cac s (turnTo at_ m i (D.cac s)) }
theorem Lay.turnNext {w : World} {bp bd bm clock : Nat} {l : List MapEntry} {v : Nat → Value} {S : Nat → Prop} {D : DM} {s at_ m i : Nat} (L : Lay w bp bd bm l clock v S (D.turning s at_ m i)) (hs : s < D.n) {g c : Nat} (hv : v s = .slice (some ⟨g, 0, none⟩) (D.cac s).length c) (hi : i < (D.cac s).length) (hat : at_ < 256) (hm : m < 256) :
    w.cell? ⟨g, i * 256 + at_, none⟩ = some (.int .u8 (byt (D.cac s)[i] at_ : Int)) ∧ w.frozen? ⟨g, i * 256 + at_, none⟩ = false ∧
    Lay (w.setCell ⟨g, i * 256 + at_, none⟩ (.int .u8 (bits .xor .u8 (byt (D.cac s)[i] at_ : Int) (m : Int)))) bp bd bm l clock v S (D.turning s at_ m (i + 1)) := by
  have e1 : (D.turning s at_ m i).cac s = turnTo at_ m i (D.cac s) := upd_same _ _ _
  have e2 : ((D.turning s at_ m i).cac s).length = (D.cac s).length := by rw [e1, turnTo_len]
  have hi' : i < ((D.turning s at_ m i).cac s).length := by rw [e2]; exact hi
  have e3 : ((D.turning s at_ m i).cac s)[i] = (D.cac s)[i] := by
    have h := turnTo_at at_ m i (D.cac s) hi (by rw [turnTo_len]; exact hi)
    rw [← h]; congr 1
  obtain ⟨h1, h2, h3⟩ := L.turnRow s hs (by rw [e2]; exact hv) i hi' at_ hat (UInt8.ofNat (byt (D.cac s)[i] at_) ^^^ UInt8.ofNat m)
  rw [e3] at h1 h3
  rw [bv_xor _ m (byt_le _ _) (by omega), upd_self] at h3
  refine ⟨h1, h2, ?_⟩
  have e4 : ({ D.turning s at_ m i with cac := upd (D.turning s at_ m i).cac s (((D.turning s at_ m i).cac s).set i ((D.cac s)[i].set at_ (UInt8.ofNat (byt (D.cac s)[i] at_) ^^^ UInt8.ofNat m))) } : DM) = D.turning s at_ m (i + 1) := by
    rw [e1, show (D.cac s)[i].set at_ (UInt8.ofNat (byt (D.cac s)[i] at_) ^^^ UInt8.ofNat m) = turnB at_ m (D.cac s)[i] from rfl, turnTo_next at_ m i _ hi]
    unfold DM.turning
    rw [upd_upd]
  rw [e4] at h3
  exact h3

/-- Corrupt. -/
def DM.mayTurn (D : DM) (s at_ m : Int) : Bool := decide ((0 ≤ s ∧ s < (D.n : Int)) ∧ (0 ≤ at_ ∧ at_ < 256) ∧ (0 ≤ m ∧ m < 256))
def DM.corrupt (D : DM) (s at_ m : Int) : DM := if D.mayTurn s at_ m then D.turn s.toNat at_.toNat m.toNat else D
set_option maxRecDepth 10000 in
set_option maxHeartbeats 2000000 in
theorem corrupt_yes {w : World} {bp : Nat} {S : Nat → Prop} {D : DM} (L0 : Drv w bp S D) (s at_ m : Nat) (hs : s < D.n) (hat : at_ < 256) (hm : m < 256) (hcl : ∀ k, (D.cac k).length ≤ 1000000) :
    Calls Try.prog 19 #[.pointer (some ⟨bp, 0, none⟩), .int .i64 s, .int .i64 at_, .int .i64 m] w fun e w' => e = .returned (.int .i64 0) ∧ Drv w' bp S (D.turn s at_ m) ∧ Turn S w w' := by
  obtain ⟨bd, bm, l, clock, v, L⟩ := L0
  have H1 := has_any L (s : Int)
  rw [show decide (0 ≤ (s : Int) ∧ (s : Int) < (D.n : Int)) = true by simp; omega] at H1
  have ha1 : ¬ ((at_ : Int) < 0) := by omega
  have ha2 : (at_ : Int) < 256 := by omega
  have hm2 : (m : Int) ≤ 255 := by omega
  have hmod : (m : Int) % 256 = (m : Int) := by omega
  have LD := L.drew
  have c0 := LD.c0
  have hx1 : ∀ w' : World, (Instr.indexAt 50 (.slice (some ⟨bd, 0, none⟩) D.n D.cap) (.int .i64 (s : Int))).run Try.prog w' = .ok (.pointer (some ⟨bd, s * 256, none⟩)) w' := fun w' => run_index_sec w' bd D.n D.cap s hs
  have hx2 : ∀ (w' : World) (b o : Nat), (Instr.indexAt 57 (.pointer (some ⟨b, o, none⟩)) (.int .i64 (at_ : Int))).run Try.prog w' = .ok (.pointer (some ⟨b, o + at_, none⟩)) w' := fun w' b o => run_index_arr w' b o at_ hat
  have hcell := LD.cellDur s hs at_ hat
  have hfz := (LD.durw s hs at_ hat).2
  have hbv := bv_xor (byt (D.dur s) at_) m (byt_le _ _) (by omega)
  have LT := LD.turnDur s hs at_ hat (UInt8.ofNat (byt (D.dur s) at_) ^^^ UInt8.ofNat m)
  rw [hbv] at LT
  clear hbv
  go_enter Try.func19, Try.ntmps19
  go_wp2_with fail
  refine H1.mono ?_
  rintro e w1 ⟨rfl, rfl⟩
  go_wp2_with fail
  go_region
  obtain ⟨A0, q0, hv0, hq0, hqm⟩ := owns_any (L.row s)
  have LT0 : Lay (w.setCell ⟨bd, s * 256 + at_, none⟩ (.int .u8 (bits .xor .u8 (byt (D.dur s) at_ : Int) (m : Int)))).drew bp bd bm l clock v S (D.turning s at_ m 0) := by
    have e : D.turning s at_ m 0 = { D with dur := upd D.dur s (turnB at_ m (D.dur s)) } := by unfold DM.turning; rw [turnTo_zero, upd_self]
    rw [e]; exact LT
  have TT : Turn S w (w.setCell ⟨bd, s * 256 + at_, none⟩ (.int .u8 (bits .xor .u8 (byt (D.dur s) at_ : Int) (m : Int)))).drew := (turn_setCell (a := ⟨bd, s * 256 + at_, none⟩) (.int .u8 (bits .xor .u8 (byt (D.dur s) at_ : Int) (m : Int))) L.inS.2.1).drew
  have hle := hcl s
  generalize (w.setCell ⟨bd, s * 256 + at_, none⟩ (.int .u8 (bits .xor .u8 (byt (D.dur s) at_ : Int) (m : Int)))).drew = w2 at LT0 TT ⊢
  have c1 := LT0.c1
  have hlk := LT0.lookup s
  rw [hv0] at hlk
  clear c0 hcell hfz LT LD hcl
  go_wp2_with fail
  clear c1 hlk
  go_loopw [51] (fun i wr => ∃ k : Nat, k ≤ (D.cac s).length ∧ i = .int .i64 k ∧ Lay wr bp bd bm l clock v S (D.turning s at_ m k) ∧ Turn S w wr) (fun i _ => (D.cac s).length - (intOf i).toNat)
  case atStart => exact ⟨0, Nat.zero_le _, rfl, LT0, TT⟩
  case round =>
    clear LT0 TT
    obtain ⟨k, hk, rfl, Lk, Tk⟩ := hrel
    by_cases hlt : k < (D.cac s).length
    · obtain ⟨g, c, hvs, hgc, hcm⟩ := owns_form (L.row s) (by omega)
      have hgS : S g := L.inS.2.2.2 s g (by rw [hvs]; rfl)
      have LD := Lk.drew
      obtain ⟨hcell, hfz, LN⟩ := LD.turnNext hs hvs hlt hat hm
      have c1 := LD.c1
      have hlk := LD.lookup s
      rw [hvs] at hlk
      have hx3 : ∀ w' : World, (Instr.indexAt 50 (.slice (some ⟨g, 0, none⟩) (D.cac s).length c) (.int .i64 (k : Int))).run Try.prog w' = .ok (.pointer (some ⟨g, k * 256, none⟩)) w' := fun w' => run_index_sec w' g _ c k hlt
      clear hv0
      go_wp2_with fail
      go_region
      go_wp2_with fail
      exact ⟨⟨k + 1, by omega, by go_num, LN, (Tk.drew).then (turn_setCell (a := ⟨g, k * 256 + at_, none⟩) _ hgS)⟩, by simp [intOf]; omega⟩
    · obtain rfl : k = (D.cac s).length := by omega
      go_wp2_with fail
      go_ret
      refine ⟨rfl, ⟨bd, bm, l, clock, v, ?_⟩, Tk⟩
      have e : D.turning s at_ m (D.cac s).length = D.turn s at_ m := by unfold DM.turning DM.turn; rw [turnTo_all]
      rw [← e]; exact Lk

set_option maxHeartbeats 1000000 in
theorem corrupt_no {w : World} {bp : Nat} {S : Nat → Prop} {D : DM} (L0 : Drv w bp S D) (s at_ m : Int) (h : D.mayTurn s at_ m = false) :
    Calls Try.prog 19 #[.pointer (some ⟨bp, 0, none⟩), .int .i64 s, .int .i64 at_, .int .i64 m] w fun e w' => e = .returned (.int .i64 1) ∧ w = w' := by
  obtain ⟨bd, bm, l, clock, v, L⟩ := L0
  have H1 := has_any L s
  unfold DM.mayTurn at h
  rw [decide_eq_false_iff_not] at h
  by_cases hs : 0 ≤ s ∧ s < (D.n : Int)
  · rw [show decide (0 ≤ s ∧ s < (D.n : Int)) = true by simpa using hs] at H1
    by_cases a1 : at_ < 0
    · clear h hs
      go_enter Try.func19, Try.ntmps19
      go_wp2_with fail
      refine H1.mono ?_
      rintro e w1 ⟨rfl, rfl⟩
      go_wp2_with fail
      go_ret
      exact ⟨rfl, rfl⟩
    by_cases a2 : 256 ≤ at_
    · clear h hs
      go_enter Try.func19, Try.ntmps19
      go_wp2_with fail
      refine H1.mono ?_
      rintro e w1 ⟨rfl, rfl⟩
      go_wp2_with fail
      go_ret
      exact ⟨rfl, rfl⟩
    by_cases a3 : m < 0
    · clear h hs
      go_enter Try.func19, Try.ntmps19
      go_wp2_with fail
      refine H1.mono ?_
      rintro e w1 ⟨rfl, rfl⟩
      go_wp2_with fail
      go_ret
      exact ⟨rfl, rfl⟩
    have a4 : 255 < m := by
      rcases Int.lt_or_le 255 m with h4 | h4
      · exact h4
      · exact absurd ⟨hs, ⟨by omega, by omega⟩, by omega, by omega⟩ h
    clear h hs
    go_enter Try.func19, Try.ntmps19
    go_wp2_with fail
    refine H1.mono ?_
    rintro e w1 ⟨rfl, rfl⟩
    go_wp2_with fail
    go_ret
    exact ⟨rfl, rfl⟩
  · rw [show decide (0 ≤ s ∧ s < (D.n : Int)) = false by simpa using hs] at H1
    clear h hs
    go_enter Try.func19, Try.ntmps19
    go_wp2_with fail
    refine H1.mono ?_
    rintro e w1 ⟨rfl, rfl⟩
    go_wp2_with fail
    go_ret
    exact ⟨rfl, rfl⟩
theorem corrupt_any {w : World} {bp : Nat} {S : Nat → Prop} {D : DM} (L0 : Drv w bp S D) (s at_ m : Int) (hcl : ∀ k, (D.cac k).length ≤ 1000000) :
    Calls Try.prog 19 #[.pointer (some ⟨bp, 0, none⟩), .int .i64 s, .int .i64 at_, .int .i64 m] w fun e w' => e = .returned (.int .i64 (if D.mayTurn s at_ m then 0 else 1)) ∧ Drv w' bp S (D.corrupt s at_ m) ∧ Turn S w w' := by
  unfold DM.corrupt
  cases h : D.mayTurn s at_ m with
  | true =>
    have h2 := h
    unfold DM.mayTurn at h2
    rw [decide_eq_true_iff] at h2
    obtain ⟨⟨h3, h4⟩, ⟨h5, h6⟩, h7, h8⟩ := h2
    obtain ⟨s, rfl⟩ := Int.eq_ofNat_of_zero_le h3
    obtain ⟨at_, rfl⟩ := Int.eq_ofNat_of_zero_le h5
    obtain ⟨m, rfl⟩ := Int.eq_ofNat_of_zero_le h7
    exact corrupt_yes L0 s at_ m (by omega) (by omega) (by omega) hcl
  | false =>
    refine (corrupt_no L0 s at_ m h).mono ?_
    rintro e w' ⟨rfl, rfl⟩
    exact ⟨rfl, L0, Turn.refl _ _⟩
end Go.Proofs.Ytkkmnmiekmfjiaa
