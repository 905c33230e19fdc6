/- The reference's Seek. The code's node: Seek and Least. -/
import Derived.Test.YtgedmodnkiijkaaGreatDoorFn6
import Derived.Test.YtgedmodnkiijkaaGreatDoorGrown
import Derived.Deep.RegionHeld3
namespace Go.Proofs.YtgedmodnkiijkaaGreatDoor
open Go Go.RowKit Go.Proofs

/-- How many keys stand ahead of k, one behind the other from the first on. -/
def lead (ks : List Kd) (k : Kd) : Nat := (ks.takeWhile fun x => x.less k).length
/-- The last of the first j keys that doesn't stand behind k, or 0. -/
def lastTo (ks : List Kd) (k : Kd) : Nat → Nat
  | 0 => 0
  | j + 1 => if k.less (keyAt ks j) = true then lastTo ks k j else j
def foundAt (ks : List Kd) (k : Kd) (i : Nat) : Bool := decide (i < ks.length) && (keyAt ks i).same k
/-- P6.2. -/
def Nd.seek (N : Nd) (k : Kd) : Nat := if N.lvl = 0 then lead N.keys k else lastTo N.keys k N.keys.length
theorem lead_le (ks : List Kd) (k : Kd) : lead ks k ≤ ks.length := by
  unfold lead
  induction ks with
  | nil => simp
  | cons x ks ih => rw [List.takeWhile_cons]; split <;> simp <;> omega
theorem lead_eq : ∀ (ks : List Kd) (k : Kd) (j : Nat), (∀ q, q < j → (keyAt ks q).less k = true) → j ≤ ks.length → (j = ks.length ∨ (keyAt ks j).less k = false) → lead ks k = j
  | [], k, j, _, h2, _ => by simp at h2; subst h2; rfl
  | x :: ks, k, 0, _, _, h3 => by
    rcases h3 with h | h
    · simp at h
    · have h : x.less k = false := h
      unfold lead
      rw [List.takeWhile_cons, h]; rfl
  | x :: ks, k, j + 1, h1, h2, h3 => by
    have h0 : x.less k = true := h1 0 (by omega)
    have := lead_eq ks k j (fun q hq => h1 (q + 1) (by omega)) (by simpa using h2) (by
      rcases h3 with h | h
      · left; simpa using h
      · right; exact h)
    unfold lead at this ⊢
    rw [List.takeWhile_cons, h0]
    simpa using this
theorem lastTo_le (ks : List Kd) (k : Kd) (j : Nat) : lastTo ks k j = 0 ∨ lastTo ks k j < j := by
  induction j with
  | zero => left; rfl
  | succ j ih => unfold lastTo; split <;> omega

set_option maxHeartbeats 8000000 in
theorem refseek_any (N : Nd) (k : Kd) (A : Option Addr) (n c : Nat) (B : Option Addr) (m d : Nat) (w : World) (hI : Itms w A n c N.items) (hK : Kidl w B m d N.kids) (hn : n ≤ 1000) (hm : m ≤ 1000) :
    Calls Tryz.prog 22 #[.agg #[.int .i64 N.lvl, .slice A n c, .slice B m d], .agg #[.int .i64 k.obj, .int .i64 k.kind, .int .i64 k.off]] w fun e w' => e = .returned (.tuple #[.int .i64 (N.seek k : Int), .bool (foundAt N.keys k (N.seek k))]) ∧ Below w.heap.size w w' := by
  have hg := guard_says
  obtain ⟨ks, hks⟩ : ∃ ks, N.keys = ks := ⟨_, rfl⟩
  by_cases hl : N.lvl = 0
  · have Hseek := Lib.hid (show N.seek k = lead ks k by unfold Nd.seek; rw [if_pos hl, hks])
    have hlb : decide (N.lvl = 0) = true := decide_eq_true hl
    have hlb2 : (N.lvl == 0) = true := by simp [hl]
    clear hl
    go_enter Tryz.func22, Tryz.ntmps22
    go_wp2_with fail
    have N1 : NB ((w.alloc (.cells #[.int .i64 N.lvl, .slice A n c, .slice B m d] 56)).alloc (.cells #[.int .i64 k.obj, .int .i64 k.kind, .int .i64 k.off] 39)) w.heap.size N.lvl A n c B m d := (NB.new w _ _ _ _ _ _ _ _).below ((Below.refl _ _).alloc (Nat.le_refl _) _) (by simp)
    have K1 : KB ((w.alloc (.cells #[.int .i64 N.lvl, .slice A n c, .slice B m d] 56)).alloc (.cells #[.int .i64 k.obj, .int .i64 k.kind, .int .i64 k.off] 39)) (w.heap.size + 1) k := KB.new2 w _ k.obj k.kind k.off _
    have b1 : Below w.heap.size w ((w.alloc (.cells #[.int .i64 N.lvl, .slice A n c, .slice B m d] 56)).alloc (.cells #[.int .i64 k.obj, .int .i64 k.kind, .int .i64 k.off] 39)) := ((Below.refl _ _).alloc (Nat.le_refl _) _).alloc (by simp) _
    generalize (w.alloc (.cells #[.int .i64 N.lvl, .slice A n c, .slice B m d] 56)).alloc (.cells #[.int .i64 k.obj, .int .i64 k.kind, .int .i64 k.off] 39) = w1 at N1 K1 b1 ⊢
    refine (refkeys_any N A n c B m d w1 (hI.below b1) (hK.below b1) hn hm).mono ?_
    rw [hks]
    rintro e w2 ⟨A2, n2, c2, rfl, hn2, hk2, hb2⟩
    have N2 := N1.below hb2 N1.lt
    have K2 := K1.below hb2 K1.lt
    have B2 := b1.trans (hb2.mono b1.size)
    have hlk := Lib.hid hk2.len
    have q0 := N2.c0
    have Hks := Lib.hid hks
    clear N1 K1 b1 hb2 hks
    go_wp2_with fail
    clear q0 N2 hlb hlb2
    go_loopw [7] (fun i wr => ∃ j : Nat, j ≤ n2 ∧ i = .int .i64 (j : Int) ∧ (∀ q, q < j → (keyAt ks q).less k = true) ∧ Below w2.heap.size w2 wr) (fun i _ => n2 - (intOf i).toNat)
    case atStart => exact ⟨0, Nat.zero_le _, rfl, fun q hq => by omega, Below.refl _ _⟩
    case round =>
      obtain ⟨j, hj, rfl, hall, hB⟩ := hrel
      have Kr := K2.below hB K2.lt
      have k0 := Kr.c0
      have k1 := Kr.c1
      have k2' := Kr.c2
      have hBB := B2.trans (hB.mono B2.size)
      by_cases hlt : j < n2
      · obtain ⟨g, o, hA, hg', c0, c1, c2'⟩ := (hk2.below hB).cell hlt
        subst hA
        obtain ⟨a, ha⟩ : ∃ a, keyAt ks j = a := ⟨_, rfl⟩
        rw [ha] at c0 c1 c2'
        have Ha := Lib.hid ha
        clear ha
        obtain ⟨r, hr⟩ : ∃ r, a.less k = r := ⟨_, rfl⟩
        have hj0 : (0 : Int) ≤ (j : Int) := by omega
        have hj1 : (j : Int) < (n2 : Int) := by omega
        have hkl := Kr.lt
        have hS : ∀ w' : World, Below wr.heap.size wr w' → w'.cell? ⟨g, o + j * 3, none⟩ = some (.int .i64 a.obj) ∧ w'.cell? ⟨g, o + j * 3 + 1, none⟩ = some (.int .i64 a.kind) ∧ w'.cell? ⟨g, o + j * 3 + 2, none⟩ = some (.int .i64 a.off) ∧ w'.cell? ⟨w.heap.size + 1, 0, none⟩ = some (.int .i64 k.obj) ∧ w'.cell? ⟨w.heap.size + 1, 1, none⟩ = some (.int .i64 k.kind) ∧ w'.cell? ⟨w.heap.size + 1, 2, none⟩ = some (.int .i64 k.off) ∧ Below wr.heap.size wr w' :=
          fun w' hb => ⟨(hb.cell (p := ⟨g, _, none⟩) hg').trans c0, (hb.cell (p := ⟨g, _, none⟩) hg').trans c1, (hb.cell (p := ⟨g, _, none⟩) hg').trans c2', (hb.cell (p := ⟨w.heap.size + 1, _, none⟩) hkl).trans k0, (hb.cell (p := ⟨w.heap.size + 1, _, none⟩) hkl).trans k1, (hb.cell (p := ⟨w.heap.size + 1, _, none⟩) hkl).trans k2', hb⟩
        have BD : Below wr.heap.size wr wr.drew := (Below.refl _ wr).drew
        go_wp2_with fail
        go_region_held3 (fun w' => w'.cell? ⟨g, o + j * 3, none⟩ = some (.int .i64 a.obj) ∧ w'.cell? ⟨g, o + j * 3 + 1, none⟩ = some (.int .i64 a.kind) ∧ w'.cell? ⟨g, o + j * 3 + 2, none⟩ = some (.int .i64 a.off) ∧ w'.cell? ⟨w.heap.size + 1, 0, none⟩ = some (.int .i64 k.obj) ∧ w'.cell? ⟨w.heap.size + 1, 1, none⟩ = some (.int .i64 k.kind) ∧ w'.cell? ⟨w.heap.size + 1, 2, none⟩ = some (.int .i64 k.off) ∧ Below wr.heap.size wr w')
          (first | assumption | exact hS _ BD | exact hS _ bb3)
          (first
            | (go_at_call 26; refine (refless_says a k r hr _).mono ?_; rintro e w3 ⟨rfl, hb3⟩; have bb3 : Below wr.heap.size wr w3 := BD.trans (hb3.mono (Nat.le_refl wr.heap.size)))
            | fail)
        all_goals
          have hB3 := hB.trans (bb3.mono hB.size)
          have hB4 := hBB.trans (bb3.mono hBB.size)
          obtain ⟨d0, d1, d2, d3, d4, d5, _⟩ := hS w3 bb3
          clear hS BD c0 c1 c2' k0 k1 k2'
          cases r
          · have hlead := Lib.hid (lead_eq ks k j hall (by rw [hlk.out]; exact hj) (.inr (by rw [Ha.out]; exact hr)))
            obtain ⟨s, hs⟩ : ∃ s, a.same k = s := ⟨_, rfl⟩
            have hq := eql_says a k s hs
            go_wp2_with fail
            go_quiet (fail)
            generalize hw5 : World.drewN w3 _ = w5
            have hB5 : Below w.heap.size w w5 := by rw [← hw5]; exact below_drewN hB4 _
            clear hw5
            go_wp2
            go_ret2
            have hf : foundAt ks k j = s := by unfold foundAt; rw [Ha.out, hs, decide_eq_true (by rw [hlk.out]; exact hlt), Bool.true_and]
            rw [Hseek.out, hlead.out, Hks.out, hf]
            exact ⟨rfl, hB5⟩
          · go_wp2
            refine ⟨⟨j + 1, by omega, by go_num, fun p hp => ?_, hB3⟩, by simp [intOf]; omega⟩
            rcases (by omega : p < j ∨ p = j) with h1 | rfl
            · exact hall p h1
            · rw [Ha.out]; exact hr
      · obtain rfl : n2 = j := by omega
        have hlead := Lib.hid (lead_eq ks k n2 hall (by rw [hlk.out]; exact hj) (.inl hlk.out.symm))
        go_wp2_with fail
        go_quiet (fail)
        generalize hw5 : World.drewN wr _ = w5
        have hB5 : Below w.heap.size w w5 := by rw [← hw5]; exact below_drewN hBB _
        clear hw5
        go_wp2_with fail
        go_quiet (fail)
        generalize hw6 : World.drewN w5 _ = w6
        have hB6 : Below w.heap.size w w6 := by rw [← hw6]; exact below_drewN hB5 _
        clear hw6
        go_wp2
        go_ret2
        have hf : foundAt ks k n2 = false := by unfold foundAt; rw [decide_eq_false (by rw [hlk.out]; omega), Bool.false_and]
        rw [Hseek.out, hlead.out, Hks.out, hf]
        exact ⟨rfl, hB6⟩
  · have Hseek := Lib.hid (show N.seek k = lastTo ks k ks.length by unfold Nd.seek; rw [if_neg hl, hks])
    have hlb : decide (N.lvl = 0) = false := decide_eq_false hl
    have hlb2 : (N.lvl == 0) = false := by simp [hl]
    go_enter Tryz.func22, Tryz.ntmps22
    go_wp2_with fail
    have N1 : NB ((w.alloc (.cells #[.int .i64 N.lvl, .slice A n c, .slice B m d] 56)).alloc (.cells #[.int .i64 k.obj, .int .i64 k.kind, .int .i64 k.off] 39)) w.heap.size N.lvl A n c B m d := (NB.new w _ _ _ _ _ _ _ _).below ((Below.refl _ _).alloc (Nat.le_refl _) _) (by simp)
    have K1 : KB ((w.alloc (.cells #[.int .i64 N.lvl, .slice A n c, .slice B m d] 56)).alloc (.cells #[.int .i64 k.obj, .int .i64 k.kind, .int .i64 k.off] 39)) (w.heap.size + 1) k := KB.new2 w _ k.obj k.kind k.off _
    have b1 : Below w.heap.size w ((w.alloc (.cells #[.int .i64 N.lvl, .slice A n c, .slice B m d] 56)).alloc (.cells #[.int .i64 k.obj, .int .i64 k.kind, .int .i64 k.off] 39)) := ((Below.refl _ _).alloc (Nat.le_refl _) _).alloc (by simp) _
    generalize (w.alloc (.cells #[.int .i64 N.lvl, .slice A n c, .slice B m d] 56)).alloc (.cells #[.int .i64 k.obj, .int .i64 k.kind, .int .i64 k.off] 39) = w1 at N1 K1 b1 ⊢
    refine (refkeys_any N A n c B m d w1 (hI.below b1) (hK.below b1) hn hm).mono ?_
    rw [hks]
    rintro e w2 ⟨A2, n2, c2, rfl, hn2, hk2, hb2⟩
    have N2 := N1.below hb2 N1.lt
    have K2 := K1.below hb2 K1.lt
    have B2 := b1.trans (hb2.mono b1.size)
    have hlk := Lib.hid hk2.len
    have q0 := N2.c0
    have Hks := Lib.hid hks
    clear N1 K1 b1 hb2 hks
    go_wp2_with fail
    clear q0 N2 hlb hlb2
    go_loopw [8, 9] (fun at_ i wr => ∃ j : Nat, j ≤ n2 ∧ i = .int .i64 (j : Int) ∧ at_ = .int .i64 (lastTo ks k j : Int) ∧ Below w2.heap.size w2 wr) (fun _ i _ => n2 - (intOf i).toNat)
    case atStart => exact ⟨0, Nat.zero_le _, rfl, rfl, Below.refl _ _⟩
    case round =>
      obtain ⟨j, hj, rfl, rfl, hB⟩ := hrel
      have Kr := K2.below hB K2.lt
      have k0 := Kr.c0
      have k1 := Kr.c1
      have k2' := Kr.c2
      have hBB := B2.trans (hB.mono B2.size)
      by_cases hlt : j < n2
      · obtain ⟨g, o, hA, hg', c0, c1, c2'⟩ := (hk2.below hB).cell hlt
        subst hA
        obtain ⟨a, ha⟩ : ∃ a, keyAt ks j = a := ⟨_, rfl⟩
        rw [ha] at c0 c1 c2'
        have Ha := Lib.hid ha
        clear ha
        obtain ⟨r, hr⟩ : ∃ r, k.less a = r := ⟨_, rfl⟩
        have hj0 : (0 : Int) ≤ (j : Int) := by omega
        have hj1 : (j : Int) < (n2 : Int) := by omega
        have hkl := Kr.lt
        have hS : ∀ w' : World, Below wr.heap.size wr w' → w'.cell? ⟨g, o + j * 3, none⟩ = some (.int .i64 a.obj) ∧ w'.cell? ⟨g, o + j * 3 + 1, none⟩ = some (.int .i64 a.kind) ∧ w'.cell? ⟨g, o + j * 3 + 2, none⟩ = some (.int .i64 a.off) ∧ w'.cell? ⟨w.heap.size + 1, 0, none⟩ = some (.int .i64 k.obj) ∧ w'.cell? ⟨w.heap.size + 1, 1, none⟩ = some (.int .i64 k.kind) ∧ w'.cell? ⟨w.heap.size + 1, 2, none⟩ = some (.int .i64 k.off) ∧ Below wr.heap.size wr w' :=
          fun w' hb => ⟨(hb.cell (p := ⟨g, _, none⟩) hg').trans c0, (hb.cell (p := ⟨g, _, none⟩) hg').trans c1, (hb.cell (p := ⟨g, _, none⟩) hg').trans c2', (hb.cell (p := ⟨w.heap.size + 1, _, none⟩) hkl).trans k0, (hb.cell (p := ⟨w.heap.size + 1, _, none⟩) hkl).trans k1, (hb.cell (p := ⟨w.heap.size + 1, _, none⟩) hkl).trans k2', hb⟩
        have BD : Below wr.heap.size wr wr.drew := (Below.refl _ wr).drew
        obtain ⟨t, ht⟩ : ∃ t, lastTo ks k j = t := ⟨_, rfl⟩
        have hnext := Lib.hid (show lastTo ks k (j + 1) = if r = true then t else j by show (if k.less (keyAt ks j) = true then lastTo ks k j else j) = _; rw [Ha.out, hr, ht])
        rw [ht]
        clear ht
        go_wp2_with fail
        go_region_held3 (fun w' => w'.cell? ⟨g, o + j * 3, none⟩ = some (.int .i64 a.obj) ∧ w'.cell? ⟨g, o + j * 3 + 1, none⟩ = some (.int .i64 a.kind) ∧ w'.cell? ⟨g, o + j * 3 + 2, none⟩ = some (.int .i64 a.off) ∧ w'.cell? ⟨w.heap.size + 1, 0, none⟩ = some (.int .i64 k.obj) ∧ w'.cell? ⟨w.heap.size + 1, 1, none⟩ = some (.int .i64 k.kind) ∧ w'.cell? ⟨w.heap.size + 1, 2, none⟩ = some (.int .i64 k.off) ∧ Below wr.heap.size wr w')
          (first | assumption | exact hS _ BD | exact hS _ bb3)
          (first
            | (go_at_call 26; refine (refless_says k a r hr _).mono ?_; rintro e w3 ⟨rfl, hb3⟩; have bb3 : Below wr.heap.size wr w3 := BD.trans (hb3.mono (Nat.le_refl wr.heap.size)))
            | fail)
        all_goals
          have hB3 := hB.trans (bb3.mono hB.size)
          clear hS BD c0 c1 c2' k0 k1 k2' hr
          cases r
          · go_wp2
            exact ⟨⟨j + 1, by omega, by go_num, by rw [hnext.out]; rfl, hB3⟩, by simp [intOf]; omega⟩
          · go_wp2
            exact ⟨⟨j + 1, by omega, by go_num, by rw [hnext.out]; rfl, hB3⟩, by simp [intOf]; omega⟩
      · obtain rfl : n2 = j := by omega
        have hle := lastTo_le ks k n2
        have Hs2 := Lib.hid (show N.seek k = lastTo ks k n2 by rw [Hseek.out, hlk.out])
        obtain ⟨t, ht⟩ : ∃ t, lastTo ks k n2 = t := ⟨_, rfl⟩
        have Ht := Lib.hid ht
        rw [ht] at hle ⊢
        clear ht
        by_cases hlt2 : t < n2
        · obtain ⟨g, o, hA, hg', c0, c1, c2'⟩ := (hk2.below hB).cell hlt2
          subst hA
          obtain ⟨a, ha⟩ : ∃ a, keyAt ks t = a := ⟨_, rfl⟩
          rw [ha] at c0 c1 c2'
          have Ha := Lib.hid ha
          clear ha
          have hj0 : (0 : Int) ≤ (t : Int) := by omega
          have hj1 : (t : Int) < (n2 : Int) := by omega
          obtain ⟨s, hs⟩ : ∃ s, a.same k = s := ⟨_, rfl⟩
          have hq := eql_says a k s hs
          go_wp2_with fail
          go_quiet (fail)
          generalize hw5 : World.drewN wr _ = w5
          have hB5 : Below w.heap.size w w5 := by rw [← hw5]; exact below_drewN hBB _
          clear hw5
          go_wp2
          go_ret2
          have hf : foundAt ks k t = s := by unfold foundAt; rw [Ha.out, hs, decide_eq_true (by rw [hlk.out]; exact hlt2), Bool.true_and]
          rw [Hs2.out, Ht.out, Hks.out, hf]
          exact ⟨rfl, hB5⟩
        · have hj1 : decide ((t : Int) < (n2 : Int)) = false := decide_eq_false (by omega)
          go_wp2_with fail
          go_quiet (fail)
          generalize hw5 : World.drewN wr _ = w5
          have hB5 : Below w.heap.size w w5 := by rw [← hw5]; exact below_drewN hBB _
          clear hw5
          go_wp2
          go_ret2
          have hf : foundAt ks k t = false := by unfold foundAt; rw [decide_eq_false (by rw [hlk.out]; omega), Bool.false_and]
          rw [Hs2.out, Ht.out, Hks.out, hf]
          exact ⟨rfl, hB5⟩
end Go.Proofs.YtgedmodnkiijkaaGreatDoor

namespace Go.Proofs.YtgedmodnkiijkaaGreatDoor
open Go Go.RowKit Go.Proofs

theorem kat_it (xs : List Itm) (j : Nat) : keyAt (xs.map (·.k)) j = (itAt xs j).k := by
  unfold keyAt itAt
  rw [List.getD_eq_getElem?_getD, List.getD_eq_getElem?_getD, List.getElem?_map]
  cases xs[j]? <;> rfl
theorem kat_kid (xs : List Kidd) (j : Nat) : keyAt (xs.map (·.k)) j = (kidAt xs j).k := by
  unfold keyAt kidAt
  rw [List.getD_eq_getElem?_getD, List.getD_eq_getElem?_getD, List.getElem?_map]
  cases xs[j]? <;> rfl


set_option maxRecDepth 100000 in
set_option maxHeartbeats 8000000 in
theorem cstandsI_any (xs : List Itm) (i : Nat) (k : Kd) (r : Bool) (hr : foundAt (xs.map (·.k)) k i = r) (A : Option Addr) (n c : Nat) (w : World) (hI : Itms w A n c xs) (_hn : n ≤ 100000) :
    Calls Tryz.prog 75 #[.slice A n c, .int .i64 (i : Int), .func (.func 74) #[] #[], .agg #[.int .i64 k.obj, .int .i64 k.kind, .int .i64 k.off]] w fun e w' => e = .returned (.bool r) ∧ Below w.heap.size w w' := by
  have hg0 := guard_says
  have hlen := hI.len
  obtain ⟨hb1, hb2⟩ := hI.bounds
  unfold maxLen at hb2
  have b1 := (boxes1 w k).2
  have K1 := (boxes1 w k).1
  have hIr := hI.below b1
  by_cases hlt : i < n
  · obtain ⟨s, hs⟩ : ∃ s, (keyAt (xs.map (·.k)) i).same k = s := ⟨_, rfl⟩
    obtain rfl : s = r := by rw [← hr, ← hs]; unfold foundAt; rw [decide_eq_true (by rw [List.length_map, hlen]; exact hlt), Bool.true_and]
    clear hr hlen
    go_enter Tryz.func75, Tryz.ntmps75
    go_wp2_with fail
    generalize w.alloc (.cells #[.int .i64 k.obj, .int .i64 k.kind, .int .i64 k.off] 39) = wr at b1 K1 hIr ⊢
    have Kr := K1
    obtain ⟨g, o, B', m', d', hA, hg, c0, c1, c2, c3, _⟩ := hIr.cell hlt
    subst hA
    have ha0 := kat_it xs i
    obtain ⟨a, ha⟩ : ∃ a, (itAt xs i).k = a := ⟨_, rfl⟩
    rw [ha] at c0 c1 c2 ha0
    have Ha := Lib.hid ha0
    clear ha ha0
    rw [Ha.out] at hs
    have hq := eql_says a k _ hs
    clear hs
    have p0 : ∀ u : Grown wr, u.to.cell? ⟨g, o + i * 4, none⟩ = some (.int .i64 a.obj) := Grown.cell c0 hg
    have p1 : ∀ u : Grown wr, u.to.cell? ⟨g, o + i * 4 + 1, none⟩ = some (.int .i64 a.kind) := Grown.cell c1 hg
    have p2 : ∀ u : Grown wr, u.to.cell? ⟨g, o + i * 4 + 2, none⟩ = some (.int .i64 a.off) := Grown.cell c2 hg
    have p3 : ∀ u : Grown wr, u.to.cell? ⟨g, o + i * 4 + 3, none⟩ = some (.slice B' m' d') := Grown.cell c3 hg
    have q0 : ∀ u : Grown wr, u.to.cell? ⟨w.heap.size, 0, none⟩ = some (.int .i64 k.obj) := Grown.cell Kr.c0 Kr.lt
    have q1 : ∀ u : Grown wr, u.to.cell? ⟨w.heap.size, 1, none⟩ = some (.int .i64 k.kind) := Grown.cell Kr.c1 Kr.lt
    have q2 : ∀ u : Grown wr, u.to.cell? ⟨w.heap.size, 2, none⟩ = some (.int .i64 k.off) := Grown.cell Kr.c2 Kr.lt
    clear c0 c1 c2 c3
    have hi0 : (0 : Int) ≤ (i : Int) := by omega
    have hi1 : (i : Int) < (n : Int) := by omega
    refine wp_region_grown (by kernel_rfl) (by kernel_rfl) ?_
    repeat (go_big_quiet_step (first
      | (go_at_call 74; exact Calls.grown (ckeyi_any a B' m' d' _))
      | fail))
    refine wpQuiet_nil ?_
    rintro _ ⟨u, rfl⟩
    have hBu := b1.trans (u.ok.mono b1.size)
    go_wp2
    go_ret
    exact ⟨rfl, hBu⟩
  · obtain rfl : r = false := by rw [← hr]; unfold foundAt; rw [decide_eq_false (by rw [List.length_map, hlen]; exact hlt), Bool.false_and]
    clear hr hlen K1 hIr
    have hi1 : ¬ (i : Int) < (n : Int) := by omega
    have hi2 : decide ((i : Int) < (n : Int)) = false := decide_eq_false hi1
    go_enter Tryz.func75, Tryz.ntmps75
    go_wp2_with fail
    generalize w.alloc (.cells #[.int .i64 k.obj, .int .i64 k.kind, .int .i64 k.off] 39) = wr at b1 ⊢
    refine wp_region_grown (by kernel_rfl) (by kernel_rfl) ?_
    repeat (go_big_quiet_step (fail))
    refine wpQuiet_nil ?_
    rintro _ ⟨u, rfl⟩
    have hBu := b1.trans (u.ok.mono b1.size)
    go_wp2
    go_ret
    exact ⟨rfl, hBu⟩

set_option maxRecDepth 100000 in
set_option maxHeartbeats 8000000 in
theorem cstandsK_any (xs : List Kidd) (i : Nat) (k : Kd) (r : Bool) (hr : foundAt (xs.map (·.k)) k i = r) (A : Option Addr) (n c : Nat) (w : World) (hI : Kidl w A n c xs) (_hn : n ≤ 100000) :
    Calls Tryz.prog 78 #[.slice A n c, .int .i64 (i : Int), .func (.func 77) #[] #[], .agg #[.int .i64 k.obj, .int .i64 k.kind, .int .i64 k.off]] w fun e w' => e = .returned (.bool r) ∧ Below w.heap.size w w' := by
  have hg0 := guard_says
  have hlen := hI.len
  obtain ⟨hb1, hb2⟩ := hI.bounds
  unfold maxLen at hb2
  have b1 := (boxes1 w k).2
  have K1 := (boxes1 w k).1
  have hIr := hI.below b1
  by_cases hlt : i < n
  · obtain ⟨s, hs⟩ : ∃ s, (keyAt (xs.map (·.k)) i).same k = s := ⟨_, rfl⟩
    obtain rfl : s = r := by rw [← hr, ← hs]; unfold foundAt; rw [decide_eq_true (by rw [List.length_map, hlen]; exact hlt), Bool.true_and]
    clear hr hlen
    go_enter Tryz.func78, Tryz.ntmps78
    go_wp2_with fail
    generalize w.alloc (.cells #[.int .i64 k.obj, .int .i64 k.kind, .int .i64 k.off] 39) = wr at b1 K1 hIr ⊢
    have Kr := K1
    obtain ⟨g, o, hA, hg, c0, c1, c2, c3⟩ := hIr.cell hlt
    subst hA
    obtain ⟨v, hv⟩ : ∃ v, (kidAt xs i).a = v := ⟨_, rfl⟩
    rw [hv] at c3
    clear hv
    have ha0 := kat_kid xs i
    obtain ⟨a, ha⟩ : ∃ a, (kidAt xs i).k = a := ⟨_, rfl⟩
    rw [ha] at c0 c1 c2 ha0
    have Ha := Lib.hid ha0
    clear ha ha0
    rw [Ha.out] at hs
    have hq := eql_says a k _ hs
    clear hs
    have p0 : ∀ u : Grown wr, u.to.cell? ⟨g, o + i * 4, none⟩ = some (.int .i64 a.obj) := Grown.cell c0 hg
    have p1 : ∀ u : Grown wr, u.to.cell? ⟨g, o + i * 4 + 1, none⟩ = some (.int .i64 a.kind) := Grown.cell c1 hg
    have p2 : ∀ u : Grown wr, u.to.cell? ⟨g, o + i * 4 + 2, none⟩ = some (.int .i64 a.off) := Grown.cell c2 hg
    have p3 : ∀ u : Grown wr, u.to.cell? ⟨g, o + i * 4 + 3, none⟩ = some (.int .i64 v) := Grown.cell c3 hg
    have q0 : ∀ u : Grown wr, u.to.cell? ⟨w.heap.size, 0, none⟩ = some (.int .i64 k.obj) := Grown.cell Kr.c0 Kr.lt
    have q1 : ∀ u : Grown wr, u.to.cell? ⟨w.heap.size, 1, none⟩ = some (.int .i64 k.kind) := Grown.cell Kr.c1 Kr.lt
    have q2 : ∀ u : Grown wr, u.to.cell? ⟨w.heap.size, 2, none⟩ = some (.int .i64 k.off) := Grown.cell Kr.c2 Kr.lt
    clear c0 c1 c2 c3
    have hi0 : (0 : Int) ≤ (i : Int) := by omega
    have hi1 : (i : Int) < (n : Int) := by omega
    refine wp_region_grown (by kernel_rfl) (by kernel_rfl) ?_
    repeat (go_big_quiet_step (first
      | (go_at_call 77; exact Calls.grown (ckeyk_any a v _))
      | fail))
    refine wpQuiet_nil ?_
    rintro _ ⟨u, rfl⟩
    have hBu := b1.trans (u.ok.mono b1.size)
    go_wp2
    go_ret
    exact ⟨rfl, hBu⟩
  · obtain rfl : r = false := by rw [← hr]; unfold foundAt; rw [decide_eq_false (by rw [List.length_map, hlen]; exact hlt), Bool.false_and]
    clear hr hlen K1 hIr
    have hi1 : ¬ (i : Int) < (n : Int) := by omega
    have hi2 : decide ((i : Int) < (n : Int)) = false := decide_eq_false hi1
    go_enter Tryz.func78, Tryz.ntmps78
    go_wp2_with fail
    generalize w.alloc (.cells #[.int .i64 k.obj, .int .i64 k.kind, .int .i64 k.off] 39) = wr at b1 ⊢
    refine wp_region_grown (by kernel_rfl) (by kernel_rfl) ?_
    repeat (go_big_quiet_step (fail))
    refine wpQuiet_nil ?_
    rintro _ ⟨u, rfl⟩
    have hBu := b1.trans (u.ok.mono b1.size)
    go_wp2
    go_ret
    exact ⟨rfl, hBu⟩

set_option maxRecDepth 100000 in
set_option maxHeartbeats 8000000 in
theorem clead_any (xs : List Itm) (k : Kd) (A : Option Addr) (n c : Nat) (w : World) (hI : Itms w A n c xs) (_hn : n ≤ 100000) :
    Calls Tryz.prog 73 #[.slice A n c, .func (.func 74) #[] #[], .agg #[.int .i64 k.obj, .int .i64 k.kind, .int .i64 k.off]] w fun e w' => e = .returned (.int .i64 (lead (xs.map (·.k)) k : Nat)) ∧ Below w.heap.size w w' := by
  have Hlen := Lib.hid (show (xs.map (·.k)).length = n by rw [List.length_map]; exact hI.len)
  obtain ⟨hb1, hb2⟩ := hI.bounds
  unfold maxLen at hb2
  have b1 := (boxes1 w k).2
  have K1 := (boxes1 w k).1
  go_enter Tryz.func73, Tryz.ntmps73
  go_wp2_with fail
  generalize w.alloc (.cells #[.int .i64 k.obj, .int .i64 k.kind, .int .i64 k.off] 39) = w1 at b1 K1 ⊢
  go_loopw [7] (fun i wr => ∃ j : Nat, j ≤ n ∧ i = .int .i64 (j : Int) ∧ (∀ q, q < j → (keyAt (xs.map (·.k)) q).less k = true) ∧ Below w1.heap.size w1 wr) (fun i _ => n - (intOf i).toNat)
  case atStart => exact ⟨0, Nat.zero_le _, rfl, fun q hq => by omega, Below.refl _ _⟩
  case round =>
    obtain ⟨j, hj, rfl, hall, hB⟩ := hrel
    have Kr := K1.below hB K1.lt
    have hBB := b1.trans (hB.mono b1.size)
    by_cases hlt : j < n
    · have hIr := hI.below hBB
      obtain ⟨g, o, B', m', d', hA, hg, c0, c1, c2, c3, _⟩ := hIr.cell hlt
      subst hA
      have ha0 := kat_it xs j
      obtain ⟨a, ha⟩ : ∃ a, (itAt xs j).k = a := ⟨_, rfl⟩
      rw [ha] at c0 c1 c2 ha0
      have Ha := Lib.hid ha0
      clear ha ha0
      obtain ⟨r, hr⟩ : ∃ r, a.less k = r := ⟨_, rfl⟩
      have p0 : ∀ u : Grown wr, u.to.cell? ⟨g, o + j * 4, none⟩ = some (.int .i64 a.obj) := Grown.cell c0 hg
      have p1 : ∀ u : Grown wr, u.to.cell? ⟨g, o + j * 4 + 1, none⟩ = some (.int .i64 a.kind) := Grown.cell c1 hg
      have p2 : ∀ u : Grown wr, u.to.cell? ⟨g, o + j * 4 + 2, none⟩ = some (.int .i64 a.off) := Grown.cell c2 hg
      have p3 : ∀ u : Grown wr, u.to.cell? ⟨g, o + j * 4 + 3, none⟩ = some (.slice B' m' d') := Grown.cell c3 hg
      have q0 : ∀ u : Grown wr, u.to.cell? ⟨w.heap.size, 0, none⟩ = some (.int .i64 k.obj) := Grown.cell Kr.c0 Kr.lt
      have q1 : ∀ u : Grown wr, u.to.cell? ⟨w.heap.size, 1, none⟩ = some (.int .i64 k.kind) := Grown.cell Kr.c1 Kr.lt
      have q2 : ∀ u : Grown wr, u.to.cell? ⟨w.heap.size, 2, none⟩ = some (.int .i64 k.off) := Grown.cell Kr.c2 Kr.lt
      clear c0 c1 c2 c3
      have hi0 : (0 : Int) ≤ (j : Int) := by omega
      have hi1 : (j : Int) < (n : Int) := by omega
      go_wp2_with fail
      refine wp_region_grown (by kernel_rfl) (by kernel_rfl) ?_
      repeat (go_big_quiet_step (first
        | (go_at_call 74; exact Calls.grown (ckeyi_any a B' m' d' _))
        | (go_at_call 42; exact Calls.grown (less_says a k r hr _))
        | fail))
      refine wpQuiet_nil ?_
      rintro _ ⟨u, rfl⟩
      have hBu := hB.trans (u.ok.mono hB.size)
      have hBBu := hBB.trans (u.ok.mono hBB.size)
      cases r
      · have hlead := Lib.hid (lead_eq (xs.map (·.k)) k j hall (by rw [Hlen.out]; exact hj) (.inr (by rw [Ha.out]; exact hr)))
        go_wp2
        go_ret
        exact ⟨by rw [hlead.out]; rfl, hBBu⟩
      · go_wp2
        refine ⟨⟨j + 1, by omega, by go_num, fun p hp => ?_, hBu⟩, by simp [intOf]; omega⟩
        rcases (by omega : p < j ∨ p = j) with h1 | rfl
        · exact hall p h1
        · rw [Ha.out]; exact hr
    · obtain rfl : n = j := by omega
      have hlead := Lib.hid (lead_eq (xs.map (·.k)) k n hall (by rw [Hlen.out]; exact hj) (.inl Hlen.out.symm))
      go_wp2_with fail
      refine wp_region_grown (by kernel_rfl) (by kernel_rfl) ?_
      repeat (go_big_quiet_step (fail))
      refine wpQuiet_nil ?_
      rintro _ ⟨u, rfl⟩
      have hBBu := hBB.trans (u.ok.mono hBB.size)
      go_wp2
      go_ret
      exact ⟨by rw [hlead.out]; rfl, hBBu⟩

set_option maxRecDepth 100000 in
set_option maxHeartbeats 8000000 in
theorem clast_any (xs : List Kidd) (k : Kd) (A : Option Addr) (n c : Nat) (w : World) (hI : Kidl w A n c xs) (_hn : n ≤ 100000) :
    Calls Tryz.prog 76 #[.slice A n c, .func (.func 77) #[] #[], .agg #[.int .i64 k.obj, .int .i64 k.kind, .int .i64 k.off]] w fun e w' => e = .returned (.int .i64 (lastTo (xs.map (·.k)) k n : Nat)) ∧ Below w.heap.size w w' := by
  obtain ⟨hb1, hb2⟩ := hI.bounds
  unfold maxLen at hb2
  have b1 := (boxes1 w k).2
  have K1 := (boxes1 w k).1
  obtain ⟨T, hT⟩ : ∃ T, lastTo (xs.map (·.k)) k n = T := ⟨_, rfl⟩
  have HT := Lib.hid hT
  rw [hT]
  clear hT
  rcases n with _ | p
  · have hw1 : IntKind.i64.wrap (((0 : Nat) : Int) - 1) = -1 := by decide
    have hT0 : T = 0 := by rw [← HT.out]; rfl
    subst hT0
    go_enter Tryz.func76, Tryz.ntmps76
    go_wp2_with fail
    generalize w.alloc (.cells #[.int .i64 k.obj, .int .i64 k.kind, .int .i64 k.off] 39) = w1 at b1 K1 ⊢
    go_loopw [7] (fun i wr => i = .int .i64 0 ∧ Below w1.heap.size w1 wr) (fun i _ => (intOf i).toNat)
    case atStart => exact ⟨rfl, Below.refl _ _⟩
    case round =>
      obtain ⟨rfl, hB⟩ := hrel
      have hBB := b1.trans (hB.mono b1.size)
      go_wp2_with fail
      refine wp_region_grown (by kernel_rfl) (by kernel_rfl) ?_
      repeat (go_big_quiet_step (fail))
      refine wpQuiet_nil ?_
      rintro _ ⟨u, rfl⟩
      have hBBu := hBB.trans (u.ok.mono hBB.size)
      go_wp2
      go_ret
      exact ⟨rfl, hBBu⟩
  · have hw1 : IntKind.i64.wrap (((p + 1 : Nat) : Int) - 1) = (p : Int) := by rw [show ((p + 1 : Nat) : Int) - 1 = (p : Int) by omega]; exact IntWalk.i64_in _ (by omega)
    have hp0 : (0 : Int) ≤ (p : Int) := by omega
    go_enter Tryz.func76, Tryz.ntmps76
    go_wp2_with fail
    generalize w.alloc (.cells #[.int .i64 k.obj, .int .i64 k.kind, .int .i64 k.off] 39) = w1 at b1 K1 ⊢
    clear hw1
    go_loopw [7] (fun i wr => ∃ j : Nat, j ≤ p ∧ i = .int .i64 (j : Int) ∧ lastTo (xs.map (·.k)) k (j + 1) = T ∧ Below w1.heap.size w1 wr) (fun i _ => (intOf i).toNat)
    case atStart => exact ⟨p, Nat.le_refl _, rfl, HT.out, Below.refl _ _⟩
    case round =>
      obtain ⟨j, hj, rfl, hall, hB⟩ := hrel
      have Kr := K1.below hB K1.lt
      have hBB := b1.trans (hB.mono b1.size)
      have Hall := Lib.hid hall
      clear hall
      rcases j with _ | q
      · have hT0 : T = 0 := by rw [← Hall.out]; show (if _ then _ else _) = _; split <;> rfl
        subst hT0
        go_wp2_with fail
        refine wp_region_grown (by kernel_rfl) (by kernel_rfl) ?_
        repeat (go_big_quiet_step (fail))
        refine wpQuiet_nil ?_
        rintro _ ⟨u, rfl⟩
        have hBBu := hBB.trans (u.ok.mono hBB.size)
        go_wp2
        go_ret
        exact ⟨rfl, hBBu⟩
      · have hIr := hI.below hBB
        obtain ⟨j, hjq⟩ : ∃ j, q + 1 = j := ⟨_, rfl⟩
        rw [hjq] at Hall hj ⊢
        obtain ⟨g, o, hA, hg, c0, c1, c2, c3⟩ := hIr.cell (show j < p + 1 by omega)
        subst hA
        obtain ⟨v, hv⟩ : ∃ v, (kidAt xs j).a = v := ⟨_, rfl⟩
        rw [hv] at c3
        clear hv
        have ha0 := kat_kid xs j
        obtain ⟨a, ha⟩ : ∃ a, (kidAt xs j).k = a := ⟨_, rfl⟩
        rw [ha] at c0 c1 c2 ha0
        have Ha := Lib.hid ha0
        clear ha ha0
        obtain ⟨r, hr⟩ : ∃ r, k.less a = r := ⟨_, rfl⟩
        have hnext := Lib.hid (show (if r = true then lastTo (xs.map (·.k)) k j else j) = T by rw [← Hall.out]; show _ = (if k.less (keyAt (xs.map (·.k)) j) = true then lastTo (xs.map (·.k)) k j else j); rw [Ha.out, hr])
        have p0 : ∀ u : Grown wr, u.to.cell? ⟨g, o + j * 4, none⟩ = some (.int .i64 a.obj) := Grown.cell c0 hg
        have p1 : ∀ u : Grown wr, u.to.cell? ⟨g, o + j * 4 + 1, none⟩ = some (.int .i64 a.kind) := Grown.cell c1 hg
        have p2 : ∀ u : Grown wr, u.to.cell? ⟨g, o + j * 4 + 2, none⟩ = some (.int .i64 a.off) := Grown.cell c2 hg
        have p3 : ∀ u : Grown wr, u.to.cell? ⟨g, o + j * 4 + 3, none⟩ = some (.int .i64 v) := Grown.cell c3 hg
        have q0 : ∀ u : Grown wr, u.to.cell? ⟨w.heap.size, 0, none⟩ = some (.int .i64 k.obj) := Grown.cell Kr.c0 Kr.lt
        have q1 : ∀ u : Grown wr, u.to.cell? ⟨w.heap.size, 1, none⟩ = some (.int .i64 k.kind) := Grown.cell Kr.c1 Kr.lt
        have q2 : ∀ u : Grown wr, u.to.cell? ⟨w.heap.size, 2, none⟩ = some (.int .i64 k.off) := Grown.cell Kr.c2 Kr.lt
        clear c0 c1 c2 c3
        have hj0 : (0 : Int) < (j : Int) := by omega
        have hj4 : 0 < j := by omega
        have hj5 : decide (0 < j) = true := decide_eq_true hj4
        have hj1 : (0 : Int) ≤ (j : Int) := by omega
        have hj2 : (j : Int) < ((p + 1 : Nat) : Int) := by omega
        have hj3 : (j : Int) < (p : Int) + 1 := by omega
        have hw2 : IntKind.i64.wrap ((j : Int) - 1) = (q : Int) := by rw [show (j : Int) - 1 = (q : Int) by omega]; exact IntWalk.i64_in _ (by omega)
        have Hjq := Lib.hid hjq
        clear hjq
        go_wp2_with fail
        refine wp_region_grown (by kernel_rfl) (by kernel_rfl) ?_
        repeat (go_big_quiet_step (first
          | (go_at_call 77; exact Calls.grown (ckeyk_any a v _))
          | (go_at_call 42; exact Calls.grown (less_says k a r hr _))
          | fail))
        refine wpQuiet_nil ?_
        rintro _ ⟨u, rfl⟩
        have hBu := hB.trans (u.ok.mono hB.size)
        have hBBu := hBB.trans (u.ok.mono hBB.size)
        cases r
        · obtain rfl : j = T := hnext.out
          go_wp2
          go_ret
          exact ⟨rfl, hBBu⟩
        · have hT2 : lastTo (xs.map (·.k)) k j = T := hnext.out
          have HT2 := Lib.hid hT2
          clear hT2
          go_wp2
          exact ⟨⟨q, by have := Hjq.out; omega, rfl, by rw [Hjq.out]; exact HT2.out, hBu⟩, by have := Hjq.out; simp [intOf]; omega⟩

end Go.Proofs.YtgedmodnkiijkaaGreatDoor
