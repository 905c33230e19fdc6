/- The reference's Seek and Least. The reference's Seek. -/
import Derived.Test.YtmebdjafnefneaaDoorPkNA
import Derived.Deep.QuietTactic
import Derived.BigQuiet
import Derived.Deep.RegionHeld3
namespace Go.Proofs.YtmebdjafnefneaaDoor
open Go Go.RowKit Go.Proofs

/-- The least key; kept shut. -/
def Nd.least (N : Nd) : Kd := if N.keys.length = 0 then ⟨0, 0, 0⟩ else keyAt N.keys 0
set_option maxHeartbeats 4000000 in
theorem refleast_any (N : Nd) (A : Option Addr) (n c : Nat) (B : Option Addr) (m d : Nat) (w : World) (hI : Itms w A n c N.items) (hK : Kidl w B m d N.kids) (hn : n ≤ 1000) (hm : m ≤ 1000) :
    Calls Tryd.prog 23 #[.agg #[.int .i64 N.lvl, .slice A n c, .slice B m d]] w fun e w' => e = .returned N.least.v ∧ Below w.heap.size w w' := by
  go_enter Tryd.func23, Tryd.ntmps23
  go_wp2_with fail
  have b0 : Below w.heap.size w (w.alloc (.cells #[.int .i64 N.lvl, .slice A n c, .slice B m d] 25)) := (Below.refl _ _).alloc (Nat.le_refl _) _
  have R1 : KB ((w.alloc (.cells #[.int .i64 N.lvl, .slice A n c, .slice B m d] 25)).alloc (.cells #[.int .i64 0, .int .i64 0, .int .i64 0] 39)) (w.heap.size + 1) ⟨0, 0, 0⟩ := KB.new2 w _ 0 0 0 _
  have b1 : Below w.heap.size w ((w.alloc (.cells #[.int .i64 N.lvl, .slice A n c, .slice B m d] 25)).alloc (.cells #[.int .i64 0, .int .i64 0, .int .i64 0] 39)) := b0.alloc (by simp) _
  generalize (w.alloc (.cells #[.int .i64 N.lvl, .slice A n c, .slice B m d] 25)).alloc (.cells #[.int .i64 0, .int .i64 0, .int .i64 0] 39) = w1 at R1 b1 ⊢
  refine (refkeys_any N A n c B m d w1 (hI.below b1) (hK.below b1) hn hm).mono ?_
  rintro e w2 ⟨A2, n2, c2, rfl, hn2, hk2, hb2⟩
  have R2 := R1.below hb2 R1.lt
  have B2 := b1.trans (hb2.mono b1.size)
  have hl := Lib.hid hk2.len
  clear R1 b1 b0 hb2
  by_cases h0 : n2 = 0
  · have hL := Lib.hid (show N.least = ⟨0, 0, 0⟩ from if_pos (by rw [hl.out]; exact h0))
    subst h0
    go_wp2_with (first
      | (refine wp_store_kd rfl (.tmp 2) (.tmp 9) rfl (w.heap.size + 1) rfl ⟨0, 0, 0⟩ _ rfl R2 ?_; intro wz Rz Tz)
      | fail)
    refine bodyPost_ret (res_c1 Tryd.results23 rfl (load_kd Rz)) rfl ?_
    exact ⟨by rw [hL.out], B2.trans ((Tz.belowOne R2.lt).mono (by omega))⟩
  · obtain ⟨g, o, hA, hg, c0, c1, c2'⟩ := hk2.cell (show 0 < n2 by omega)
    subst hA
    rw [Nat.zero_mul, Nat.add_zero] at c0 c1 c2'
    obtain ⟨k, hk⟩ : ∃ k, keyAt N.keys 0 = k := ⟨_, rfl⟩
    rw [hk] at c0 c1 c2'
    have hL := Lib.hid (show N.least = k by rw [← hk]; exact if_neg (by rw [hl.out]; exact h0))
    clear hk
    have h1 : ((n2 : Int) == 0) = false := by simp; omega
    have h2 : decide ((n2 : Int) = 0) = false := decide_eq_false (by omega)
    have h3 : (0 : Int) < (n2 : Int) := by omega
    go_wp2_with (first
      | (refine wp_store_kd rfl (.tmp 2) (.tmp 12) rfl (w.heap.size + 1) rfl k _ rfl R2 ?_; intro wz Rz Tz)
      | fail)
    refine bodyPost_ret (res_c1 Tryd.results23 rfl (load_kd Rz)) rfl ?_
    exact ⟨by rw [hL.out], B2.trans ((Tz.belowOne R2.lt).mono (by omega))⟩
end Go.Proofs.YtmebdjafnefneaaDoor

namespace Go.Proofs.YtmebdjafnefneaaDoor
open Go Go.RowKit Go.Proofs

/-- How many keys stand ahead of k, one behind the other from the first on. -/
def lead (ks : List Kd) (k : Kd) : Nat := (ks.takeWhile fun x => x.less k).length
/-- The last of the first j keys that doesn't stand behind k, or 0. -/
def lastTo (ks : List Kd) (k : Kd) : Nat → Nat
  | 0 => 0
  | j + 1 => if k.less (keyAt ks j) = true then lastTo ks k j else j
def foundAt (ks : List Kd) (k : Kd) (i : Nat) : Bool := decide (i < ks.length) && (keyAt ks i).same k
/-- P6.2. -/
def Nd.seek (N : Nd) (k : Kd) : Nat := if N.lvl = 0 then lead N.keys k else lastTo N.keys k N.keys.length
theorem lead_le (ks : List Kd) (k : Kd) : lead ks k ≤ ks.length := by
  unfold lead
  induction ks with
  | nil => simp
  | cons x ks ih => rw [List.takeWhile_cons]; split <;> simp <;> omega
theorem lead_eq : ∀ (ks : List Kd) (k : Kd) (j : Nat), (∀ q, q < j → (keyAt ks q).less k = true) → j ≤ ks.length → (j = ks.length ∨ (keyAt ks j).less k = false) → lead ks k = j
  | [], k, j, _, h2, _ => by simp at h2; subst h2; rfl
  | x :: ks, k, 0, _, _, h3 => by
    rcases h3 with h | h
    · simp at h
    · have h : x.less k = false := h
      unfold lead
      rw [List.takeWhile_cons, h]; rfl
  | x :: ks, k, j + 1, h1, h2, h3 => by
    have h0 : x.less k = true := h1 0 (by omega)
    have := lead_eq ks k j (fun q hq => h1 (q + 1) (by omega)) (by simpa using h2) (by
      rcases h3 with h | h
      · left; simpa using h
      · right; exact h)
    unfold lead at this ⊢
    rw [List.takeWhile_cons, h0]
    simpa using this
theorem lastTo_le (ks : List Kd) (k : Kd) (j : Nat) : lastTo ks k j = 0 ∨ lastTo ks k j < j := by
  induction j with
  | zero => left; rfl
  | succ j ih => unfold lastTo; split <;> omega

set_option maxHeartbeats 8000000 in
theorem refseek_any (N : Nd) (k : Kd) (A : Option Addr) (n c : Nat) (B : Option Addr) (m d : Nat) (w : World) (hI : Itms w A n c N.items) (hK : Kidl w B m d N.kids) (hn : n ≤ 1000) (hm : m ≤ 1000) :
    Calls Tryd.prog 19 #[.agg #[.int .i64 N.lvl, .slice A n c, .slice B m d], .agg #[.int .i64 k.obj, .int .i64 k.kind, .int .i64 k.off]] w fun e w' => e = .returned (.tuple #[.int .i64 (N.seek k : Int), .bool (foundAt N.keys k (N.seek k))]) ∧ Below w.heap.size w w' := by
  have hg := guard_says
  obtain ⟨ks, hks⟩ : ∃ ks, N.keys = ks := ⟨_, rfl⟩
  by_cases hl : N.lvl = 0
  · have Hseek := Lib.hid (show N.seek k = lead ks k by unfold Nd.seek; rw [if_pos hl, hks])
    have hlb : decide (N.lvl = 0) = true := decide_eq_true hl
    have hlb2 : (N.lvl == 0) = true := by simp [hl]
    clear hl
    go_enter Tryd.func19, Tryd.ntmps19
    go_wp2_with fail
    have N1 : NB ((w.alloc (.cells #[.int .i64 N.lvl, .slice A n c, .slice B m d] 25)).alloc (.cells #[.int .i64 k.obj, .int .i64 k.kind, .int .i64 k.off] 39)) w.heap.size N.lvl A n c B m d := (NB.new w _ _ _ _ _ _ _ _).below ((Below.refl _ _).alloc (Nat.le_refl _) _) (by simp)
    have K1 : KB ((w.alloc (.cells #[.int .i64 N.lvl, .slice A n c, .slice B m d] 25)).alloc (.cells #[.int .i64 k.obj, .int .i64 k.kind, .int .i64 k.off] 39)) (w.heap.size + 1) k := KB.new2 w _ k.obj k.kind k.off _
    have b1 : Below w.heap.size w ((w.alloc (.cells #[.int .i64 N.lvl, .slice A n c, .slice B m d] 25)).alloc (.cells #[.int .i64 k.obj, .int .i64 k.kind, .int .i64 k.off] 39)) := ((Below.refl _ _).alloc (Nat.le_refl _) _).alloc (by simp) _
    generalize (w.alloc (.cells #[.int .i64 N.lvl, .slice A n c, .slice B m d] 25)).alloc (.cells #[.int .i64 k.obj, .int .i64 k.kind, .int .i64 k.off] 39) = w1 at N1 K1 b1 ⊢
    refine (refkeys_any N A n c B m d w1 (hI.below b1) (hK.below b1) hn hm).mono ?_
    rw [hks]
    rintro e w2 ⟨A2, n2, c2, rfl, hn2, hk2, hb2⟩
    have N2 := N1.below hb2 N1.lt
    have K2 := K1.below hb2 K1.lt
    have B2 := b1.trans (hb2.mono b1.size)
    have hlk := Lib.hid hk2.len
    have q0 := N2.c0
    have Hks := Lib.hid hks
    clear N1 K1 b1 hb2 hks
    go_wp2_with fail
    clear q0 N2 hlb hlb2
    go_loopw [7] (fun i wr => ∃ j : Nat, j ≤ n2 ∧ i = .int .i64 (j : Int) ∧ (∀ q, q < j → (keyAt ks q).less k = true) ∧ Below w2.heap.size w2 wr) (fun i _ => n2 - (intOf i).toNat)
    case atStart => exact ⟨0, Nat.zero_le _, rfl, fun q hq => by omega, Below.refl _ _⟩
    case round =>
      obtain ⟨j, hj, rfl, hall, hB⟩ := hrel
      have Kr := K2.below hB K2.lt
      have k0 := Kr.c0
      have k1 := Kr.c1
      have k2' := Kr.c2
      have hBB := B2.trans (hB.mono B2.size)
      by_cases hlt : j < n2
      · obtain ⟨g, o, hA, hg', c0, c1, c2'⟩ := (hk2.below hB).cell hlt
        subst hA
        obtain ⟨a, ha⟩ : ∃ a, keyAt ks j = a := ⟨_, rfl⟩
        rw [ha] at c0 c1 c2'
        have Ha := Lib.hid ha
        clear ha
        obtain ⟨r, hr⟩ : ∃ r, a.less k = r := ⟨_, rfl⟩
        have hj0 : (0 : Int) ≤ (j : Int) := by omega
        have hj1 : (j : Int) < (n2 : Int) := by omega
        have hkl := Kr.lt
        have hS : ∀ w' : World, Below wr.heap.size wr w' → w'.cell? ⟨g, o + j * 3, none⟩ = some (.int .i64 a.obj) ∧ w'.cell? ⟨g, o + j * 3 + 1, none⟩ = some (.int .i64 a.kind) ∧ w'.cell? ⟨g, o + j * 3 + 2, none⟩ = some (.int .i64 a.off) ∧ w'.cell? ⟨w.heap.size + 1, 0, none⟩ = some (.int .i64 k.obj) ∧ w'.cell? ⟨w.heap.size + 1, 1, none⟩ = some (.int .i64 k.kind) ∧ w'.cell? ⟨w.heap.size + 1, 2, none⟩ = some (.int .i64 k.off) ∧ Below wr.heap.size wr w' :=
          fun w' hb => ⟨(hb.cell (p := ⟨g, _, none⟩) hg').trans c0, (hb.cell (p := ⟨g, _, none⟩) hg').trans c1, (hb.cell (p := ⟨g, _, none⟩) hg').trans c2', (hb.cell (p := ⟨w.heap.size + 1, _, none⟩) hkl).trans k0, (hb.cell (p := ⟨w.heap.size + 1, _, none⟩) hkl).trans k1, (hb.cell (p := ⟨w.heap.size + 1, _, none⟩) hkl).trans k2', hb⟩
        have BD : Below wr.heap.size wr wr.drew := (Below.refl _ wr).drew
        go_wp2_with fail
        go_region_held3 (fun w' => w'.cell? ⟨g, o + j * 3, none⟩ = some (.int .i64 a.obj) ∧ w'.cell? ⟨g, o + j * 3 + 1, none⟩ = some (.int .i64 a.kind) ∧ w'.cell? ⟨g, o + j * 3 + 2, none⟩ = some (.int .i64 a.off) ∧ w'.cell? ⟨w.heap.size + 1, 0, none⟩ = some (.int .i64 k.obj) ∧ w'.cell? ⟨w.heap.size + 1, 1, none⟩ = some (.int .i64 k.kind) ∧ w'.cell? ⟨w.heap.size + 1, 2, none⟩ = some (.int .i64 k.off) ∧ Below wr.heap.size wr w')
          (first | assumption | exact hS _ BD | exact hS _ bb3)
          (first
            | (go_at_call 25; refine (refless_says a k r hr _).mono ?_; rintro e w3 ⟨rfl, hb3⟩; have bb3 : Below wr.heap.size wr w3 := BD.trans (hb3.mono (Nat.le_refl wr.heap.size)))
            | fail)
        all_goals
          have hB3 := hB.trans (bb3.mono hB.size)
          have hB4 := hBB.trans (bb3.mono hBB.size)
          obtain ⟨d0, d1, d2, d3, d4, d5, _⟩ := hS w3 bb3
          clear hS BD c0 c1 c2' k0 k1 k2'
          cases r
          · have hlead := Lib.hid (lead_eq ks k j hall (by rw [hlk.out]; exact hj) (.inr (by rw [Ha.out]; exact hr)))
            obtain ⟨s, hs⟩ : ∃ s, a.same k = s := ⟨_, rfl⟩
            have hq := eql_says a k s hs
            go_wp2_with fail
            go_quiet (fail)
            generalize hw5 : World.drewN w3 _ = w5
            have hB5 : Below w.heap.size w w5 := by rw [← hw5]; exact below_drewN hB4 _
            clear hw5
            go_wp2
            go_ret2
            have hf : foundAt ks k j = s := by unfold foundAt; rw [Ha.out, hs, decide_eq_true (by rw [hlk.out]; exact hlt), Bool.true_and]
            rw [Hseek.out, hlead.out, Hks.out, hf]
            exact ⟨rfl, hB5⟩
          · go_wp2
            refine ⟨⟨j + 1, by omega, by go_num, fun p hp => ?_, hB3⟩, by simp [intOf]; omega⟩
            rcases (by omega : p < j ∨ p = j) with h1 | rfl
            · exact hall p h1
            · rw [Ha.out]; exact hr
      · obtain rfl : n2 = j := by omega
        have hlead := Lib.hid (lead_eq ks k n2 hall (by rw [hlk.out]; exact hj) (.inl hlk.out.symm))
        go_wp2_with fail
        go_quiet (fail)
        generalize hw5 : World.drewN wr _ = w5
        have hB5 : Below w.heap.size w w5 := by rw [← hw5]; exact below_drewN hBB _
        clear hw5
        go_wp2_with fail
        go_quiet (fail)
        generalize hw6 : World.drewN w5 _ = w6
        have hB6 : Below w.heap.size w w6 := by rw [← hw6]; exact below_drewN hB5 _
        clear hw6
        go_wp2
        go_ret2
        have hf : foundAt ks k n2 = false := by unfold foundAt; rw [decide_eq_false (by rw [hlk.out]; omega), Bool.false_and]
        rw [Hseek.out, hlead.out, Hks.out, hf]
        exact ⟨rfl, hB6⟩
  · have Hseek := Lib.hid (show N.seek k = lastTo ks k ks.length by unfold Nd.seek; rw [if_neg hl, hks])
    have hlb : decide (N.lvl = 0) = false := decide_eq_false hl
    have hlb2 : (N.lvl == 0) = false := by simp [hl]
    go_enter Tryd.func19, Tryd.ntmps19
    go_wp2_with fail
    have N1 : NB ((w.alloc (.cells #[.int .i64 N.lvl, .slice A n c, .slice B m d] 25)).alloc (.cells #[.int .i64 k.obj, .int .i64 k.kind, .int .i64 k.off] 39)) w.heap.size N.lvl A n c B m d := (NB.new w _ _ _ _ _ _ _ _).below ((Below.refl _ _).alloc (Nat.le_refl _) _) (by simp)
    have K1 : KB ((w.alloc (.cells #[.int .i64 N.lvl, .slice A n c, .slice B m d] 25)).alloc (.cells #[.int .i64 k.obj, .int .i64 k.kind, .int .i64 k.off] 39)) (w.heap.size + 1) k := KB.new2 w _ k.obj k.kind k.off _
    have b1 : Below w.heap.size w ((w.alloc (.cells #[.int .i64 N.lvl, .slice A n c, .slice B m d] 25)).alloc (.cells #[.int .i64 k.obj, .int .i64 k.kind, .int .i64 k.off] 39)) := ((Below.refl _ _).alloc (Nat.le_refl _) _).alloc (by simp) _
    generalize (w.alloc (.cells #[.int .i64 N.lvl, .slice A n c, .slice B m d] 25)).alloc (.cells #[.int .i64 k.obj, .int .i64 k.kind, .int .i64 k.off] 39) = w1 at N1 K1 b1 ⊢
    refine (refkeys_any N A n c B m d w1 (hI.below b1) (hK.below b1) hn hm).mono ?_
    rw [hks]
    rintro e w2 ⟨A2, n2, c2, rfl, hn2, hk2, hb2⟩
    have N2 := N1.below hb2 N1.lt
    have K2 := K1.below hb2 K1.lt
    have B2 := b1.trans (hb2.mono b1.size)
    have hlk := Lib.hid hk2.len
    have q0 := N2.c0
    have Hks := Lib.hid hks
    clear N1 K1 b1 hb2 hks
    go_wp2_with fail
    clear q0 N2 hlb hlb2
    go_loopw [8, 9] (fun at_ i wr => ∃ j : Nat, j ≤ n2 ∧ i = .int .i64 (j : Int) ∧ at_ = .int .i64 (lastTo ks k j : Int) ∧ Below w2.heap.size w2 wr) (fun _ i _ => n2 - (intOf i).toNat)
    case atStart => exact ⟨0, Nat.zero_le _, rfl, rfl, Below.refl _ _⟩
    case round =>
      obtain ⟨j, hj, rfl, rfl, hB⟩ := hrel
      have Kr := K2.below hB K2.lt
      have k0 := Kr.c0
      have k1 := Kr.c1
      have k2' := Kr.c2
      have hBB := B2.trans (hB.mono B2.size)
      by_cases hlt : j < n2
      · obtain ⟨g, o, hA, hg', c0, c1, c2'⟩ := (hk2.below hB).cell hlt
        subst hA
        obtain ⟨a, ha⟩ : ∃ a, keyAt ks j = a := ⟨_, rfl⟩
        rw [ha] at c0 c1 c2'
        have Ha := Lib.hid ha
        clear ha
        obtain ⟨r, hr⟩ : ∃ r, k.less a = r := ⟨_, rfl⟩
        have hj0 : (0 : Int) ≤ (j : Int) := by omega
        have hj1 : (j : Int) < (n2 : Int) := by omega
        have hkl := Kr.lt
        have hS : ∀ w' : World, Below wr.heap.size wr w' → w'.cell? ⟨g, o + j * 3, none⟩ = some (.int .i64 a.obj) ∧ w'.cell? ⟨g, o + j * 3 + 1, none⟩ = some (.int .i64 a.kind) ∧ w'.cell? ⟨g, o + j * 3 + 2, none⟩ = some (.int .i64 a.off) ∧ w'.cell? ⟨w.heap.size + 1, 0, none⟩ = some (.int .i64 k.obj) ∧ w'.cell? ⟨w.heap.size + 1, 1, none⟩ = some (.int .i64 k.kind) ∧ w'.cell? ⟨w.heap.size + 1, 2, none⟩ = some (.int .i64 k.off) ∧ Below wr.heap.size wr w' :=
          fun w' hb => ⟨(hb.cell (p := ⟨g, _, none⟩) hg').trans c0, (hb.cell (p := ⟨g, _, none⟩) hg').trans c1, (hb.cell (p := ⟨g, _, none⟩) hg').trans c2', (hb.cell (p := ⟨w.heap.size + 1, _, none⟩) hkl).trans k0, (hb.cell (p := ⟨w.heap.size + 1, _, none⟩) hkl).trans k1, (hb.cell (p := ⟨w.heap.size + 1, _, none⟩) hkl).trans k2', hb⟩
        have BD : Below wr.heap.size wr wr.drew := (Below.refl _ wr).drew
        obtain ⟨t, ht⟩ : ∃ t, lastTo ks k j = t := ⟨_, rfl⟩
        have hnext := Lib.hid (show lastTo ks k (j + 1) = if r = true then t else j by show (if k.less (keyAt ks j) = true then lastTo ks k j else j) = _; rw [Ha.out, hr, ht])
        rw [ht]
        clear ht
        go_wp2_with fail
        go_region_held3 (fun w' => w'.cell? ⟨g, o + j * 3, none⟩ = some (.int .i64 a.obj) ∧ w'.cell? ⟨g, o + j * 3 + 1, none⟩ = some (.int .i64 a.kind) ∧ w'.cell? ⟨g, o + j * 3 + 2, none⟩ = some (.int .i64 a.off) ∧ w'.cell? ⟨w.heap.size + 1, 0, none⟩ = some (.int .i64 k.obj) ∧ w'.cell? ⟨w.heap.size + 1, 1, none⟩ = some (.int .i64 k.kind) ∧ w'.cell? ⟨w.heap.size + 1, 2, none⟩ = some (.int .i64 k.off) ∧ Below wr.heap.size wr w')
          (first | assumption | exact hS _ BD | exact hS _ bb3)
          (first
            | (go_at_call 25; refine (refless_says k a r hr _).mono ?_; rintro e w3 ⟨rfl, hb3⟩; have bb3 : Below wr.heap.size wr w3 := BD.trans (hb3.mono (Nat.le_refl wr.heap.size)))
            | fail)
        all_goals
          have hB3 := hB.trans (bb3.mono hB.size)
          clear hS BD c0 c1 c2' k0 k1 k2' hr
          cases r
          · go_wp2
            exact ⟨⟨j + 1, by omega, by go_num, by rw [hnext.out]; rfl, hB3⟩, by simp [intOf]; omega⟩
          · go_wp2
            exact ⟨⟨j + 1, by omega, by go_num, by rw [hnext.out]; rfl, hB3⟩, by simp [intOf]; omega⟩
      · obtain rfl : n2 = j := by omega
        have hle := lastTo_le ks k n2
        have Hs2 := Lib.hid (show N.seek k = lastTo ks k n2 by rw [Hseek.out, hlk.out])
        obtain ⟨t, ht⟩ : ∃ t, lastTo ks k n2 = t := ⟨_, rfl⟩
        have Ht := Lib.hid ht
        rw [ht] at hle ⊢
        clear ht
        by_cases hlt2 : t < n2
        · obtain ⟨g, o, hA, hg', c0, c1, c2'⟩ := (hk2.below hB).cell hlt2
          subst hA
          obtain ⟨a, ha⟩ : ∃ a, keyAt ks t = a := ⟨_, rfl⟩
          rw [ha] at c0 c1 c2'
          have Ha := Lib.hid ha
          clear ha
          have hj0 : (0 : Int) ≤ (t : Int) := by omega
          have hj1 : (t : Int) < (n2 : Int) := by omega
          obtain ⟨s, hs⟩ : ∃ s, a.same k = s := ⟨_, rfl⟩
          have hq := eql_says a k s hs
          go_wp2_with fail
          go_quiet (fail)
          generalize hw5 : World.drewN wr _ = w5
          have hB5 : Below w.heap.size w w5 := by rw [← hw5]; exact below_drewN hBB _
          clear hw5
          go_wp2
          go_ret2
          have hf : foundAt ks k t = s := by unfold foundAt; rw [Ha.out, hs, decide_eq_true (by rw [hlk.out]; exact hlt2), Bool.true_and]
          rw [Hs2.out, Ht.out, Hks.out, hf]
          exact ⟨rfl, hB5⟩
        · have hj1 : decide ((t : Int) < (n2 : Int)) = false := decide_eq_false (by omega)
          go_wp2_with fail
          go_quiet (fail)
          generalize hw5 : World.drewN wr _ = w5
          have hB5 : Below w.heap.size w w5 := by rw [← hw5]; exact below_drewN hBB _
          clear hw5
          go_wp2
          go_ret2
          have hf : foundAt ks k t = false := by unfold foundAt; rw [decide_eq_false (by rw [hlk.out]; omega), Bool.false_and]
          rw [Hs2.out, Ht.out, Hks.out, hf]
          exact ⟨rfl, hB5⟩
end Go.Proofs.YtmebdjafnefneaaDoor
