/- Crash: each sector with cached writes is settled as what is kept tells, from the first on. -/
import Derived.Test.YtkkmnmiekmfjiaaDrvE
import Derived.BigQuiet
import Derived.Deep.QuietTactic
namespace Go.Proofs.Ytkkmnmiekmfjiaa
open Go Go.RowKit Go.Proofs
open Go.ChangeMaps (setBlock)

/-- One sector's turn: what is there behind it, and what is left of the numbers. -/
def crash1 (D : DM) (k : Nat) (kp : List Int) : DM × List Int :=
  if D.cac k = [] then (D, kp) else (D.settle k (md (kp.headD 0) ((D.cac k).length + 1)), kp.drop 1)
/-- The sectors below k. Kept shut. -/
def crashTo (D : DM) (kp : List Int) : Nat → DM × List Int
  | 0 => (D, kp)
  | k + 1 => crash1 (crashTo D kp k).1 k (crashTo D kp k).2
def DM.crash (D : DM) (kp : List Int) : DM := { (crashTo D kp D.n).1 with off := false, fused := false, left := 0 }
theorem crash1_n (D : DM) (k : Nat) (kp : List Int) : (crash1 D k kp).1.n = D.n := by unfold crash1; split <;> rfl
theorem crashTo_n (D : DM) (kp : List Int) : ∀ k, (crashTo D kp k).1.n = D.n
  | 0 => rfl
  | k + 1 => by unfold crashTo; rw [crash1_n, crashTo_n D kp k]
theorem crash1_cac (D : DM) (k : Nat) (kp : List Int) (z : Nat) : (crash1 D k kp).1.cac z = if z = k then [] else D.cac z := by
  unfold crash1
  by_cases h : D.cac k = []
  · rw [if_pos h]
    by_cases hz : z = k
    · rw [if_pos hz, hz]; exact h
    · rw [if_neg hz]
  · rw [if_neg h]; rfl
theorem crashTo_cac (D : DM) (kp : List Int) : ∀ k z, (crashTo D kp k).1.cac z = if z < k then [] else D.cac z
  | 0, z => by simp [crashTo]
  | k + 1, z => by
    unfold crashTo
    rw [crash1_cac, crashTo_cac D kp k z]
    by_cases h : z = k
    · subst h; simp
    · rw [if_neg h]
      by_cases h2 : z < k
      · rw [if_pos h2, if_pos (by omega)]
      · rw [if_neg h2, if_neg (by omega)]
/-- Numbers that came in. -/
def Ints (w : World) (A : Option Addr) (n c : Nat) (zs : List Int) : Prop := Holds w w.heap.size A n c (zs.map (Value.int .i64)) ∧ ∀ z ∈ zs, -9223372036854775808 ≤ z ∧ z ≤ 9223372036854775807
section
variable {w w' : World} {A : Option Addr} {n c : Nat} {zs : List Int} {S : Nat → Prop}
theorem Ints.len (h : Ints w A n c zs) : zs.length = n := by simpa using h.1.1
theorem Ints.cap (h : Ints w A n c zs) : n ≤ c := h.1.2.1
theorem Ints.max (h : Ints w A n c zs) : c ≤ maxLen := h.1.2.2.1
theorem ints_nil (w : World) : Ints w none 0 0 [] := ⟨⟨rfl, Nat.le_refl _, Nat.zero_le _, fun j u hu => by simp at hu⟩, fun z hz => by simp at hz⟩
theorem Ints.turn (h : Ints w A n c zs) (t : Turn S w w') (ho : ∀ ad, A = some ad → ¬ S ad.block) : Ints w' A n c zs :=
  ⟨⟨h.1.1, h.1.2.1, h.1.2.2.1, fun j u hu => by
    obtain ⟨ad, e, hb, hc⟩ := h.1.2.2.2 j u hu
    refine ⟨ad, e, by have := t.size; omega, ?_⟩
    exact (World.cell?_of_block (w := w) (w' := w') (a := ad.add j) (by rw [addr_block]; exact t.block _ hb (ho ad e))).trans hc⟩, h.2⟩
theorem Ints.drop1 (h : Ints w A n c zs) (hn : 0 < n) : Ints w (if c = 1 then A else A.map (·.add 1)) (n - 1) (c - 1) (zs.drop 1) := by
  refine ⟨⟨by have := h.len; simp; omega, by have := h.cap; omega, by have := h.max; omega, fun j u hu => ?_⟩, fun z hz => h.2 z (List.mem_of_mem_drop hz)⟩
  rw [List.map_drop, List.getElem?_drop] at hu
  obtain ⟨ad, rfl, hb, hc⟩ := h.1.2.2.2 _ u hu
  have hj : 1 + j < n := by
    have := h.1.1; have h2 := (List.getElem?_eq_some_iff.1 hu).1; omega
  rw [if_neg (by have := h.cap; omega)]
  exact ⟨ad.add 1, rfl, by rw [addr_block]; exact hb, by rw [addr_add]; exact hc⟩
theorem Ints.out1 (ho : ∀ ad, A = some ad → ¬ S ad.block) : ∀ ad, (if c = 1 then A else A.map (·.add 1)) = some ad → ¬ S ad.block := by
  intro ad h
  split at h
  · exact ho ad h
  · rcases A with _ | a
    · cases h
    · cases h; rw [addr_block]; exact ho a rfl
theorem Ints.head (h : Ints w A n c zs) (hn : 0 < n) : ∃ ad, A = some ad ∧ w.cell? ad = some (.int .i64 (zs.headD 0)) := by
  rcases zs with _ | ⟨z, r⟩
  · have := h.len; simp at this; omega
  · obtain ⟨ad, e, _, hc⟩ := h.1.2.2.2 0 (.int .i64 z) rfl
    exact ⟨ad, e, by simpa [Addr.add] using hc⟩
theorem Ints.range (h : Ints w A n c zs) : -9223372036854775808 ≤ zs.headD 0 ∧ zs.headD 0 ≤ 9223372036854775807 := by
  rcases zs with _ | ⟨z, r⟩
  · simp
  · exact h.2 z (by simp)
theorem Ints.drew (h : Ints w A n c zs) (k : Nat) : Ints (w.drewN k) A n c zs := h
end

set_option maxRecDepth 10000 in
set_option maxHeartbeats 2000000 in
theorem crash_any {w : World} {bp : Nat} {S : Nat → Prop} {D : DM} (L0 : Drv w bp S D) (A : Option Addr) (n c : Nat) (kp : List Int) (hk : Ints w A n c kp) (hout : ∀ ad, A = some ad → ¬ S ad.block) (hcl : ∀ k, (D.cac k).length ≤ 999999) :
    Calls Try.prog 17 #[.pointer (some ⟨bp, 0, none⟩), .slice A n c] w fun e w' => e = .returned (.tuple #[]) ∧ Drv w' bp S (D.crash kp) ∧ Turn S w w' := by
  obtain ⟨bd, bm, l, clock, v, L⟩ := L0
  have c0 := L.c0
  have hbnd : D.n ≤ 2048 := L.n32.2
  go_enter Try.func17, Try.ntmps17
  go_wp2
  go_loopw [1, 12] (fun a i wr => ∃ (k : Nat) (B : Option Addr) (m d : Nat) (l : List MapEntry) (clock : Nat) (v : Nat → Value), k ≤ D.n ∧ i = .int .i64 k ∧ a = .slice B m d ∧ Ints wr B m d (crashTo D kp k).2 ∧ (∀ ad, B = some ad → ¬ S ad.block) ∧
    Lay wr bp bd bm l clock v S (crashTo D kp k).1 ∧ Turn S w wr) (fun _ i _ => D.n - (intOf i).toNat)
  case atStart => exact ⟨0, A, n, c, l, clock, v, Nat.zero_le _, rfl, rfl, hk, hout, L, Turn.refl _ _⟩
  case round =>
    clear c0 L hk hout
    obtain ⟨k, B, m, d, l, clock, v, hkn, rfl, rfl, hi, ho, L, T⟩ := hrel
    by_cases hlt : k < D.n
    · have hkn' : k < (crashTo D kp k).1.n := by rw [crashTo_n]; exact hlt
      have e1 : (crashTo D kp k).1.cac k = D.cac k := by rw [crashTo_cac, if_neg (by omega)]
      have e2 : crashTo D kp (k + 1) = crash1 (crashTo D kp k).1 k (crashTo D kp k).2 := rfl
      have hle := hcl k
      generalize crashTo D kp k = R at *
      obtain ⟨D', kq⟩ := R
      simp only at hi L hkn' e1 e2
      rw [← e1] at hle
      clear e1 hcl
      have c1 := L.c1
      have hlk := L.lookup k
      obtain ⟨A0, q0, hv0, _⟩ := owns_any (L.row k)
      rw [hv0] at hlk
      unfold crash1 at e2
      by_cases hc : D'.cac k = []
      · rw [if_pos hc] at e2
        rw [hc] at hlk
        go_wp2_with fail
        exact ⟨⟨k + 1, B, m, d, l, clock, v, by omega, by go_num, rfl, by rw [e2]; exact hi, ho, by rw [e2]; exact L, T⟩, by simp [intOf]; omega⟩
      · rw [if_neg hc] at e2
        have hne : (((D'.cac k).length : Int) == 0) = false := by
          rw [beq_eq_false_iff_ne]; intro h; exact hc (List.eq_nil_of_length_eq_zero (by omega))
        have hir := hi.range
        rcases Nat.eq_zero_or_pos m with hm | hm
        · subst hm
          obtain rfl : kq = [] := List.eq_nil_of_length_eq_zero hi.len
          have H1 := fun w => choice_any 0 (D'.cac k).length (by omega) (by omega) w
          have hmd := md_lt 0 (m := (D'.cac k).length + 1) (by omega)
          have H2 := settle_any L k hkn' (md 0 ((D'.cac k).length + 1)) (by omega)
          go_wp2_with fail
          refine (H1 _).mono ?_
          rintro e w1 ⟨rfl, rfl⟩
          go_wp2_with fail
          refine H2.mono ?_
          rintro e w1 ⟨rfl, L1, T1⟩
          have T1' : Turn S wr w1 := T1.mono fun x hx => by rcases hx with h | h; exact h ▸ L.inS.2.1; exact h ▸ L.inS.2.2.1
          go_wp2_with fail
          exact ⟨⟨k + 1, B, 0, d, _, _, _, by omega, by go_num, rfl, by rw [e2]; exact hi.turn T1' ho, ho, by rw [e2]; exact L1, T.then T1'⟩, by simp [intOf]; omega⟩
        · have hir2 := hi.range
          obtain ⟨ad, rfl, hcell⟩ := hi.head hm
          have hcN : ∀ N, (wr.drewN N).cell? ad = some (.int .i64 (kq.headD 0)) := fun N => hcell
          have hi2 := hi.drop1 hm
          have ho2 := Ints.out1 (c := d) ho
          have hmc := hi.cap
          have hdm := hi.max
          unfold maxLen at hdm
          have hm1 : (1 : Int) ≤ (m : Int) := by omega
          have hm2 : (m : Int) ≤ (d : Int) := by omega
          generalize hx : kq.headD 0 = x at *
          have H1 := fun w => choice_any x (D'.cac k).length hir (by omega) w
          have hmd := md_lt x (m := (D'.cac k).length + 1) (by omega)
          have H2 := fun N => settle_any (w := wr.drewN N) (L.keep fun _ _ _ => rfl) k hkn' (md x ((D'.cac k).length + 1)) (by omega)
          have hS := L.inS
          clear hi ho
          by_cases hd1 : d = 1
          · rw [if_pos hd1] at hi2 ho2
            subst hd1
            obtain rfl : m = 1 := by omega
            go_wp2_with fail
            go_quiet (fail)
            go_wp2_with fail
            refine (H1 _).mono ?_
            rintro e w1 ⟨rfl, rfl⟩
            go_wp2_with fail
            refine (H2 _).mono ?_
            rintro e w1 ⟨rfl, L1, T1⟩
            have T1' : Turn S wr w1 := ((Turn.refl S wr).drewN _).then (T1.mono fun x hx => by rcases hx with h | h; exact h ▸ hS.2.1; exact h ▸ hS.2.2.1)
            go_wp2_with fail
            exact ⟨⟨k + 1, _, _, _, _, _, _, by omega, by go_num, rfl, by rw [e2]; exact hi2.turn T1' ho2, ho2, by rw [e2]; exact L1, T.then T1'⟩, by simp [intOf]; omega⟩
          · rw [if_neg hd1] at hi2 ho2
            go_wp2_with fail
            go_quiet (fail)
            go_wp2_with fail
            refine (H1 _).mono ?_
            rintro e w1 ⟨rfl, rfl⟩
            go_wp2_with fail
            refine (H2 _).mono ?_
            rintro e w1 ⟨rfl, L1, T1⟩
            have T1' : Turn S wr w1 := ((Turn.refl S wr).drewN _).then (T1.mono fun x hx => by rcases hx with h | h; exact h ▸ hS.2.1; exact h ▸ hS.2.2.1)
            go_wp2_with fail
            exact ⟨⟨k + 1, _, _, _, _, _, _, by omega, by go_num, rfl, by rw [e2]; exact hi2.turn T1' ho2, ho2, by rw [e2]; exact L1, T.then T1'⟩, by simp [intOf]; omega⟩
    · obtain rfl : k = D.n := by omega
      have c2 := L.c2
      have f2 := L.fz 2
      have LF := L.off1 false
      go_wp2_with fail
      refine (fuse_any LF (-1) (by omega)).mono ?_
      rintro e w2 ⟨rfl, L2, T2⟩
      go_wp2_with fail
      go_end0
      exact ⟨rfl, ⟨bd, bm, _, _, _, L2⟩, (T.then (turn_at _ _ _ |>.mono fun x hx => hx ▸ L.inS.1)).then (T2.mono fun x hx => hx ▸ L.inS.1)⟩
end Go.Proofs.Ytkkmnmiekmfjiaa
