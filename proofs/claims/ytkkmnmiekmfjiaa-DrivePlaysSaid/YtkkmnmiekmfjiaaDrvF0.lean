/- Crash by no numbers at all, wherever the empty slice points. -/
import Derived.Test.YtkkmnmiekmfjiaaDrvF
namespace Go.Proofs.Ytkkmnmiekmfjiaa
open Go Go.RowKit Go.Proofs
open Go.ChangeMaps (setBlock)

set_option maxRecDepth 10000 in
set_option maxHeartbeats 2000000 in
theorem crash_none {w : World} {bp : Nat} {S : Nat → Prop} {D : DM} (L0 : Drv w bp S D) (A : Option Addr) (c : Nat) (hcl : ∀ k, (D.cac k).length ≤ 999999) :
    Calls Try.prog 17 #[.pointer (some ⟨bp, 0, none⟩), .slice A 0 c] w fun e w' => e = .returned (.tuple #[]) ∧ Drv w' bp S (D.crash []) ∧ Turn S w w' := by
  obtain ⟨bd, bm, l, clock, v, L⟩ := L0
  have c0 := L.c0
  have hbnd : D.n ≤ 2048 := L.n32.2
  go_enter Try.func17, Try.ntmps17
  go_wp2
  go_loopw [1, 12] (fun a i wr => ∃ (k : Nat) (l : List MapEntry) (clock : Nat) (v : Nat → Value), k ≤ D.n ∧ i = .int .i64 k ∧ a = .slice A 0 c ∧
    Lay wr bp bd bm l clock v S (crashTo D [] k).1 ∧ (crashTo D [] k).2 = [] ∧ Turn S w wr) (fun _ i _ => D.n - (intOf i).toNat)
  case atStart => exact ⟨0, l, clock, v, Nat.zero_le _, rfl, rfl, L, rfl, Turn.refl _ _⟩
  case round =>
    clear c0 L
    obtain ⟨k, l, clock, v, hkn, rfl, rfl, L, hq, T⟩ := hrel
    by_cases hlt : k < D.n
    · have hkn' : k < (crashTo D [] k).1.n := by rw [crashTo_n]; exact hlt
      have e1 : (crashTo D [] k).1.cac k = D.cac k := by rw [crashTo_cac, if_neg (by omega)]
      have e2 : crashTo D [] (k + 1) = crash1 (crashTo D [] k).1 k (crashTo D [] k).2 := rfl
      have hle := hcl k
      generalize crashTo D [] k = R at *
      obtain ⟨D', kq⟩ := R
      simp only at hq L hkn' e1 e2
      subst hq
      rw [← e1] at hle
      clear e1 hcl
      have c1 := L.c1
      have hlk := L.lookup k
      obtain ⟨A0, q0, hv0, _⟩ := owns_any (L.row k)
      rw [hv0] at hlk
      unfold crash1 at e2
      by_cases hc : D'.cac k = []
      · rw [if_pos hc] at e2
        rw [hc] at hlk
        go_wp2_with fail
        exact ⟨⟨k + 1, l, clock, v, by omega, by go_num, rfl, by rw [e2]; exact L, by rw [e2], T⟩, by simp [intOf]; omega⟩
      · rw [if_neg hc] at e2
        have hne : (((D'.cac k).length : Int) == 0) = false := by
          rw [beq_eq_false_iff_ne]; intro h; exact hc (List.eq_nil_of_length_eq_zero (by omega))
        have H1 := fun w => choice_any 0 (D'.cac k).length (by omega) (by omega) w
        have hmd := md_lt 0 (m := (D'.cac k).length + 1) (by omega)
        have H2 := settle_any L k hkn' (md 0 ((D'.cac k).length + 1)) (by omega)
        go_wp2_with fail
        refine (H1 _).mono ?_
        rintro e w1 ⟨rfl, rfl⟩
        go_wp2_with fail
        refine H2.mono ?_
        rintro e w1 ⟨rfl, L1, T1⟩
        have T1' : Turn S wr w1 := T1.mono fun x hx => by rcases hx with h | h; exact h ▸ L.inS.2.1; exact h ▸ L.inS.2.2.1
        go_wp2_with fail
        exact ⟨⟨k + 1, _, _, _, by omega, by go_num, rfl, by rw [e2]; exact L1, by rw [e2]; rfl, T.then T1'⟩, by simp [intOf]; omega⟩
    · obtain rfl : k = D.n := by omega
      have c2 := L.c2
      have f2 := L.fz 2
      have LF := L.off1 false
      go_wp2_with fail
      refine (fuse_any LF (-1) (by omega)).mono ?_
      rintro e w2 ⟨rfl, L2, T2⟩
      go_wp2_with fail
      go_end0
      exact ⟨rfl, ⟨bd, bm, _, _, _, L2⟩, (T.then (turn_at _ _ _ |>.mono fun x hx => hx ▸ L.inS.1)).then (T2.mono fun x hx => hx ▸ L.inS.1)⟩
end Go.Proofs.Ytkkmnmiekmfjiaa
