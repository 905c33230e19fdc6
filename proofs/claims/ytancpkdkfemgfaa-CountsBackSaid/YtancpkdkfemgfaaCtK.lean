/- Counts: calls that come in; the law's kind; the reference plays. -/
import Derived.Test.YtancpkdkfemgfaaCtC
import Derived.Test.YtancpkdkfemgfaaCtD
namespace Go.Proofs.Ytancpkdkfemgfaa
open Go Go.RowKit Go.Proofs

/-- Which of m kinds; kept shut. -/
def mq (x : Int) (m : Nat) : Nat := if x < 0 then ((-(x + 1)) % (m : Int)).toNat else (x % (m : Int)).toNat
theorem mq_pos {x : Int} (m : Nat) (h : 0 ≤ x) (hm : 0 < m) : x.tmod (m : Int) = (mq x m : Int) := by
  unfold mq
  rw [if_neg (by omega), Int.tmod_eq_emod_of_nonneg h]
  have := Int.emod_nonneg x (show (m : Int) ≠ 0 by omega)
  omega
theorem mq_neg {x : Int} (m : Nat) (h : x < 0) (hm : 0 < m) : (-(x + 1)).tmod (m : Int) = (mq x m : Int) := by
  unfold mq
  rw [if_pos h, Int.tmod_eq_emod_of_nonneg (by omega)]
  have := Int.emod_nonneg (-(x + 1)) (show (m : Int) ≠ 0 by omega)
  omega
theorem mq_lt (x : Int) (m : Nat) (hm : 0 < m) : mq x m < m := by
  unfold mq
  split
  · have h1 := Int.emod_nonneg (-(x + 1)) (show (m : Int) ≠ 0 by omega)
    have h2 := Int.emod_lt_of_pos (-(x + 1)) (show (0 : Int) < (m : Int) by omega)
    omega
  · have h1 := Int.emod_nonneg x (show (m : Int) ≠ 0 by omega)
    have h2 := Int.emod_lt_of_pos x (show (0 : Int) < (m : Int) by omega)
    omega
theorem ckind_any (x : Int) (m : Nat) (hx : -9223372036854775808 ≤ x ∧ x ≤ 9223372036854775807) (hm0 : 0 < m) (hc : m ≤ 1000000) (w : World) :
    Calls Try.prog 12 #[.int .i64 x, .int .i64 (m : Int)] w fun e w' => e = .returned (.int .i64 (mq x m : Int)) ∧ w = w' := by
  obtain ⟨hx1, hx2⟩ := hx
  go_enter Try.func12, Try.ntmps12
  have hn : ¬ ((m : Int) = 0) := by omega
  by_cases h0 : x < 0
  · have hm := mq_neg m h0 (by omega)
    go_wp2
    go_ret
    exact ⟨by first | rw [hm] | simp, rfl⟩
  · have hm := mq_pos m (show 0 ≤ x by omega) (by omega)
    go_wp2
    go_ret
    exact ⟨by first | rw [hm] | simp, rfl⟩

/-- Calls that came in: kind and sector. -/
def CtOps (w : World) (A : Option Addr) (n c : Nat) (xs : List (Int × Int)) : Prop :=
  xs.length = n ∧ n ≤ c ∧ c ≤ maxLen ∧ ∀ j, j < n → ((-9223372036854775808 ≤ (xs.getD j (0, 0)).1 ∧ (xs.getD j (0, 0)).1 ≤ 9223372036854775807) ∧ (-9223372036854775808 ≤ (xs.getD j (0, 0)).2 ∧ (xs.getD j (0, 0)).2 ≤ 9223372036854775807)) ∧
    ∃ g o, A = some ⟨g, o, none⟩ ∧ g < w.heap.size ∧ w.cell? ⟨g, o + j * 2, none⟩ = some (.int .i64 (xs.getD j (0, 0)).1) ∧ w.cell? ⟨g, o + j * 2 + 1, none⟩ = some (.int .i64 (xs.getD j (0, 0)).2)
def Ct.playStep (C : Ct) (k : Nat) (a : Int) : Ct := if k < 3 then C.alloc else if k = 3 then C.ref a else if k = 4 then C.unref a else C.commit
def Ct.playTo (C : Ct) (xs : List (Int × Int)) : Nat → Ct
  | 0 => C
  | i + 1 => (C.playTo xs i).playStep (mq (xs.getD i (0, 0)).1 6) (xs.getD i (0, 0)).2
def Ct.play (C : Ct) (xs : List (Int × Int)) : Ct := C.playTo xs (min xs.length 60)
set_option maxRecDepth 10000 in
set_option maxHeartbeats 4000000 in
theorem crefplay_any {w : World} {p : Nat} {S : Nat → Prop} {C : Ct} (H : RC w p S C) (A : Option Addr) (n c : Nat) (xs : List (Int × Int)) (L : CtOps w A n c xs) (hS : 0 < n → ∀ g o, A = some ⟨g, o, none⟩ → ¬ S g) :
    Calls Try.prog 24 #[.pointer (some ⟨p, 0, none⟩), .slice A n c] w fun e w' => e = .returned (.tuple #[]) ∧ RC w' p (fun k => S k ∨ w.heap.size ≤ k) (C.play xs) ∧ Turn S w w' := by
  obtain ⟨L1, L2, L3, L4⟩ := L
  have HL1 := Lib.hid L1
  have HL4 := Lib.hid L4
  clear L1 L4
  unfold maxLen at L3
  go_enter Try.func24, Try.ntmps24
  go_wp2_with fail
  go_loopw [4] (fun i wr => ∃ j : Nat, j ≤ n ∧ j ≤ 60 ∧ i = .int .i64 (j : Int) ∧ RC wr p (fun k => S k ∨ w.heap.size ≤ k) (C.playTo xs j) ∧ Turn S w wr) (fun i _ => 60 - (intOf i).toNat)
  case atStart => exact ⟨0, Nat.zero_le _, Nat.zero_le _, rfl, H.mono (fun _ h => .inl h), Turn.refl _ _⟩
  case round =>
    obtain ⟨j, hj, hj60, rfl, R, T⟩ := hrel
    by_cases hlt : j < n
    · have e3 : (j : Int) < (n : Int) := by omega
      have e0 : (0 : Int) ≤ (j : Int) := by omega
      by_cases hlt2 : j < 60
      · have e4 : (j : Int) < 60 := by omega
        obtain ⟨⟨hk, ha⟩, g, o, hA, hg, hc0, hc1⟩ := HL4.out j hlt
        subst hA
        have hnS := hS (by omega) g o rfl
        have hb := T.block g hg hnS
        have d0 := (World.cell?_of_block (a := ⟨g, o + j * 2, none⟩) hb).trans hc0
        have d1 := (World.cell?_of_block (a := ⟨g, o + j * 2 + 1, none⟩) hb).trans hc1
        have hstep : C.playTo xs (j + 1) = (C.playTo xs j).playStep (mq (xs.getD j (0, 0)).1 6) (xs.getD j (0, 0)).2 := rfl
        obtain ⟨k, hk'⟩ : ∃ k, (xs.getD j (0, 0)).1 = k := ⟨_, rfl⟩
        obtain ⟨a, ha'⟩ : ∃ a, (xs.getD j (0, 0)).2 = a := ⟨_, rfl⟩
        rw [hk'] at hk d0 hstep
        rw [ha'] at ha d1 hstep
        have Hk := Lib.hid hk
        have Hstep0 := Lib.hid hstep
        clear hk' ha' hc0 hc1 hb hstep hk
        go_wp2_with fail
        refine (ckind_any k 6 Hk.out (by omega) (by omega) wr).mono ?_
        rintro e w4 ⟨rfl, rfl⟩
        have hq6 := mq_lt k 6 (by omega)
        have hstep2 := Hstep0.out
        generalize mq k 6 = q at hq6 hstep2 ⊢
        obtain ⟨C1, hC1⟩ : ∃ C1, C.playTo xs j = C1 := ⟨_, rfl⟩
        rw [hC1] at R hstep2
        have Hstep := Lib.hid hstep2
        clear hC1 hstep2 Hstep0
        rcases (show q = 0 ∨ q = 1 ∨ q = 2 ∨ q = 3 ∨ q = 4 ∨ q = 5 by omega) with rfl | rfl | rfl | rfl | rfl | rfl
        · go_wp2_with fail
          refine (crefalloc_any R).mono ?_
          rintro e w5 ⟨rfl, R5, T5⟩
          have hm5 := (fun (k : Nat) (h : S k ∨ w.heap.size ≤ k) => h)
          go_wp2
          exact ⟨⟨j + 1, by omega, by omega, by go_num, by rw [Hstep.out]; exact R5.mono hm5, T.trans T5 fun _ h => h⟩, by simp [intOf]; omega⟩
        · go_wp2_with fail
          refine (crefalloc_any R).mono ?_
          rintro e w5 ⟨rfl, R5, T5⟩
          have hm5 := (fun (k : Nat) (h : S k ∨ w.heap.size ≤ k) => h)
          go_wp2
          exact ⟨⟨j + 1, by omega, by omega, by go_num, by rw [Hstep.out]; exact R5.mono hm5, T.trans T5 fun _ h => h⟩, by simp [intOf]; omega⟩
        · go_wp2_with fail
          refine (crefalloc_any R).mono ?_
          rintro e w5 ⟨rfl, R5, T5⟩
          have hm5 := (fun (k : Nat) (h : S k ∨ w.heap.size ≤ k) => h)
          go_wp2
          exact ⟨⟨j + 1, by omega, by omega, by go_num, by rw [Hstep.out]; exact R5.mono hm5, T.trans T5 fun _ h => h⟩, by simp [intOf]; omega⟩
        · go_wp2_with fail
          refine (crefref_any R a).mono ?_
          rintro e w5 ⟨rfl, R5, T5⟩
          have hm5 := (fun (k : Nat) (h : S k ∨ w.heap.size ≤ k) => h)
          go_wp2
          exact ⟨⟨j + 1, by omega, by omega, by go_num, by rw [Hstep.out]; exact R5.mono hm5, T.trans T5 fun _ h => h⟩, by simp [intOf]; omega⟩
        · go_wp2_with fail
          refine (crefunref_any R a).mono ?_
          rintro e w5 ⟨rfl, R5, T5⟩
          have hm5 := (fun (k : Nat) (h : S k ∨ w.heap.size ≤ k) => h)
          go_wp2
          exact ⟨⟨j + 1, by omega, by omega, by go_num, by rw [Hstep.out]; exact R5.mono hm5, T.trans T5 fun _ h => h⟩, by simp [intOf]; omega⟩
        · go_wp2_with fail
          refine (crefcommit_any R).mono ?_
          rintro e w5 ⟨rfl, R5, T5⟩
          have hm5 := (fun (k : Nat) (h : (S k ∨ w.heap.size ≤ k) ∨ wr.heap.size ≤ k) => (h.elim id (fun h2 => .inr (Nat.le_trans T.size h2)) : S k ∨ w.heap.size ≤ k))
          go_wp2
          exact ⟨⟨j + 1, by omega, by omega, by go_num, by rw [Hstep.out]; exact R5.mono hm5, T.trans T5 fun _ h => h⟩, by simp [intOf]; omega⟩
      · have hj2 : j = 60 := by omega
        have hpl := Lib.hid (show C.play xs = C.playTo xs j by unfold Ct.play; rw [HL1.out, show min n 60 = j by omega])
        have e4 : ¬ (j : Int) < 60 := by omega
        go_wp2
        go_end0
        rw [hpl.out]
        exact ⟨rfl, R, T⟩
    · have hpl := Lib.hid (show C.play xs = C.playTo xs j by unfold Ct.play; rw [HL1.out, show min n 60 = j by omega])
      have e3 : ¬ (j : Int) < (n : Int) := by omega
      go_wp2
      go_end0
      rw [hpl.out]
      exact ⟨rfl, R, T⟩
end Go.Proofs.Ytancpkdkfemgfaa
