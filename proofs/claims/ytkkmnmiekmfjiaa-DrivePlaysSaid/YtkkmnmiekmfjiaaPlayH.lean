/- Helpers of DrivePlays: a read that may be written over; what stays; the quiet calls. -/
import Derived.Test.YtkkmnmiekmfjiaaOps
import Derived.Deep.QuietTactic
namespace Go.Proofs.Ytkkmnmiekmfjiaa
open Go Go.RowKit Go.Proofs

theorem there_laid (w : World) (vs : List Value) : ((varB w).setCells w.heap.size 0 vs).there w.heap.size 0 256 := by
  exact World.there_setCells (varB_there w) _ _ _
set_option maxHeartbeats 1000000 in
theorem read_any2 {w : World} {bp bd bm clock : Nat} {l : List MapEntry} {v : Nat → Value} {S : Nat → Prop} {D : DM} (L : Lay w bp bd bm l clock v S D) (s : Int) :
    Calls Try.prog 11 #[.pointer (some ⟨bp, 0, none⟩), .int .i64 s] w fun e w' => ∃ A n, e = .returned (.tuple #[.slice A n n, .int .i64 (D.readE s)]) ∧ Sl w' A n n (D.readL s) ∧ n ≤ 256 ∧ Below w.heap.size w w' ∧ (n = 0 ∨ ∃ g, A = some ⟨g, 0, none⟩ ∧ n = 256 ∧ w.heap.size ≤ g ∧ g < w'.heap.size ∧ w'.there g 0 256) := by
  have c2 := L.c2
  unfold DM.readE DM.readL
  cases hoff : D.off with
  | true =>
    rw [hoff] at c2
    go_enter Try.func11, Try.ntmps11
    go_wp2
    go_ret2
    exact ⟨none, 0, rfl, sl_nil w, by omega, Below.refl _ _, .inl rfl⟩
  | false =>
    rw [hoff] at c2
    by_cases hs : 0 ≤ s ∧ s < (D.n : Int)
    · obtain ⟨k, rfl⟩ := Int.eq_ofNat_of_zero_le hs.1
      have hk : k < D.n := by omega
      have hlen := L.newest_len k
      have hbl : (bvs (D.newest k)).length = 256 := by rw [bvs_len, hlen]
      have H1 := has_any L (k : Int)
      rw [show decide (0 ≤ (k : Int) ∧ (k : Int) < (D.n : Int)) = true by simpa using hs] at H1
      rw [if_pos hs, if_pos hs, Int.toNat_natCast]
      simp only [Bool.false_eq_true, if_false]
      go_enter Try.func11, Try.ntmps11
      go_wp2_with fail
      refine H1.mono ?_
      rintro e w1 ⟨rfl, rfl⟩
      go_wp2_with fail
      refine (newest_any L k hk).mono ?_
      rintro e w1 ⟨rfl, hb1⟩
      obtain ⟨hb, hr⟩ := varB_laid w1 (D.newest k) hlen
      go_wp2_with (first
        | (refine wp_varB (by rfl) (by rfl) ?_)
        | (refine wp_store_sec (by rfl) _ _ (by rfl) w1.heap.size 0 (by rfl) (D.newest k) (by rfl) hlen (varB_there w1) ?_))
      go_ret2
      refine ⟨some ⟨w1.heap.size, 0, none⟩, 256, rfl, ?_, by omega, hb1.trans (hb.mono hb1.size), .inr ⟨w1.heap.size, rfl, rfl, hb1.size, by rw [setCells_size, varB_size]; simp, there_laid w1 _⟩⟩
      have := sl_range hr (by rw [setCells_size, varB_size]; omega) (c := 256) (by omega) (by unfold maxLen; omega)
      rw [hlen] at this; exact this
    · have H1 := has_any L s
      rw [show decide (0 ≤ s ∧ s < (D.n : Int)) = false by simpa using hs] at H1
      rw [if_neg hs, if_neg hs]
      simp only [Bool.false_eq_true, if_false]
      go_enter Try.func11, Try.ntmps11
      go_wp2_with fail
      refine H1.mono ?_
      rintro e w1 ⟨rfl, rfl⟩
      go_wp2_with fail
      go_ret2
      exact ⟨none, 0, rfl, sl_nil w, by omega, Below.refl _ _, .inl rfl⟩

theorem Own.kp1 {w w' : World} {base g n c : Nat} {e : TypeId} {l : List UInt8} (h : Own w base e (some ⟨g, 0, none⟩) n c l) (hk : w'.heap[g]? = w.heap[g]?) : Own w' base e (some ⟨g, 0, none⟩) n c l := by
  refine ⟨h.1, ?_⟩
  rcases h.2 with hv | ⟨g', cap, cur, hv, h1, hg, r⟩
  · exact .inl hv
  · have e : g' = g := by injection hv with e1; injection e1 with e1; injection e1 with e1; exact e1.symm
    subst e
    exact .inr ⟨g', cap, cur, hv, h1, hk.trans hg, r⟩
theorem n_write (D : DM) (s : Int) (x : List UInt8) : (D.writeD s x).n = D.n := by
  unfold DM.writeD
  split
  · rfl
  split <;> rfl
theorem n_flush (D : DM) : D.flushD.n = D.n := by
  unfold DM.flushD
  split <;> rfl
theorem n_fuse (D : DM) (k : Int) : (D.fuse k).n = D.n := rfl
theorem n_crash (D : DM) (kp : List Int) : (D.crash kp).n = D.n := by
  show (crashTo D kp D.n).1.n = D.n
  exact crashTo_n D kp D.n
theorem n_corrupt (D : DM) (s a t : Int) : (D.corrupt s a t).n = D.n := by
  unfold DM.corrupt
  split <;> rfl
section
variable {w : World} {B : Nat} {X : Nat → Prop} {bp rp : Nat} {D : DM}
theorem both_read2 (h : Both w B X bp rp D) (s : Int) :
    Calls Try.prog 11 #[.pointer (some ⟨bp, 0, none⟩), .int .i64 s] w fun e w' => ∃ A n X', e = .returned (.tuple #[.slice A n n, .int .i64 (D.readE s)]) ∧ (∀ k, X k → X' k) ∧ Sl w' A n n (D.readL s) ∧ (n = 0 ∨ ∃ g, A = some ⟨g, 0, none⟩ ∧ n = 256 ∧ X' g ∧ w.heap.size ≤ g ∧ g < w'.heap.size ∧ w'.there g 0 256) ∧ Both w' B X' bp rp D ∧ Below w.heap.size w w' := by
  obtain ⟨h1, h2, S, ⟨bd, bm, l, c, v, L0⟩, h4⟩ := h.code
  refine (read_any2 L0 s).mono ?_
  rintro e w' ⟨A, n, rfl, hs, hn, hb, ha⟩
  refine ⟨A, n, fun k => X k ∨ (w.heap.size ≤ k ∧ k < w'.heap.size), rfl, fun _ => .inl, hs, ?_, h.below hb fun _ h => h, hb⟩
  rcases ha with ha | ⟨g, h1, h2, h3, h4, h5⟩
  · exact .inl ha
  · exact .inr ⟨g, h1, h2, .inr ⟨h3, h4⟩, h3, h4, h5⟩
theorem size_both (h : Both w B X bp rp D) (j : Nat) : Calls Try.prog 22 #[.pointer (some ⟨bp, 0, none⟩)] (w.drewN j) fun e w' => e = .returned (.int .i64 (D.n : Int)) ∧ w' = w.drewN j := by
  obtain ⟨h1, h2, S, ⟨bd, bm, l, c, v, L0⟩, h4⟩ := (h.same (below_drewN (Below.refl _ _) j)).code
  exact (size_any L0).mono fun e w' ⟨h1, h2⟩ => ⟨h1, h2.symm⟩
theorem cached_both (h : Both w B X bp rp D) (j : Nat) : Calls Try.prog 23 #[.pointer (some ⟨bp, 0, none⟩)] (w.drewN j) fun e w' => e = .returned (.int .i64 (D.cnt : Int)) ∧ w' = w.drewN j := by
  obtain ⟨h1, h2, S, ⟨bd, bm, l, c, v, L0⟩, h4⟩ := (h.same (below_drewN (Below.refl _ _) j)).code
  exact (cached_any L0).mono fun e w' ⟨h1, h2⟩ => ⟨h1, h2.symm⟩
theorem on_both (h : Both w B X bp rp D) (j : Nat) : Calls Try.prog 25 #[.pointer (some ⟨bp, 0, none⟩)] (w.drewN j) fun e w' => e = .returned (.bool (!D.off)) ∧ w' = w.drewN j := by
  obtain ⟨h1, h2, S, ⟨bd, bm, l, c, v, L0⟩, h4⟩ := (h.same (below_drewN (Below.refl _ _) j)).code
  exact (on_any L0).mono fun e w' ⟨h1, h2⟩ => ⟨h1, h2.symm⟩
theorem steps_both (h : Both w B X bp rp D) (j : Nat) : Calls Try.prog 26 #[.pointer (some ⟨bp, 0, none⟩)] (w.drewN j) fun e w' => e = .returned (.int .i64 (D.steps : Int)) ∧ w' = w.drewN j := by
  obtain ⟨h1, h2, S, ⟨bd, bm, l, c, v, L0⟩, h4⟩ := (h.same (below_drewN (Below.refl _ _) j)).code
  exact (steps_any L0).mono fun e w' ⟨h1, h2⟩ => ⟨h1, h2.symm⟩
theorem rcached_both (h : Both w B X bp rp D) (j : Nat) : Calls Try.prog 24 #[.pointer (some ⟨rp, 0, none⟩)] (w.drewN j) fun e w' => e = .returned (.int .i64 (D.cnt : Int)) ∧ w' = w.drewN j := by
  obtain ⟨ro, oc, iv, vs, S, L⟩ := (h.same (below_drewN (Below.refl _ _) j)).ref
  exact (rcached_any L).mono fun e w' ⟨h1, h2⟩ => ⟨h1, h2.symm⟩
end
end Go.Proofs.Ytkkmnmiekmfjiaa
