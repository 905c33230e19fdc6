/- The code's drive and the reference's, side by side, of the same plain data. -/
import Derived.Test.YtkkmnmiekmfjiaaRefI
import Derived.Test.YtkkmnmiekmfjiaaDrvS
import Derived.Test.YtkkmnmiekmfjiaaDrvCl
namespace Go.Proofs.Ytkkmnmiekmfjiaa
open Go Go.RowKit Go.Proofs

section
variable {w w' : World} {rp : Nat} {S : Nat → Prop} {D : DM}
theorem RDrv.keep (h : RDrv w rp S D) (hk : ∀ k, k < w.heap.size → S k → w'.heap[k]? = w.heap[k]?) : RDrv w' rp S D := by
  obtain ⟨ro, oc, iv, vs, L⟩ := h
  exact ⟨ro, oc, iv, vs, L.keep hk⟩
theorem RDrv.mono {S' : Nat → Prop} (h : RDrv w rp S D) (hk : ∀ k, k < w.heap.size → S k → S' k) : RDrv w rp S' D := by
  obtain ⟨ro, oc, iv, vs, L⟩ := h
  exact ⟨ro, oc, iv, vs, L.mono hk⟩
/-- The reference has no spare room of the code's. -/
theorem RDrv.cap (h : RDrv w rp S D) (c : Nat) : RDrv w rp S { D with cap := c } := by
  obtain ⟨ro, oc, iv, vs, L⟩ := h
  exact ⟨ro, oc, iv, vs, ⟨L.me, L.out, L.irow, L.len, L.brow, L.off, L.inS, L.ne, L.isep, L.bsep, L.n32, L.left⟩⟩
end
/-- The reference's drive at work: as Run. -/
def RRun (w : World) (B : Nat) (X : Nat → Prop) (rp : Nat) (D : DM) : Prop := B ≤ w.heap.size ∧ (∀ k, X k → k < w.heap.size) ∧ ∃ S, RDrv w rp S D ∧ ∀ k, S k → k < w.heap.size → B ≤ k ∧ ¬ X k
/-- Both at work; X is what else must stay. -/
def Both (w : World) (B : Nat) (X : Nat → Prop) (bp rp : Nat) (D : DM) : Prop := ∃ R, (∀ k, R k → k < w.heap.size ∧ B ≤ k ∧ ¬ X k) ∧ Run w B (fun k => X k ∨ R k) bp D ∧ RDrv w rp R D
section
variable {w w' : World} {B : Nat} {X : Nat → Prop} {bp rp : Nat} {D D' : DM}
theorem RRun.turned {S S' : Nat → Prop} (hB : B ≤ w.heap.size) (hX : ∀ k, X k → k < w.heap.size) (hS : ∀ k, S k → k < w.heap.size → B ≤ k ∧ ¬ X k) (L : RDrv w' rp S' D') (T : Turn S w w') (hS' : ∀ k, S' k → S k ∨ w.heap.size ≤ k) : RRun w' B X rp D' ∧ Kp B X w w' := by
  have hsz := T.size
  refine ⟨⟨by omega, fun k hk => by have := hX k hk; omega, S', L, fun k hk hlt => ?_⟩, ⟨T.os, T.tape, T.output, hsz, fun k hk hx => T.block k hk fun h => ?_⟩⟩
  · by_cases hkw : k < w.heap.size
    · rcases hS' k hk with h | h
      · exact hS k h hkw
      · omega
    · exact ⟨by omega, fun h => hkw (hX k h)⟩
  · obtain ⟨h1, h2⟩ := hS k h hk
    rcases hx with h3 | h3
    · omega
    · exact h2 h3
/-- The code's step, then the reference's. -/
theorem Both.step (h : Both w B X bp rp D) : ∃ X', (∀ k, X k → X' k) ∧ Run w B X' bp D ∧ ∀ w1 D', Run w1 B X' bp D' → Kp B X' w w1 →
    ∃ X2, (∀ k, X k → X2 k) ∧ RRun w1 B X2 rp D ∧ ∀ w2, RRun w2 B X2 rp D' → Kp B X2 w1 w2 → Both w2 B X bp rp D' ∧ Kp B X w w2 := by
  obtain ⟨R, hR, hrun, href⟩ := h
  refine ⟨_, fun k hk => .inl hk, hrun, fun w1 D' r1 k1 => ?_⟩
  obtain ⟨h1, h2, S, h3, h4⟩ := r1
  have hz1 := k1.size
  have hrefk : RDrv w1 rp R D := href.keep fun k hk hr => k1.block k hk (.inr (.inr hr))
  refine ⟨fun k => X k ∨ (S k ∧ k < w1.heap.size), fun k hk => .inl hk, ⟨h1, fun k hk => ?_, R, hrefk, fun k hk hlt => ⟨(hR k hk).2.1, fun hx => ?_⟩⟩, fun w2 r2 k2 => ?_⟩
  · rcases hk with hk | hk
    · exact h2 k (.inl hk)
    · exact hk.2
  · rcases hx with hx | hx
    · exact (hR k hk).2.2 hx
    · exact (h4 k hx.1 hx.2).2 (.inr hk)
  · obtain ⟨g1, g2, R2, g3, g4⟩ := r2
    have hz2 := k2.size
    refine ⟨⟨fun k => R2 k ∧ k < w2.heap.size, fun k hk => ⟨hk.2, (g4 k hk.1 hk.2).1, fun hx => (g4 k hk.1 hk.2).2 (.inl hx)⟩, ⟨g1, fun k hk => ?_, fun k => S k ∧ k < w1.heap.size, (h3.mono fun k h5 h6 => ⟨h6, h5⟩).keep fun k h5 h6 => k2.block k h5 (.inr (.inr h6)), fun k hk hlt => ⟨(h4 k hk.1 hk.2).1, fun hx => ?_⟩⟩, g3.mono fun k h5 h6 => ⟨h6, h5⟩⟩, ?_⟩
    · rcases hk with hk | hk
      · exact g2 k (.inl hk)
      · exact hk.2
    · rcases hx with hx | hx
      · exact (h4 k hk.1 hk.2).2 (.inl hx)
      · exact (g4 k hx.1 hx.2).2 (.inr hk)
    · exact (k1.mono fun k _ h => .inl h).trans (k2.mono fun k _ h => .inl h)
end
section
variable {w : World} {B : Nat} {X : Nat → Prop} {rp : Nat} {D : DM}
theorem rrun_write (R : RRun w B X rp D) (s : Int) (A : Option Addr) (n c : Nat) (x : List UInt8) (h : Sl w A n c x) {m : Nat} (hm : m ≤ 100000) (hok : D.ok m) :
    Calls Try.prog 10 #[.pointer (some ⟨rp, 0, none⟩), .int .i64 s, .slice A n c] w fun e w' => e = .returned (.int .i64 (D.writeE s x)) ∧ RRun w' B X rp (D.writeD s x) ∧ Kp B X w w' := by
  obtain ⟨h1, h2, S, h3, h4⟩ := R
  refine (rwrite_any h3 s A n c x h (by have := hok.1; omega) (fun k => by have := hok.2 k; omega)).mono ?_
  rintro e w' ⟨rfl, L, T⟩
  exact ⟨rfl, RRun.turned h1 h2 h4 L T fun _ h => h⟩
theorem rrun_flush (R : RRun w B X rp D) {m : Nat} (hm : m ≤ 100000) (hok : D.ok m) :
    Calls Try.prog 14 #[.pointer (some ⟨rp, 0, none⟩)] w fun e w' => e = .returned (.int .i64 D.err) ∧ RRun w' B X rp D.flushD ∧ Kp B X w w' := by
  obtain ⟨h1, h2, S, h3, h4⟩ := R
  refine (rflush_any h3 (by have := hok.1; omega)).mono ?_
  rintro e w' ⟨rfl, L, T⟩
  exact ⟨rfl, RRun.turned h1 h2 h4 L T fun _ h => h⟩
theorem rrun_fuse (R : RRun w B X rp D) (n : Int) (hn : n ≤ 9223372036854775807) :
    Calls Try.prog 16 #[.pointer (some ⟨rp, 0, none⟩), .int .i64 n] w fun e w' => e = .returned (.tuple #[]) ∧ RRun w' B X rp (D.fuse n) ∧ Kp B X w w' := by
  obtain ⟨h1, h2, S, ⟨ro, oc, iv, vs, L0⟩, h4⟩ := R
  refine (rfuse_any L0 n hn).mono ?_
  rintro e w' ⟨rfl, L, T⟩
  exact ⟨rfl, RRun.turned h1 h2 h4 ⟨ro, oc, iv, vs, L⟩ (T.mono fun x hx => hx ▸ L0.inS.1) fun _ => .inl⟩
theorem rrun_crash (R : RRun w B X rp D) (A : Option Addr) (n c : Nat) (kp : List Int) (hk : Ints w A n c kp) (hout : ∀ ad, A = some ad → 0 < n → ad.block < w.heap.size ∧ (ad.block < B ∨ X ad.block)) {m : Nat} (hm : m ≤ 100000) (hok : D.ok m) :
    Calls Try.prog 18 #[.pointer (some ⟨rp, 0, none⟩), .slice A n c] w fun e w' => e = .returned (.tuple #[]) ∧ RRun w' B X rp (D.crash kp) ∧ Kp B X w w' := by
  obtain ⟨h1, h2, S, h3, h4⟩ := R
  refine (rcrash_any h3 A n c kp hk (fun ad ha hn hs => ?_) (fun k => by have := hok.2 k; omega)).mono ?_
  · obtain ⟨h5, h6⟩ := hout ad ha hn
    have := h4 _ hs h5
    rcases h6 with h | h
    · omega
    · exact this.2 h
  · rintro e w' ⟨rfl, L, T⟩
    exact ⟨rfl, RRun.turned h1 h2 h4 L T fun _ h => h⟩
theorem rrun_corrupt (R : RRun w B X rp D) (s at_ t : Int) {m : Nat} (hm : m ≤ 100000) (hok : D.ok m) :
    Calls Try.prog 20 #[.pointer (some ⟨rp, 0, none⟩), .int .i64 s, .int .i64 at_, .int .i64 t] w fun e w' => e = .returned (.int .i64 (if D.mayTurn s at_ t then 0 else 1)) ∧ RRun w' B X rp (D.corrupt s at_ t) ∧ Kp B X w w' := by
  obtain ⟨h1, h2, S, h3, h4⟩ := R
  refine (rcorrupt_any h3 s at_ t (fun k => by have := hok.2 k; omega)).mono ?_
  rintro e w' ⟨rfl, L, T⟩
  exact ⟨rfl, RRun.turned h1 h2 h4 L T fun _ => .inl⟩
end
end Go.Proofs.Ytkkmnmiekmfjiaa
