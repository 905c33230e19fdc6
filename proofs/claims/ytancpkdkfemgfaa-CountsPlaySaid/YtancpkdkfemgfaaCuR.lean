/- Counts: the code's and the reference's, apart. -/
import Derived.Test.YtancpkdkfemgfaaCuM
import Derived.Test.YtancpkdkfemgfaaCuG
import Derived.Test.YtancpkdkfemgfaaCuL
import Derived.Test.YtancpkdkfemgfaaCuN
namespace Go.Proofs.Ytancpkdkfemgfaa
open Go Go.RowKit Go.Proofs

/-- Both counts, one plain data. -/
structure Two (w0 : World) (p y : Nat) (S S2 : Nat → Prop) (C : Ct) (w : World) : Prop where
  cc : CC w p S C
  rc : RC w y S2 C
  ap : ∀ k, S k → ¬ S2 k
  h1 : ∀ k, S k → w0.heap.size ≤ k ∧ k < w.heap.size
  h2 : ∀ k, S2 k → w0.heap.size ≤ k ∧ k < w.heap.size
  below : Below w0.heap.size w0 w
section
variable {w0 w w1 w2 : World} {p p' y : Nat} {S S2 : Nat → Prop} {C C' : Ct}
theorem Two.ref (h : Two w0 p y S S2 C w) (T : Turn S w w1) : RC w1 y S2 C := h.rc.keep fun k hk hs => T.block k hk fun hs' => h.ap k hs' hs
/-- Both were called. -/
theorem Two.both (h : Two w0 p y S S2 C w) (R : CC w1 p S C') (T : Turn S w w1) (Y : RC w2 y (fun k => S2 k ∨ w1.heap.size ≤ k) C') (T2 : Turn S2 w1 w2) : ∃ S2', Two w0 p y S S2' C' w2 := by
  have z1 := T.size
  have z2 := T2.size
  refine ⟨fun k => (S2 k ∨ w1.heap.size ≤ k) ∧ k < w2.heap.size, R.keep fun k hk hs => T2.block k hk fun hs' => h.ap k hs hs', Y.shrink, fun k hk hs => ?_, fun k hk => ⟨(h.h1 k hk).1, by have := (h.h1 k hk).2; omega⟩, fun k hk => ⟨?_, hk.2⟩, ?_⟩
  · rcases hs.1 with h' | h'
    · exact h.ap k hk h'
    · have := (h.h1 k hk).2; omega
  · rcases hk.1 with h' | h'
    · exact (h.h2 k h').1
    · have := h.below.size; omega
  · exact (h.below.trans (T.below (fun k hk => (h.h1 k hk).1) h.below.size)).trans (T2.below (fun k hk => (h.h2 k hk).1) (by have := h.below.size; omega))
theorem Two.both' (h : Two w0 p y S S2 C w) (R : CC w1 p S C') (T : Turn S w w1) (Y : RC w2 y S2 C') (T2 : Turn S2 w1 w2) : ∃ S2', Two w0 p y S S2' C' w2 := h.both R T (Y.mono fun _ hk => .inl hk) T2
/-- A clone takes the place; the old one is turned. -/
theorem Two.clone (h : Two w0 p y S S2 C w) (R : CC w1 p' (fun k => w.heap.size ≤ k) C) (B : Below w.heap.size w w1) (T : Turn S w1 w2) : ∃ S', Two w0 p' y S' S2 C w2 := by
  have z1 := B.size
  have z2 := T.size
  have R' := R.shrink
  refine ⟨fun k => w.heap.size ≤ k ∧ k < w1.heap.size, R'.keep fun k hk hs => T.block k hk fun hs' => by have := (h.h1 k hs').2; omega, (h.rc.below B).keep fun k hk hs => T.block k hk fun hs' => h.ap k hs' hs, fun k hk hs => by have := (h.h2 k hs).2; omega, fun k hk => ⟨by have := h.below.size; omega, by omega⟩, fun k hk => ⟨(h.h2 k hk).1, by have := (h.h2 k hk).2; omega⟩, ?_⟩
  exact (h.below.trans (B.mono h.below.size)).trans (T.below (fun k hk => (h.h1 k hk).1) (by have := h.below.size; omega))
theorem two_new {v1 v2 v3 : World} (B1 : Below w0.heap.size w0 v1) (R : CC v2 p (fun k => v1.heap.size ≤ k) C) (B2 : Below v1.heap.size v1 v2) (Y : RC v3 y (fun k => v2.heap.size ≤ k) C) (B3 : Below v2.heap.size v2 v3) : ∃ S S2, Two w0 p y S S2 C v3 := by
  have z1 := B1.size
  have z2 := B2.size
  have z3 := B3.size
  exact ⟨_, _, R.shrink.below B3, Y.shrink, fun k hk hs => by have := hk.2; have := hs.1; omega, fun k hk => ⟨by have := hk.1; omega, by have := hk.2; omega⟩, fun k hk => ⟨by have := hk.1; omega, hk.2⟩, (B1.trans (B2.mono z1)).trans (B3.mono (by omega))⟩
end
end Go.Proofs.Ytancpkdkfemgfaa
