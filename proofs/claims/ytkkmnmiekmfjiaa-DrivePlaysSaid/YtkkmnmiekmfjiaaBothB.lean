/- Both drives: new memory, writes beside them, a clone. -/
import Derived.Test.YtkkmnmiekmfjiaaBoth
namespace Go.Proofs.Ytkkmnmiekmfjiaa
open Go Go.RowKit Go.Proofs

section
variable {w w' : World} {B : Nat} {X : Nat → Prop} {bp rp : Nat} {D D' : DM}
/-- New memory beside them, which X may take. -/
theorem Both.below {X' : Nat → Prop} (h : Both w B X bp rp D) (hb : Below w.heap.size w w') (hX : ∀ k, X' k → X k ∨ (w.heap.size ≤ k ∧ k < w'.heap.size)) : Both w' B X' bp rp D := by
  obtain ⟨R, hR, hrun, href⟩ := h
  have hsz := hb.size
  refine ⟨R, fun k hk => ⟨by have := (hR k hk).1; omega, (hR k hk).2.1, fun hx => ?_⟩, hrun.below hb fun k hk => ?_, href.keep fun k hk _ => hb.block k hk⟩
  · rcases hX k hx with h | h
    · exact (hR k hk).2.2 h
    · have := (hR k hk).1; omega
  · rcases hk with h | h
    · exact (hX k h).imp .inl id
    · exact .inl (.inr h)
theorem Both.same (h : Both w B X bp rp D) (hb : Below w.heap.size w w') : Both w' B X bp rp D := h.below hb fun _ => .inl
/-- A write into a block of X. -/
theorem Both.kept (h : Both w B X bp rp D) (T : Turn X w w') : Both w' B X bp rp D := by
  obtain ⟨R, hR, hrun, href⟩ := h
  have hsz := T.size
  exact ⟨R, fun k hk => ⟨by have := (hR k hk).1; omega, (hR k hk).2⟩, hrun.kept (T.mono fun _ h => .inl h), href.keep fun k hk hr => T.block k hk (hR k hr).2.2⟩
/-- A clone takes the code's drive's place; whatever the old one does thereafter leaves both be. -/
theorem both_clone (h : Both w B X bp rp D) {m : Nat} (hm : m ≤ 100000) (hok : D.ok m) :
    Calls Try.prog 21 #[.pointer (some ⟨bp, 0, none⟩)] w fun e w' => ∃ bp' c' Y, e = .returned (.pointer (some ⟨bp', 0, none⟩)) ∧ Below w.heap.size w w' ∧ (∀ k, X k → Y k) ∧ Run w' B Y bp D ∧
      ∀ w2 D', Run w2 B Y bp D' → Kp B Y w' w2 → Both w2 B X bp' rp { D with cap := c' } ∧ Kp B X w' w2 := by
  obtain ⟨R, hR, hrun, href⟩ := h
  have hrun0 := hrun
  obtain ⟨h1, h2, S, ⟨bd, bm, l, c, v, L⟩, h4⟩ := hrun
  refine (clone_any L (fun k => by have := hok.2 k; omega)).mono ?_
  rintro e w' ⟨bp', c', rfl, LN, hb⟩
  have hsz := hb.size
  refine ⟨bp', c', fun k => (X k ∨ R k) ∨ (w.heap.size ≤ k ∧ k < w'.heap.size), rfl, hb, fun k hk => .inl (.inl hk), hrun0.below hb fun k hk => hk, fun w2 D' r2 k2 => ⟨⟨R, fun k hk => ⟨?_, (hR k hk).2⟩, ⟨r2.1, fun k hk => ?_, fun k => w.heap.size ≤ k ∧ k < w'.heap.size, ?_, fun k hk _ => ⟨by omega, fun hx => ?_⟩⟩, ?_⟩, k2.mono fun k _ h => .inl (.inl h)⟩⟩
  · have := (hR k hk).1; have := k2.size; omega
  · have := h2 k hk; have := k2.size; omega
  · exact (LN.mono fun k h5 h6 => ⟨h6, h5⟩).keep fun k h5 h6 => k2.block k h5 (.inr (.inr h6))
  · have := h2 k hx; omega
  · exact (href.cap c').keep fun k h5 h6 => (k2.block k (by omega) (.inr (.inl (.inr h6)))).trans (hb.block k h5)
end
section
variable {w w' : World} {B : Nat} {X : Nat → Prop} {bp rp : Nat} {D : DM}
theorem Both.code (h : Both w B X bp rp D) : Run w B X bp D := by
  obtain ⟨R, hR, ⟨h1, h2, S, h3, h4⟩, href⟩ := h
  exact ⟨h1, fun k hk => h2 k (.inl hk), S, h3, fun k hk hl => ⟨(h4 k hk hl).1, fun hx => (h4 k hk hl).2 (.inl hx)⟩⟩
theorem Both.ref (h : Both w B X bp rp D) : ∃ ro oc iv vs S, RLay w rp ro oc iv vs S D := by
  obtain ⟨R, hR, hrun, ⟨ro, oc, iv, vs, L⟩⟩ := h
  exact ⟨ro, oc, iv, vs, R, L⟩
/-- The code's Read: what is read is new memory, which joins X. -/
theorem both_readC (h : Both w B X bp rp D) (s : Int) :
    Calls Try.prog 11 #[.pointer (some ⟨bp, 0, none⟩), .int .i64 s] w fun e w' => ∃ A n X', e = .returned (.tuple #[.slice A n n, .int .i64 (D.readE s)]) ∧ n ≤ 256 ∧ (∀ k, X k → X' k) ∧ Hold w' X' A n (D.readL s) ∧ Both w' B X' bp rp D ∧ Below w.heap.size w w' := by
  obtain ⟨h1, h2, S, ⟨bd, bm, l, c, v, L0⟩, h4⟩ := h.code
  refine (read_any L0 s).mono ?_
  rintro e w' ⟨A, n, rfl, hs, hn, hb, ha⟩
  exact ⟨A, n, fun k => X k ∨ (w.heap.size ≤ k ∧ k < w'.heap.size), rfl, hn, fun _ => .inl, ⟨hs, fun ad h => .inr (ha ad h)⟩, h.below hb fun _ h => h, hb⟩
theorem both_readR (h : Both w B X bp rp D) (s : Int) :
    Calls Try.prog 12 #[.pointer (some ⟨rp, 0, none⟩), .int .i64 s] w fun e w' => ∃ A n c, e = .returned (.tuple #[.slice A n c, .int .i64 (D.readE s)]) ∧ Sl w' A n c (D.readL s) ∧ Both w' B X bp rp D ∧ Below w.heap.size w w' := by
  obtain ⟨ro, oc, iv, vs, S, L⟩ := h.ref
  refine (rread_any L s).mono ?_
  rintro e w' ⟨A, n, c, rfl, hs, hb⟩
  exact ⟨A, n, c, rfl, hs, h.same hb, hb⟩
end
end Go.Proofs.Ytkkmnmiekmfjiaa
