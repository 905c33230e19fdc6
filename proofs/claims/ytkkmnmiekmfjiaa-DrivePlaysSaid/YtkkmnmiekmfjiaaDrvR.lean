/- A drive that is on its way through a law: what is kept of the caller's memory, call by call. -/
import Derived.Test.YtkkmnmiekmfjiaaDrvH
namespace Go.Proofs.Ytkkmnmiekmfjiaa
open Go Go.RowKit Go.Proofs

/-- w' is as w was below B, and in the blocks of X. -/
structure Kp (B : Nat) (X : Nat → Prop) (w w' : World) : Prop where
  os : w'.os = w.os
  tape : w'.tape = w.tape
  output : w'.output = w.output
  size : w.heap.size ≤ w'.heap.size
  block : ∀ k, k < w.heap.size → (k < B ∨ X k) → w'.heap[k]? = w.heap[k]?
section
variable {B : Nat} {X X' : Nat → Prop} {w w' w'' : World}
theorem Kp.refl (B : Nat) (X : Nat → Prop) (w : World) : Kp B X w w := ⟨rfl, rfl, rfl, Nat.le_refl _, fun _ _ _ => rfl⟩
theorem Kp.trans (h : Kp B X w w') (k : Kp B X w' w'') : Kp B X w w'' :=
  ⟨k.os.trans h.os, k.tape.trans h.tape, k.output.trans h.output, Nat.le_trans h.size k.size, fun i hi hx => (k.block i (Nat.lt_of_lt_of_le hi h.size) hx).trans (h.block i hi hx)⟩
theorem Kp.mono (h : Kp B X w w') (hs : ∀ x, x < w.heap.size → X' x → X x) : Kp B X' w w' := ⟨h.os, h.tape, h.output, h.size, fun k hk hx => h.block k hk (hx.imp id (hs k hk))⟩
theorem kp_below (h : Below w.heap.size w w') : Kp B X w w' := ⟨h.os, h.tape, h.output, h.size, fun k hk _ => h.block k hk⟩
theorem Kp.below (h : Kp B X w w') (hB : B ≤ w.heap.size) : Below B w w' := ⟨h.os, h.tape, h.output, h.size, fun k hk => h.block k (by omega) (.inl hk)⟩
theorem Kp.sl {A : Option Addr} {n c : Nat} {l : List UInt8} (h : Kp B X w w') (s : Sl w A n c l) (ha : ∀ ad, A = some ad → ad.block < B ∨ X ad.block) : Sl w' A n c l :=
  ⟨s.1, s.2.1, s.2.2.1, fun j u hu => by
    obtain ⟨ad, e, hb, hc⟩ := s.2.2.2 j u hu
    refine ⟨ad, e, by have := h.size; omega, ?_⟩
    exact (World.cell?_of_block (w := w) (w' := w') (a := ad.add j) (by rw [addr_block]; exact h.block _ hb (ha ad e))).trans hc⟩
theorem Kp.cell {p : Addr} (h : Kp B X w w') (hp : p.block < w.heap.size) (hx : p.block < B ∨ X p.block) : w'.cell? p = w.cell? p := World.cell?_of_block (w := w) (h.block p.block hp hx)
end

/-- A slice that is held in X. -/
def Hold (w : World) (X : Nat → Prop) (A : Option Addr) (n : Nat) (l : List UInt8) : Prop := Sl w A n n l ∧ ∀ ad, A = some ad → X ad.block
section
variable {B : Nat} {X X' : Nat → Prop} {w w' : World} {A : Option Addr} {n : Nat} {l : List UInt8}
theorem Hold.kp (h : Hold w X A n l) (k : Kp B X w w') : Hold w' X A n l := ⟨k.sl h.1 fun ad ha => .inr (h.2 ad ha), h.2⟩
theorem Hold.below (h : Hold w X A n l) (k : Below w.heap.size w w') : Hold w' X A n l := ⟨h.1.below k, h.2⟩
theorem Hold.more (h : Hold w X A n l) (hx : ∀ k, X k → X' k) : Hold w X' A n l := ⟨h.1, fun ad ha => hx _ (h.2 ad ha)⟩
theorem ints_one (w : World) (z : Int) (t : TypeId) (hz : -9223372036854775808 ≤ z ∧ z ≤ 9223372036854775807) : Ints (w.alloc (.cells #[.int .i64 z] t)) (some ⟨w.heap.size, 0, none⟩) 1 1 [z] := by
  refine ⟨⟨rfl, Nat.le_refl _, by unfold maxLen; omega, fun j u hu => ⟨_, rfl, by simp, ?_⟩⟩, fun x hx => by rw [List.mem_singleton.1 hx]; exact hz⟩
  rw [newCell]
  rcases j with _ | j
  · simpa using hu
  · simp at hu
end

/-- The drive lies from B on, outside of X; X is there. -/
def Run (w : World) (B : Nat) (X : Nat → Prop) (bp : Nat) (D : DM) : Prop := B ≤ w.heap.size ∧ (∀ k, X k → k < w.heap.size) ∧ ∃ S, Drv w bp S D ∧ ∀ k, S k → k < w.heap.size → B ≤ k ∧ ¬ X k
section
variable {B : Nat} {X : Nat → Prop} {w w' : World} {bp : Nat} {D D' : DM}
theorem Drv.keep {S : Nat → Prop} (h : Drv w bp S D) (hk : ∀ k, k < w.heap.size → S k → w'.heap[k]? = w.heap[k]?) : Drv w' bp S D := by
  obtain ⟨bd, bm, l, c, v, L⟩ := h
  exact ⟨bd, bm, l, c, v, L.keep hk⟩
theorem Drv.mono {S S' : Nat → Prop} (h : Drv w bp S D) (hk : ∀ k, k < w.heap.size → S k → S' k) : Drv w bp S' D := by
  obtain ⟨bd, bm, l, c, v, L⟩ := h
  exact ⟨bd, bm, l, c, v, L.mono hk⟩
/-- A call that turned the drive alone. -/
theorem Run.turned {S S' : Nat → Prop} (hB : B ≤ w.heap.size) (hX : ∀ k, X k → k < w.heap.size) (hS : ∀ k, S k → k < w.heap.size → B ≤ k ∧ ¬ X k) (L : Drv w' bp S' D') (T : Turn S w w') (hS' : ∀ k, S' k → S k ∨ w.heap.size ≤ k) : Run w' B X bp D' ∧ Kp B X w w' := by
  have hsz := T.size
  refine ⟨⟨by omega, fun k hk => by have := hX k hk; omega, S', L, fun k hk hlt => ?_⟩, ⟨T.os, T.tape, T.output, hsz, fun k hk hx => T.block k hk fun h => ?_⟩⟩
  · by_cases h1 : k < w.heap.size
    · rcases hS' k hk with h | h
      · exact hS k h h1
      · omega
    · exact ⟨by omega, fun h => by have := hX k h; omega⟩
  · have := hS k h hk
    rcases hx with h1 | h1
    · omega
    · exact this.2 h1
/-- New memory beside it, which X may take. -/
theorem Run.below {X' : Nat → Prop} (h : Run w B X bp D) (hb : Below w.heap.size w w') (hX : ∀ k, X' k → X k ∨ (w.heap.size ≤ k ∧ k < w'.heap.size)) : Run w' B X' bp D := by
  obtain ⟨h1, h2, S, h3, h4⟩ := h
  have hsz := hb.size
  refine ⟨by omega, fun k hk => ?_, fun k => S k ∧ k < w.heap.size, (h3.mono fun k hk h => ⟨h, hk⟩).keep fun k hk _ => hb.block k hk, fun k hk _ => ?_⟩
  · rcases hX k hk with h | h
    · have := h2 k h; omega
    · exact h.2
  · obtain ⟨h5, h6⟩ := h4 k hk.1 hk.2
    refine ⟨h5, fun h => ?_⟩
    rcases hX k h with h | h
    · exact h6 h
    · omega
theorem Run.same (h : Run w B X bp D) (hb : Below w.heap.size w w') : Run w' B X bp D := h.below hb fun _ => .inl
/-- A write into a block of X. -/
theorem Run.kept (h : Run w B X bp D) (T : Turn X w w') : Run w' B X bp D := by
  obtain ⟨h1, h2, S, h3, h4⟩ := h
  have hsz := T.size
  refine ⟨by omega, fun k hk => by have := h2 k hk; omega, fun k => S k ∧ k < w.heap.size, (h3.mono fun k hk h => ⟨h, hk⟩).keep fun k hk h => T.block k hk (h4 k h.1 hk).2, fun k hk _ => h4 k hk.1 hk.2⟩

/-- Few steps, few writes. -/
def DM.ok (D : DM) (m : Nat) : Prop := D.steps ≤ m ∧ ∀ k, (D.cac k).length ≤ m
theorem DM.ok.mono {D : DM} {m m' : Nat} (h : D.ok m) (hm : m ≤ m') : D.ok m' := ⟨by have := h.1; omega, fun k => by have := h.2 k; omega⟩
theorem ok_mk0 (n m : Nat) : (DM.mk0 n).ok m := ⟨by simp [DM.mk0], fun k => by simp [DM.mk0]⟩
theorem ok_step {D : DM} {m : Nat} (h : D.ok m) : D.stepD.ok (m + 1) := ⟨by have := h.1; unfold DM.stepD; dsimp only; split <;> omega, fun k => by have := h.2 k; show (D.cac k).length ≤ _; omega⟩
theorem ok_write {D : DM} {m : Nat} (h : D.ok m) (s : Int) (x : List UInt8) : (D.writeD s x).ok (m + 1) := by
  unfold DM.writeD
  split
  · exact h.mono (by omega)
  split
  · exact ok_step h
  · refine ⟨(ok_step h).1, fun k => ?_⟩
    show (upd D.cac s.toNat (D.cac s.toNat ++ [x]) k).length ≤ m + 1
    by_cases hk : k = s.toNat
    · subst hk; rw [upd_same, List.length_append]; have := h.2 s.toNat; simp; omega
    · rw [upd_other _ _ hk]; have := h.2 k; omega
theorem ok_flush {D : DM} {m : Nat} (h : D.ok m) : (D.flushD).ok (m + 1) := by
  unfold DM.flushD
  split
  · exact ok_step h
  · exact ⟨(ok_step h).1, fun k => by simp [DM.flush]⟩
theorem ok_fuse {D : DM} {m : Nat} (h : D.ok m) (n : Int) : (D.fuse n).ok m := h
theorem crashTo_steps (D : DM) (kp : List Int) : ∀ k, (crashTo D kp k).1.steps = D.steps
  | 0 => rfl
  | k + 1 => by
    unfold crashTo crash1
    split
    · exact crashTo_steps D kp k
    · exact crashTo_steps D kp k
theorem ok_crash {D : DM} {m : Nat} (h : D.ok m) (kp : List Int) : (D.crash kp).ok m := by
  refine ⟨by have := h.1; show (crashTo D kp D.n).1.steps ≤ m; rw [crashTo_steps]; exact this, fun k => ?_⟩
  show ((crashTo D kp D.n).1.cac k).length ≤ m
  rw [crashTo_cac]
  split
  · simp
  · exact h.2 k
theorem ok_corrupt {D : DM} {m : Nat} (h : D.ok m) (s at_ t : Int) : (D.corrupt s at_ t).ok m := by
  unfold DM.corrupt
  split
  · refine ⟨h.1, fun k => ?_⟩
    show (upd D.cac s.toNat ((D.cac s.toNat).map _) k).length ≤ m
    by_cases hk : k = s.toNat
    · subst hk; rw [upd_same, List.length_map]; exact h.2 _
    · rw [upd_other _ _ hk]; exact h.2 k
  · exact h

theorem run_new (n : Nat) (hn : sectors n) (w : World) :
    Calls Try.prog 5 #[.int .i64 n] w fun e w' => ∃ bp, e = .returned (.tuple #[.pointer (some ⟨bp, 0, none⟩), .int .i64 0]) ∧ Run w' w.heap.size (fun _ => False) bp (DM.mk0 n) ∧ Below w.heap.size w w' := by
  refine (new_yes n hn w).mono ?_
  rintro e w' ⟨bp, rfl, L, hb⟩
  exact ⟨bp, rfl, ⟨hb.size, fun k h => h.elim, _, L, fun k h _ => ⟨h, id⟩⟩, hb⟩
theorem run_write (R : Run w B X bp D) (s : Int) (A : Option Addr) (n c : Nat) (x : List UInt8) (h : Sl w A n c x) {m : Nat} (hm : m ≤ 100000) (hok : D.ok m) :
    Calls Try.prog 9 #[.pointer (some ⟨bp, 0, none⟩), .int .i64 s, .slice A n c] w fun e w' => e = .returned (.int .i64 (D.writeE s x)) ∧ Run w' B X bp (D.writeD s x) ∧ Kp B X w w' := by
  obtain ⟨h1, h2, S, h3, h4⟩ := R
  refine (write_any h3 s A n c x h (by have := hok.1; omega) (fun k => by have := hok.2 k; omega)).mono ?_
  rintro e w' ⟨rfl, L, T⟩
  exact ⟨rfl, Run.turned h1 h2 h4 L T fun _ h => h⟩
theorem run_flush (R : Run w B X bp D) {m : Nat} (hm : m ≤ 100000) (hok : D.ok m) :
    Calls Try.prog 13 #[.pointer (some ⟨bp, 0, none⟩)] w fun e w' => e = .returned (.int .i64 D.err) ∧ Run w' B X bp D.flushD ∧ Kp B X w w' := by
  obtain ⟨h1, h2, S, h3, h4⟩ := R
  refine (flush_any h3 (by have := hok.1; omega) (fun k => by have := hok.2 k; omega)).mono ?_
  rintro e w' ⟨rfl, L, T⟩
  exact ⟨rfl, Run.turned h1 h2 h4 L T fun _ => .inl⟩
theorem run_fuse (R : Run w B X bp D) (n : Int) (hn : n ≤ 9223372036854775807) :
    Calls Try.prog 15 #[.pointer (some ⟨bp, 0, none⟩), .int .i64 n] w fun e w' => e = .returned (.tuple #[]) ∧ Run w' B X bp (D.fuse n) ∧ Kp B X w w' := by
  obtain ⟨h1, h2, S, ⟨bd, bm, l, c, v, L0⟩, h4⟩ := R
  refine (fuse_any L0 n hn).mono ?_
  rintro e w' ⟨rfl, L, T⟩
  exact ⟨rfl, Run.turned h1 h2 h4 ⟨bd, bm, l, c, v, L⟩ (T.mono fun x hx => hx ▸ L0.inS.1) fun _ => .inl⟩
theorem run_crash (R : Run w B X bp D) (A : Option Addr) (n c : Nat) (kp : List Int) (hk : Ints w A n c kp) (hout : ∀ ad, A = some ad → ad.block < w.heap.size ∧ (ad.block < B ∨ X ad.block)) {m : Nat} (hm : m ≤ 100000) (hok : D.ok m) :
    Calls Try.prog 17 #[.pointer (some ⟨bp, 0, none⟩), .slice A n c] w fun e w' => e = .returned (.tuple #[]) ∧ Run w' B X bp (D.crash kp) ∧ Kp B X w w' := by
  obtain ⟨h1, h2, S, h3, h4⟩ := R
  refine (crash_any h3 A n c kp hk (fun ad ha hs => ?_) (fun k => by have := hok.2 k; omega)).mono ?_
  · obtain ⟨h5, h6⟩ := hout ad ha
    have := h4 _ hs h5
    rcases h6 with h | h
    · omega
    · exact this.2 h
  · rintro e w' ⟨rfl, L, T⟩
    exact ⟨rfl, Run.turned h1 h2 h4 L T fun _ => .inl⟩
/-- Crash by one number, written out. -/
theorem run_crash1 (R : Run w B X bp D) (z : Int) (t : TypeId) (hz : -9223372036854775808 ≤ z ∧ z ≤ 9223372036854775807) {m : Nat} (hm : m ≤ 100000) (hok : D.ok m) :
    Calls Try.prog 17 #[.pointer (some ⟨bp, 0, none⟩), .slice (some ⟨w.heap.size, 0, none⟩) 1 1] (w.alloc (.cells #[.int .i64 z] t)) fun e w' => e = .returned (.tuple #[]) ∧ Run w' B X bp (D.crash [z]) ∧ Kp B X w w' := by
  have hb : Below w.heap.size w (w.alloc (.cells #[.int .i64 z] t)) := (Below.refl _ _).alloc (Nat.le_refl _) _
  have R1 : Run (w.alloc (.cells #[.int .i64 z] t)) B (fun k => X k ∨ (w.heap.size ≤ k ∧ k < (w.alloc (.cells #[.int .i64 z] t)).heap.size)) bp D := R.below hb fun _ h => h
  refine (run_crash R1 _ _ _ [z] (ints_one w z t hz) (fun ad h => by cases h; exact ⟨by simp, .inr (.inr ⟨Nat.le_refl _, by simp⟩)⟩) hm hok).mono ?_
  rintro e w' ⟨rfl, R2, k2⟩
  refine ⟨rfl, ?_, (kp_below hb).trans (k2.mono fun _ _ h => .inl h)⟩
  obtain ⟨h1, h2, S, h3, h4⟩ := R2
  exact ⟨h1, fun k hk => h2 k (.inl hk), S, h3, fun k hk hl => ⟨(h4 k hk hl).1, fun h => (h4 k hk hl).2 (.inl h)⟩⟩
theorem run_corrupt (R : Run w B X bp D) (s at_ t : Int) {m : Nat} (hm : m ≤ 100000) (hok : D.ok m) :
    Calls Try.prog 19 #[.pointer (some ⟨bp, 0, none⟩), .int .i64 s, .int .i64 at_, .int .i64 t] w fun e w' => e = .returned (.int .i64 (if D.mayTurn s at_ t then 0 else 1)) ∧ Run w' B X bp (D.corrupt s at_ t) ∧ Kp B X w w' := by
  obtain ⟨h1, h2, S, h3, h4⟩ := R
  refine (corrupt_any h3 s at_ t (fun k => by have := hok.2 k; omega)).mono ?_
  rintro e w' ⟨rfl, L, T⟩
  exact ⟨rfl, Run.turned h1 h2 h4 L T fun _ => .inl⟩
/-- What is read is new memory, which joins X. -/
theorem run_read (R : Run w B X bp D) (s : Int) :
    Calls Try.prog 11 #[.pointer (some ⟨bp, 0, none⟩), .int .i64 s] w fun e w' => ∃ A n X', e = .returned (.tuple #[.slice A n n, .int .i64 (D.readE s)]) ∧ n ≤ 256 ∧ (∀ k, X k → X' k) ∧ Hold w' X' A n (D.readL s) ∧ Run w' B X' bp D ∧ Below w.heap.size w w' := by
  have R0 := R
  obtain ⟨h1, h2, S, ⟨bd, bm, l, c, v, L0⟩, h4⟩ := R
  refine (read_any L0 s).mono ?_
  rintro e w' ⟨A, n, rfl, hs, hn, hb, ha⟩
  exact ⟨A, n, fun k => X k ∨ (w.heap.size ≤ k ∧ k < w'.heap.size), rfl, hn, fun _ => .inl, ⟨hs, fun ad h => .inr (ha ad h)⟩, R0.below hb fun _ h => h, hb⟩
theorem run_on (R : Run w B X bp D) : Calls Try.prog 25 #[.pointer (some ⟨bp, 0, none⟩)] w fun e w' => e = .returned (.bool (!D.off)) ∧ w = w' := by
  obtain ⟨h1, h2, S, ⟨bd, bm, l, c, v, L0⟩, h4⟩ := R
  exact on_any L0
theorem run_steps (R : Run w B X bp D) : Calls Try.prog 26 #[.pointer (some ⟨bp, 0, none⟩)] w fun e w' => e = .returned (.int .i64 (D.steps : Int)) ∧ w = w' := by
  obtain ⟨h1, h2, S, ⟨bd, bm, l, c, v, L0⟩, h4⟩ := R
  exact steps_any L0
theorem run_cached (R : Run w B X bp D) : Calls Try.prog 23 #[.pointer (some ⟨bp, 0, none⟩)] w fun e w' => e = .returned (.int .i64 (D.cnt : Int)) ∧ w = w' := by
  obtain ⟨h1, h2, S, ⟨bd, bm, l, c, v, L0⟩, h4⟩ := R
  exact cached_any L0
theorem run_size (R : Run w B X bp D) : Calls Try.prog 22 #[.pointer (some ⟨bp, 0, none⟩)] w fun e w' => e = .returned (.int .i64 (D.n : Int)) ∧ w = w' := by
  obtain ⟨h1, h2, S, ⟨bd, bm, l, c, v, L0⟩, h4⟩ := R
  exact size_any L0
end
theorem conv_bs {w : World} {A : Option Addr} {n c : Nat} {l : List UInt8} (h : Sl w A n c l) : (convert 35 9 (.slice A n c)).run Try.prog w = .ok (.string ⟨l.toArray⟩) w :=
  run_conv_bs 35 9 5 T22 Try.underlying5 Try.underlying9 h
end Go.Proofs.Ytkkmnmiekmfjiaa
