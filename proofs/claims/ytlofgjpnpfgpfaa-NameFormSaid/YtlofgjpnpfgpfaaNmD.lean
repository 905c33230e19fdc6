/- A path cut at its slashes: the program's cut, which goes over the runes, and the reference's Parts. -/
import Derived.Test.YtlofgjpnpfgpfaaNmC
import Derived.Test.YtlofgjpnpfgpfaaTurn
namespace Go.Proofs.Ytlofgjpnpfgpfaa
open Go Go.RowKit Go.Proofs

theorem TS : TxtT Try.prog 26 9 := ⟨Try.underlying26, by kernel_rfl⟩
theorem OwnT.keep {w w' : World} {base n c : Nat} {e : TypeId} {A : Option Addr} {l : List ByteArray} (h : OwnT w base e A n c l) (hk : ∀ g, base ≤ g → w'.heap[g]? = w.heap[g]?) : OwnT w' base e A n c l :=
  owns_keep h fun g hg => hk g (h.lt g hg).1
theorem ownT_none (w : World) (base : Nat) (e : TypeId) : OwnT w base e none 0 0 [] := ⟨rfl, .inl ⟨rfl, rfl⟩⟩
theorem ownT_empty (w : World) (e : TypeId) : OwnT (w.alloc (.cells #[] e)) w.heap.size e (some ⟨w.heap.size, 0, none⟩) 0 0 [] :=
  World.ownsRow_made w #[] 0 (Nat.le_refl _) (Nat.zero_le _) rfl
theorem newCellT (w : World) (cs : Array Value) (t : TypeId) (j : Nat) : (w.alloc (.cells cs t)).cell? ((⟨w.heap.size, 0, none⟩ : Addr).add j) = cs[j]? := newCell w cs t j
theorem strsl_one (w : World) (e : TypeId) (s : ByteArray) (hs : s.size ≤ maxLen) : StrSl (w.alloc (.cells #[.string s] e)) (some ⟨w.heap.size, 0, none⟩) 1 1 [s] := by
  refine ⟨⟨rfl, Nat.le_refl _, by unfold maxLen; omega, fun j u hu => ?_⟩, fun x hx => by simp at hx; subst hx; exact hs⟩
  refine ⟨_, rfl, by simp, ?_⟩
  rw [newCell]
  simpa using hu

/-- The iterator of a range over a text, moved on. -/
def setIter (w : World) (b : Nat) (s : ByteArray) (p : Nat) : World := { w with heap := w.heap.setIfInBounds b (.stringIter s p) }
theorem setIter_size (w : World) (b : Nat) (s : ByteArray) (p : Nat) : (setIter w b s p).heap.size = w.heap.size := by simp [setIter]
theorem setIter_at {w : World} {b : Nat} {o : Obj} (h : w.heap[b]? = some o) (s : ByteArray) (p : Nat) : (setIter w b s p).heap[b]? = some (.stringIter s p) := by
  have := (Array.getElem?_eq_some_iff.1 h).1
  simp [setIter, this]
theorem setIter_other (w : World) {b k : Nat} (h : k ≠ b) (s : ByteArray) (p : Nat) : (setIter w b s p).heap[k]? = w.heap[k]? := by
  simp [setIter, Ne.symm h]
theorem setIter_below (w : World) {b B : Nat} (h : B ≤ b) (s : ByteArray) (p : Nat) : Below B w (setIter w b s p) :=
  ⟨rfl, rfl, rfl, by rw [setIter_size]; exact Nat.le_refl _, fun k hk => setIter_other w (by omega) s p⟩
theorem run_next_at (w : World) (b : Nat) (s : ByteArray) (pos : Nat) (ty : TypeId) (hb : w.heap[b]? = some (.stringIter s pos)) (h : pos < s.size) :
    (Instr.next (.pointer (some ⟨b, 0, none⟩)) true ty).run Try.prog w = .ok (.tuple #[.bool true, .int .i64 pos, .int .i32 (Utf8.decode s pos).1]) (setIter w b s (pos + (Utf8.decode s pos).2)) := by
  simp only [Instr.next, getObj, setObj, Sem.run_bind, Sem.run, hb, Result.andThen, h, if_true]
  simp [goInt, setIter]
theorem run_next_out (w : World) (b : Nat) (s : ByteArray) (pos : Nat) (ty : TypeId) (hb : w.heap[b]? = some (.stringIter s pos)) (h : ¬ pos < s.size) :
    (Instr.next (.pointer (some ⟨b, 0, none⟩)) true ty).run Try.prog w = .ok (.tuple #[.bool false]) w := by
  simp [Instr.next, getObj, Sem.run, hb, h]
theorem iterPos_at {w : World} {b : Nat} {s : ByteArray} {p : Nat} (h : w.heap[b]? = some (.stringIter s p)) : w.iterPos b = p := by
  simp [World.iterPos, h]

/-- A row of its own with the parts of s. -/
def PartsSays (s : ByteArray) (w : World) (e : Ending) (w' : World) : Prop := ∃ A n c, e = .returned (.slice A n c) ∧ OwnT w' w.heap.size 9 A n c (cutS s) ∧ Below w.heap.size w w'

set_option maxRecDepth 10000 in
set_option maxHeartbeats 4000000 in
theorem ccut_any (s : ByteArray) (hm : s.size ≤ 100000) (w : World) : Calls Try.prog 24 #[.string s] w (PartsSays s w) := by
  go_enter Try.func24, Try.ntmps24
  go_wp2_with fail
  have hit : (w.iter s 0).heap[w.heap.size]? = some (.stringIter s 0) := World.iter_heap w s 0
  have hb0 : Below w.heap.size w (w.iter s 0) := (Below.refl _ _).alloc (Nat.le_refl _) _
  have hsz0 : w.heap.size + 1 ≤ (w.iter s 0).heap.size := by simp [World.iter]
  go_loopw [3, 4] (fun l f wr => ∃ (A : Option Addr) (n c : Nat) (done : List ByteArray) (q pos : Nat), l = .slice A n c ∧ f = .int .i64 (q : Int) ∧ OwnT wr (w.heap.size + 1) 9 A n c done ∧ CutAt s q pos done ∧ wr.heap[w.heap.size]? = some (.stringIter s pos) ∧ Below w.heap.size w wr ∧ w.heap.size + 1 ≤ wr.heap.size) (fun _ _ wr => s.size - wr.iterPos w.heap.size)
  case atStart => exact ⟨_, _, _, [], 0, 0, rfl, rfl, ownT_none _ _ _, cutAt_start s, hit, hb0, hsz0⟩
  case round =>
    clear hit hb0 hsz0
    obtain ⟨A, n, c, done, q, pos, rfl, rfl, own, hcut, hit, hb, hsz⟩ := hrel
    have hps := hcut.kn
    have hqp := hcut.fk
    have hnq : n ≤ q := by rw [← own.len]; exact hcut.few
    have Hcut := Lib.hid hcut
    have Hip := Lib.hid (iterPos_at hit)
    clear hcut
    by_cases hp : pos < s.size
    · have hnx : ∀ ty, (Instr.next (.pointer (some ⟨w.heap.size, 0, none⟩)) true ty).run Try.prog wr = _ := fun ty => run_next_at wr w.heap.size s pos ty hit hp
      have hd := dec_says s pos hp
      obtain ⟨⟨r, wd⟩, hrw⟩ : ∃ x, Utf8.decode s pos = x := ⟨_, rfl⟩
      rw [hrw] at hnx hd
      dsimp only at hnx hd
      have Hd := Lib.hid hd
      clear hd hrw
      have hit2 := setIter_at hit s (pos + wd)
      have hs2 := setIter_size wr w.heap.size s (pos + wd)
      have hb2 := hb.trans (setIter_below wr (Nat.le_refl w.heap.size) s (pos + wd))
      have own2 : OwnT (setIter wr w.heap.size s (pos + wd)) (w.heap.size + 1) 9 A n c done := own.keep fun g hg => setIter_other wr (by omega) s (pos + wd)
      generalize setIter wr w.heap.size s (pos + wd) = w2 at hnx hit2 hs2 hb2 own2
      have Hs2 := Lib.hid hs2
      clear hs2
      by_cases h47 : r = 47
      · have hway := Hd.out.way
        have hwd : wd = 1 := by omega
        have hbt : byt s.data.toList pos = 47 := by omega
        have Hc2 := Lib.hid (Hcut.out.slash hp hbt)
        subst h47 hwd
        clear Hd hbt hway hnq
        have hpq : (q : Int) ≤ (pos : Int) := by omega
        have hx : (s.extract q pos).size ≤ maxLen := by unfold maxLen; simp; omega
        have one := strsl_one w2 9 (s.extract q pos) hx
        have bl := (Below.refl w2.heap.size w2).alloc (Nat.le_refl _) (.cells #[.string (s.extract q pos)] 9)
        have hn2 : n ≤ 100000 := by have := Hcut.out.few; rw [own2.len] at this; omega
        go_wp2_with (at_builtin; refine wp_append_b_t _ TS rfl _ _ rfl (w.heap.size + 1) A n c done rfl (own2.below bl) _ 1 1 [s.extract q pos] rfl one (by omega) (by simp; have := Hs2.out; omega) ?_; intro A3 c3 w3 own3 b3)
        have hit3 : w3.heap[w.heap.size]? = some (.stringIter s (pos + 1)) := by
          rw [b3.block _ (by omega), bl.block _ (by have := Hs2.out; omega)]
          exact hit2
        have hb3 : Below w.heap.size w w3 := (hb2.trans (bl.mono (by have := Hs2.out; omega))).trans (b3.mono (by omega))
        have hsz3 : w.heap.size + 1 ≤ w3.heap.size := by have h1 := b3.size; have h2 := bl.size; have := Hs2.out; omega
        have Hip3 := Lib.hid (iterPos_at hit3)
        clear hit2 one bl
        go_wp2
        go_roundw
        case rel => exact ⟨A3, n + 1, c3, _, pos + 1, pos + 1, rfl, by go_num, own3, Hc2.out, hit3, hb3, hsz3⟩
        case measure => rw [Hip3.out, Hip.out]; omega
      · have h0 : ((r : Int) == 47) = false := by simp; omega
        have hwd := Hd.out.pos1
        have hft := Hd.out.fits
        have Hc2 := Lib.hid (Hcut.out.skip wd hft (fun j hj => by
          rcases Hd.out.way with ⟨h1, h2, h3⟩ | ⟨h1, h2⟩
          · obtain rfl : j = 0 := by omega
            rw [Nat.add_zero]; omega
          · have := h2 j hj
            omega))
        have Hip2 := Lib.hid (iterPos_at hit2)
        clear Hd
        go_wp2
        go_roundw
        case rel => exact ⟨A, n, c, _, q, pos + wd, rfl, rfl, own2, Hc2.out, hit2, hb2, by rw [Hs2.out]; exact hsz⟩
        case measure => rw [Hip2.out, Hip.out]; omega
    · have hnx : ∀ ty, (Instr.next (.pointer (some ⟨w.heap.size, 0, none⟩)) true ty).run Try.prog wr = _ := fun ty => run_next_out wr w.heap.size s pos ty hit hp
      obtain rfl : pos = s.size := by omega
      have Hfin := Lib.hid Hcut.out.finish
      have hx : (s.extract q s.size).size ≤ maxLen := by unfold maxLen; simp; omega
      have one := strsl_one wr 9 (s.extract q s.size) hx
      have bl := (Below.refl wr.heap.size wr).alloc (Nat.le_refl _) (.cells #[.string (s.extract q s.size)] 9)
      have hn2 : n ≤ 100000 := by omega
      clear Hcut hit Hip hnq
      go_wp2_with (at_builtin; refine wp_append_b_t _ TS rfl _ _ rfl (w.heap.size + 1) A n c done rfl (own.below bl) _ 1 1 [s.extract q s.size] rfl one (by omega) (by simp; omega) ?_; intro A3 c3 w3 own3 b3)
      go_ret
      rw [Hfin.out] at own3
      exact ⟨_, _, _, rfl, own3.less (by omega), (hb.trans (bl.mono (by omega))).trans (b3.mono (by omega))⟩

set_option maxRecDepth 10000 in
set_option maxHeartbeats 4000000 in
theorem rparts_any (s : ByteArray) (hm : s.size ≤ 100000) (w : World) : Calls Try.prog 26 #[.string s] w (PartsSays s w) := by
  go_enter Try.func26, Try.ntmps26
  have own0 := ownT_empty w 9
  have bl0 := (Below.refl w.heap.size w).alloc (Nat.le_refl _) (.cells #[] 9)
  go_wp2_with fail
  go_loopw [3, 4, 5] (fun l f i wr => ∃ (A : Option Addr) (n c : Nat) (done : List ByteArray) (q k : Nat), l = .slice A n c ∧ f = .int .i64 (q : Int) ∧ i = .int .i64 (k : Int) ∧ OwnT wr w.heap.size 9 A n c done ∧ ((k ≤ s.size ∧ CutAt s q k done) ∨ (k = s.size + 1 ∧ done = cutS s)) ∧ Below w.heap.size w wr) (fun _ _ i _ => s.size + 1 - (intOf i).toNat)
  case atStart => exact ⟨_, _, _, [], 0, 0, rfl, rfl, rfl, own0, .inl ⟨Nat.zero_le _, cutAt_start s⟩, bl0⟩
  case round =>
    clear own0 bl0
    obtain ⟨A, n, c, done, q, k, rfl, rfl, rfl, own, hway, hb⟩ := hrel
    rcases hway with ⟨hk, hcut⟩ | ⟨rfl, rfl⟩
    · have hqp := hcut.fk
      have hnq : n ≤ q := by rw [← own.len]; exact hcut.few
      have Hcut := Lib.hid hcut
      clear hcut
      have hx : (s.extract q k).size ≤ maxLen := by unfold maxLen; simp; omega
      have one := strsl_one wr 9 (s.extract q k) hx
      have bl := (Below.refl wr.heap.size wr).alloc (Nat.le_refl _) (.cells #[.string (s.extract q k)] 9)
      have hbs := hb.size
      have hpq : (q : Int) ≤ (k : Int) := by omega
      have hks : (k : Int) ≤ (s.size : Int) := by omega
      by_cases hlt : k < s.size
      · have hix := run_ixs s k hlt
        have hle := byt_le s.data.toList k
        have Hs := Lib.hid (fun hb => Hcut.out.slash hlt hb : byt s.data.toList k = 47 → CutAt s (k + 1) (k + 1) (done ++ [s.extract q k]))
        have Hn := Lib.hid (fun hb => Hcut.out.skip1 hlt hb : byt s.data.toList k ≠ 47 → CutAt s q (k + 1) done)
        clear Hcut
        have hkne : ((k : Int) == (s.size : Int)) = false := by simp; omega
        generalize byt s.data.toList k = ch at hix Hs Hn hle
        by_cases h47 : ch = 47
        · have Hc2 := Lib.hid (Hs.out h47)
          subst h47
          clear Hs Hn
          go_wp2_with (at_builtin; refine wp_append_b_t _ TS rfl _ _ rfl w.heap.size A n c done rfl (own.below bl) _ 1 1 [s.extract q k] rfl one (by omega) (by simp; omega) ?_; intro A3 c3 w3 own3 b3)
          have hb3 : Below w.heap.size w w3 := (hb.trans (bl.mono (by omega))).trans b3
          go_wp2
          exact ⟨⟨A3, n + 1, c3, _, k + 1, k + 1, rfl, by go_num, by go_num, own3, .inl ⟨by omega, Hc2.out⟩, hb3⟩, by simp [intOf]; omega⟩
        · have h0 : ((ch : Int) == 47) = false := by simp; omega
          have Hc2 := Lib.hid (Hn.out h47)
          clear Hs Hn one bl
          go_wp2
          exact ⟨⟨A, n, c, _, q, k + 1, rfl, rfl, by go_num, own, .inl ⟨by omega, Hc2.out⟩, hb⟩, by simp [intOf]; omega⟩
      · obtain rfl : k = s.size := by omega
        have Hfin := Lib.hid Hcut.out.finish
        clear Hcut
        go_wp2_with (at_builtin; refine wp_append_b_t _ TS rfl _ _ rfl w.heap.size A n c done rfl (own.below bl) _ 1 1 [s.extract q s.size] rfl one (by omega) (by simp; omega) ?_; intro A3 c3 w3 own3 b3)
        have hb3 : Below w.heap.size w w3 := (hb.trans (bl.mono (by omega))).trans b3
        rw [Hfin.out] at own3
        go_wp2
        exact ⟨⟨A3, n + 1, c3, _, s.size + 1, s.size + 1, rfl, by go_num, by go_num, own3, .inr ⟨rfl, rfl⟩, hb3⟩, by simp [intOf]⟩
    · have h1 : ¬ ((s.size : Int) + 1 ≤ (s.size : Int)) := by omega
      go_wp2
      go_ret
      exact ⟨_, _, _, rfl, own, hb⟩
end Go.Proofs.Ytlofgjpnpfgpfaa
