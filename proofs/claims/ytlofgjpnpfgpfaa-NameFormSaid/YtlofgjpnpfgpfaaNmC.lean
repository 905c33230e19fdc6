/- What is wrong with a name: the program's Valid, which goes over the runes, and the reference's, which goes over the bytes. -/
import Derived.Test.YtlofgjpnpfgpfaaLab
import Derived.Test.YtlofgjpnpfgpfaaNmB
import Derived.Deep.RegionHeld3
namespace Go.Proofs.Ytlofgjpnpfgpfaa
open Go Go.RowKit Go.Proofs

theorem odd_yes {s : ByteArray} (h : oddN s) : s.toList = [] ∨ s.toList = [46] ∨ s.toList = [46, 46] := by
  unfold oddN at h
  rw [ByteArray.toList_eq]
  exact h
theorem odd_no {s : ByteArray} (h : ¬ oddN s) : s.toList.isEmpty = false ∧ (s.toList == [46]) = false ∧ (s.toList == [46, 46]) = false := by
  unfold oddN at h
  rw [ByteArray.toList_eq]
  exact ⟨by simpa using fun e => h (.inl e), by simpa using fun e => h (.inr (.inl e)), by simpa using fun e => h (.inr (.inr e))⟩

set_option maxRecDepth 10000 in
set_option maxHeartbeats 2000000 in
theorem cvalid_any (s : ByteArray) (v : Int) (hv : validE s = v) (hm : s.size ≤ maxLen) (w : World) :
    Calls Try.prog 11 #[.string s] w fun e w' => e = .returned (.int .i64 v) ∧ Below w.heap.size w w' := by
  subst hv
  unfold maxLen at hm
  rcases Nat.lt_or_ge 20 s.size with h20 | h20
  · rw [validE_long h20]
    go_enter Try.func11, Try.ntmps11
    go_wp2
    go_ret
    exact ⟨rfl, Below.refl _ _⟩
  · by_cases ho : oddN s
    · rw [validE_odd h20 ho]
      go_enter Try.func11, Try.ntmps11
      rcases odd_yes ho with h | h | h
      all_goals
        clear ho
        go_wp2
        go_ret
        exact ⟨rfl, Below.refl _ _⟩
    · obtain ⟨e1, e2, e3⟩ := odd_no ho
      have Ho := Lib.hid ho
      clear ho
      go_enter Try.func11, Try.ntmps11
      go_wp2_with fail
      clear e1 e2 e3
      have hbw : ∀ p, Below w.heap.size w (w.iter s p) := fun p => (Below.refl _ _).alloc (Nat.le_refl _) _
      go_loopw [4] (fun _ wr => ∃ pos : Nat, wr = w.iter s pos ∧ pos ≤ s.size ∧ ∀ j, j < pos → ¬ badC (byt s.data.toList j)) (fun _ wr => s.size - wr.iterPos w.heap.size)
      case atStart => exact ⟨0, rfl, Nat.zero_le _, fun j hj => by omega⟩
      case round =>
        obtain ⟨pos, rfl, hps, hin⟩ := hrel
        have Hin := Lib.hid hin
        clear hin
        by_cases hp : pos < s.size
        · have hnx : ∀ ty, (Instr.next (.pointer (some ⟨w.heap.size, 0, none⟩)) true ty).run Try.prog (w.iter s pos) = _ := fun ty => run_next_any w s pos ty hp
          have hd := dec_says s pos hp
          obtain ⟨⟨r, wd⟩, hrw⟩ : ∃ x, Utf8.decode s pos = x := ⟨_, rfl⟩
          rw [hrw] at hnx hd
          dsimp only at hnx hd
          have Hd := Lib.hid hd
          clear hd hrw
          by_cases hbad : r = 0 ∨ r = 47
          · have hb : badC (byt s.data.toList pos) := by
              rcases Hd.out.way with ⟨h1, h2, h3⟩ | ⟨h1, h2⟩
              · rw [← h1]; exact hbad
              · omega
            have Hb := Lib.hid (validE_bad h20 ⟨pos, hp, hb⟩)
            clear hb
            rcases hbad with rfl | rfl
            all_goals
              go_wp2
              go_ret
              rw [Hb.out]
              exact ⟨rfl, hbw _⟩
          · have h0 : ((r : Int) == 0) = false := by simp; omega
            have h47 : ((r : Int) == 47) = false := by simp; omega
            have hwd := Hd.out.pos1
            have hft := Hd.out.fits
            have Hn := Lib.hid (show ∀ j, j < pos + wd → ¬ badC (byt s.data.toList j) from fun j hj => by
              by_cases hjp : j < pos
              · exact Hin.out j hjp
              · unfold badC
                rcases Hd.out.way with ⟨h1, h2, h3⟩ | ⟨h1, h2⟩
                · obtain rfl : j = pos := by omega
                  omega
                · have := h2 (j - pos) (by omega)
                  rw [show pos + (j - pos) = j by omega] at this
                  omega)
            clear hbad Hd Hin
            go_wp2
            go_roundw
            case rel => exact ⟨pos + wd, rfl, hft, Hn.out⟩
            case measure => simp; omega
        · have hnx : ∀ ty, (Instr.next (.pointer (some ⟨w.heap.size, 0, none⟩)) true ty).run Try.prog (w.iter s pos) = _ := fun ty => run_next_end w s pos ty hp
          have hpe : pos = s.size := by omega
          have Hok := Lib.hid (validE_ok h20 (by rw [← hpe]; exact Hin.out) Ho.out)
          clear hpe
          go_wp2
          go_ret
          rw [Hok.out]
          exact ⟨rfl, hbw _⟩

set_option maxRecDepth 10000 in
set_option maxHeartbeats 2000000 in
theorem rvalid_any (s : ByteArray) (v : Int) (hv : validE s = v) (hm : s.size ≤ maxLen) (w : World) :
    Calls Try.prog 12 #[.string s] w fun e w' => e = .returned (.int .i64 v) ∧ w = w' := by
  subst hv
  unfold maxLen at hm
  rcases Nat.lt_or_ge 20 s.size with h20 | h20
  · rw [validE_long h20]
    go_enter Try.func12, Try.ntmps12
    go_wp2
    go_ret
    exact ⟨rfl, rfl⟩
  · go_enter Try.func12, Try.ntmps12
    go_wp2_with fail
    go_loop [3] (fun i => ∃ k : Nat, k ≤ s.size ∧ i = .int .i64 (k : Int) ∧ ∀ j < k, ¬ badC (byt s.data.toList j)) (fun i => s.size - (intOf i).toNat)
    case atStart => exact ⟨0, Nat.zero_le _, rfl, fun j hj => by omega⟩
    case round =>
      obtain ⟨k, hk, rfl, hin⟩ := hrel
      have Hin := Lib.hid hin
      clear hin
      by_cases hlt : k < s.size
      · have hix := run_ixs s k hlt
        have Hb := Lib.hid (fun hb => validE_bad h20 ⟨k, hlt, hb⟩ : badC (byt s.data.toList k) → validE s = 12)
        have Hn := Lib.hid (show ¬ badC (byt s.data.toList k) → ∀ j, j < k + 1 → ¬ badC (byt s.data.toList j) from fun hb j hj => by
          by_cases hjp : j < k
          · exact Hin.out j hjp
          · obtain rfl : j = k := by omega
            exact hb)
        have hle := byt_le s.data.toList k
        generalize byt s.data.toList k = c at hix Hb Hn hle
        by_cases hbad : c = 0 ∨ c = 47
        · have hb := Hb.out hbad
          have Hb2 := Lib.hid hb
          clear hb Hb
          rcases hbad with rfl | rfl
          all_goals
            go_wp2
            go_ret
            rw [Hb2.out]
            exact ⟨rfl, rfl⟩
        · have h0 : ((c : Int) == 0) = false := by simp; omega
          have h47 : ((c : Int) == 47) = false := by simp; omega
          have Hn2 := Lib.hid (Hn.out hbad)
          clear Hn Hb hbad
          go_wp2
          exact ⟨⟨k + 1, by omega, by go_num, Hn2.out⟩, by simp [intOf]; omega⟩
      · have hke : k = s.size := by omega
        have Hok := Lib.hid (validE_ok h20 (by rw [← hke]; exact Hin.out))
        clear hke Hin
        by_cases ho : oddN s
        · have Hod := Lib.hid (validE_odd h20 ho)
          rcases odd_yes ho with h | h | h
          all_goals
            clear ho
            go_wp2
            go_ret
            rw [Hod.out]
            exact ⟨rfl, rfl⟩
        · obtain ⟨e1, e2, e3⟩ := odd_no ho
          have Hok2 := Lib.hid (Hok.out ho)
          clear ho Hok
          go_wp2
          go_ret
          rw [Hok2.out]
          exact ⟨rfl, rfl⟩
end Go.Proofs.Ytlofgjpnpfgpfaa
