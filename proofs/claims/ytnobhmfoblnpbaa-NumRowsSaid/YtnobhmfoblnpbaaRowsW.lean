/- The law NumRows: for every input it returns true, and what came in reads as it did. -/
import Derived.Test.YtnobhmfoblnpbaaE17
import Derived.Test.YtnobhmfoblnpbaaTexts
namespace Go.Proofs.Ytnobhmfoblnpbaa
open Go Go.RowKit Go.Proofs

set_option maxRecDepth 100000 in
set_option maxHeartbeats 4000000 in
theorem numRows_walk (A : Option Addr) (n c : Nat) (ss : List ByteArray) (w : World) (h : StrSl w A n c ss) :
    Calls Try.prog 7 #[.slice A n c] w fun e w' => e = .returned (.bool true) ∧ Below w.heap.size w w' := by
  have hnc := h.cap
  have hcm := h.max
  unfold maxLen at hcm
  go_enter Try.func7, Try.ntmps7
  go_wp2_with fail
  refine (shown_any w).mono ?_
  rintro e w1 ⟨rfl, b1⟩
  go_wp2_with fail
  go_loopw [4, 5, 6] (fun b q i wr => ∃ (j : Nat) (B : Option Addr) (m d : Nat), j ≤ n ∧ j ≤ 20 ∧ i = .int .i64 j ∧ q = .int .i64 j ∧ b = .slice B m d ∧ Sl wr B m d (encTo ss j) ∧ Shorts ss j ∧ Below w.heap.size w wr) (fun _ _ i _ => n - (intOf i).toNat)
  case atStart => exact ⟨0, _, _, _, Nat.zero_le _, by omega, rfl, rfl, rfl, (own_empty w1 5).sl, fun j hj => by omega, b1.alloc b1.size _⟩
  case round =>
    obtain ⟨j, B, m, d, hj, hj20, rfl, rfl, rfl, hs, hsh, hb⟩ := hrel
    have hm : m ≤ 10260 := by have h1 := encTo_len ss j hsh; rw [hs.len] at h1; omega
    by_cases hgo : (j < n ∧ j < 20) ∧ (txt ss j).size ≤ 255
    · obtain ⟨⟨hlt, hlt20⟩, h255⟩ := hgo
      obtain ⟨ad, rfl, hbl, hcell, htm⟩ := (h.below hb).cell hlt
      go_wp2_with fail
      refine (puttext_yes B m d (encTo ss j) (txt ss j) wr hs (by omega) h255).mono ?_
      rintro e w2 ⟨B2, m2, d2, rfl, own2, b2⟩
      have hb2 := hb.trans (b2.mono hb.size)
      have hm2 : m2 ≤ 11000 := by have h1 := own2.len; rw [List.length_append, List.length_append, dig_len, hs.len] at h1; simp at h1; omega
      obtain ⟨ad', ha, _, hcell2, _⟩ := (h.below hb2).cell hlt
      injection ha with ha
      subst ha
      have b3 := below_conv_sb w2 5 (txt ss j)
      have h3 := sl_conv_sb w2 5 (txt ss j) htm
      have hconv := conv_sb (txt ss j) w2
      go_wp2_with fail
      refine (putbytes_yes B2 _ m2 d2 _ _ _ (txt ss j).data.toList (Lib.bytesWorld w2 5 (txt ss j)) (own2.sl.below b3) h3 (by omega) (by omega)).mono ?_
      rintro e w4 ⟨B4, m4, d4, rfl, own4, b4⟩
      have b34 := b3.trans (b4.mono b3.size)
      have e4 : encTo ss j ++ (dig (txt ss j).size 1 ++ (txt ss j).data.toList) ++ (dig (txt ss j).size 2 ++ (txt ss j).data.toList) = encTo ss (j + 1) := by
        rw [encTo, pair]; simp only [List.append_assoc]
      have s4 := own4.sl
      rw [e4] at s4
      have hb4 := hb2.trans (b34.mono hb2.size)
      have hsh' := hsh.next h255
      clear hcell hcell2 hconv e4 own4 own2 h3
      go_wp2
      exact ⟨⟨j + 1, _, _, _, by omega, by omega, by go_num, by go_num, rfl, s4, hsh', hb4⟩, by simp [intOf]; omega⟩
    · have hcell : j < n → ∃ ad, A = some ad ∧ ad.block < wr.heap.size ∧ wr.cell? (ad.add j) = some (.string (txt ss j)) ∧ (txt ss j).size ≤ maxLen := fun hlt => (h.below hb).cell hlt
      have hway : ¬ j < n ∨ (j < n ∧ ¬ j < 20) ∨ (j < n ∧ j < 20 ∧ 255 < (txt ss j).size) := by omega
      clear hgo
      have henc := encTo_eq ss j
      rw [henc] at hs
      have Hcell := Lib.hid hcell
      clear hcell henc
      rcases hway with h1 | ⟨h1, h2⟩ | ⟨h1, h2, h3⟩
      · go_wp2
        go_loopw [4, 11] (fun b i wq => ∃ (q : Nat) (B : Option Addr) (m d : Nat), q ≤ j ∧ i = .int .i64 q ∧ b = .slice B m d ∧ Sl wq B m d (encR ss q (j - q)) ∧ Below w.heap.size w wq) (fun _ i _ => j - (intOf i).toNat)
        case atStart => exact ⟨0, _, _, _, Nat.zero_le _, rfl, rfl, hs, hb⟩
        case round =>
          clear hs hb
          obtain ⟨q, B, m, d, hq, rfl, rfl, hs, hb⟩ := hrel
          by_cases hlt : q < j
          · have h255 : (txt ss q).size ≤ 255 := hsh q hlt
            have hshq : ∀ k, k < q + (j - q) → (txt ss k).size ≤ 255 := fun k hk => hsh k (by omega)
            have hm2 : m ≤ 10260 := by have h1 := encR_len ss q (j - q) hshq; rw [hs.len] at h1; omega
            clear hshq
            rw [show j - q = (j - (q + 1)) + 1 by omega, encR] at hs
            obtain ⟨e1, e2, e3⟩ := text_take (txt ss q) (encR ss (q + 1) (j - (q + 1))) h255
            have E2 := Lib.hid e2
            have E3 := Lib.hid e3
            have E1 := Lib.hid e1
            clear e1 e2 e3
            go_wp2_with fail
            refine (taketext_yes B m d _ _ hs (by omega) E1.out).mono ?_
            rintro e w2 ⟨B2, m2, d2, rfl, own2, b2⟩
            have hm3 : m2 ≤ 10260 := by have h1 := restS_le (pair (txt ss q) ++ encR ss (q + 1) (j - (q + 1))) 1; rw [own2.len, hs.len] at h1; omega
            rw [E3.out] at own2
            rw [E2.out, back_string]
            clear E1 E2 E3
            obtain ⟨e1, e2, e3⟩ := bytes_take (txt ss q) (encR ss (q + 1) (j - (q + 1))) h255
            have E2 := Lib.hid e2
            have E3 := Lib.hid e3
            have E1 := Lib.hid e1
            clear e1 e2 e3
            go_wp2_with fail
            refine (takebytes_yes B2 m2 d2 _ w2 own2.sl (by omega) E1.out).mono ?_
            rintro e w3 ⟨B3, m3, d3, B4, m4, d4, rfl, own3, own4, b3⟩
            rw [E2.out] at own3
            rw [E3.out] at own4
            have hb2 := hb.trans (b2.mono hb.size)
            have hb3 := hb2.trans (b3.mono hb2.size)
            obtain ⟨ad2, ha, hbl2, hc2, _⟩ := (h.below hb3).cell (k := q) (by omega)
            have hcN : ∀ N, (w3.drewN N).cell? (ad2.add q) = some (.string (txt ss q)) := fun N => hc2
            first | subst ha | (injection ha with ha; subst ha)
            have hk : ∀ N, (convert 22 9 (.slice B3 m3 d3)).run Try.prog (w3.drewN N) = .ok (.string (txt ss q)) (w3.drewN N) := fun N => by
              have h1 := conv_bs (own3.sl.drewN N)
              rw [back_string] at h1
              exact h1
            have s4 := own4.sl
            have hqn : q < n := by omega
            go_wp2_with fail
            go_quiet (fail)
            go_wp2
            exact ⟨⟨q + 1, _, _, _, by omega, by go_num, rfl, s4.drewN _, below_drewN hb3 _⟩, by simp [intOf]; omega⟩
          · have hqj : q = j := by omega
            have hm0 : m = 0 := by have h1 := hs.len; rw [hqj, Nat.sub_self] at h1; exact h1.symm
            subst hm0
            go_wp2
            go_ret
            exact ⟨rfl, hb⟩
      · go_wp2
        go_loopw [4, 11] (fun b i wq => ∃ (q : Nat) (B : Option Addr) (m d : Nat), q ≤ j ∧ i = .int .i64 q ∧ b = .slice B m d ∧ Sl wq B m d (encR ss q (j - q)) ∧ Below w.heap.size w wq) (fun _ i _ => j - (intOf i).toNat)
        case atStart => exact ⟨0, _, _, _, Nat.zero_le _, rfl, rfl, hs, hb⟩
        case round =>
          clear hs hb
          obtain ⟨q, B, m, d, hq, rfl, rfl, hs, hb⟩ := hrel
          by_cases hlt : q < j
          · have h255 : (txt ss q).size ≤ 255 := hsh q hlt
            have hshq : ∀ k, k < q + (j - q) → (txt ss k).size ≤ 255 := fun k hk => hsh k (by omega)
            have hm2 : m ≤ 10260 := by have h1 := encR_len ss q (j - q) hshq; rw [hs.len] at h1; omega
            clear hshq
            rw [show j - q = (j - (q + 1)) + 1 by omega, encR] at hs
            obtain ⟨e1, e2, e3⟩ := text_take (txt ss q) (encR ss (q + 1) (j - (q + 1))) h255
            have E2 := Lib.hid e2
            have E3 := Lib.hid e3
            have E1 := Lib.hid e1
            clear e1 e2 e3
            go_wp2_with fail
            refine (taketext_yes B m d _ _ hs (by omega) E1.out).mono ?_
            rintro e w2 ⟨B2, m2, d2, rfl, own2, b2⟩
            have hm3 : m2 ≤ 10260 := by have h1 := restS_le (pair (txt ss q) ++ encR ss (q + 1) (j - (q + 1))) 1; rw [own2.len, hs.len] at h1; omega
            rw [E3.out] at own2
            rw [E2.out, back_string]
            clear E1 E2 E3
            obtain ⟨e1, e2, e3⟩ := bytes_take (txt ss q) (encR ss (q + 1) (j - (q + 1))) h255
            have E2 := Lib.hid e2
            have E3 := Lib.hid e3
            have E1 := Lib.hid e1
            clear e1 e2 e3
            go_wp2_with fail
            refine (takebytes_yes B2 m2 d2 _ w2 own2.sl (by omega) E1.out).mono ?_
            rintro e w3 ⟨B3, m3, d3, B4, m4, d4, rfl, own3, own4, b3⟩
            rw [E2.out] at own3
            rw [E3.out] at own4
            have hb2 := hb.trans (b2.mono hb.size)
            have hb3 := hb2.trans (b3.mono hb2.size)
            obtain ⟨ad2, ha, hbl2, hc2, _⟩ := (h.below hb3).cell (k := q) (by omega)
            have hcN : ∀ N, (w3.drewN N).cell? (ad2.add q) = some (.string (txt ss q)) := fun N => hc2
            first | subst ha | (injection ha with ha; subst ha)
            have hk : ∀ N, (convert 22 9 (.slice B3 m3 d3)).run Try.prog (w3.drewN N) = .ok (.string (txt ss q)) (w3.drewN N) := fun N => by
              have h1 := conv_bs (own3.sl.drewN N)
              rw [back_string] at h1
              exact h1
            have s4 := own4.sl
            have hqn : q < n := by omega
            go_wp2_with fail
            go_quiet (fail)
            go_wp2
            exact ⟨⟨q + 1, _, _, _, by omega, by go_num, rfl, s4.drewN _, below_drewN hb3 _⟩, by simp [intOf]; omega⟩
          · have hqj : q = j := by omega
            have hm0 : m = 0 := by have h1 := hs.len; rw [hqj, Nat.sub_self] at h1; exact h1.symm
            subst hm0
            go_wp2
            go_ret
            exact ⟨rfl, hb⟩
      · obtain ⟨ad, rfl, hbl, hcell, htm⟩ := Hcell.out h1
        unfold maxLen at htm
        have h3d : decide ((255 : Int) < ((txt ss j).size : Int)) = true := by simp; omega
        have h2d : decide ((j : Int) < 20) = true := by simp; omega
        go_wp2
        clear hcell h3d h2d
        go_loopw [4, 11] (fun b i wq => ∃ (q : Nat) (B : Option Addr) (m d : Nat), q ≤ j ∧ i = .int .i64 q ∧ b = .slice B m d ∧ Sl wq B m d (encR ss q (j - q)) ∧ Below w.heap.size w wq) (fun _ i _ => j - (intOf i).toNat)
        case atStart => exact ⟨0, _, _, _, Nat.zero_le _, rfl, rfl, hs, hb⟩
        case round =>
          clear hs hb
          obtain ⟨q, B, m, d, hq, rfl, rfl, hs, hb⟩ := hrel
          by_cases hlt : q < j
          · have h255 : (txt ss q).size ≤ 255 := hsh q hlt
            have hshq : ∀ k, k < q + (j - q) → (txt ss k).size ≤ 255 := fun k hk => hsh k (by omega)
            have hm2 : m ≤ 10260 := by have h1 := encR_len ss q (j - q) hshq; rw [hs.len] at h1; omega
            clear hshq
            rw [show j - q = (j - (q + 1)) + 1 by omega, encR] at hs
            obtain ⟨e1, e2, e3⟩ := text_take (txt ss q) (encR ss (q + 1) (j - (q + 1))) h255
            have E2 := Lib.hid e2
            have E3 := Lib.hid e3
            have E1 := Lib.hid e1
            clear e1 e2 e3
            go_wp2_with fail
            refine (taketext_yes B m d _ _ hs (by omega) E1.out).mono ?_
            rintro e w2 ⟨B2, m2, d2, rfl, own2, b2⟩
            have hm3 : m2 ≤ 10260 := by have h1 := restS_le (pair (txt ss q) ++ encR ss (q + 1) (j - (q + 1))) 1; rw [own2.len, hs.len] at h1; omega
            rw [E3.out] at own2
            rw [E2.out, back_string]
            clear E1 E2 E3
            obtain ⟨e1, e2, e3⟩ := bytes_take (txt ss q) (encR ss (q + 1) (j - (q + 1))) h255
            have E2 := Lib.hid e2
            have E3 := Lib.hid e3
            have E1 := Lib.hid e1
            clear e1 e2 e3
            go_wp2_with fail
            refine (takebytes_yes B2 m2 d2 _ w2 own2.sl (by omega) E1.out).mono ?_
            rintro e w3 ⟨B3, m3, d3, B4, m4, d4, rfl, own3, own4, b3⟩
            rw [E2.out] at own3
            rw [E3.out] at own4
            have hb2 := hb.trans (b2.mono hb.size)
            have hb3 := hb2.trans (b3.mono hb2.size)
            obtain ⟨ad2, ha, hbl2, hc2, _⟩ := (h.below hb3).cell (k := q) (by omega)
            have hcN : ∀ N, (w3.drewN N).cell? (ad2.add q) = some (.string (txt ss q)) := fun N => hc2
            first | subst ha | (injection ha with ha; subst ha)
            have hk : ∀ N, (convert 22 9 (.slice B3 m3 d3)).run Try.prog (w3.drewN N) = .ok (.string (txt ss q)) (w3.drewN N) := fun N => by
              have h1 := conv_bs (own3.sl.drewN N)
              rw [back_string] at h1
              exact h1
            have s4 := own4.sl
            have hqn : q < n := by omega
            go_wp2_with fail
            go_quiet (fail)
            go_wp2
            exact ⟨⟨q + 1, _, _, _, by omega, by go_num, rfl, s4.drewN _, below_drewN hb3 _⟩, by simp [intOf]; omega⟩
          · have hqj : q = j := by omega
            have hm0 : m = 0 := by have h1 := hs.len; rw [hqj, Nat.sub_self] at h1; exact h1.symm
            subst hm0
            go_wp2
            go_ret
            exact ⟨rfl, hb⟩
end Go.Proofs.Ytnobhmfoblnpbaa
