/- Labels: within, Label, the program's and the reference's (as SupB has them, by themselves). -/
import Derived.Test.YtlofgjpnpfgpfaaRows
import Derived.Test.YtlofgjpnpfgpfaaBase
namespace Go.Proofs.Ytlofgjpnpfgpfaa
open Go Go.RowKit Go.Proofs

/-! ### within, digit, Label -/
theorem swithin_any (x a b : Int) (r : Bool) (h : decide (a ≤ x ∧ x ≤ b) = r) (w : World) :
    Calls Try.prog 31 #[.int .i64 x, .int .i64 a, .int .i64 b] w fun e w' => e = .returned (.bool r) ∧ w = w' := by
  subst h
  go_enter Try.func31, Try.ntmps31
  go_wp2
  all_goals
    go_ret
    refine ⟨congrArg (fun x => Ending.returned (Value.bool x)) ?_, rfl⟩
    first
      | exact (decide_eq_false (by omega)).symm
      | exact decide_eq_decide.2 (by omega)
      | (rw [Bool.eq_iff_iff]; simp; omega)
/-- Whether a byte may stand in a label. -/
def labC (c : Nat) : Bool := decide ((97 ≤ c ∧ c ≤ 122) ∨ (48 ≤ c ∧ c ≤ 57) ∨ c = 45)
def labA (s : ByteArray) : Bool := (List.range s.size).all fun j => labC (byt s.data.toList j)
/-- Whether a text is a label. -/
def labL (s : ByteArray) : Bool := labA s && decide (1 ≤ s.size ∧ s.size ≤ 10)
theorem lab_no {s : ByteArray} {j : Nat} (hj : j < s.size) (h : labC (byt s.data.toList j) = false) : labL s = false := by
  have : labA s = false := by
    unfold labA
    rw [List.all_eq_false]
    exact ⟨j, List.mem_range.2 hj, by rw [h]; simp⟩
  unfold labL
  rw [this, Bool.false_and]
theorem lab_yes {s : ByteArray} (h : ∀ j, j < s.size → labC (byt s.data.toList j) = true) : labL s = decide (1 ≤ s.size ∧ s.size ≤ 10) := by
  have : labA s = true := by
    unfold labA
    rw [List.all_eq_true]
    exact fun j hj => h j (List.mem_range.1 hj)
  unfold labL
  rw [this, Bool.true_and]
theorem run_ixs (s : ByteArray) (k : Nat) (hk : k < s.size) (w : World) : (Instr.index 9 (.string s) (.int .i64 (k : Int))).run Try.prog w = .ok (.int .u8 (byt s.data.toList k : Int)) w := by
  rw [run_index_string w 9 s .i64 _ Try.underlying9, dif_pos (by omega)]
  congr 3
  unfold byt
  rw [List.getD_eq_getElem?_getD, List.getElem?_eq_getElem (by simpa using hk)]
  simp [ByteArray.getElem_eq_getElem_data]
set_option maxRecDepth 10000 in
set_option maxHeartbeats 2000000 in
theorem slabel_any (s : ByteArray) (r : Bool) (hr : labL s = r) (w : World) (hm : s.size ≤ maxLen) :
    Calls Try.prog 25 #[.string s] w fun e w' => e = .returned (.bool r) ∧ w = w' := by
  subst hr
  unfold maxLen at hm
  go_enter Try.func25, Try.ntmps25
  go_wp2_with fail
  go_loop [7] (fun i => ∃ k : Nat, k ≤ s.size ∧ i = .int .i64 (k : Int) ∧ ∀ j < k, labC (byt s.data.toList j) = true) (fun i => s.size - (intOf i).toNat)
  case atStart => exact ⟨0, Nat.zero_le _, rfl, fun j hj => by omega⟩
  case round =>
    obtain ⟨k, hk, rfl, hin⟩ := hrel
    by_cases hlt : k < s.size
    · have hix := run_ixs s k hlt
      have hno := fun h => lab_no (s := s) (j := k) hlt h
      obtain ⟨c, hc⟩ : ∃ c, byt s.data.toList k = c := ⟨_, rfl⟩
      have hle := byt_le s.data.toList k
      rw [hc] at hix hno hle
      have Hno := Lib.hid hno
      have next : labC c = true → ∀ j < k + 1, labC (byt s.data.toList j) = true := fun h j hj => by
        by_cases hjk : j = k
        · rw [hjk, hc]; exact h
        · exact hin j (by omega)
      have Next := Lib.hid next
      have hk0 : (0 : Int) ≤ (k : Int) := by omega
      clear hno next hin hc
      rcases (by omega : (97 ≤ c ∧ c ≤ 122) ∨ 122 < c ∨ (57 < c ∧ c < 97) ∨ (48 ≤ c ∧ c ≤ 57) ∨ (c < 48 ∧ c ≠ 45) ∨ c = 45) with h | h | h | h | h | h
      · have d0 : decide ((c : Int) < 97) = false := decide_eq_false (by omega)
        have d1 : decide (122 < (c : Int)) = false := decide_eq_false (by omega)
        have d2 : decide ((c : Int) < 48) = false := decide_eq_false (by omega)
        have d3 : decide (57 < (c : Int)) = true := decide_eq_true (by omega)
        go_wp2
        exact ⟨⟨k + 1, by omega, by go_num, Next.out (decide_eq_true (by omega))⟩, by simp [intOf]; omega⟩
      · have d0 : decide ((c : Int) < 97) = false := decide_eq_false (by omega)
        have d1 : decide (122 < (c : Int)) = true := decide_eq_true (by omega)
        have d2 : decide ((c : Int) < 48) = false := decide_eq_false (by omega)
        have d3 : decide (57 < (c : Int)) = true := decide_eq_true (by omega)
        have h45 : ¬ (c : Int) = 45 := by omega
        go_wp2
        go_ret
        exact ⟨by rw [Hno.out (decide_eq_false (by omega))]; rfl, rfl⟩
      · have d0 : decide ((c : Int) < 97) = true := decide_eq_true (by omega)
        have d1 : decide (122 < (c : Int)) = false := decide_eq_false (by omega)
        have d2 : decide ((c : Int) < 48) = false := decide_eq_false (by omega)
        have d3 : decide (57 < (c : Int)) = true := decide_eq_true (by omega)
        have h45 : ¬ (c : Int) = 45 := by omega
        go_wp2
        go_ret
        exact ⟨by rw [Hno.out (decide_eq_false (by omega))]; rfl, rfl⟩
      · have d0 : decide ((c : Int) < 97) = true := decide_eq_true (by omega)
        have d1 : decide (122 < (c : Int)) = false := decide_eq_false (by omega)
        have d2 : decide ((c : Int) < 48) = false := decide_eq_false (by omega)
        have d3 : decide (57 < (c : Int)) = false := decide_eq_false (by omega)
        go_wp2
        exact ⟨⟨k + 1, by omega, by go_num, Next.out (decide_eq_true (by omega))⟩, by simp [intOf]; omega⟩
      · have d0 : decide ((c : Int) < 97) = true := decide_eq_true (by omega)
        have d1 : decide (122 < (c : Int)) = false := decide_eq_false (by omega)
        have d2 : decide ((c : Int) < 48) = true := decide_eq_true (by omega)
        have d3 : decide (57 < (c : Int)) = false := decide_eq_false (by omega)
        have h45 : ¬ (c : Int) = 45 := by omega
        go_wp2
        go_ret
        exact ⟨by rw [Hno.out (decide_eq_false (by omega))]; rfl, rfl⟩
      · subst h
        go_wp2
        exact ⟨⟨k + 1, by omega, by go_num, Next.out (by decide)⟩, by simp [intOf]; omega⟩
    · have hks : k = s.size := by omega
      have hlab := Lib.hid (lab_yes (s := s) (by rw [← hks]; exact hin))
      clear hks hin
      go_wp2_with fail
      refine (swithin_any (s.size : Int) 1 10 _ rfl w).mono ?_
      rintro e w2 ⟨rfl, rfl⟩
      go_wp2
      go_ret
      exact ⟨by rw [hlab.out]; exact congrArg (fun x => Ending.returned (Value.bool x)) (by rw [Bool.eq_iff_iff]; simp; omega), rfl⟩
set_option maxRecDepth 10000 in
set_option maxHeartbeats 2000000 in
theorem reflabel_any (s : ByteArray) (r : Bool) (hr : labL s = r) (w : World) (hm : s.size ≤ maxLen) :
    Calls Try.prog 22 #[.string s] w fun e w' => e = .returned (.bool r) ∧ w = w' := by
  subst hr
  unfold maxLen at hm
  go_enter Try.func22, Try.ntmps22
  go_wp2_with fail
  go_loop [3] (fun i => ∃ k : Nat, k ≤ s.size ∧ i = .int .i64 (k : Int) ∧ ∀ j < k, labC (byt s.data.toList j) = true) (fun i => s.size - (intOf i).toNat)
  case atStart => exact ⟨0, Nat.zero_le _, rfl, fun j hj => by omega⟩
  case round =>
    obtain ⟨k, hk, rfl, hin⟩ := hrel
    by_cases hlt : k < s.size
    · have hix := run_ixs s k hlt
      have hno := fun h => lab_no (s := s) (j := k) hlt h
      obtain ⟨c, hc⟩ : ∃ c, byt s.data.toList k = c := ⟨_, rfl⟩
      have hle := byt_le s.data.toList k
      rw [hc] at hix hno hle
      have Hno := Lib.hid hno
      have next : labC c = true → ∀ j < k + 1, labC (byt s.data.toList j) = true := fun h j hj => by
        by_cases hjk : j = k
        · rw [hjk, hc]; exact h
        · exact hin j (by omega)
      have Next := Lib.hid next
      have hk0 : (0 : Int) ≤ (k : Int) := by omega
      clear hno next hin hc
      rcases (by omega : (97 ≤ c ∧ c ≤ 122) ∨ 122 < c ∨ (57 < c ∧ c < 97) ∨ (48 ≤ c ∧ c ≤ 57) ∨ (c < 48 ∧ c ≠ 45) ∨ c = 45) with h | h | h | h | h | h
      · have d0 : decide ((c : Int) < 97) = false := decide_eq_false (by omega)
        have d1 : decide (122 < (c : Int)) = false := decide_eq_false (by omega)
        have d2 : decide ((c : Int) < 48) = false := decide_eq_false (by omega)
        have d3 : decide (57 < (c : Int)) = true := decide_eq_true (by omega)
        go_wp2
        exact ⟨⟨k + 1, by omega, by go_num, Next.out (decide_eq_true (by omega))⟩, by simp [intOf]; omega⟩
      · have d0 : decide ((c : Int) < 97) = false := decide_eq_false (by omega)
        have d1 : decide (122 < (c : Int)) = true := decide_eq_true (by omega)
        have d2 : decide ((c : Int) < 48) = false := decide_eq_false (by omega)
        have d3 : decide (57 < (c : Int)) = true := decide_eq_true (by omega)
        have h45 : ¬ (c : Int) = 45 := by omega
        go_wp2
        go_ret
        exact ⟨by rw [Hno.out (decide_eq_false (by omega))]; rfl, rfl⟩
      · have d0 : decide ((c : Int) < 97) = true := decide_eq_true (by omega)
        have d1 : decide (122 < (c : Int)) = false := decide_eq_false (by omega)
        have d2 : decide ((c : Int) < 48) = false := decide_eq_false (by omega)
        have d3 : decide (57 < (c : Int)) = true := decide_eq_true (by omega)
        have h45 : ¬ (c : Int) = 45 := by omega
        go_wp2
        go_ret
        exact ⟨by rw [Hno.out (decide_eq_false (by omega))]; rfl, rfl⟩
      · have d0 : decide ((c : Int) < 97) = true := decide_eq_true (by omega)
        have d1 : decide (122 < (c : Int)) = false := decide_eq_false (by omega)
        have d2 : decide ((c : Int) < 48) = false := decide_eq_false (by omega)
        have d3 : decide (57 < (c : Int)) = false := decide_eq_false (by omega)
        go_wp2
        exact ⟨⟨k + 1, by omega, by go_num, Next.out (decide_eq_true (by omega))⟩, by simp [intOf]; omega⟩
      · have d0 : decide ((c : Int) < 97) = true := decide_eq_true (by omega)
        have d1 : decide (122 < (c : Int)) = false := decide_eq_false (by omega)
        have d2 : decide ((c : Int) < 48) = true := decide_eq_true (by omega)
        have d3 : decide (57 < (c : Int)) = false := decide_eq_false (by omega)
        have h45 : ¬ (c : Int) = 45 := by omega
        go_wp2
        go_ret
        exact ⟨by rw [Hno.out (decide_eq_false (by omega))]; rfl, rfl⟩
      · subst h
        go_wp2
        exact ⟨⟨k + 1, by omega, by go_num, Next.out (by decide)⟩, by simp [intOf]; omega⟩
    · have hks : k = s.size := by omega
      have hlab := Lib.hid (lab_yes (s := s) (by rw [← hks]; exact hin))
      clear hks hin
      by_cases h1 : 1 ≤ s.size
      · go_wp2
        go_ret
        exact ⟨by rw [hlab.out]; exact congrArg (fun x => Ending.returned (Value.bool x)) (by rw [Bool.eq_iff_iff]; simp; omega), rfl⟩
      · go_wp2
        go_ret
        exact ⟨by rw [hlab.out]; exact congrArg (fun x => Ending.returned (Value.bool x)) (by rw [Bool.eq_iff_iff]; simp; omega), rfl⟩
end Go.Proofs.Ytlofgjpnpfgpfaa
