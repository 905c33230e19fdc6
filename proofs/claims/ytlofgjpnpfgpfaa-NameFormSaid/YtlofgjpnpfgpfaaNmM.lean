/- The laws NameForm and NameBack: for every input they return true, and what came in reads as it did. -/
import Derived.Test.YtlofgjpnpfgpfaaNmJ
namespace Go.Proofs.Ytlofgjpnpfgpfaa
open Go Go.RowKit Go.Proofs

/-! ### plain facts -/
theorem emp_data : emp.data.toList = [] := rfl
theorem splitR_cases (ps : List ByteArray) : (∃ v, v ≠ 0 ∧ splitR ps = (emp, [], v)) ∨ (splitR ps = (txt ps 0, ps.drop 1, 0) ∧ labL (txt ps 0) = true ∧ vAll (ps.drop 1) = 0) := by
  unfold splitR
  rcases hl : labL (txt ps 0) with _ | _
  · exact .inl ⟨12, by decide, by simp⟩
  · by_cases hv : vAll (ps.drop 1) = 0
    · exact .inr ⟨by rw [if_neg (by simp), if_pos hv], rfl, hv⟩
    · exact .inl ⟨_, hv, by rw [if_neg (by simp), if_neg hv]⟩
theorem data_of_pre {s : ByteArray} (h : Lib.hasPrefix s.data.toList [47] = true) : s.data.toList = 47 :: s.data.toList.drop 1 := by
  have h2 := (pre_iff s).1 h
  have h3 : byt s.data.toList 0 = 47 := h2.2
  have hl : 0 < s.data.toList.length := by simpa using h2.1
  rw [byt_get hl] at h3
  conv => lhs; rw [← List.drop_zero (l := s.data.toList), List.drop_eq_getElem_cons hl]
  rw [UInt8.toNat_inj.1 (show (s.data.toList[0]).toNat = (47 : UInt8).toNat from h3)]
theorem cutS_parts (s : ByteArray) : ∃ h t, cutS s = h :: t ∧ s.data.toList = h.data.toList ++ ((t.map fun n => n.data.toList).map fun n => (47 : UInt8) :: n).flatten := by
  obtain ⟨h, t, e⟩ : ∃ h t, cutA [] s.data.toList = h :: t := by
    have := (cutA_len s.data.toList []).2
    rcases hc : cutA [] s.data.toList with _ | ⟨x, y⟩
    · rw [hc] at this; simp at this
    · exact ⟨x, y, rfl⟩
  refine ⟨mkS h, t.map mkS, by unfold cutS; rw [e]; rfl, ?_⟩
  have h2 := joined_cutA _ _ _ _ e
  rw [List.nil_append] at h2
  have h3 : (t.map mkS).map (fun n : ByteArray => n.data.toList) = t := by
    rw [List.map_map]
    have : ((fun n : ByteArray => n.data.toList) ∘ mkS) = id := by funext p; rfl
    rw [this, List.map_id]
  rw [h3]
  exact h2
/-- What Split tells: an error, and nothing; or names that are valid, and the path put together again. -/
theorem splitP_cases (s : ByteArray) {a : ByteArray} {l : List ByteArray} {v : Int} (h : splitP s = (a, l, v)) : (v ≠ 0 ∧ a = emp ∧ l = []) ∨ (v = 0 ∧ s.size ≤ 200 ∧ (∀ x ∈ l, validE x = 0) ∧ joinS a l = s) := by
  rcases Nat.lt_or_ge 200 s.size with h20 | h20
  · rw [splitP_long h20] at h
    injection h with h1 h2; injection h2 with h2 h3
    exact .inl ⟨by omega, h1.symm, h2.symm⟩
  · rcases hpre : Lib.hasPrefix s.data.toList [47] with _ | _
    · rw [splitP_no h20 hpre] at h
      injection h with h1 h2; injection h2 with h2 h3
      exact .inl ⟨by omega, h1.symm, h2.symm⟩
    · have hd := data_of_pre hpre
      by_cases h1 : s.size = 1
      · rw [splitP_root hpre h1] at h
        injection h with h1 h2; injection h2 with h2 h3
        subst h1 h2 h3
        refine .inr ⟨rfl, h20, by simp, ?_⟩
        refine (congrArg mkS ?_).trans (mkS_data s)
        rw [hd, List.drop_eq_nil_of_le (by have : s.data.toList.length = s.size := by simp
                                           omega)]
        rfl
      · rw [splitP_cut h20 hpre h1] at h
        rcases splitR_cases (cutS (mkS (s.data.toList.drop 1))) with ⟨v', hv, e⟩ | ⟨e, _, hv⟩
        · rw [e] at h
          injection h with h1 h2; injection h2 with h2 h3
          exact .inl ⟨by rw [← h3]; exact hv, h1.symm, h2.symm⟩
        · rw [e] at h
          injection h with h1 h2; injection h2 with h2 h3
          refine .inr ⟨h3.symm, h20, by rw [← h2]; exact vAll_zero hv, ?_⟩
          obtain ⟨p, t, ec, ed⟩ := cutS_parts (mkS (s.data.toList.drop 1))
          rw [ec] at h1 h2
          rw [data_mkS] at ed
          have e1 : a = p := h1.symm
          have e2 : l = t := h2.symm
          subst e1 e2
          refine (congrArg mkS ?_).trans (mkS_data s)
          rw [hd]
          unfold joinL
          rw [← ed]
theorem no_slash_lab {s : ByteArray} (h : labL s = true) : (∀ b ∈ s.data.toList, b ≠ 47) ∧ 1 ≤ s.size ∧ s.size ≤ 10 := by
  unfold labL at h
  rw [Bool.and_eq_true] at h
  have h2 := of_decide_eq_true h.2
  refine ⟨fun b hb => ?_, h2⟩
  obtain ⟨j, hj, rfl⟩ := List.getElem_of_mem hb
  have h3 := h.1
  unfold labA at h3
  rw [List.all_eq_true] at h3
  have h4 := h3 j (List.mem_range.2 (by simpa using hj))
  rw [byt_get hj] at h4
  intro e
  rw [e] at h4
  exact absurd h4 (by decide)
theorem no_slash_name {s : ByteArray} (h : validE s = 0) : ∀ b ∈ s.data.toList, b ≠ 47 := fun b hb => by
  obtain ⟨j, hj, rfl⟩ := List.getElem_of_mem hb
  have h2 := (validE_zero h).2.1 j (by simpa using hj)
  rw [byt_get hj] at h2
  intro e
  rw [e] at h2
  exact h2 (.inr rfl)
/-- What was put together is cut as it was. -/
theorem splitP_joined {label : ByteArray} {l : List ByteArray} (hl : labL label = true) (hv : ∀ x ∈ l, validE x = 0) (hs : (joinS label l).size ≤ 200) : splitP (joinS label l) = (label, l, 0) := by
  have hb := no_slash_lab hl
  have hd : (joinS label l).data.toList = 47 :: (label.data.toList ++ ((l.map fun n => n.data.toList).map fun n => (47 : UInt8) :: n).flatten) := rfl
  have hpre : Lib.hasPrefix (joinS label l).data.toList [47] = true := by rw [hd]; rfl
  have h1 : (joinS label l).size ≠ 1 := by rw [joinS_size]; omega
  rw [splitP_cut hs hpre h1]
  have hcut : cutS (mkS ((joinS label l).data.toList.drop 1)) = label :: l := by
    unfold cutS
    rw [data_mkS, hd, List.drop_succ_cons, List.drop_zero, cutA_joined _ _ _ hb.1 (by
      intro n hn
      obtain ⟨x, hx, rfl⟩ := List.mem_map.1 hn
      exact no_slash_name (hv x hx)), List.map_cons, List.nil_append, List.map_map]
    have : (mkS ∘ fun n : ByteArray => n.data.toList) = id := by funext p; rfl
    rw [this, List.map_id]
    rfl
  rw [hcut]
  rw [splitR_ok (ps := label :: l) hl fun i hi => hv _ (by
    have e : txt (label :: l) (i + 1) = txt l i := by unfold txt; simp
    rw [e]
    exact txt_mem (by simpa using hi))]
  rfl
theorem sum_len (l : List ByteArray) : l.length ≤ (l.map fun x => x.size + 1).sum := by
  induction l with
  | nil => simp
  | cons x r ih => simp only [List.map_cons, List.sum_cons, List.length_cons]; omega
theorem joined_small {label : ByteArray} {l : List ByteArray} (hl : labL label = true) (hv : ∀ x ∈ l, validE x = 0) (hn : l.length ≤ 30) : (joinS label l).size ≤ 1000 := by
  have hb := (no_slash_lab hl).2.2
  rw [joinS_size]
  have : ∀ l : List ByteArray, (∀ x ∈ l, validE x = 0) → (l.map fun x => x.size + 1).sum ≤ 21 * l.length := by
    intro l
    induction l with
    | nil => intro _; simp
    | cons x r ih =>
      intro h
      have h1 := (validE_zero (h x (by simp))).1
      have h2 := ih fun y hy => h y (by simp [hy])
      simp only [List.map_cons, List.sum_cons, List.length_cons]
      omega
  have := this l hv
  omega

set_option maxRecDepth 10000 in
set_option maxHeartbeats 4000000 in
theorem nameForm_walk (s : ByteArray) (w : World) (hm : s.size ≤ maxLen) :
    Calls Try.prog 7 #[.string s] w fun e w' => e = .returned (.bool true) ∧ Below w.heap.size w w' := by
  obtain ⟨⟨a, l, v⟩, hx⟩ : ∃ x, splitP s = x := ⟨_, rfl⟩
  have hcs := splitP_cases s hx
  have hsp := csplit_any s _ hx hm
  have Hsp := Lib.hid hsp
  clear hx hsp
  go_enter Try.func7, Try.ntmps7
  go_wp2_with fail
  refine (shown14_any w).mono ?_
  rintro e w1 ⟨rfl, b1⟩
  go_wp2_with fail
  refine (Hsp.out w1).mono ?_
  rintro e w2 ⟨A, n, c, rfl, r1, b2⟩
  have b02 := b1.trans (b2.mono b1.size)
  dsimp only at r1 ⊢
  rcases hcs with ⟨hv, rfl, rfl⟩ | ⟨rfl, h200, hok, hj⟩
  · obtain rfl : n = 0 := r1.len.symm
    have hv0 : (v != 0) = true := by simpa using hv
    have hv1 : ¬ v = 0 := hv
    have he : emp.toList.isEmpty = true := nil_yes rfl
    clear hv
    go_wp2
    go_ret
    exact ⟨rfl, b02⟩
  · have Hok := Lib.hid hok
    have Hj := Lib.hid hj
    have Hl := Lib.hid r1.len
    have hnc := r1.cap
    have hcm := r1.max
    have hn : n ≤ 200 := by
      have h1 := joinS_size a l
      rw [hj] at h1
      have h2 := sum_len l
      have := Hl.out
      omega
    have ham : a.size ≤ 200 := by
      have h1 := joinS_size a l
      rw [hj] at h1
      omega
    unfold maxLen at hcm
    clear hok hj
    go_wp2_with fail
    go_loopw [7] (fun i wr => ∃ j : Nat, j ≤ n ∧ i = .int .i64 (j : Int) ∧ StrSl wr A n c l ∧ Below w.heap.size w wr) (fun i _ => n - (intOf i).toNat)
    case atStart => exact ⟨0, Nat.zero_le _, rfl, r1, b02⟩
    case round =>
      clear r1 b02
      obtain ⟨j, hj, rfl, r1, b02⟩ := hrel
      by_cases hlt : j < n
      · obtain ⟨ad, rfl, _, hc1, hz1⟩ := r1.cell hlt
        have hji : (j : Int) < (n : Int) := by omega
        have hva := Hok.out (txt l j) (txt_mem (by rw [Hl.out]; exact hlt))
        have Hva := Lib.hid hva
        clear hva
        go_wp2_with (go_at_call 11; refine (cvalid_any _ 0 Hva.out hz1 _).mono ?_; rintro e w4 ⟨rfl, b4⟩)
        have r4 := r1.below b4
        have b04 := b02.trans (b4.mono b02.size)
        clear hc1 r1 b4
        exact ⟨⟨j + 1, by omega, by go_num, r4, b04⟩, by simp [intOf]; omega⟩
      · have hji : ¬ (j : Int) < (n : Int) := by omega
        go_wp2_with (go_at_call 18; refine (cjoin_any r1 a s Hj.out (by omega) (by unfold maxLen; omega) (by omega)).mono ?_; rintro e w4 ⟨rfl, b4⟩)
        go_ret
        exact ⟨by simp, b02.trans (b4.mono b02.size)⟩

set_option maxRecDepth 10000 in
set_option maxHeartbeats 4000000 in
theorem nameBack_walk (s0 : ByteArray) (A0 : Option Addr) (n0 c0 : Nat) (ss0 : List ByteArray) (w : World) (hm : s0.size ≤ maxLen) (h0 : StrSl w A0 n0 c0 ss0) :
    Calls Try.prog 6 #[.string s0, .slice A0 n0 c0] w fun e w' => e = .returned (.bool true) ∧ Below w.heap.size w w' := by
  go_enter Try.func6, Try.ntmps6
  go_wp2_with fail
  refine (shown14_any w).mono ?_
  rintro e w1 ⟨rfl, b1⟩
  replace h0 := h0.below b1
  go_wp2_with fail
  refine (few_any h0).mono ?_
  rintro e w2 ⟨n, rfl, hn, r1, rfl⟩
  clear h0
  generalize fewS ss0 = l at r1
  obtain ⟨may, hmay⟩ : ∃ r, labL s0 = r := ⟨_, rfl⟩
  go_wp2_with fail
  refine (reflabel_any s0 may hmay w1 hm).mono ?_
  rintro e w2 ⟨rfl, rfl⟩
  have Hl := Lib.hid r1.len
  have hnc := r1.cap
  have hcm := r1.max
  unfold maxLen at hcm hm
  have Hmay := Lib.hid hmay
  clear hmay
  go_wp2_with fail
  go_loopw [6, 7] (fun m i wr => ∃ (j : Nat) (r : Bool), j ≤ n ∧ m = .bool r ∧ i = .int .i64 (j : Int) ∧ (r = true → labL s0 = true ∧ ∀ i < j, validE (txt l i) = 0) ∧ StrSl wr A0 n c0 l ∧ Below w.heap.size w wr) (fun _ i _ => n - (intOf i).toNat)
  case atStart => exact ⟨0, may, Nat.zero_le _, rfl, rfl, fun h => ⟨Hmay.out.trans h, fun i hi => by omega⟩, r1, b1⟩
  case round =>
    clear r1 b1
    obtain ⟨j, r, hj, rfl, rfl, hin, r1, b1⟩ := hrel
    have Hin := Lib.hid hin
    clear hin
    by_cases hlt : j < n
    · have hji : (j : Int) < (n : Int) := by omega
      cases r with
      | false =>
        go_wp2
        exact ⟨⟨j + 1, false, by omega, rfl, by go_num, fun h => absurd h (by simp), r1, b1⟩, by simp [intOf]; omega⟩
      | true =>
        obtain ⟨ad, rfl, _, hc1, hz1⟩ := r1.cell hlt
        obtain ⟨v, hv⟩ : ∃ v, validE (txt l j) = v := ⟨_, rfl⟩
        have Hn := Lib.hid (show v = 0 → ∀ i < j + 1, validE (txt l i) = 0 from fun h i hi => by
          by_cases hij : i < j
          · exact (Hin.out (by first | rfl | trivial)).2 i hij
          · obtain rfl : i = j := by omega
            exact hv.trans h)
        have Hv := Lib.hid hv
        clear hv
        go_wp2_with (go_at_call 11; refine (cvalid_any _ v Hv.out hz1 _).mono ?_; rintro e w4 ⟨rfl, b4⟩)
        have r4 := r1.below b4
        have b04 := b1.trans (b4.mono b1.size)
        exact ⟨⟨j + 1, v == 0, by omega, rfl, by go_num, fun h => ⟨(Hin.out (by first | rfl | trivial)).1, Hn.out (by simpa using h)⟩, r4, b04⟩, by simp [intOf]; omega⟩
    · have hji : ¬ (j : Int) < (n : Int) := by omega
      cases r with
      | false =>
        go_wp2
        go_ret
        exact ⟨rfl, b1⟩
      | true =>
        obtain ⟨hlab, hva⟩ := Hin.out (by first | rfl | trivial)
        have hva2 : ∀ x ∈ l, validE x = 0 := fun x hx => by
          obtain ⟨i, hi, rfl⟩ := List.getElem_of_mem hx
          have h1 := txt_get hi
          rw [List.getElem?_eq_getElem hi] at h1
          injection h1 with h1
          rw [h1]
          exact hva i (by rw [Hl.out] at hi; omega)
        have hsm := joined_small hlab hva2 (by rw [Hl.out]; exact hn)
        have hsp := fun h => splitP_joined hlab hva2 h
        have hlong := fun h => splitP_long (s := joinS s0 l) h
        obtain ⟨s, hs⟩ : ∃ s, joinS s0 l = s := ⟨_, rfl⟩
        rw [hs] at hsm hsp hlong
        have Hs := Lib.hid hs
        have hls := (no_slash_lab hlab).2.2
        clear hs hva hva2 hlab
        by_cases h200 : s.size ≤ 200
        · have Hsp := Lib.hid (csplit_any s _ (hsp h200) (by unfold maxLen; omega))
          clear hsp hlong
          go_wp2_with (go_at_call 18; refine (cjoin_any r1 s0 s Hs.out (by omega) (by unfold maxLen; omega) (by omega)).mono ?_; rintro e w4 ⟨rfl, b4⟩)
          refine (Hsp.out w4).mono ?_
          rintro e w5 ⟨B, m, d, rfl, r2, b5⟩
          have b04 := b1.trans (b4.mono b1.size)
          have b05 := b04.trans (b5.mono b04.size)
          have r1' := (r1.below b4).below b5
          dsimp only at r2 ⊢
          clear r1
          have hgt : ¬ (200 : Int) < (s.size : Int) := by omega
          go_wp2_with fail
          refine (same_any r1' r2 true (decide_eq_true rfl)).mono ?_
          rintro e w6 ⟨rfl, b6⟩
          go_wp2
          go_ret
          exact ⟨by simp, b05.trans (b6.mono b05.size)⟩
        · have Hsp := Lib.hid (csplit_any s _ (hlong (by omega)) (by unfold maxLen; omega))
          clear hsp hlong
          have hgt : (200 : Int) < (s.size : Int) := by omega
          have he : emp.toList.isEmpty = true := nil_yes rfl
          go_wp2_with (go_at_call 18; refine (cjoin_any r1 s0 s Hs.out (by omega) (by unfold maxLen; omega) (by omega)).mono ?_; rintro e w4 ⟨rfl, b4⟩)
          refine (Hsp.out w4).mono ?_
          rintro e w5 ⟨B, m, d, rfl, r2, b5⟩
          have b04 := b1.trans (b4.mono b1.size)
          have b05 := b04.trans (b5.mono b04.size)
          dsimp only at r2 ⊢
          obtain rfl : m = 0 := r2.len.symm
          go_wp2
          go_ret
          exact ⟨rfl, b05⟩
end Go.Proofs.Ytlofgjpnpfgpfaa
