/- The reference's Split. -/
import Derived.Test.YtlofgjpnpfgpfaaNmE
namespace Go.Proofs.Ytlofgjpnpfgpfaa
open Go Go.RowKit Go.Proofs

theorem ext_one (s : ByteArray) : s.extract 1 s.size = mkS (s.data.toList.drop 1) := by
  refine (mkS_data _).symm.trans (congrArg mkS ?_)
  rw [extract_data]
  exact List.take_of_length_le (by simp)
theorem nil_yes {s : ByteArray} (h : s.size = 0) : s.toList.isEmpty = true := by
  rw [ByteArray.toList_eq]
  have : s.data.toList.length = 0 := by simpa using h
  rw [List.eq_nil_of_length_eq_zero this]; rfl
theorem nil_no {s : ByteArray} (h : 0 < s.size) : s.toList.isEmpty = false := by
  rw [ByteArray.toList_eq]
  have : s.data.toList.length ≠ 0 := by rw [show s.data.toList.length = s.size by simp]; omega
  rcases hd : s.data.toList with _ | _
  · rw [hd] at this; simp at this
  · rfl
theorem root_iff (s : ByteArray) : (s.toList == [47]) = true ↔ (s.size = 1 ∧ byt s.data.toList 0 = 47) := by
  rw [ByteArray.toList_eq, show s.size = s.data.toList.length by simp]
  rcases s.data.toList with _ | ⟨b, _ | ⟨b2, r⟩⟩
  · simp
  · have : (b.toNat = 47) ↔ b = 47 := ⟨fun h => UInt8.toNat_inj.1 (by rw [h]; rfl), fun h => by rw [h]; rfl⟩
    simp [byt, this]
  · simp

set_option maxRecDepth 10000 in
set_option maxHeartbeats 4000000 in
theorem rsplit_any (s : ByteArray) (x : ByteArray × List ByteArray × Int) (hx : splitP s = x) (hm : s.size ≤ maxLen) (w : World) : Calls Try.prog 14 #[.string s] w (SplitSays x w) := by
  subst hx
  unfold maxLen at hm
  rcases Nat.lt_or_ge 200 s.size with h20 | h20
  · rw [splitP_long h20]
    go_enter Try.func14, Try.ntmps14
    go_wp2
    go_ret3
    exact splitSays_none (Below.refl _ _)
  · rcases hpre : Lib.hasPrefix s.data.toList [47] with _ | _
    · rw [splitP_no h20 hpre]
      have hno : ¬ (0 < s.size ∧ byt s.data.toList 0 = 47) := fun h => by rw [(pre_iff s).2 h] at hpre; cases hpre
      rcases Nat.eq_zero_or_pos s.size with h0 | h0
      · have e1 := nil_yes h0
        clear hno hpre h0
        go_enter Try.func14, Try.ntmps14
        go_wp2
        go_ret3
        exact splitSays_none (Below.refl _ _)
      · have e1 := nil_no h0
        have hix : ∀ w, (Instr.index 9 (.string s) (.int .i64 0)).run Try.prog w = .ok (.int .u8 (byt s.data.toList 0 : Int)) w := fun w => run_ixs s 0 h0 w
        have h47 : ((byt s.data.toList 0 : Int) != 47) = true := by simp; omega
        clear hno hpre
        generalize byt s.data.toList 0 = ch at hix h47
        go_enter Try.func14, Try.ntmps14
        go_wp2
        go_ret3
        exact splitSays_none (Below.refl _ _)
    · have hyes := (pre_iff s).1 hpre
      have e1 := nil_no hyes.1
      have hix : ∀ w, (Instr.index 9 (.string s) (.int .i64 0)).run Try.prog w = .ok (.int .u8 47) w := fun w => by
        have h := run_ixs s 0 hyes.1 w
        rw [hyes.2] at h
        exact h
      by_cases h1 : s.size = 1
      · rw [splitP_root hpre h1]
        have e2 : (s.toList == [47]) = true := (root_iff s).2 ⟨h1, hyes.2⟩
        clear hyes hpre h1
        go_enter Try.func14, Try.ntmps14
        go_wp2
        go_ret3
        exact splitSays_none (Below.refl _ _)
      · rw [splitP_cut h20 hpre h1]
        have e2 : (s.toList == [47]) = false := by
          rcases h : (s.toList == [47]) with _ | _
          · rfl
          · exact absurd ((root_iff s).1 h).1 h1
        have hz : (mkS (s.data.toList.drop 1)).size ≤ 199 := by rw [size_mkS, List.length_drop]; simp; omega
        obtain ⟨rest, hrest⟩ : ∃ rest, mkS (s.data.toList.drop 1) = rest := ⟨_, rfl⟩
        rw [hrest] at hz ⊢
        have hext : s.extract 1 s.size = rest := (ext_one s).trans hrest
        have h1s : (1 : Int) ≤ (s.size : Int) := by omega
        clear h1 hrest hyes hpre
        go_enter Try.func14, Try.ntmps14
        go_wp2_with (first
          | (go_at_call 26; refine (rparts_any rest (by omega) _).mono ?_; rintro e w2 ⟨A, n, c, rfl, own, b2⟩)
          | fail)
        have hpl := cutS_len rest
        have hsm := cutS_size rest
        rw [own.len] at hpl
        have sl := own.sl (fun p hp => by have := hsm p hp; unfold maxLen; omega)
        have hp20 : ∀ p ∈ cutS rest, p.size ≤ 199 := fun p hp => by have := hsm p hp; omega
        obtain ⟨g, c', hv, hnc, hcm⟩ := owns_form own (by omega)
        injection hv with hv1 hv2 hv3
        subst hv1 hv3
        clear hsm own
        obtain ⟨ps, hps⟩ : ∃ ps, cutS rest = ps := ⟨_, rfl⟩
        rw [hps] at sl hp20
        have Hcs := Lib.hid hps
        have hcell : ∀ j, j < n → w2.cell? ⟨g, j, none⟩ = some (.string (txt ps j)) := fun j hj => by
          obtain ⟨ad, had, _, h, _⟩ := sl.cell hj
          injection had with had
          subst had
          have : (⟨g, 0, none⟩ : Addr).add j = ⟨g, j, none⟩ := by rw [Addr.add_mid, Nat.zero_add]
          rw [this] at h
          exact h
        have Hcell := Lib.hid hcell
        have hc0 := hcell 0 (by omega)
        clear hps hcell
        unfold maxLen at hcm
        have h0n : 0 < n := by omega
        have sd := sl.drop (k := 1) (by omega)
        have Hp20 := Lib.hid hp20
        have hpz := hp20 _ (txt_mem (ss := ps) (k := 0) (by rw [sl.len]; omega))
        obtain ⟨A2, hA2⟩ : ∃ A2 : Option Addr, (if c = 1 then some ⟨g, 0, none⟩ else some ⟨g, 1, none⟩) = A2 := ⟨_, rfl⟩
        have hA3 : (if c = 1 then some (⟨g, 0, none⟩ : Addr) else Option.map (fun x : Addr => x.add 1) (some (⟨g, 0, none⟩ : Addr))) = A2 := hA2
        rw [hA3] at sd
        have Hlen := Lib.hid sl.len
        have hn1 : (1 : Int) ≤ (n : Int) := by omega
        have hc1 : (1 : Int) ≤ (c : Int) := by omega
        clear hA3 sl hp20
        rcases hlab : labL (txt ps 0) with _ | _
        · have Hr := Lib.hid (splitR_lab hlab)
          go_wp2_with (go_at_call 22; refine (reflabel_any (txt ps 0) false hlab _ (by unfold maxLen; omega)).mono ?_; rintro e w4 ⟨rfl, rfl⟩)
          go_ret3
          rw [Hcs.out, Hr.out]
          exact splitSays_none b2
        · go_wp2_with (go_at_call 22; refine (reflabel_any (txt ps 0) true hlab _ (by unfold maxLen; omega)).mono ?_; rintro e w4 ⟨rfl, rfl⟩)
          go_loopw [7] (fun i wr => ∃ j : Nat, j + 1 ≤ n ∧ i = .int .i64 ((j + 1 : Nat) : Int) ∧ (∀ i < j, validE (txt ps (i + 1)) = 0) ∧ wr = w2) (fun i _ => n - (intOf i).toNat)
          case atStart => exact ⟨0, by omega, rfl, fun i hi => by omega, rfl⟩
          case round =>
            obtain ⟨j, hj, rfl, hok, rfl⟩ := hrel
            have Hok := Lib.hid hok
            clear hok
            by_cases hlt : j + 1 < n
            · obtain ⟨J, hJ⟩ : ∃ J, j + 1 = J := ⟨_, rfl⟩
              have hcell := Hcell.out J (by omega)
              have hsz := Hp20.out _ (txt_mem (ss := ps) (k := J) (by rw [Hlen.out]; omega))
              have hJn : J < n := by omega
              have hJi : (J : Int) < (n : Int) := by omega
              by_cases hv : validE (txt ps J) = 0
              · have Hn := Lib.hid (show ∀ i < J, validE (txt ps (i + 1)) = 0 from fun i hi => by
                  by_cases hij : i < j
                  · exact Hok.out i hij
                  · obtain rfl : i = j := by omega
                    rw [hJ]; exact hv)
                have Hv := Lib.hid hv
                rw [hJ]
                have HJ := Lib.hid hJ
                clear hv hJ
                go_wp2_with (go_at_call 12; refine (rvalid_any _ 0 Hv.out (by unfold maxLen; omega) _).mono ?_; rintro e w4 ⟨rfl, rfl⟩)
                exact ⟨⟨J, by omega, by go_num, Hn.out, trivial⟩, by simp [intOf]; omega⟩
              · have hr := splitR_bad hlab (j := j) (by rw [Hlen.out]; omega) Hok.out (by rw [hJ]; exact hv)
                obtain ⟨v, hve⟩ : ∃ v, validE (txt ps J) = v := ⟨_, rfl⟩
                rw [hJ, hve] at hr
                rw [hve] at hv
                have Hr := Lib.hid hr
                have Hve := Lib.hid hve
                have hv0 : (v != 0) = true := by simpa using hv
                rw [hJ]
                clear hve hv hJ hr
                go_wp2_with (go_at_call 12; refine (rvalid_any _ v Hve.out (by unfold maxLen; omega) _).mono ?_; rintro e w4 ⟨rfl, rfl⟩)
                go_ret3
                rw [Hcs.out, Hr.out]
                exact splitSays_none b2
            · have Hr := Lib.hid (splitR_ok hlab (fun i hi => Hok.out i (by rw [Hlen.out] at hi; omega)))
              obtain ⟨J, hJ⟩ : ∃ J, j + 1 = J := ⟨_, rfl⟩
              rw [hJ]
              have hJi : ¬ (J : Int) < (n : Int) := by omega
              have hc0N : wr.drew.cell? ⟨g, 0, none⟩ = some (.string (txt ps 0)) := hc0
              have sd2 := sd.drew 1
              rw [show wr.drewN 1 = wr.drew from rfl] at sd2
              have b3 := b2.drew
              have HJ := Lib.hid hJ
              clear hJ hc0
              go_wp2_with fail
              go_region
              go_wp2
              go_ret3
              rw [Hcs.out, Hr.out]
              exact ⟨_, _, _, rfl, sd2, b3⟩
end Go.Proofs.Ytlofgjpnpfgpfaa
