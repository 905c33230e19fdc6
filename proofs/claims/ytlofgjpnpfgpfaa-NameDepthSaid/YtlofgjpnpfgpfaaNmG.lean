/- Rows of names: the same ones (SameNames), at most 30 (few), all but the last one (Parent), whether they lead through others (Below, both). -/
import Derived.Test.YtlofgjpnpfgpfaaNmF
namespace Go.Proofs.Ytlofgjpnpfgpfaa
open Go Go.RowKit Go.Proofs

theorem same_txt {ss tt : List ByteArray} (hl : ss.length = tt.length) (h : ∀ j < ss.length, txt ss j = txt tt j) : ss = tt := by
  apply List.ext_getElem? 
  intro j
  by_cases hj : j < ss.length
  · rw [txt_get hj, txt_get (by omega), h j hj]
  · rw [List.getElem?_eq_none (by omega), List.getElem?_eq_none (by omega)]

set_option maxRecDepth 10000 in
set_option maxHeartbeats 2000000 in
theorem same_any {w : World} {A B : Option Addr} {n c m d : Nat} {ss tt : List ByteArray} (h1 : StrSl w A n c ss) (h2 : StrSl w B m d tt) (r : Bool) (hr : decide (ss = tt) = r) :
    Calls Try.prog 15 #[.slice A n c, .slice B m d] w fun e w' => e = .returned (.bool r) ∧ Below w.heap.size w w' := by
  subst hr
  have hnc := h1.cap
  have hcm := h1.max
  have hmd := h2.cap
  have hdm := h2.max
  unfold maxLen at hcm hdm
  have l1 := h1.len
  have l2 := h2.len
  by_cases hnm : n = m
  · subst hnm
    have L1 := Lib.hid l1
    have L2 := Lib.hid l2
    clear l1 l2
    go_enter Try.func15, Try.ntmps15
    go_wp2_with fail
    go_loopw [5] (fun i wr => ∃ j : Nat, j ≤ n ∧ i = .int .i64 (j : Int) ∧ (∀ i < j, txt ss i = txt tt i) ∧ StrSl wr A n c ss ∧ StrSl wr B n d tt ∧ Below w.heap.size w wr) (fun i _ => n - (intOf i).toNat)
    case atStart => exact ⟨0, Nat.zero_le _, rfl, fun i hi => by omega, h1, h2, Below.refl _ _⟩
    case round =>
      clear h1 h2
      obtain ⟨j, hj, rfl, hin, h1, h2, hb⟩ := hrel
      have Hin := Lib.hid hin
      clear hin
      by_cases hlt : j < n
      · obtain ⟨ad, rfl, _, hc1, _⟩ := h1.cell hlt
        obtain ⟨ad2, rfl, _, hc2, _⟩ := h2.cell hlt
        have k1 : wr.drew.cell? (ad.add j) = some (.string (txt ss j)) := hc1
        have k2 : wr.drew.cell? (ad2.add j) = some (.string (txt tt j)) := hc2
        have hji : (j : Int) < (n : Int) := by omega
        have h3 := h1.drew 1
        have h4 := h2.drew 1
        have hb4 := hb.drew
        rw [show wr.drewN 1 = wr.drew from rfl] at h3 h4
        clear hc1 hc2 h1 h2 hb
        by_cases he : txt ss j = txt tt j
        · have Hn := Lib.hid (show ∀ i < j + 1, txt ss i = txt tt i from fun i hi => by
            by_cases hij : i < j
            · exact Hin.out i hij
            · obtain rfl : i = j := by omega
              exact he)
          rw [he] at k1
          clear he
          go_wp2_with fail
          go_region
          go_wp2
          exact ⟨⟨j + 1, by omega, by go_num, Hn.out, h3, h4, hb4⟩, by simp [intOf]; omega⟩
        · have Hf := Lib.hid (show decide (ss = tt) = false from decide_eq_false fun e => he (by rw [e]))
          have hbt : ((txt ss j).toList == (txt tt j).toList) = false := by
            rw [ByteArray.toList_eq, ByteArray.toList_eq]
            have : ¬ (txt ss j).data.toList = (txt tt j).data.toList := fun e => he ((mkS_data _).symm.trans ((congrArg mkS e).trans (mkS_data _)))
            simpa using this
          have hbn : ¬ (txt ss j).toList = (txt tt j).toList := by simpa using hbt
          clear he
          go_wp2_with fail
          go_region
          go_wp2
          go_ret
          rw [Hf.out]
          exact ⟨rfl, hb4⟩
      · have Hf := Lib.hid (show decide (ss = tt) = true from decide_eq_true (same_txt (by rw [L1.out, L2.out]) fun i hi => Hin.out i (by rw [L1.out] at hi; omega)))
        have hji : ¬ (j : Int) < (n : Int) := by omega
        go_wp2
        go_ret
        rw [Hf.out]
        exact ⟨rfl, hb⟩
  · have Hf := Lib.hid (show decide (ss = tt) = false from decide_eq_false fun e => hnm (by rw [← l1, ← l2, e]))
    have hb : ((n : Int) != (m : Int)) = true := by simp; omega
    clear l1 l2 hnm
    go_enter Try.func15, Try.ntmps15
    go_wp2
    go_ret
    rw [Hf.out]
    exact ⟨rfl, Below.refl _ _⟩
end Go.Proofs.Ytlofgjpnpfgpfaa
