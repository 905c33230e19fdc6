/- Rows of names: at most 30 (few), whether they lead through others (Below, both). -/
import Derived.Test.YtlofgjpnpfgpfaaNmG
namespace Go.Proofs.Ytlofgjpnpfgpfaa
open Go Go.RowKit Go.Proofs

theorem StrSl.plain {w : World} {A : Option Addr} {n c : Nat} {ss : List ByteArray} (h : StrSl w A n c ss) (h0 : 0 < n) : ∃ g o, A = some ⟨g, o, none⟩ ∧ g < w.heap.size ∧ ∀ j, j < n → w.cell? ⟨g, o + j, none⟩ = some (.string (txt ss j)) := by
  obtain ⟨⟨g, o, sp⟩, rfl, hb, hc, _⟩ := h.cell h0
  have hsp : sp = none := by simpa [Addr.add] using World.cell?_spot hc
  subst hsp
  refine ⟨g, o, rfl, ?_, fun j hj => ?_⟩
  · simpa [Addr.add] using hb
  · obtain ⟨ad, had, _, h2, _⟩ := h.cell hj
    injection had with had
    subst had
    rw [Addr.add_mid] at h2
    exact h2
theorem strsl_lit (w : World) (e : TypeId) (ss : List ByteArray) (cs : Array Value) (h : cs.toList = ss.map Value.string) (hn : ss.length ≤ 1000) (hs : ∀ s ∈ ss, s.size ≤ maxLen) : StrSl (w.alloc (.cells cs e)) (some ⟨w.heap.size, 0, none⟩) ss.length ss.length ss := by
  refine ⟨⟨by simp, Nat.le_refl _, by unfold maxLen; omega, fun j u hu => ?_⟩, hs⟩
  refine ⟨_, rfl, by simp, ?_⟩
  rw [newCell, ← h] at *
  rw [← hu]
  simp
/-- The first 30. -/
def fewS (ss : List ByteArray) : List ByteArray := ss.take 30
theorem fewS_len (ss : List ByteArray) : (fewS ss).length ≤ 30 := by unfold fewS; rw [List.length_take]; omega
set_option maxHeartbeats 1000000 in
theorem few_any {w : World} {A : Option Addr} {n c : Nat} {ss : List ByteArray} (h : StrSl w A n c ss) :
    Calls Try.prog 16 #[.slice A n c] w fun e w' => ∃ m, e = .returned (.slice A m c) ∧ m ≤ 30 ∧ StrSl w A m c (fewS ss) ∧ w = w' := by
  have hnc := h.cap
  have hcm := h.max
  unfold maxLen at hcm
  have Hl := Lib.hid h.len
  rcases Nat.lt_or_ge 30 n with h30 | h30
  · have h2 := h.take (k := 30) (by omega)
    have hn : (30 : Int) < (n : Int) := by omega
    have hc : (30 : Int) ≤ (c : Int) := by omega
    go_enter Try.func16, Try.ntmps16
    go_wp2
    go_ret
    exact ⟨30, rfl, by omega, h2, rfl⟩
  · have hn : ¬ (30 : Int) < (n : Int) := by omega
    go_enter Try.func16, Try.ntmps16
    go_wp2
    go_ret
    refine ⟨n, rfl, by omega, ?_, rfl⟩
    unfold fewS
    rw [List.take_of_length_le (by rw [Hl.out]; omega)]
    exact h

/-- Whether names lead through others. -/
def lead (ss tt : List ByteArray) : Bool := decide (tt.length < ss.length ∧ ss.take tt.length = tt)
set_option maxRecDepth 10000 in
set_option maxHeartbeats 2000000 in
theorem cbelow_any {w : World} {A B : Option Addr} {n c m d : Nat} {ss tt : List ByteArray} (h1 : StrSl w A n c ss) (h2 : StrSl w B m d tt) (r : Bool) (hr : lead ss tt = r) :
    Calls Try.prog 20 #[.slice A n c, .slice B m d] w fun e w' => e = .returned (.bool r) ∧ Below w.heap.size w w' := by
  subst hr
  have hnc := h1.cap
  have hcm := h1.max
  have hmd := h2.cap
  have hdm := h2.max
  unfold maxLen at hcm hdm
  have l1 := h1.len
  have l2 := h2.len
  by_cases hmn : m < n
  · have hgt : (m : Int) < (n : Int) := by omega
    have hmc : (m : Int) ≤ (c : Int) := by omega
    have h0m : (0 : Int) ≤ (m : Int) := by omega
    rcases Nat.eq_zero_or_pos m with h0 | h0
    · subst h0
      have ht : tt = [] := List.eq_nil_of_length_eq_zero l2
      have Hf := Lib.hid (show lead ss tt = true from decide_eq_true ⟨by rw [l1, l2]; omega, by rw [ht]; rfl⟩)
      clear l1 l2 ht
      go_enter Try.func20, Try.ntmps20
      go_wp2_with (go_at_call 29; refine (sh_slices_Equal_string_empty _ _ _ _ _ _ (by omega)).mono ?_; rintro e w2 ⟨rfl, rfl⟩)
      go_ret
      rw [Hf.out]
      exact ⟨rfl, Below.refl _ _⟩
    · obtain ⟨g, o, rfl, _, k1⟩ := h1.plain (by omega)
      obtain ⟨g2, o2, rfl, _, k2⟩ := h2.plain h0
      have Hf := Lib.hid (show decide (ss.take m = tt.take m) = lead ss tt from by
        unfold lead
        rw [l1, l2, List.take_of_length_le (l := tt) (by omega)]
        exact decide_eq_decide.2 ⟨fun h => ⟨hmn, h⟩, fun h => h.2⟩)
      go_enter Try.func20, Try.ntmps20
      go_wp2_with (go_at_call 29; refine (sh_slices_Equal_string g o m c g2 o2 m d ss tt _ (by omega) (by omega) (by omega) (by omega) (fun j hj => k1 j (by omega)) (fun j hj => k2 j (by omega))).mono ?_; rintro e w2 ⟨rfl, q, rfl⟩; rw [Hf.out])
      go_ret
      exact ⟨rfl, below_drewN (Below.refl _ _) _⟩
  · have Hf := Lib.hid (show lead ss tt = false from decide_eq_false fun e => hmn (by rw [← l1, ← l2]; exact e.1))
    have hgt : ¬ (m : Int) < (n : Int) := by omega
    clear l1 l2
    go_enter Try.func20, Try.ntmps20
    go_wp2
    go_ret
    rw [Hf.out]
    exact ⟨rfl, Below.refl _ _⟩

set_option maxRecDepth 10000 in
set_option maxHeartbeats 2000000 in
theorem rbelow_any {w : World} {A B : Option Addr} {n c m d : Nat} {ss tt : List ByteArray} (h1 : StrSl w A n c ss) (h2 : StrSl w B m d tt) (r : Bool) (hr : lead ss tt = r) :
    Calls Try.prog 21 #[.slice A n c, .slice B m d] w fun e w' => e = .returned (.bool r) ∧ Below w.heap.size w w' := by
  subst hr
  have hnc := h1.cap
  have hcm := h1.max
  have hmd := h2.cap
  have hdm := h2.max
  unfold maxLen at hcm hdm
  have l1 := h1.len
  have l2 := h2.len
  by_cases hmn : m < n
  · have hgt : ¬ (n : Int) ≤ (m : Int) := by omega
    have L1 := Lib.hid l1
    have L2 := Lib.hid l2
    clear l1 l2
    go_enter Try.func21, Try.ntmps21
    go_wp2_with fail
    go_loopw [5] (fun i wr => ∃ j : Nat, j ≤ m ∧ i = .int .i64 (j : Int) ∧ (∀ i < j, txt ss i = txt tt i) ∧ StrSl wr A n c ss ∧ StrSl wr B m d tt ∧ Below w.heap.size w wr) (fun i _ => m - (intOf i).toNat)
    case atStart => exact ⟨0, Nat.zero_le _, rfl, fun i hi => by omega, h1, h2, Below.refl _ _⟩
    case round =>
      clear h1 h2
      obtain ⟨j, hj, rfl, hin, h1, h2, hb⟩ := hrel
      have Hin := Lib.hid hin
      clear hin
      by_cases hlt : j < m
      · obtain ⟨ad, rfl, _, hc1, _⟩ := h1.cell (k := j) (by omega)
        obtain ⟨ad2, rfl, _, hc2, _⟩ := h2.cell hlt
        have k1 : wr.drew.cell? (ad.add j) = some (.string (txt ss j)) := hc1
        have k2 : wr.drew.cell? (ad2.add j) = some (.string (txt tt j)) := hc2
        have hji : (j : Int) < (m : Int) := by omega
        have hjn : j < n := by omega
        have hjn2 : (j : Int) < (n : Int) := by omega
        have h3 := h1.drew 1
        have h4 := h2.drew 1
        have hb4 := hb.drew
        rw [show wr.drewN 1 = wr.drew from rfl] at h3 h4
        clear hc1 hc2 h1 h2 hb
        by_cases he : txt ss j = txt tt j
        · have Hn := Lib.hid (show ∀ i < j + 1, txt ss i = txt tt i from fun i hi => by
            by_cases hij : i < j
            · exact Hin.out i hij
            · obtain rfl : i = j := by omega
              exact he)
          rw [he] at k1
          clear he
          go_wp2_with fail
          go_region
          go_wp2
          exact ⟨⟨j + 1, by omega, by go_num, Hn.out, h3, h4, hb4⟩, by simp [intOf]; omega⟩
        · have Hf := Lib.hid (show lead ss tt = false from decide_eq_false fun e => he (by
            have h5 : (ss.take tt.length)[j]? = tt[j]? := by rw [e.2]
            rw [List.getElem?_take_of_lt (by rw [L2.out]; exact hlt), txt_get (by rw [L1.out]; exact hjn), txt_get (by rw [L2.out]; exact hlt)] at h5
            exact Option.some.inj h5))
          have hbt : ((txt ss j).toList == (txt tt j).toList) = false := by
            rw [ByteArray.toList_eq, ByteArray.toList_eq]
            have : ¬ (txt ss j).data.toList = (txt tt j).data.toList := fun e => he ((mkS_data _).symm.trans ((congrArg mkS e).trans (mkS_data _)))
            simpa using this
          have hbn : ¬ (txt ss j).toList = (txt tt j).toList := by simpa using hbt
          clear he
          go_wp2_with fail
          go_region
          go_wp2
          go_ret
          rw [Hf.out]
          exact ⟨rfl, hb4⟩
      · have Hf := Lib.hid (show lead ss tt = true from decide_eq_true ⟨by rw [L1.out, L2.out]; exact hmn, same_txt (by rw [List.length_take, L1.out, L2.out]; omega) fun i hi => by
          rw [List.length_take, L1.out, L2.out] at hi
          rw [← Hin.out i (by omega)]
          unfold txt
          rw [List.getD_eq_getElem?_getD, List.getD_eq_getElem?_getD, List.getElem?_take_of_lt (by rw [L2.out]; omega)]⟩)
        have hji : ¬ (j : Int) < (m : Int) := by omega
        go_wp2
        go_ret
        rw [Hf.out]
        exact ⟨rfl, hb⟩
  · have Hf := Lib.hid (show lead ss tt = false from decide_eq_false fun e => hmn (by rw [← l1, ← l2]; exact e.1))
    have hgt : (n : Int) ≤ (m : Int) := by omega
    clear l1 l2
    go_enter Try.func21, Try.ntmps21
    go_wp2
    go_ret
    rw [Hf.out]
    exact ⟨rfl, Below.refl _ _⟩
end Go.Proofs.Ytlofgjpnpfgpfaa
