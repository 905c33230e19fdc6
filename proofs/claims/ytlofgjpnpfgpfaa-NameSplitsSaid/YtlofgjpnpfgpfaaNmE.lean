/- A path cut into a label and names, or refused: as plain data; the program's Split and the reference's. -/
import Derived.Test.YtlofgjpnpfgpfaaNmD
import Derived.Test.YtlofgjpnpfgpfaaNmA
import Derived.StillTailTactics
namespace Go.Proofs.Ytlofgjpnpfgpfaa
open Go Go.RowKit Go.Proofs

section
variable {w w' : World} {n c : Nat} {A : Option Addr} {ss : List ByteArray}
theorem StrSl.take (h : StrSl w A n c ss) {k : Nat} (hk : k ≤ n) : StrSl w A k c (ss.take k) := by
  refine ⟨⟨by have := h.len; simp; omega, by have := h.cap; omega, h.max, fun j u hu => h.1.2.2.2 j u ?_⟩, fun s hs => h.2 s (List.mem_of_mem_take hs)⟩
  rw [List.map_take, List.getElem?_take] at hu
  split at hu
  · exact hu
  · cases hu
theorem StrSl.drop (h : StrSl w A n c ss) {k : Nat} (hk : k ≤ n) : StrSl w (if c = k then A else A.map (·.add k)) (n - k) (c - k) (ss.drop k) := by
  refine ⟨⟨by have := h.len; simp; omega, by have := h.cap; omega, by have := h.max; omega, fun j u hu => ?_⟩, fun s hs => h.2 s (List.mem_of_mem_drop hs)⟩
  rw [List.map_drop, List.getElem?_drop] at hu
  obtain ⟨ad, rfl, hb, hc⟩ := h.1.2.2.2 _ u hu
  have hj : k + j < n := by
    have := h.1.1; have h2 := (List.getElem?_eq_some_iff.1 hu).1; omega
  rw [if_neg (by have := h.cap; omega)]
  exact ⟨ad.add k, rfl, by rw [addr_block]; exact hb, by rw [addr_add]; exact hc⟩
theorem StrSl.drew (h : StrSl w A n c ss) (q : Nat) : StrSl (w.drewN q) A n c ss := h
end
theorem txt_get {ss : List ByteArray} {k : Nat} (h : k < ss.length) : ss[k]? = some (txt ss k) := by
  unfold txt; rw [List.getD_eq_getElem?_getD, List.getElem?_eq_getElem h]; rfl
theorem txt_mem {ss : List ByteArray} {k : Nat} (h : k < ss.length) : txt ss k ∈ ss := List.mem_of_getElem? (txt_get h)

/-! ### Split as plain data -/
def emp : ByteArray := ⟨#[]⟩
noncomputable def splitR (ps : List ByteArray) : ByteArray × List ByteArray × Int :=
  if labL (txt ps 0) = false then (emp, [], 12) else if vAll (ps.drop 1) = 0 then (txt ps 0, ps.drop 1, 0) else (emp, [], vAll (ps.drop 1))
noncomputable def splitP (s : ByteArray) : ByteArray × List ByteArray × Int :=
  if 200 < s.size then (emp, [], 7) else if ¬ Lib.hasPrefix s.data.toList [47] = true then (emp, [], 12) else if s.size = 1 then (emp, [], 0) else splitR (cutS (mkS (s.data.toList.drop 1)))
theorem splitP_long {s : ByteArray} (h : 200 < s.size) : splitP s = (emp, [], 7) := by unfold splitP; rw [if_pos h]
theorem splitP_no {s : ByteArray} (h : s.size ≤ 200) (h2 : Lib.hasPrefix s.data.toList [47] = false) : splitP s = (emp, [], 12) := by unfold splitP; rw [if_neg (by omega), if_pos (by rw [h2]; simp)]
theorem splitP_root {s : ByteArray} (h2 : Lib.hasPrefix s.data.toList [47] = true) (h1 : s.size = 1) : splitP s = (emp, [], 0) := by unfold splitP; rw [if_neg (by omega), if_neg (by rw [h2]; simp), if_pos h1]
theorem splitP_cut {s : ByteArray} (h : s.size ≤ 200) (h2 : Lib.hasPrefix s.data.toList [47] = true) (h1 : s.size ≠ 1) : splitP s = splitR (cutS (mkS (s.data.toList.drop 1))) := by
  unfold splitP; rw [if_neg (by omega), if_neg (by rw [h2]; simp), if_neg h1]
theorem splitR_lab {ps : List ByteArray} (h : labL (txt ps 0) = false) : splitR ps = (emp, [], 12) := by unfold splitR; rw [if_pos h]
theorem splitR_bad {ps : List ByteArray} (h : labL (txt ps 0) = true) {j : Nat} (hj : j + 1 < ps.length) (hp : ∀ i < j, validE (txt ps (i + 1)) = 0) (hb : validE (txt ps (j + 1)) ≠ 0) : splitR ps = (emp, [], validE (txt ps (j + 1))) := by
  have e : vAll (ps.drop 1) = validE (txt ps (j + 1)) := by
    refine vAll_bad (k := j) ?_ ?_ hb
    · rw [List.getElem?_drop, Nat.add_comm]; exact txt_get hj
    · intro i u hi hu
      rw [List.getElem?_drop, Nat.add_comm, txt_get (by omega)] at hu
      injection hu with hu
      rw [← hu]; exact hp i hi
  unfold splitR
  rw [if_neg (by rw [h]; simp), if_neg (by rw [e]; exact hb), e]
theorem splitR_ok {ps : List ByteArray} (h : labL (txt ps 0) = true) (hp : ∀ i, i + 1 < ps.length → validE (txt ps (i + 1)) = 0) : splitR ps = (txt ps 0, ps.drop 1, 0) := by
  have e : vAll (ps.drop 1) = 0 := by
    refine vAll_ok fun s hs => ?_
    obtain ⟨i, hi, rfl⟩ := List.getElem_of_mem hs
    rw [List.length_drop] at hi
    have h2 := hp i (by omega)
    rw [List.getElem_drop]
    have h3 := txt_get (ss := ps) (k := 1 + i) (by omega)
    rw [List.getElem?_eq_getElem (by omega)] at h3
    injection h3 with h3
    rw [h3, Nat.add_comm]; exact h2
  unfold splitR
  rw [if_neg (by rw [h]; simp), if_pos e]
theorem pre_drop {s : ByteArray} (h : Lib.hasPrefix s.data.toList [47] = true) : Lib.trimPrefix s.data.toList [47] = s.data.toList.drop 1 := by
  unfold Lib.trimPrefix; rw [if_pos h]; rfl
theorem pre_iff (s : ByteArray) : Lib.hasPrefix s.data.toList [47] = true ↔ (0 < s.size ∧ byt s.data.toList 0 = 47) := by
  unfold Lib.hasPrefix
  rw [show s.size = s.data.toList.length by simp]
  rcases s.data.toList with _ | ⟨b, r⟩
  · simp
  · have : (b.toNat = 47) ↔ (47 : UInt8) = b := ⟨fun h => (UInt8.toNat_inj.1 (by rw [h]; rfl)).symm, fun h => by rw [← h]; rfl⟩
    simp [List.isPrefixOf, byt, this]

/-- What Split answers. -/
def SplitSays (x : ByteArray × List ByteArray × Int) (w : World) (e : Ending) (w' : World) : Prop :=
  ∃ A n c, e = .returned (.tuple #[.string x.1, .slice A n c, .int .i64 x.2.2]) ∧ StrSl w' A n c x.2.1 ∧ Below w.heap.size w w'
theorem splitSays_none {w w' : World} {v : Int} (hb : Below w.heap.size w w') : SplitSays (emp, [], v) w (.returned (.tuple #[.string ⟨#[]⟩, .slice none 0 0, .int .i64 v])) w' :=
  ⟨_, _, _, rfl, strsl_nil _, hb⟩

set_option maxRecDepth 10000 in
set_option maxHeartbeats 4000000 in
theorem csplit_any (s : ByteArray) (x : ByteArray × List ByteArray × Int) (hx : splitP s = x) (hm : s.size ≤ maxLen) (w : World) : Calls Try.prog 13 #[.string s] w (SplitSays x w) := by
  subst hx
  unfold maxLen at hm
  rcases Nat.lt_or_ge 200 s.size with h20 | h20
  · rw [splitP_long h20]
    go_enter Try.func13, Try.ntmps13
    go_wp2
    go_ret3
    exact splitSays_none (Below.refl _ _)
  · rcases hpre : Lib.hasPrefix s.data.toList [47] with _ | _
    · rw [splitP_no h20 hpre]
      go_enter Try.func13, Try.ntmps13
      go_wp2_with (go_at_call 23; refine (sh_strings_CutPrefix _ _ _).mono ?_; rintro e w1 ⟨rfl, rfl⟩)
      go_ret3
      exact splitSays_none (Below.refl _ _)
    · have hpl := pre_drop hpre
      by_cases h1 : s.size = 1
      · rw [splitP_root hpre h1]
        have hnil : s.data.toList.drop 1 = [] := List.drop_eq_nil_of_le (by simpa using Nat.le_of_eq h1)
        rw [hnil] at hpl
        go_enter Try.func13, Try.ntmps13
        go_wp2_with (go_at_call 23; refine (sh_strings_CutPrefix _ _ _).mono ?_; rintro e w1 ⟨rfl, rfl⟩; rw [hpl, hpre])
        go_ret3
        exact splitSays_none (Below.refl _ _)
      · rw [splitP_cut h20 hpre h1]
        have hz : (mkS (s.data.toList.drop 1)).size ≤ 199 := by rw [size_mkS, List.length_drop]; simp; omega
        have hne : (mkS (s.data.toList.drop 1)).toList.isEmpty = false := by
          rw [ByteArray.toList_eq]
          show (s.data.toList.drop 1).isEmpty = false
          have h0 : 0 < s.size := ((pre_iff s).1 hpre).1
          have : (s.data.toList.drop 1).length ≠ 0 := by rw [List.length_drop]; simp; omega
          rcases hd : s.data.toList.drop 1 with _ | _
          · rw [hd] at this; simp at this
          · rfl
        have Hpl := Lib.hid hpl
        obtain ⟨rest, hrest⟩ : ∃ rest, mkS (s.data.toList.drop 1) = rest := ⟨_, rfl⟩
        rw [hrest] at hz hne ⊢
        have Hrest := Lib.hid (show (⟨(s.data.toList.drop 1).toArray⟩ : ByteArray) = rest from hrest)
        clear hpl h1 hrest
        go_enter Try.func13, Try.ntmps13
        go_wp2_with (first
          | (go_at_call 23; refine (sh_strings_CutPrefix _ _ _).mono ?_; rintro e w1 ⟨rfl, rfl⟩; rw [Hpl.out, hpre, Hrest.out])
          | (go_at_call 24; refine (ccut_any rest (by omega) _).mono ?_; rintro e w2 ⟨A, n, c, rfl, own, b2⟩)
          | fail)
        have hpl := cutS_len rest
        have hsm := cutS_size rest
        rw [own.len] at hpl
        have sl := own.sl (fun p hp => by have := hsm p hp; unfold maxLen; omega)
        have hp20 : ∀ p ∈ cutS rest, p.size ≤ 199 := fun p hp => by have := hsm p hp; omega
        obtain ⟨g, c', hv, hnc, hcm⟩ := owns_form own (by omega)
        injection hv with hv1 hv2 hv3
        subst hv1 hv3
        clear hsm own
        obtain ⟨ps, hps⟩ : ∃ ps, cutS rest = ps := ⟨_, rfl⟩
        rw [hps] at sl hp20
        have Hcs := Lib.hid hps
        clear hps
        obtain ⟨ad, had, hbl, hc0, hts⟩ := sl.cell (k := 0) (by omega)
        injection had with had
        subst had
        unfold maxLen at hcm
        have hc0N : w2.drew.cell? ⟨g, 0, none⟩ = some (.string (txt ps 0)) := hc0
        have h0n : 0 < n := by omega
        have sd := sl.drop (k := 1) (by omega)
        have hpz := hp20 _ (txt_mem (ss := ps) (k := 0) (by rw [sl.len]; omega))
        obtain ⟨A2, hA2⟩ : ∃ A2 : Option Addr, (if c = 1 then some ⟨g, 0, none⟩ else some ⟨g, 1, none⟩) = A2 := ⟨_, rfl⟩
        have hA3 : (if c = 1 then some (⟨g, 0, none⟩ : Addr) else Option.map (fun x : Addr => x.add 1) (some (⟨g, 0, none⟩ : Addr))) = A2 := hA2
        rw [hA3] at sd
        have Hlen := Lib.hid sl.len
        have hn1 : (1 : Int) ≤ (n : Int) := by omega
        have hc1 : (1 : Int) ≤ (c : Int) := by omega
        clear hA3 hc0 sl
        go_region
        have sd2 := sd.drew 1
        have b3 : Below w1.heap.size w1 w2.drew := b2.drew
        have hbs : w1.heap.size ≤ w2.drew.heap.size := b3.size
        rw [show w2.drewN 1 = w2.drew from rfl] at sd2
        generalize w2.drew = w3 at sd2 b3 hbs ⊢
        clear sd b2 hc0N hbl
        rcases hlab : labL (txt ps 0) with _ | _
        · have Hr := Lib.hid (splitR_lab hlab)
          go_wp2_with (go_at_call 25; refine (slabel_any (txt ps 0) false hlab _ (by unfold maxLen; omega)).mono ?_; rintro e w4 ⟨rfl, rfl⟩)
          go_ret3
          rw [Hcs.out, Hr.out]
          exact splitSays_none b3
        · go_wp2_with (go_at_call 25; refine (slabel_any (txt ps 0) true hlab _ (by unfold maxLen; omega)).mono ?_; rintro e w4 ⟨rfl, rfl⟩)
          go_loopw [2, 3, 34] (fun lab nm i wr => ∃ j : Nat, lab = .string (txt ps 0) ∧ nm = .slice A2 (n - 1) (c - 1) ∧ j + 1 ≤ n ∧ i = .int .i64 (j : Int) ∧ (∀ i < j, validE (txt ps (i + 1)) = 0) ∧ Below w1.heap.size w1 wr ∧ StrSl wr A2 (n - 1) (c - 1) (ps.drop 1)) (fun _ _ i _ => n - (intOf i).toNat)
          case atStart => exact ⟨0, rfl, rfl, by omega, rfl, fun i hi => by omega, b3, sd2⟩
          case round =>
            clear sd2 b3 hbs
            obtain ⟨j, rfl, rfl, hj, rfl, hok, hb, hsl⟩ := hrel
            have Hok := Lib.hid hok
            clear hok
            by_cases hlt : j + 1 < n
            · obtain ⟨ad, had, hbl, hcell, hsz⟩ := hsl.cell (k := j) (by omega)
              have htx : txt (ps.drop 1) j = txt ps (j + 1) := by
                unfold txt
                rw [List.getD_eq_getElem?_getD, List.getD_eq_getElem?_getD, List.getElem?_drop, Nat.add_comm]
              rw [htx] at hcell hsz
              subst had
              have hd1 : decide ((j : Int) < ((n - 1 : Nat) : Int)) = true := decide_eq_true (by omega)
              have hj1 : (j : Int) < (n : Int) - 1 := by omega
              have hjn : j < n - 1 := by omega
              by_cases hv : validE (txt ps (j + 1)) = 0
              · have Hn := Lib.hid (show ∀ i < j + 1, validE (txt ps (i + 1)) = 0 from fun i hi => by
                  by_cases hij : i < j
                  · exact Hok.out i hij
                  · obtain rfl : i = j := by omega
                    exact hv)
                go_wp2_with (go_at_call 11; refine (cvalid_any _ 0 hv hsz _).mono ?_; rintro e w4 ⟨rfl, b4⟩)
                have hb4 := hb.trans (b4.mono hb.size)
                have hsl4 := hsl.below b4
                clear hsl hcell b4
                go_wp2
                exact ⟨⟨j + 1, rfl, rfl, by omega, by go_num, Hn.out, hb4, hsl4⟩, by simp [intOf]; omega⟩
              · have Hr := Lib.hid (splitR_bad hlab (j := j) (by rw [Hlen.out]; omega) Hok.out hv)
                obtain ⟨v, hve⟩ : ∃ v, validE (txt ps (j + 1)) = v := ⟨_, rfl⟩
                rw [hve] at Hr hv
                have Hve := Lib.hid hve
                have hv0 : (v != 0) = true := by simpa using hv
                clear hve hv
                go_wp2_with (go_at_call 11; refine (cvalid_any _ v Hve.out hsz _).mono ?_; rintro e w4 ⟨rfl, b4⟩)
                go_ret3
                rw [Hcs.out, Hr.out]
                exact splitSays_none (hb.trans (b4.mono hb.size))
            · have Hr := Lib.hid (splitR_ok hlab (fun i hi => Hok.out i (by rw [Hlen.out] at hi; omega)))
              have hd1 : decide ((j : Int) < ((n - 1 : Nat) : Int)) = false := decide_eq_false (by omega)
              have hj1 : ¬ (j : Int) < (n : Int) - 1 := by omega
              have hjn : ¬ j < n - 1 := by omega
              go_wp2
              go_ret3
              rw [Hcs.out, Hr.out]
              exact ⟨_, _, _, rfl, hsl, hb⟩
end Go.Proofs.Ytlofgjpnpfgpfaa
