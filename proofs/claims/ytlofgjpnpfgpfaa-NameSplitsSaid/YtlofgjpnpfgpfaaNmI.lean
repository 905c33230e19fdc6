/- What names stand in (Parent), and paths put together (Join, both). -/
import Derived.Test.YtlofgjpnpfgpfaaNmH
namespace Go.Proofs.Ytlofgjpnpfgpfaa
open Go Go.RowKit Go.Proofs

theorem OwnT.small {w : World} {base n c : Nat} {e : TypeId} {A : Option Addr} {l : List ByteArray} (h : OwnT w base e A n c l) (hz : ∀ s ∈ l, s.size ≤ maxLen) : StrSl w A n c l := h.sl hz
/-- A clone of a row of texts. -/
theorem clone_any {w : World} {A : Option Addr} {n c : Nat} {ss : List ByteArray} (h : StrSl w A n c ss) (hA : A ≠ none) (hn : n ≤ 100000) :
    Calls Try.prog 27 #[.slice A n c] w fun e w' => ∃ A' c', e = .returned (.slice A' n c') ∧ StrSl w' A' n c' ss ∧ Below w.heap.size w w' := by
  rcases Nat.eq_zero_or_pos n with h0 | h0
  · subst h0
    have hs : ss = [] := List.eq_nil_of_length_eq_zero h.len
    subst hs
    obtain ⟨a, rfl⟩ : ∃ a, A = some a := by cases A; exact absurd rfl hA; exact ⟨_, rfl⟩
    refine (sh_slices_Clone_string_zero a c w).mono ?_
    rintro e w' ⟨v, rfl, own, _, hb⟩
    rcases own.2 with ⟨hv, _⟩ | ⟨g, cap, cur, hv, _⟩
    · subst hv
      exact ⟨_, _, rfl, strsl_nil _, hb⟩
    · subst hv
      exact ⟨_, _, rfl, OwnT.sl (l := []) own (by simp), hb⟩
  · obtain ⟨g, o, rfl, _, k1⟩ := h.plain h0
    have hl := h.len
    refine (sh_slices_Clone_string g o n c ss w (by omega) (by omega) (fun j hj => k1 j (by omega))).mono ?_
    rintro e w' ⟨v, rfl, own, _, hb⟩
    rw [List.take_of_length_le (by omega)] at own
    rcases own.2 with ⟨hv, h2⟩ | ⟨g, cap, cur, hv, _⟩
    · omega
    · subst hv
      exact ⟨_, _, rfl, OwnT.sl own h.2, hb⟩

theorem txt_take {ss : List ByteArray} {k j : Nat} (h : j < k) : txt (ss.take k) j = txt ss j := by
  unfold txt
  rw [List.getD_eq_getElem?_getD, List.getD_eq_getElem?_getD, List.getElem?_take_of_lt h]
set_option maxRecDepth 10000 in
set_option maxHeartbeats 2000000 in
theorem parent_no (A : Option Addr) (c : Nat) (w : World) :
    Calls Try.prog 17 #[.slice A 0 c] w fun e w' => e = .returned (.tuple #[.slice none 0 0, .string ⟨#[]⟩, .int .i64 1]) ∧ w = w' := by
  go_enter Try.func17, Try.ntmps17
  go_wp2
  go_ret3
  exact ⟨rfl, rfl⟩
set_option maxRecDepth 10000 in
set_option maxHeartbeats 2000000 in
theorem parent_yes {w : World} {A : Option Addr} {n c : Nat} {ss : List ByteArray} (h : StrSl w A (n + 1) c ss) (hn : n ≤ 100000) :
    Calls Try.prog 17 #[.slice A (n + 1 : Nat) c] w fun e w' => ∃ A' c', e = .returned (.tuple #[.slice A' n c', .string (txt ss n), .int .i64 0]) ∧ StrSl w' A' n c' (ss.take n) ∧ Below w.heap.size w w' := by
  have hnc := h.cap
  have hcm := h.max
  unfold maxLen at hcm
  obtain ⟨g, o, rfl, hg, k1⟩ := h.plain (by omega)
  have kc := k1 n (by omega)
  have ht := h.take (k := n) (by omega)
  obtain ⟨N, hN⟩ : ∃ N, n + 1 = N := ⟨_, rfl⟩
  rw [hN] at hnc ⊢
  have h0 : ¬ (N : Int) = 0 := by omega
  have h0b : ((N : Int) == 0) = false := by simp; omega
  have hs : (N : Int) - 1 = (n : Int) := by omega
  have hnN : n < N := by omega
  have hnNi : (n : Int) < (N : Int) := by omega
  have hnc2 : (n : Int) ≤ (c : Int) := by omega
  have h0n : (0 : Int) ≤ (n : Int) := by omega
  have HN := Lib.hid hN
  clear hN
  go_enter Try.func17, Try.ntmps17
  go_wp2_with fail
  have hS : ∀ w' : World, Below w.heap.size w w' → w'.cell? ⟨g, o + n, none⟩ = some (.string (txt ss n)) ∧ Below w.heap.size w w' := fun w' hb => ⟨(hb.cell (p := ⟨g, _, none⟩) hg).trans kc, hb⟩
  have BD : Below w.heap.size w w.drew := (Below.refl _ w).drew
  have ht1 : StrSl w.drew (some ⟨g, o, none⟩) n c (ss.take n) := ht
  clear h ht k1
  go_region_held3 (fun w' => w'.cell? ⟨g, o + n, none⟩ = some (.string (txt ss n)) ∧ Below w.heap.size w w')
    (first | assumption | exact hS _ BD | exact hS _ bb2)
    (first
      | (go_at_call 27; refine (clone_any ht1 (by simp) hn).mono ?_; rintro e w2 ⟨A2, c2, rfl, s2, hb2⟩; have bb2 : Below w.heap.size w w2 := BD.trans (hb2.mono (Nat.le_refl w.heap.size)))
      | fail)
  all_goals
    go_wp2
    go_ret3
    exact ⟨_, _, rfl, s2, bb2⟩

/-! ### Join -/
theorem joinS_code (label : ByteArray) (names : List ByteArray) : (⟨#[47]⟩ : ByteArray) ++ ⟨(Lib.join ((label :: names).map (fun x => x.data.toList)) (⟨#[47]⟩ : ByteArray).data.toList).toArray⟩ = joinS label names := by
  refine (mkS_data _).symm.trans (congrArg mkS ?_)
  rw [List.map_cons, ← lib_join]
  simp
theorem joinS_nil (label : ByteArray) : (⟨#[47]⟩ : ByteArray) ++ label = joinS label [] := by
  refine (mkS_data _).symm.trans (congrArg mkS ?_)
  simp [joinL]
theorem joinS_next (label : ByteArray) (names : List ByteArray) (x : ByteArray) : joinS label names ++ (⟨#[47]⟩ : ByteArray) ++ x = joinS label (names ++ [x]) := by
  refine (mkS_data _).symm.trans (congrArg mkS ?_)
  simp [joinS, data_mkS, joinL]
theorem size_app (a b : ByteArray) : (a ++ b).size = a.size + b.size := ByteArray.size_append ..
theorem joinS_size (label : ByteArray) (names : List ByteArray) : (joinS label names).size = 1 + label.size + (names.map fun x => x.size + 1).sum := by
  unfold joinS joinL
  rw [size_mkS, List.length_cons, List.length_append, List.length_flatten, List.map_map, List.map_map]
  have : ((List.length ∘ fun n : List UInt8 => (47 : UInt8) :: n) ∘ fun n : ByteArray => n.data.toList) = fun x : ByteArray => x.size + 1 := by funext x; simp
  rw [this]
  simp
  omega
theorem joinS_part {label : ByteArray} {names : List ByteArray} {j : Nat} (h : j < names.length) : (joinS label (names.take j)).size + 1 + (txt names j).size ≤ (joinS label names).size := by
  rw [joinS_size, joinS_size]
  have e : names = names.take j ++ txt names j :: names.drop (j + 1) := by
    conv => lhs; rw [← List.take_append_drop j names]
    rw [List.drop_eq_getElem_cons h]
    have h3 := txt_get h
    rw [List.getElem?_eq_getElem h] at h3
    injection h3 with h3
    rw [h3]
  conv => rhs; rw [e]
  rw [List.map_append, List.sum_append, List.map_cons, List.sum_cons]
  omega
set_option maxRecDepth 10000 in
set_option maxHeartbeats 2000000 in
theorem rjoin_any {w : World} {A : Option Addr} {n c : Nat} {ss : List ByteArray} (h : StrSl w A n c ss) (label : ByteArray) (s : ByteArray) (hs : joinS label ss = s) (hb : s.size ≤ 140737488355328) :
    Calls Try.prog 19 #[.string label, .slice A n c] w fun e w' => e = .returned (.string s) ∧ w = w' := by
  have hnc := h.cap
  have hcm := h.max
  unfold maxLen at hcm
  have Hs := Lib.hid hs
  have Hl := Lib.hid h.len
  have hz := joinS_nil label
  have hz1 : (⟨#[47]⟩ : ByteArray).size + label.size ≤ 9223372036854775807 := by
    have h1 := joinS_size label ss
    rw [hs] at h1
    have : (⟨#[47]⟩ : ByteArray).size = 1 := rfl
    omega
  have hz2 : 1 + label.size ≤ 9223372036854775807 := hz1
  clear hs
  go_enter Try.func19, Try.ntmps19
  go_wp2_with fail
  go_loopw [5, 6] (fun t i wr => ∃ j : Nat, j ≤ n ∧ t = .string (joinS label (ss.take j)) ∧ i = .int .i64 (j : Int) ∧ wr = w) (fun _ i _ => n - (intOf i).toNat)
  case atStart => exact ⟨0, Nat.zero_le _, rfl, rfl, rfl⟩
  case round =>
    clear hz
    obtain ⟨j, hj, rfl, rfl, rfl⟩ := hrel
    by_cases hlt : j < n
    · obtain ⟨ad, rfl, _, hc1, _⟩ := h.cell hlt
      have hji : (j : Int) < (n : Int) := by omega
      have hpt := joinS_part (label := label) (names := ss) (j := j) (by rw [Hl.out]; exact hlt)
      rw [Hs.out] at hpt
      have g1 : (joinS label (ss.take j)).size + (⟨#[47]⟩ : ByteArray).size ≤ 9223372036854775807 := by
        have : (⟨#[47]⟩ : ByteArray).size = 1 := rfl
        omega
      have g2 : (joinS label (ss.take j) ++ (⟨#[47]⟩ : ByteArray)).size + (txt ss j).size ≤ 9223372036854775807 := by
        rw [size_app]
        have : (⟨#[47]⟩ : ByteArray).size = 1 := rfl
        omega
      have g3 : (joinS label (ss.take j)).size + 1 ≤ 9223372036854775807 := g1
      have g4 : (joinS label (ss.take j)).size + 1 + (txt ss j).size ≤ 9223372036854775807 := by omega
      clear hpt
      have hn : joinS label (ss.take j) ++ (⟨#[47]⟩ : ByteArray) ++ txt ss j = joinS label (ss.take (j + 1)) := by
        rw [joinS_next, List.take_add_one, txt_get (by rw [Hl.out]; exact hlt)]
        rfl
      go_wp2
      exact ⟨⟨j + 1, by omega, rfl, by go_num, trivial⟩, by simp [intOf]; omega⟩
    · have hji : ¬ (j : Int) < (n : Int) := by omega
      have hf : joinS label (ss.take j) = s := by rw [List.take_of_length_le (by rw [Hl.out]; omega)]; exact Hs.out
      have Hf := Lib.hid hf
      clear hf
      go_wp2
      go_ret
      rw [Hf.out]
      exact ⟨rfl, rfl⟩
set_option maxRecDepth 10000 in
set_option maxHeartbeats 2000000 in
theorem cjoin_any {w : World} {A : Option Addr} {n c : Nat} {ss : List ByteArray} (h : StrSl w A n c ss) (label : ByteArray) (s : ByteArray) (hs : joinS label ss = s) (hn : n ≤ 1000) (_ : label.size ≤ maxLen) (hb : s.size ≤ 140737488355328) :
    Calls Try.prog 18 #[.string label, .slice A n c] w fun e w' => e = .returned (.string s) ∧ Below w.heap.size w w' := by
  have hcode := (joinS_code label ss).trans hs
  have hlen : (Lib.join ((label :: ss).map (fun x => x.data.toList)) (⟨#[47]⟩ : ByteArray).data.toList).length ≤ 140737488355328 := by
    have h1 : ((⟨#[47]⟩ : ByteArray) ++ ⟨(Lib.join ((label :: ss).map (fun x => x.data.toList)) (⟨#[47]⟩ : ByteArray).data.toList).toArray⟩).size = s.size := by rw [hcode]
    rw [ByteArray.size_append] at h1
    have h2 : (⟨(Lib.join ((label :: ss).map (fun x => x.data.toList)) (⟨#[47]⟩ : ByteArray).data.toList).toArray⟩ : ByteArray).size = (Lib.join ((label :: ss).map (fun x => x.data.toList)) (⟨#[47]⟩ : ByteArray).data.toList).length := by simp [ByteArray.size]
    omega
  have Hcode := Lib.hid hcode
  have Hlen := Lib.hid hlen
  clear hcode hlen hs
  have hsz := h.2
  have bl := (Below.refl w.heap.size w).alloc (Nat.le_refl _) (.cells #[.string label] 9)
  have own0 : OwnT (w.alloc (.cells #[.string label] 9)) w.heap.size 9 (some ⟨w.heap.size, 0, none⟩) 1 1 [label] := World.ownsRow_lit (e := 9) (size := 1) w #[.string label] 1 (Nat.le_refl _) (by unfold maxLen; omega) (by simp)
  have h2 := h.below bl
  go_enter Try.func18, Try.ntmps18
  go_wp2_with (at_builtin; refine wp_append_b_t _ TS rfl _ _ rfl w.heap.size (some ⟨w.heap.size, 0, none⟩) 1 1 [label] rfl own0 A n c ss rfl h2 (by omega) (by simp) ?_; intro A3 c3 w3 own3 b3)
  obtain ⟨g, c4, hv, hnc, hcm⟩ := owns_form own3 (by omega)
  injection hv with hv1 hv2 hv3
  subst hv1 hv3
  have hln := own3.len
  have hcells : ∀ (j : Nat) x, ([label] ++ ss)[j]? = some x → w3.cell? ⟨g, 0 + j, none⟩ = some (.string x) := fun j x hx => by
    rw [Nat.zero_add, World.ownsRow.cellAt own3 j (by have := (List.getElem?_eq_some_iff.1 hx).1; rw [← hln, Nat.mul_one]; exact this), List.getElem?_map, hx]
    rfl
  have hgl : g < w3.heap.size := (own3.lt g rfl).2
  unfold maxLen at hcm
  have hj := sh_strings_Join g 0 c3 ([label] ++ ss) ⟨#[47]⟩ w3 hcells hgl (by rw [hln]; omega) (by rw [hln]; exact hnc) Hlen.out
  rw [hln] at hj
  have hcode := Hcode.out
  have hlen2 : (⟨(Lib.join ((label :: ss).map (fun x => x.data.toList)) (⟨#[47]⟩ : ByteArray).data.toList).toArray⟩ : ByteArray).size ≤ 140737488355328 := by
    rw [show (⟨(Lib.join ((label :: ss).map (fun x => x.data.toList)) (⟨#[47]⟩ : ByteArray).data.toList).toArray⟩ : ByteArray).size = (Lib.join ((label :: ss).map (fun x => x.data.toList)) (⟨#[47]⟩ : ByteArray).data.toList).length by simp [ByteArray.size]]
    exact Hlen.out
  rw [show [label] ++ ss = label :: ss from rfl] at hj
  generalize (⟨(Lib.join ((label :: ss).map (fun x => x.data.toList)) (⟨#[47]⟩ : ByteArray).data.toList).toArray⟩ : ByteArray) = J at hj hcode hlen2
  have g1 : (⟨#[47]⟩ : ByteArray).size + J.size ≤ 9223372036854775807 := by
    have : (⟨#[47]⟩ : ByteArray).size = 1 := rfl
    omega
  have g2 : 1 + J.size ≤ 9223372036854775807 := g1
  have hb4 := bl.trans (b3.mono (by omega : w.heap.size ≤ w.heap.size))
  have hb4s := hb4.size
  have Hj := Lib.hid hj
  have Hcd := Lib.hid hcode
  clear hj hcells own3 own0 h2 h Hcode Hlen hcode
  go_wp2_with (go_at_call 28; refine Hj.out.mono ?_; rintro e w4 ⟨rfl, b4⟩)
  go_ret
  rw [Hcd.out]
  exact ⟨rfl, hb4.trans (b4.mono hb4s)⟩
end Go.Proofs.Ytlofgjpnpfgpfaa
