/- Names and paths as plain data: what is wrong with a name, a path cut at its slashes, put together again; a rune within bytes that may be no text. -/
import Derived.Test.YtlofgjpnpfgpfaaNmT
import Derived.Laws.RangeAny
import Derived.Lib.Join
namespace Go.Proofs.Ytlofgjpnpfgpfaa
open Go Go.RowKit

/-! ### runes -/
theorem get_byt (s : ByteArray) (i : Nat) : (s.get! i).toNat = byt s.data.toList i := by
  unfold byt
  rw [List.getD_eq_getElem?_getD]
  show (s.data[i]!).toNat = _
  by_cases h : i < s.data.size
  · rw [getElem!_pos s.data i h, List.getElem?_eq_getElem (by simpa using h)]
    rfl
  · have h2 : s.data.toList.length ≤ i := by simpa using h
    rw [List.getElem?_eq_none h2, getElem!_neg s.data i h]
    rfl
/-- A rune: a byte below 128 by itself, or one of 128 and more, over bytes of 128 and more alone. -/
structure DecSays (s : ByteArray) (pos r wd : Nat) : Prop where
  pos1 : 1 ≤ wd
  fits : pos + wd ≤ s.size
  way : (r = byt s.data.toList pos ∧ wd = 1 ∧ r < 128) ∨ (128 ≤ r ∧ ∀ j, j < wd → 128 ≤ byt s.data.toList (pos + j))
theorem dec_says (s : ByteArray) (pos : Nat) (h : pos < s.size) : DecSays s pos (Utf8.decode s pos).1 (Utf8.decode s pos).2 := by
  have hb : ∀ k, (s.get! (pos + k)).toNat = byt s.data.toList (pos + k) := fun k => get_byt s _
  have le : ∀ k, byt s.data.toList (pos + k) ≤ 255 := fun k => byt_le _ _
  unfold Utf8.decode
  simp only [hb]
  have h0 := le 0; have h1 := le 1; have h2 := le 2; have h3 := le 3
  have one : 128 ≤ byt s.data.toList (pos + 0) → DecSays s pos Utf8.runeError 1 := fun h8 => by
    refine ⟨by omega, by omega, .inr ⟨by decide, fun j hj => ?_⟩⟩
    obtain rfl : j = 0 := by omega
    exact h8
  split
  · rename_i hlt
    exact ⟨by omega, by omega, .inl ⟨by simp, rfl, hlt⟩⟩
  · rename_i hlt
    split
    · rename_i hc
      simp only [Bool.and_eq_true, decide_eq_true_eq, beq_iff_eq] at hc
      obtain ⟨c0, c1, c2⟩ := hc
      split
      · refine ⟨by dsimp only; omega, by dsimp only; omega, .inr ⟨by dsimp only; omega, fun j hj => ?_⟩⟩
        dsimp only at hj
        rcases (by omega : j = 0 ∨ j = 1) with rfl | rfl <;> omega
      · exact one (by omega)
    · split
      · rename_i hc
        simp only [Bool.and_eq_true, decide_eq_true_eq, beq_iff_eq] at hc
        obtain ⟨⟨c0, c1, c2⟩, c3, c4⟩ := hc
        split
        · rename_i hv
          simp only [Bool.and_eq_true, decide_eq_true_eq] at hv
          refine ⟨by dsimp only; omega, by dsimp only; omega, .inr ⟨by dsimp only; omega, fun j hj => ?_⟩⟩
          dsimp only at hj
          rcases (by omega : j = 0 ∨ j = 1 ∨ j = 2) with rfl | rfl | rfl <;> omega
        · exact one (by omega)
      · split
        · rename_i hc
          simp only [Bool.and_eq_true, decide_eq_true_eq, beq_iff_eq] at hc
          obtain ⟨⟨⟨c0, c1, c2⟩, c3, c4⟩, c5, c6⟩ := hc
          split
          · rename_i hv
            simp only [Bool.and_eq_true, decide_eq_true_eq] at hv
            refine ⟨by dsimp only; omega, by dsimp only; omega, .inr ⟨by dsimp only; omega, fun j hj => ?_⟩⟩
            dsimp only at hj
            rcases (by omega : j = 0 ∨ j = 1 ∨ j = 2 ∨ j = 3) with rfl | rfl | rfl | rfl <;> omega
          · exact one (by omega)
        · exact one (by omega)

/-! ### what is wrong with a name -/
def badC (c : Nat) : Prop := c = 0 ∨ c = 47
def badN (s : ByteArray) : Prop := ∃ j, j < s.size ∧ badC (byt s.data.toList j)
def oddN (s : ByteArray) : Prop := s.data.toList = [] ∨ s.data.toList = [46] ∨ s.data.toList = [46, 46]
open Classical in
/-- The error of a name. -/
noncomputable def validE (s : ByteArray) : Int := if 20 < s.size then 7 else if badN s ∨ oddN s then 12 else 0
theorem validE_long {s : ByteArray} (h : 20 < s.size) : validE s = 7 := by unfold validE; rw [if_pos h]
theorem validE_bad {s : ByteArray} (h : s.size ≤ 20) (hb : badN s) : validE s = 12 := by unfold validE; rw [if_neg (by omega), if_pos (.inl hb)]
theorem validE_odd {s : ByteArray} (h : s.size ≤ 20) (hb : oddN s) : validE s = 12 := by unfold validE; rw [if_neg (by omega), if_pos (.inr hb)]
theorem validE_ok {s : ByteArray} (h : s.size ≤ 20) (hb : ∀ j, j < s.size → ¬ badC (byt s.data.toList j)) (ho : ¬ oddN s) : validE s = 0 := by
  unfold validE
  rw [if_neg (by omega), if_neg (by rintro (⟨j, h1, h2⟩ | h1); exact hb j h1 h2; exact ho h1)]
theorem validE_zero {s : ByteArray} (h : validE s = 0) : s.size ≤ 20 ∧ (∀ j, j < s.size → ¬ badC (byt s.data.toList j)) ∧ ¬ oddN s := by
  unfold validE at h
  by_cases h1 : 20 < s.size
  · rw [if_pos h1] at h; omega
  · rw [if_neg h1] at h
    by_cases h2 : badN s ∨ oddN s
    · rw [if_pos h2] at h; omega
    · exact ⟨by omega, fun j hj hb => h2 (.inl ⟨j, hj, hb⟩), fun ho => h2 (.inr ho)⟩
/-- The first error of some names. -/
noncomputable def vAll : List ByteArray → Int
  | [] => 0
  | s :: r => if validE s = 0 then vAll r else validE s
theorem vAll_bad {l : List ByteArray} {k : Nat} {s : ByteArray} (hk : l[k]? = some s) (hpre : ∀ j u, j < k → l[j]? = some u → validE u = 0) (h : validE s ≠ 0) : vAll l = validE s := by
  induction l generalizing k with
  | nil => simp at hk
  | cons a r ih =>
    rcases k with _ | k
    · simp at hk; subst hk
      rw [vAll, if_neg h]
    · rw [vAll, if_pos (hpre 0 a (by omega) rfl)]
      exact ih (by simpa using hk) fun j u hj hu => hpre (j + 1) u (by omega) (by simpa using hu)
theorem vAll_ok {l : List ByteArray} (h : ∀ s ∈ l, validE s = 0) : vAll l = 0 := by
  induction l with
  | nil => rfl
  | cons a r ih => rw [vAll, if_pos (h a (by simp))]; exact ih fun s hs => h s (by simp [hs])
theorem vAll_zero {l : List ByteArray} (h : vAll l = 0) : ∀ s ∈ l, validE s = 0 := by
  induction l with
  | nil => intro s hs; cases hs
  | cons a r ih =>
    rw [vAll] at h
    by_cases ha : validE a = 0
    · rw [if_pos ha] at h
      intro s hs
      rcases List.mem_cons.1 hs with rfl | hs
      · exact ha
      · exact ih h s hs
    · rw [if_neg ha] at h; exact absurd h ha

/-! ### a text cut at its slashes -/
def mkS (l : List UInt8) : ByteArray := ⟨l.toArray⟩
theorem mkS_data (s : ByteArray) : mkS s.data.toList = s := rfl
theorem data_mkS (l : List UInt8) : (mkS l).data.toList = l := rfl
theorem size_mkS (l : List UInt8) : (mkS l).size = l.length := rfl
def cutA : List UInt8 → List UInt8 → List (List UInt8)
  | acc, [] => [acc]
  | acc, b :: r => if b = 47 then acc :: cutA [] r else cutA (acc ++ [b]) r
def cutS (s : ByteArray) : List ByteArray := (cutA [] s.data.toList).map mkS
theorem cutA_len (l : List UInt8) : ∀ acc, (cutA acc l).length ≤ l.length + 1 ∧ 1 ≤ (cutA acc l).length := by
  induction l with
  | nil => intro acc; simp [cutA]
  | cons b r ih =>
    intro acc
    rw [cutA]
    by_cases h : b = 47
    · rw [if_pos h]; have := ih []; simp; omega
    · rw [if_neg h]; have := ih (acc ++ [b]); simp; omega
theorem cutA_size (l : List UInt8) : ∀ acc, ∀ p ∈ cutA acc l, p.length ≤ acc.length + l.length := by
  induction l with
  | nil => intro acc p hp; simp [cutA] at hp; subst hp; simp
  | cons b r ih =>
    intro acc p hp
    rw [cutA] at hp
    by_cases h : b = 47
    · rw [if_pos h] at hp
      rcases List.mem_cons.1 hp with rfl | hp
      · simp
      · have := ih [] p hp; simp at this ⊢; omega
    · rw [if_neg h] at hp
      have := ih _ p hp; simp at this ⊢; omega
theorem cutA_skip (l1 : List UInt8) : ∀ acc l2, (∀ b ∈ l1, b ≠ 47) → cutA acc (l1 ++ l2) = cutA (acc ++ l1) l2 := by
  induction l1 with
  | nil => intro acc l2 _; simp
  | cons b r ih =>
    intro acc l2 h
    rw [List.cons_append, cutA, if_neg (h b (by simp)), ih _ _ (fun x hx => h x (by simp [hx]))]
    simp
theorem cutS_len (s : ByteArray) : (cutS s).length ≤ s.size + 1 ∧ 1 ≤ (cutS s).length := by
  have := cutA_len s.data.toList []
  unfold cutS
  rw [List.length_map]
  simpa using this
theorem cutS_size (s : ByteArray) : ∀ p ∈ cutS s, p.size ≤ s.size := by
  intro p hp
  obtain ⟨q, hq, rfl⟩ := List.mem_map.1 hp
  have := cutA_size _ _ q hq
  rw [size_mkS]; simpa using this
theorem extract_data (s : ByteArray) (f k : Nat) : (s.extract f k).data.toList = (s.data.toList.drop f).take (k - f) := by
  simp [ByteArray.data_extract, List.extract]
/-- What the cutting at k knows: what is cut, and from where the next part goes. -/
structure CutAt (s : ByteArray) (f k : Nat) (done : List ByteArray) : Prop where
  fk : f ≤ k
  kn : k ≤ s.size
  cut : done.map (fun p => p.data.toList) ++ cutA ((s.data.toList.drop f).take (k - f)) (s.data.toList.drop k) = cutA [] s.data.toList
  few : done.length ≤ f
  small : ∀ p ∈ done, p.size ≤ s.size
theorem cutAt_start (s : ByteArray) : CutAt s 0 0 [] := ⟨Nat.le_refl _, Nat.zero_le _, by simp, by simp, by simp⟩
theorem byt_get {l : List UInt8} {k : Nat} (h : k < l.length) : byt l k = (l[k]).toNat := by
  unfold byt; rw [List.getD_eq_getElem?_getD, List.getElem?_eq_getElem h]; rfl
theorem CutAt.slash {s : ByteArray} {f k : Nat} {done : List ByteArray} (H : CutAt s f k done) (hk : k < s.size) (hb : byt s.data.toList k = 47) : CutAt s (k + 1) (k + 1) (done ++ [s.extract f k]) := by
  have hl : k < s.data.toList.length := by simpa using hk
  refine ⟨Nat.le_refl _, hk, ?_, ?_, ?_⟩
  · rw [← H.cut, List.drop_eq_getElem_cons hl, cutA, if_pos (by rw [byt_get hl] at hb; exact UInt8.toNat_inj.1 (by rw [hb]; rfl))]
    simp
  · have := H.few; have := H.fk; simp; omega
  · intro p hp
    rcases List.mem_append.1 hp with hp | hp
    · exact H.small p hp
    · simp at hp; subst hp; simp; omega
theorem CutAt.skip {s : ByteArray} {f k : Nat} {done : List ByteArray} (H : CutAt s f k done) (wd : Nat) (hk : k + wd ≤ s.size) (hb : ∀ j, j < wd → byt s.data.toList (k + j) ≠ 47) : CutAt s f (k + wd) done := by
  have hfk := H.fk
  refine ⟨by omega, hk, ?_, H.few, H.small⟩
  rw [← H.cut]
  congr 1
  have e1 : s.data.toList.drop k = (s.data.toList.drop k).take wd ++ s.data.toList.drop (k + wd) := by
    rw [← List.drop_drop, List.take_append_drop]
  have e2 : (s.data.toList.drop f).take (k + wd - f) = (s.data.toList.drop f).take (k - f) ++ (s.data.toList.drop k).take wd := by
    rw [show k + wd - f = (k - f) + wd by omega, List.take_add, List.drop_drop, show f + (k - f) = k by omega]
  rw [e2]
  conv => rhs; rw [e1]
  rw [cutA_skip]
  intro b hbm
  obtain ⟨j, hj, rfl⟩ := List.getElem_of_mem hbm
  have hj1 : j < wd := by rw [List.length_take] at hj; omega
  have hj2 : k + j < s.data.toList.length := by rw [List.length_take, List.length_drop] at hj; omega
  have := hb j hj1
  rw [byt_get hj2] at this
  rw [List.getElem_take, List.getElem_drop]
  intro e
  exact this (by rw [e]; rfl)
theorem CutAt.skip1 {s : ByteArray} {f k : Nat} {done : List ByteArray} (H : CutAt s f k done) (hk : k < s.size) (hb : byt s.data.toList k ≠ 47) : CutAt s f (k + 1) done :=
  H.skip 1 hk fun j hj => by
    obtain rfl : j = 0 := by omega
    exact hb
theorem CutAt.finish {s : ByteArray} {f : Nat} {done : List ByteArray} (H : CutAt s f s.size done) : done ++ [s.extract f s.size] = cutS s := by
  have h := H.cut
  have e : s.data.toList.drop s.size = [] := List.drop_eq_nil_of_le (by simp)
  rw [e, cutA] at h
  unfold cutS
  rw [← h, List.map_append, List.map_map]
  congr 1
  · have : (mkS ∘ fun p : ByteArray => p.data.toList) = id := by funext p; rfl
    rw [this, List.map_id]
  · simp only [List.map_cons, List.map_nil, ← extract_data]; rfl

/-! ### put together -/
/-- A path of a label and names. -/
def joinL (label : List UInt8) (names : List (List UInt8)) : List UInt8 := 47 :: (label ++ (names.map fun n => 47 :: n).flatten)
def joinS (label : ByteArray) (names : List ByteArray) : ByteArray := mkS (joinL label.data.toList (names.map fun n => n.data.toList))
theorem cutA_joined (names : List (List UInt8)) : ∀ (acc lab : List UInt8), (∀ b ∈ lab, b ≠ 47) → (∀ n ∈ names, ∀ b ∈ n, b ≠ 47) → cutA acc (lab ++ (names.map fun n => 47 :: n).flatten) = (acc ++ lab) :: names := by
  induction names with
  | nil => intro acc lab h _; rw [show lab ++ ([].map fun n : List UInt8 => (47 : UInt8) :: n).flatten = lab ++ [] by simp, cutA_skip _ _ _ h, cutA]
  | cons n r ih =>
    intro acc lab h hn
    rw [List.map_cons, List.flatten_cons, List.cons_append, cutA_skip _ _ _ h, cutA, if_pos rfl, ih [] n (hn n (by simp)) (fun m hm => hn m (by simp [hm]))]
    simp
theorem joined_cutA (l : List UInt8) : ∀ acc h t, cutA acc l = h :: t → acc ++ l = h ++ (t.map fun n => 47 :: n).flatten := by
  induction l with
  | nil => intro acc h t e; simp [cutA] at e; obtain ⟨rfl, rfl⟩ := e; simp
  | cons b r ih =>
    intro acc h t e
    rw [cutA] at e
    by_cases hb : b = 47
    · rw [if_pos hb] at e
      injection e with e1 e2
      subst e1
      obtain ⟨h2, t2, h3⟩ : ∃ h2 t2, cutA [] r = h2 :: t2 := by
        have := (cutA_len r []).2
        rcases hc : cutA [] r with _ | ⟨x, y⟩
        · rw [hc] at this; simp at this
        · exact ⟨x, y, rfl⟩
      have := ih [] h2 t2 h3
      rw [h3] at e2
      subst e2
      rw [List.nil_append] at this
      rw [this, hb]
      simp
    · rw [if_neg hb] at e
      have := ih _ h t e
      rw [← this]; simp
theorem lib_join (lab : List UInt8) (names : List (List UInt8)) : (47 : UInt8) :: Lib.join (lab :: names) [47] = joinL lab names := by
  unfold joinL
  rw [Lib.join_cons]
  rfl
end Go.Proofs.Ytlofgjpnpfgpfaa
