/- Plain facts of Seek's two counts (as NodeFinds has them). Trees as plain data: what the nodes below a root hold, and what a way down finds. Trees as plain data: what is got, and what is told between two keys; of a store that tells less, nothing else is told. Rows of items, as plain data: put, row, scan. Plain facts that the laws of layer 10 end with: ways, halves, parts of a row. -/
import Derived.Test.YtgedmodnkiijkaaGreatDoorFn2
import Derived.Test.YtgedmodnkiijkaaGreatDoorFn8
namespace Go.Proofs.YtgedmodnkiijkaaGreatDoor
open Go Go.RowKit Go.Proofs

theorem lastTo_pos (ks : List Kd) (k : Kd) : ∀ j, 0 < lastTo ks k j → k.less (keyAt ks (lastTo ks k j)) = false
  | 0, h => by cases h
  | j + 1, h => by
    unfold lastTo at h ⊢
    by_cases hl : k.less (keyAt ks j) = true
    · rw [if_pos hl] at h ⊢
      exact lastTo_pos ks k j h
    · rw [if_neg hl]
      simpa using hl
theorem lastTo_after (ks : List Kd) (k : Kd) : ∀ j q, lastTo ks k j < q → q < j → k.less (keyAt ks q) = true
  | 0, q, _, h => by cases h
  | j + 1, q, h, hq => by
    unfold lastTo at h
    by_cases hl : k.less (keyAt ks j) = true
    · rw [if_pos hl] at h
      rcases (by omega : q < j ∨ q = j) with h1 | rfl
      · exact lastTo_after ks k j q h h1
      · exact hl
    · rw [if_neg hl] at h
      omega
theorem lead_before : ∀ (ks : List Kd) (k : Kd) (q : Nat), q < lead ks k → (keyAt ks q).less k = true
  | [], k, q, h => by cases h
  | x :: ks, k, q, h => by
    unfold lead at h
    rw [List.takeWhile_cons] at h
    by_cases hx : x.less k = true
    · rw [if_pos hx] at h
      match q with
      | 0 => exact hx
      | q + 1 => exact lead_before ks k q (by unfold lead; simpa using h)
    · rw [if_neg hx] at h
      cases h
theorem lead_stop : ∀ (ks : List Kd) (k : Kd), lead ks k < ks.length → (keyAt ks (lead ks k)).less k = false
  | [], k, h => by cases h
  | x :: ks, k, h => by
    unfold lead at h ⊢
    rw [List.takeWhile_cons] at h ⊢
    by_cases hx : x.less k = true
    · rw [if_pos hx] at h ⊢
      exact lead_stop ks k (by unfold lead; simpa using h)
    · rw [if_neg hx]
      show x.less k = false
      simpa using hx
end Go.Proofs.YtgedmodnkiijkaaGreatDoor

namespace Go.Proofs.YtgedmodnkiijkaaGreatDoor
open Go Go.RowKit Go.Proofs

/-- A row of items rises. -/
def risen (its : List Itm) : Prop := its.Pairwise fun x y => x.k.less y.k = true
/-- The tree at an address, of so many levels above its leaves, holds a row of items; R: what is told of an address (a node, and an error). -/
def HoldsT (R : Int → Nd × Int) : Nat → Int → List Itm → Prop
  | 0, a, its => R a = (⟨0, its, []⟩, 0) ∧ its ≠ []
  | l + 1, a, its => ∃ (kids : List Kidd) (parts : List (List Itm)), R a = (⟨((l + 1 : Nat) : Int), [], kids⟩, 0) ∧ kids ≠ [] ∧ parts.length = kids.length ∧ its = parts.flatten ∧ ∀ j, j < kids.length → HoldsT R l (kidAt kids j).a (parts.getD j []) ∧ ∃ x r, parts.getD j [] = x :: r ∧ (kidAt kids j).k = x.k
/-- The value of a key. -/
def valOf (its : List Itm) (k : Kd) : Option (List UInt8) := (its.find? fun x => x.k.same k).map (·.v)
theorem less_same {a b k : Kd} (h : b.same k = true) : a.less k = a.less b := by
  rw [Kd.same_iff] at h
  obtain ⟨h1, h2, h3⟩ := h
  unfold Kd.less
  rw [h1, h2, h3]
theorem same_less {a b k : Kd} (h : b.same k = true) : k.less a = b.less a := by
  rw [Kd.same_iff] at h
  obtain ⟨h1, h2, h3⟩ := h
  unfold Kd.less
  rw [h1, h2, h3]
theorem less_asym {a b : Kd} (h : a.less b = true) : b.less a = false := by
  rcases Kd.total a b with ⟨_, h2, _⟩ | ⟨h1, _, _⟩ | ⟨h1, _, _⟩
  · exact h2
  · rw [h] at h1; cases h1
  · rw [h] at h1; cases h1
theorem less_irr (a : Kd) : a.less a = false := by
  rcases Kd.total a a with ⟨h1, h2, h3⟩ | ⟨_, _, h3⟩ | ⟨h1, _, _⟩
  · exact absurd rfl h3
  · exact absurd rfl h3
  · exact h1
/-- Not behind, and ahead: ahead. -/
theorem less_of_le {a b c : Kd} (h1 : a.less b = true) (h2 : c.less b = false) : a.less c = true := by
  rcases Kd.total b c with ⟨h3, _, _⟩ | ⟨_, h3, _⟩ | ⟨_, _, rfl⟩
  · exact Kd.trans a b c h1 h3
  · rw [h2] at h3; cases h3
  · exact h1
theorem getD_cons_zero {α : Type} (x : α) (l : List α) (d : α) : (x :: l).getD 0 d = x := rfl
theorem getD_cons_succ {α : Type} (x : α) (l : List α) (d : α) (j : Nat) : (x :: l).getD (j + 1) d = l.getD j d := by
  rw [List.getD_eq_getElem?_getD, List.getD_eq_getElem?_getD, List.getElem?_cons_succ]
/-- What only one part of a row can have is found there. -/
theorem find_flatten {α : Type} (p : α → Bool) : ∀ (parts : List (List α)) (j : Nat), j < parts.length → (∀ q, q < parts.length → q ≠ j → ∀ x ∈ parts.getD q [], p x = false) → parts.flatten.find? p = (parts.getD j []).find? p
  | [], j, hj, _ => absurd hj (Nat.not_lt_zero _)
  | x :: parts, 0, _, h => by
    rw [List.flatten_cons, List.find?_append, getD_cons_zero]
    have h0 : parts.flatten.find? p = none := by
      rw [List.find?_eq_none]
      intro y hy
      obtain ⟨l, hl, hyl⟩ := List.mem_flatten.1 hy
      obtain ⟨q, hq, e⟩ := List.getElem_of_mem hl
      have := h (q + 1) (by rw [List.length_cons]; omega) (by omega) y (by rw [getD_cons_succ, List.getD_eq_getElem?_getD, List.getElem?_eq_getElem hq, e]; exact hyl)
      simpa using this
    rw [h0, Option.or_none]
  | x :: parts, j + 1, hj, h => by
    rw [List.flatten_cons, List.find?_append, getD_cons_succ]
    have h0 : x.find? p = none := by
      rw [List.find?_eq_none]
      intro y hy
      have := h 0 (by rw [List.length_cons]; omega) (by omega) y hy
      simpa using this
    rw [h0, Option.none_or]
    refine find_flatten p parts j (by simpa using hj) fun q hq hne y hy => ?_
    exact h (q + 1) (by rw [List.length_cons]; omega) (by omega) y (by rw [getD_cons_succ]; exact hy)
theorem pair_parts {parts : List (List Itm)} (h : risen parts.flatten) {i j : Nat} (hij : i < j) (hj : j < parts.length) {x y : Itm} (hx : x ∈ parts.getD i []) (hy : y ∈ parts.getD j []) : x.k.less y.k = true := by
  unfold risen at h
  rw [List.pairwise_flatten] at h
  have h2 := List.pairwise_iff_getElem.1 h.2 i j (by omega) hj hij
  rw [List.getD_eq_getElem?_getD, List.getElem?_eq_getElem (by omega)] at hx
  rw [List.getD_eq_getElem?_getD, List.getElem?_eq_getElem hj] at hy
  exact h2 x hx y hy
theorem risen_part {parts : List (List Itm)} (h : risen parts.flatten) (j : Nat) : risen (parts.getD j []) := by
  unfold risen at h ⊢
  rw [List.pairwise_flatten] at h
  rw [List.getD_eq_getElem?_getD]
  by_cases hj : j < parts.length
  · rw [List.getElem?_eq_getElem hj]
    exact h.1 _ (List.getElem_mem hj)
  · rw [List.getElem?_eq_none (by omega)]
    exact List.Pairwise.nil
theorem keys_kids (l : Int) (kids : List Kidd) : (⟨l, [], kids⟩ : Nd).keys = kids.map (·.k) := rfl
theorem keys_items (its : List Itm) : (⟨0, its, []⟩ : Nd).keys = its.map (·.k) := by unfold Nd.keys; simp
theorem keyAt_map (kids : List Kidd) {j : Nat} (hj : j < kids.length) : keyAt (kids.map (·.k)) j = (kidAt kids j).k := by
  unfold keyAt kidAt
  rw [List.getD_eq_getElem?_getD, List.getD_eq_getElem?_getD, List.getElem?_map, List.getElem?_eq_getElem hj]
  rfl
theorem keyAt_items (its : List Itm) {j : Nat} (hj : j < its.length) : keyAt (its.map (·.k)) j = (itAt its j).k := by
  unfold keyAt itAt
  rw [List.getD_eq_getElem?_getD, List.getD_eq_getElem?_getD, List.getElem?_map, List.getElem?_eq_getElem hj]
  rfl
/-- The kid that a key is sent to is the one that may have it. -/
theorem way_down {R : Int → Nd × Int} {l : Nat} {a : Int} {its : List Itm} (h : HoldsT R (l + 1) a its) (hr : risen its) (k : Kd) :
    ∃ (kids : List Kidd) (part : List Itm), R a = (⟨((l + 1 : Nat) : Int), [], kids⟩, 0) ∧ (⟨((l + 1 : Nat) : Int), [], kids⟩ : Nd).seek k < kids.length ∧ HoldsT R l (kidAt kids ((⟨((l + 1 : Nat) : Int), [], kids⟩ : Nd).seek k)).a part ∧ risen part ∧ valOf its k = valOf part k := by
  obtain ⟨kids, parts, h1, h2, h3, rfl, h4⟩ := h
  have hs : (⟨((l + 1 : Nat) : Int), [], kids⟩ : Nd).seek k = lastTo (kids.map (·.k)) k kids.length := by
    unfold Nd.seek
    have : ¬ ((l + 1 : Nat) : Int) = 0 := by omega
    dsimp only
    rw [if_neg this, keys_kids, List.length_map]
  obtain ⟨j, hj⟩ : ∃ j, lastTo (kids.map (·.k)) k kids.length = j := ⟨_, rfl⟩
  have hl : 0 < kids.length := List.length_pos_iff.2 h2
  have hjl : j < kids.length := by
    rcases lastTo_le (kids.map (·.k)) k kids.length with e | e <;> omega
  refine ⟨kids, parts.getD j [], h1, by rw [hs, hj]; exact hjl, by rw [hs, hj]; exact (h4 j hjl).1, risen_part hr j, ?_⟩
  unfold valOf
  rw [find_flatten _ parts j (by omega) fun q hq hne x hx => ?_]
  obtain ⟨_, y, r, e1, e2⟩ := h4 q (by omega)
  rcases Nat.lt_or_gt_of_ne hne with hlt | hgt
  · -- ahead of the kid's key, that is not behind k
    obtain ⟨_, z, s, e3, e4⟩ := h4 j hjl
    have h5 : x.k.less z.k = true := pair_parts hr hlt (by omega) hx (by rw [e3]; exact List.mem_cons_self ..)
    have h6 : k.less z.k = false := by
      have := lastTo_pos (kids.map (·.k)) k kids.length (by omega)
      rw [hj, keyAt_map kids hjl, e4] at this
      exact this
    cases hc : x.k.same k with
    | false => rfl
    | true =>
      have := same_less (a := z.k) hc
      rw [h6, h5] at this
      cases this
  · have h6 : k.less y.k = true := by
      have := lastTo_after (kids.map (·.k)) k kids.length q (by omega) (by omega)
      rw [keyAt_map kids (by omega), e2] at this
      exact this
    cases hc : x.k.same k with
    | false => rfl
    | true =>
      have h7 : x.k.less y.k = true := by rw [← same_less hc]; exact h6
      rw [e1] at hx
      rcases List.mem_cons.1 hx with rfl | hx
      · rw [less_irr] at h7; cases h7
      · have hp := risen_part hr q
        rw [e1] at hp
        have h8 := (List.pairwise_cons.1 hp).1 x hx
        rw [less_asym h8] at h7; cases h7
/-- In a leaf a key is found where it would be, or nowhere. -/
theorem leaf_val {its : List Itm} (hr : risen its) (k : Kd) : valOf its k = if foundAt (its.map (·.k)) k (lead (its.map (·.k)) k) = true then some (itAt its (lead (its.map (·.k)) k)).v else none := by
  obtain ⟨j, hj⟩ : ∃ j, lead (its.map (·.k)) k = j := ⟨_, rfl⟩
  have hjl : j ≤ its.length := by have := lead_le (its.map (·.k)) k; rw [List.length_map] at this; omega
  rw [hj]
  have hb : ∀ q, q < j → (itAt its q).k.less k = true := fun q hq => by
    have := lead_before (its.map (·.k)) k q (by omega)
    rwa [keyAt_items its (by omega)] at this
  have hall : ∀ q (hq : q < its.length), q ≠ j ∨ (itAt its j).k.same k = false → (its[q]).k.same k = false := fun q hq hne => by
    have e : itAt its q = its[q] := by unfold itAt; rw [List.getD_eq_getElem?_getD, List.getElem?_eq_getElem hq]; rfl
    cases hc : (its[q]).k.same k with
    | false => rfl
    | true =>
      rcases Nat.lt_trichotomy q j with h1 | h1 | h1
      · have h2 := hb q h1
        rw [e, less_same hc, less_irr] at h2
        cases h2
      · subst h1
        rcases hne with h2 | h2
        · exact absurd rfl h2
        · rw [e, hc] at h2; cases h2
      · have h3 : (itAt its j).k.less k = false := by
          have := lead_stop (its.map (·.k)) k (by rw [hj, List.length_map]; omega)
          rwa [hj, keyAt_items its (by omega)] at this
        have h4 := List.pairwise_iff_getElem.1 hr j q (by omega) hq h1
        have e2 : itAt its j = its[j]'(by omega) := by unfold itAt; rw [List.getD_eq_getElem?_getD, List.getElem?_eq_getElem (by omega)]; rfl
        rw [e2, less_same hc, h4] at h3
        cases h3
  unfold valOf foundAt
  rw [List.length_map]
  by_cases hin : j < its.length
  · rw [decide_eq_true hin, Bool.true_and, keyAt_items its hin]
    have e2 : itAt its j = its[j] := by unfold itAt; rw [List.getD_eq_getElem?_getD, List.getElem?_eq_getElem hin]; rfl
    cases hc : (itAt its j).k.same k with
    | true =>
      rw [if_pos rfl]
      have : its.find? (fun x => x.k.same k) = some its[j] := by
        rw [List.find?_eq_some_iff_getElem]
        refine ⟨by rw [← e2]; exact hc, j, hin, rfl, fun q hq => ?_⟩
        rw [hall q (by omega) (.inl (by omega))]; rfl
      rw [this, e2]; rfl
    | false =>
      have : its.find? (fun x => x.k.same k) = none := by
        rw [List.find?_eq_none]
        intro x hx
        obtain ⟨q, hq, e⟩ := List.getElem_of_mem hx
        rw [← e, hall q hq (.inr hc)]
        simp
      rw [this]; rfl
  · rw [decide_eq_false hin, Bool.false_and]
    have : its.find? (fun x => x.k.same k) = none := by
      rw [List.find?_eq_none]
      intro x hx
      obtain ⟨q, hq, e⟩ := List.getElem_of_mem hx
      rw [← e, hall q hq (.inl (by omega))]
      simp
    rw [this]; rfl
end Go.Proofs.YtgedmodnkiijkaaGreatDoor

namespace Go.Proofs.YtgedmodnkiijkaaGreatDoor
open Go Go.RowKit Go.Proofs

/-- P10.1, from a node on that should be of a level. -/
def getN (R : Int → Nd × Int) (k : Kd) : Nat → Int → List UInt8 × Int
  | 0, a => if (R a).2 ≠ 0 then ([], (R a).2) else if (R a).1.lvl ≠ 0 then ([], 5) else if foundAt (R a).1.keys k ((R a).1.seek k) = true then ((itAt (R a).1.items ((R a).1.seek k)).v, 0) else ([], 10)
  | l + 1, a => if (R a).2 ≠ 0 then ([], (R a).2) else if (R a).1.lvl ≠ ((l + 1 : Nat) : Int) then ([], 5) else getN R k l (kidAt (R a).1.kids ((R a).1.seek k)).a
def gotOf (o : Option (List UInt8)) : List UInt8 × Int := match o with | some v => (v, 0) | none => ([], 10)
theorem holds_ne {R : Int → Nd × Int} : ∀ {l : Nat} {a : Int} {its : List Itm}, HoldsT R l a its → ∃ x r, its = x :: r
  | 0, a, its, h => by
    match its, h.2 with
    | x :: r, _ => exact ⟨x, r, rfl⟩
  | l + 1, a, its, h => by
    obtain ⟨kids, parts, _, h2, h3, rfl, h4⟩ := h
    have hl : 0 < kids.length := List.length_pos_iff.2 h2
    obtain ⟨_, x, r, e, _⟩ := h4 0 hl
    match parts, h3 with
    | [], h3 => rw [← h3] at hl; cases hl
    | p :: ps, _ =>
      have e : p = x :: r := e
      exact ⟨x, r ++ ps.flatten, by rw [List.flatten_cons, e]; rfl⟩
/-- What is got is the key's value, or there is none. -/
theorem holds_get {R : Int → Nd × Int} (k : Kd) : ∀ (l : Nat) (a : Int) (its : List Itm), HoldsT R l a its → risen its → getN R k l a = gotOf (valOf its k)
  | 0, a, its, h, hr => by
    obtain ⟨h1, _⟩ := h
    have hs : (⟨0, its, []⟩ : Nd).seek k = lead (its.map (·.k)) k := by
      unfold Nd.seek
      rw [if_pos rfl, keys_items]
    unfold getN
    rw [h1]
    dsimp only
    rw [if_neg (by simp), if_neg (by simp), hs, keys_items, leaf_val hr]
    split <;> rfl
  | l + 1, a, its, h, hr => by
    obtain ⟨kids, part, h1, _, h3, h4, h5⟩ := way_down h hr k
    unfold getN
    rw [h1]
    dsimp only
    rw [if_neg (by simp), if_neg (by simp), holds_get k l _ part h3 h4, h5]
/-- What stands between two keys. -/
def within (fr to : Kd) (its : List Itm) : List Itm := its.filter fun x => !x.k.less fr && !to.less x.k
/-- The kids one behind the other, until there are enough items or the kids stand behind the last key. -/
def scanK (f : Int → List Itm → List Itm × Int) (to : Kd) (most : Nat) : List Kidd → List Itm → List Itm × Int
  | [], acc => (acc, 0)
  | x :: r, acc => if to.less x.k = true ∨ most ≤ acc.length then (acc, 0) else if (f x.a acc).2 ≠ 0 then ([], (f x.a acc).2) else scanK f to most r (f x.a acc).1
/-- P10.2, from a node on that should be of a level; acc: what there is already. -/
def scanN (R : Int → Nd × Int) (fr to : Kd) (most : Nat) : Nat → Int → List Itm → List Itm × Int
  | 0, a, acc => if (R a).2 ≠ 0 then ([], (R a).2) else if (R a).1.lvl ≠ 0 then ([], 5) else ((acc ++ within fr to (R a).1.items).take most, 0)
  | l + 1, a, acc => if (R a).2 ≠ 0 then ([], (R a).2) else if (R a).1.lvl ≠ ((l + 1 : Nat) : Int) then ([], 5) else scanK (scanN R fr to most l) to most ((R a).1.kids.drop ((R a).1.seek fr)) acc
theorem within_none {fr to : Kd} {its : List Itm} (h : ∀ x ∈ its, x.k.less fr = true ∨ to.less x.k = true) : within fr to its = [] := by
  unfold within
  rw [List.filter_eq_nil_iff]
  intro x hx
  rcases h x hx with e | e <;> simp [e]
theorem take_enough {α : Type} {a b : List α} {m : Nat} (h : m ≤ a.length) : (a ++ b).take m = a.take m := by
  rw [List.take_append, Nat.sub_eq_zero_of_le h, List.take_zero, List.append_nil]
theorem take_take_append {α : Type} (a b : List α) (m : Nat) : (a.take m ++ b).take m = (a ++ b).take m := by
  by_cases h : m ≤ a.length
  · rw [take_enough h, take_enough (by rw [List.length_take]; omega), List.take_take, Nat.min_self]
  · rw [List.take_of_length_le (l := a) (by omega)]
theorem scan_kids {f : Int → List Itm → List Itm × Int} {fr to : Kd} {most : Nat} : ∀ (kids : List Kidd) (parts : List (List Itm)) (acc : List Itm), parts.length = kids.length → acc.length ≤ most → risen parts.flatten →
    (∀ j, j < kids.length → (∀ acc : List Itm, acc.length ≤ most → f (kidAt kids j).a acc = ((acc ++ within fr to (parts.getD j [])).take most, 0)) ∧ ∃ x r, parts.getD j [] = x :: r ∧ (kidAt kids j).k = x.k) →
    scanK f to most kids acc = ((acc ++ within fr to parts.flatten).take most, 0)
  | [], parts, acc, hl, ha, _, _ => by
    obtain rfl : parts = [] := List.length_eq_zero_iff.1 hl
    unfold scanK
    rw [List.flatten_nil, show within fr to [] = [] from rfl, List.append_nil, List.take_of_length_le ha]
  | x :: kids, [], acc, hl, _, _, _ => by simp at hl
  | x :: kids, p :: parts, acc, hl, ha, hr, h => by
    obtain ⟨h0, y, r, e1, e2⟩ := h 0 (by rw [List.length_cons]; omega)
    have e1 : p = y :: r := e1
    have e2 : x.k = y.k := e2
    have h0 : ∀ acc : List Itm, acc.length ≤ most → f x.a acc = ((acc ++ within fr to p).take most, 0) := h0
    unfold scanK
    by_cases hb : to.less x.k = true
    · rw [if_pos (.inl hb)]
      have : within fr to (p :: parts).flatten = [] := within_none fun z hz => .inr (by
        have hle : z = y ∨ y.k.less z.k = true := by
          rw [List.flatten_cons, e1, List.cons_append] at hz hr
          rcases List.mem_cons.1 hz with rfl | hz
          · exact .inl rfl
          · exact .inr ((List.pairwise_cons.1 hr).1 z hz)
        rw [e2] at hb
        rcases hle with rfl | hle
        · exact hb
        · exact Kd.trans _ _ _ hb hle)
      rw [this, List.append_nil, List.take_of_length_le ha]
    · by_cases hm : most ≤ acc.length
      · rw [if_pos (.inr hm), take_enough hm, List.take_of_length_le ha]
      · rw [if_neg (by rintro (h | h); exact hb h; exact hm h), h0 acc ha]
        dsimp only
        rw [if_neg (by simp), scan_kids kids parts _ (by simpa using hl) (by rw [List.length_take]; omega) (by
          rw [List.flatten_cons] at hr
          exact (List.pairwise_append.1 hr).2.1) fun j hj => ?_]
        · have : within fr to (p :: parts).flatten = within fr to p ++ within fr to parts.flatten := by unfold within; rw [List.flatten_cons, List.filter_append]
          rw [this, take_take_append, List.append_assoc]
        · obtain ⟨h1, z, s, e3, e4⟩ := h (j + 1) (by rw [List.length_cons]; omega)
          rw [getD_cons_succ] at h1 e3
          have ek : kidAt (x :: kids) (j + 1) = kidAt kids j := by unfold kidAt; rw [getD_cons_succ]
          rw [ek] at h1 e4
          exact ⟨h1, z, s, e3, e4⟩
theorem drop_getD {α : Type} (l : List α) (n j : Nat) (d : α) : (l.drop n).getD j d = l.getD (n + j) d := by
  rw [List.getD_eq_getElem?_getD, List.getD_eq_getElem?_getD, List.getElem?_drop]
/-- What is told is what stands between both keys, the first ones. -/
theorem holds_scan {R : Int → Nd × Int} (fr to : Kd) (most : Nat) : ∀ (l : Nat) (a : Int) (its acc : List Itm), HoldsT R l a its → risen its → acc.length ≤ most → scanN R fr to most l a acc = ((acc ++ within fr to its).take most, 0)
  | 0, a, its, acc, h, hr, ha => by
    obtain ⟨h1, _⟩ := h
    unfold scanN
    rw [h1]
    dsimp only
    rw [if_neg (by simp), if_neg (by simp)]
  | l + 1, a, its, acc, h, hr, ha => by
    obtain ⟨kids, parts, h1, h2, h3, rfl, h4⟩ := h
    have hs : (⟨((l + 1 : Nat) : Int), [], kids⟩ : Nd).seek fr = lastTo (kids.map (·.k)) fr kids.length := by
      unfold Nd.seek
      have : ¬ ((l + 1 : Nat) : Int) = 0 := by omega
      dsimp only
      rw [if_neg this, keys_kids, List.length_map]
    obtain ⟨n, hn⟩ : ∃ n, lastTo (kids.map (·.k)) fr kids.length = n := ⟨_, rfl⟩
    have hl : 0 < kids.length := List.length_pos_iff.2 h2
    have hnl : n < kids.length := by
      rcases lastTo_le (kids.map (·.k)) fr kids.length with e | e <;> omega
    unfold scanN
    rw [h1]
    dsimp only
    rw [if_neg (by simp), if_neg (by simp), hs, hn]
    have hsplit : parts.flatten = (parts.take n).flatten ++ (parts.drop n).flatten := by rw [← List.flatten_append, List.take_append_drop]
    have hfirst : within fr to (parts.take n).flatten = [] := within_none fun x hx => .inl (by
      obtain ⟨p, hp, hxp⟩ := List.mem_flatten.1 hx
      obtain ⟨q, hq, e⟩ := List.getElem_of_mem hp
      have hq2 : q < n := by rw [List.length_take] at hq; omega
      have hxq : x ∈ parts.getD q [] := by
        rw [List.getElem_take] at e
        rw [List.getD_eq_getElem?_getD, List.getElem?_eq_getElem (by omega), e]
        exact hxp
      obtain ⟨_, z, s, e3, e4⟩ := h4 n hnl
      have h5 : x.k.less z.k = true := pair_parts hr hq2 (by omega) hxq (by rw [e3]; exact List.mem_cons_self ..)
      have h6 : fr.less z.k = false := by
        have := lastTo_pos (kids.map (·.k)) fr kids.length (by omega)
        rw [hn, keyAt_map kids hnl, e4] at this
        exact this
      exact less_of_le h5 h6)
    have hw : within fr to parts.flatten = within fr to (parts.drop n).flatten := by
      have : within fr to parts.flatten = within fr to (parts.take n).flatten ++ within fr to (parts.drop n).flatten := by
        conv => lhs; rw [hsplit]
        unfold within; rw [List.filter_append]
      rw [this, hfirst, List.nil_append]
    rw [hw]
    refine scan_kids (kids.drop n) (parts.drop n) acc (by rw [List.length_drop, List.length_drop, h3]) ha ?_ fun j hj => ?_
    · rw [hsplit] at hr
      exact (List.pairwise_append.1 hr).2.1
    · rw [List.length_drop] at hj
      have ek : kidAt (kids.drop n) j = kidAt kids (n + j) := by unfold kidAt; rw [drop_getD]
      rw [ek, drop_getD]
      obtain ⟨h5, z, s, e3, e4⟩ := h4 (n + j) (by omega)
      exact ⟨fun acc ha => holds_scan fr to most l _ _ acc h5 (risen_part hr (n + j)) ha, z, s, e3, e4⟩

/-- A store that tells the same, or that it cannot be read. -/
def Less (R R' : Int → Nd × Int) : Prop := ∀ a, R' a = R a ∨ (R' a).2 = 5
end Go.Proofs.YtgedmodnkiijkaaGreatDoor

namespace Go.Proofs.YtgedmodnkiijkaaGreatDoor
open Go Go.RowKit Go.Proofs

/-- An item is put into a row, as the reference's loop does it. -/
def putR (k : Kd) (v : List UInt8) : Bool → List Itm → List Itm
  | done, [] => if done = true then [] else [⟨k, v⟩]
  | done, x :: r => (if (!done && (k.less x.k || x.k.same k)) = true then [⟨k, v⟩] else []) ++ ((if x.k.same k = true then [] else [x]) ++ putR k v (done || (k.less x.k || x.k.same k)) r)
theorem putR_done (k : Kd) (v : List UInt8) : ∀ (l : List Itm), (∀ x ∈ l, x.k.same k = false) → putR k v true l = l
  | [], _ => rfl
  | x :: r, h => by
    unfold putR
    rw [h x (List.mem_cons_self ..), Bool.true_or, putR_done k v r fun y hy => h y (List.mem_cons_of_mem _ hy)]
    rfl
theorem not_same_of_less {a b : Kd} (h : a.less b = true) : a.same b = false ∧ b.same a = false := by
  constructor
  · cases hc : a.same b with
    | false => rfl
    | true => have := same_less (a := b) hc; rw [less_irr, h] at this; cases this
  · cases hc : b.same a with
    | false => rfl
    | true => have := less_same (a := a) hc; rw [less_irr, h] at this; cases this
theorem putR_cons {k : Kd} {v : List UInt8} {x : Itm} {r : List Itm} (hr : risen (x :: r)) :
    putR k v false (x :: r) = if k.less x.k = true then ⟨k, v⟩ :: x :: r else if x.k.same k = true then ⟨k, v⟩ :: r else x :: putR k v false r := by
  obtain ⟨h1, h2⟩ := List.pairwise_cons.1 hr
  rw [putR]
  by_cases hl : k.less x.k = true
  · rw [if_pos hl, hl]
    have hs := (not_same_of_less hl).2
    rw [hs]
    show [(⟨k, v⟩ : Itm)] ++ ([x] ++ putR k v true r) = _
    rw [putR_done]
    · rfl
    · intro y hy
      exact (not_same_of_less (Kd.trans _ _ _ hl (h1 y hy))).2
  · have hl : k.less x.k = false := by simpa using hl
    rw [hl]
    by_cases hs : x.k.same k = true
    · rw [hs]
      show [(⟨k, v⟩ : Itm)] ++ ([] ++ putR k v true r) = _
      rw [putR_done]
      · rfl
      · intro y hy
        have h3 := h1 y hy
        rw [← same_less hs] at h3
        exact (not_same_of_less h3).2
    · have hs : x.k.same k = false := by simpa using hs
      rw [hs]
      rfl
theorem putR_mem {k : Kd} {v : List UInt8} : ∀ {l : List Itm}, risen l → ∀ y ∈ putR k v false l, y = ⟨k, v⟩ ∨ y ∈ l
  | [], _, y, hy => .inl (by simpa [putR] using hy)
  | x :: r, hr, y, hy => by
    rw [putR_cons hr] at hy
    have hrr := (List.pairwise_cons.1 hr).2
    split at hy
    · rcases List.mem_cons.1 hy with h | h
      · exact .inl h
      · exact .inr h
    · split at hy
      · rcases List.mem_cons.1 hy with h | h
        · exact .inl h
        · exact .inr (List.mem_cons_of_mem _ h)
      · rcases List.mem_cons.1 hy with h | h
        · exact .inr (h ▸ List.mem_cons_self ..)
        · rcases putR_mem hrr y h with h | h
          · exact .inl h
          · exact .inr (List.mem_cons_of_mem _ h)
theorem putR_risen {k : Kd} {v : List UInt8} : ∀ {l : List Itm}, risen l → risen (putR k v false l)
  | [], _ => by
    show risen [⟨k, v⟩]
    exact List.pairwise_singleton ..
  | x :: r, hr => by
    obtain ⟨h1, h2⟩ := List.pairwise_cons.1 hr
    rw [putR_cons hr]
    split
    · rename_i hl
      refine List.pairwise_cons.2 ⟨fun y hy => ?_, hr⟩
      rcases List.mem_cons.1 hy with rfl | hy
      · exact hl
      · exact Kd.trans _ _ _ hl (h1 y hy)
    · rename_i hl
      split
      · rename_i hs
        exact List.pairwise_cons.2 ⟨fun y hy => by show k.less y.k = true; rw [same_less hs]; exact h1 y hy, h2⟩
      · rename_i hs
        have hxk : x.k.less k = true := by
          rcases Kd.total x.k k with ⟨h, _, _⟩ | ⟨_, h, _⟩ | ⟨_, _, h⟩
          · exact h
          · exact absurd h hl
          · exact absurd (by rw [h, Kd.same_iff]; exact ⟨rfl, rfl, rfl⟩) hs
        refine List.pairwise_cons.2 ⟨fun y hy => ?_, putR_risen h2⟩
        rcases putR_mem h2 y hy with rfl | hy
        · exact hxk
        · exact h1 y hy
theorem putR_len {k : Kd} {v : List UInt8} : ∀ {l : List Itm}, risen l → (putR k v false l).length ≤ l.length + 1
  | [], _ => by simp [putR]
  | x :: r, hr => by
    rw [putR_cons hr]
    have := putR_len (k := k) (v := v) (List.pairwise_cons.1 hr).2
    split
    · simp
    · split <;> simp <;> omega
/-- A row of any items, as the reference makes it. -/
def rowR : List Itm → List Itm → List Itm
  | [], out => out
  | x :: r, out => rowR r (if x.k.may = true then putR x.k (x.v.take 28) false out else out)
structure goodRow (l : List Itm) (m : Nat) : Prop where
  risen : risen l
  may : ∀ x ∈ l, x.k.may = true ∧ x.v.length ≤ 28
  len : l.length ≤ m
theorem rowR_good : ∀ (l out : List Itm) (m : Nat), goodRow out m → goodRow (rowR l out) (m + l.length)
  | [], out, m, h => h
  | x :: r, out, m, h => by
    unfold rowR
    have : goodRow (if x.k.may = true then putR x.k (x.v.take 28) false out else out) (m + 1) := by
      split
      · rename_i hm
        refine ⟨putR_risen h.risen, fun y hy => ?_, Nat.le_trans (putR_len h.risen) (Nat.succ_le_succ h.len)⟩
        rcases putR_mem h.risen y hy with rfl | hy
        · exact ⟨hm, by rw [List.length_take]; omega⟩
        · exact h.may y hy
      · exact ⟨h.risen, h.may, Nat.le_succ_of_le h.len⟩
    have h2 := rowR_good r _ (m + 1) this
    rw [List.length_cons, show m + (r.length + 1) = m + 1 + r.length by omega]
    exact h2
theorem row_good (l : List Itm) (m : Nat) : goodRow (rowR (l.take m) []) m := by
  have h := rowR_good (l.take m) [] 0 ⟨List.Pairwise.nil, fun x hx => (by cases hx), Nat.zero_le _⟩
  exact ⟨h.risen, h.may, by have h1 := h.len; rw [List.length_take] at h1; omega⟩
/-- The reference's scan, as its loop does it. -/
def scanR (fr to : Kd) (most : Nat) : List Itm → List Itm → List Itm
  | [], out => out
  | x :: r, out => if out.length < most then scanR fr to most r (if (!x.k.less fr && !to.less x.k) = true then out ++ [x] else out) else out
theorem scanR_says (fr to : Kd) (most : Nat) : ∀ (l out : List Itm), out.length ≤ most → scanR fr to most l out = (out ++ within fr to l).take most
  | [], out, h => by
    unfold scanR within
    rw [List.filter_nil, List.append_nil, List.take_of_length_le h]
  | x :: r, out, h => by
    unfold scanR
    by_cases hl : out.length < most
    · rw [if_pos hl]
      by_cases hx : (!x.k.less fr && !to.less x.k) = true
      · rw [if_pos hx, scanR_says fr to most r _ (by rw [List.length_append]; exact hl)]
        have : within fr to (x :: r) = x :: within fr to r := by unfold within; rw [List.filter_cons, if_pos hx]
        rw [this, List.append_assoc]
        rfl
      · rw [if_neg hx, scanR_says fr to most r _ h]
        have : within fr to (x :: r) = within fr to r := by unfold within; rw [List.filter_cons, if_neg hx]
        rw [this]
    · rw [if_neg hl, take_enough (by omega), List.take_of_length_le h]
/-- Between the first key and the last one there is all. -/
theorem within_all {l : List Itm} (h : ∀ x ∈ l, x.k.may = true) : within ⟨0, 0, 0⟩ ⟨2147483647, 255, 2147483647⟩ l = l := by
  unfold within
  rw [List.filter_eq_self]
  intro x hx
  have h1 := of_decide_eq_true (h x hx)
  have e1 : x.k.less ⟨0, 0, 0⟩ = false := by
    unfold Kd.less
    dsimp only
    split
    · split
      · exact decide_eq_false (by omega)
      · exact decide_eq_false (by omega)
    · exact decide_eq_false (by omega)
  have e2 : (⟨2147483647, 255, 2147483647⟩ : Kd).less x.k = false := by
    unfold Kd.less
    dsimp only
    split
    · split
      · exact decide_eq_false (by omega)
      · exact decide_eq_false (by omega)
    · exact decide_eq_false (by omega)
  rw [e1, e2]; rfl
end Go.Proofs.YtgedmodnkiijkaaGreatDoor

namespace Go.Proofs.YtgedmodnkiijkaaGreatDoor
open Go Go.RowKit Go.Proofs

/-- P10.3: the nodes on the way to a key, from a node on that should be of a level. -/
def pathN (R : Int → Nd × Int) (k : Kd) : Nat → Int → List Int × Int
  | 0, a => if (R a).2 ≠ 0 then ([], (R a).2) else if (R a).1.lvl ≠ 0 then ([], 5) else ([a], 0)
  | l + 1, a => if (R a).2 ≠ 0 then ([], (R a).2) else if (R a).1.lvl ≠ ((l + 1 : Nat) : Int) then ([], 5) else
      if (pathN R k l (kidAt (R a).1.kids ((R a).1.seek k)).a).2 ≠ 0 then ([], (pathN R k l (kidAt (R a).1.kids ((R a).1.seek k)).a).2) else (a :: (pathN R k l (kidAt (R a).1.kids ((R a).1.seek k)).a).1, 0)
/-- A way as the law looks at it: from an address on, so many nodes. -/
def WayOk (R : Int → Nd × Int) (k : Kd) (its : List Itm) : Nat → Int → List Int → Prop
  | 0, a, p => p = [a] ∧ ∃ N, R a = (N, 0) ∧ N.lvl = 0 ∧ foundAt N.keys k (N.seek k) = (valOf its k).isSome
  | l + 1, a, p => ∃ N r, p = a :: r ∧ R a = (N, 0) ∧ N.lvl = ((l + 1 : Nat) : Int) ∧ N.seek k < N.kids.length ∧ WayOk R k its l (kidAt N.kids (N.seek k)).a r
theorem way_same {R : Int → Nd × Int} {k : Kd} {a b : List Itm} (h : valOf a k = valOf b k) : ∀ {l : Nat} {x : Int} {p : List Int}, WayOk R k a l x p → WayOk R k b l x p
  | 0, x, p, ⟨h1, N, h2, h3, h4⟩ => ⟨h1, N, h2, h3, by rw [← h]; exact h4⟩
  | l + 1, x, p, ⟨N, r, h1, h2, h3, h4, h5⟩ => ⟨N, r, h1, h2, h3, h4, way_same h h5⟩
theorem holds_path {R : Int → Nd × Int} (k : Kd) : ∀ (l : Nat) (a : Int) (its : List Itm), HoldsT R l a its → risen its → ∃ p, pathN R k l a = (p, 0) ∧ WayOk R k its l a p
  | 0, a, its, h, hr => by
    obtain ⟨h1, _⟩ := h
    refine ⟨[a], ?_, rfl, _, h1, rfl, ?_⟩
    · unfold pathN
      rw [h1]
      dsimp only
      rw [if_neg (by simp), if_neg (by simp)]
    · have hs : (⟨0, its, []⟩ : Nd).seek k = lead (its.map (·.k)) k := by
        unfold Nd.seek
        rw [if_pos rfl, keys_items]
      rw [hs, keys_items, leaf_val hr]
      cases foundAt (its.map (·.k)) k (lead (its.map (·.k)) k) <;> rfl
  | l + 1, a, its, h, hr => by
    obtain ⟨kids, part, h1, h2, h3, h4, h5⟩ := way_down h hr k
    obtain ⟨p, e, hp⟩ := holds_path k l _ part h3 h4
    refine ⟨a :: p, ?_, _, p, rfl, h1, rfl, h2, way_same h5.symm hp⟩
    unfold pathN
    rw [h1]
    dsimp only
    rw [if_neg (by simp), if_neg (by simp), e, if_neg (by simp)]
theorem way_len {R : Int → Nd × Int} {k : Kd} {its : List Itm} : ∀ {l : Nat} {a : Int} {p : List Int}, WayOk R k its l a p → p.length = l + 1
  | 0, a, p, h => by rw [h.1]; rfl
  | l + 1, a, p, ⟨N, r, h1, _, _, _, h5⟩ => by rw [h1, List.length_cons, way_len h5]
/-- Each node of the way, and the next one. -/
theorem way_at {R : Int → Nd × Int} {k : Kd} {its : List Itm} : ∀ {l : Nat} {a : Int} {p : List Int}, WayOk R k its l a p → ∀ i, i ≤ l → ∃ ai N, p[i]? = some ai ∧ (i = 0 → ai = a) ∧ R ai = (N, 0) ∧ N.lvl = ((l - i : Nat) : Int) ∧ (i = l → foundAt N.keys k (N.seek k) = (valOf its k).isSome) ∧ (i < l → N.seek k < N.kids.length ∧ p[i + 1]? = some (kidAt N.kids (N.seek k)).a)
  | 0, a, p, h, i, hi => by
    obtain ⟨h1, N, h2, h3, h4⟩ := h
    obtain rfl : i = 0 := by omega
    exact ⟨a, N, by rw [h1]; rfl, fun _ => rfl, h2, h3, fun _ => h4, fun h => by omega⟩
  | l + 1, a, p, h, i, hi => by
    obtain ⟨N, r, h1, h2, h3, h4, h5⟩ := h
    match i with
    | 0 =>
      obtain ⟨b, M, e1, e2, _⟩ := way_at h5 0 (Nat.zero_le _)
      exact ⟨a, N, by rw [h1]; rfl, fun _ => rfl, h2, h3, fun h => by omega, fun _ => ⟨h4, by rw [h1, List.getElem?_cons_succ, e1, e2 rfl]⟩⟩
    | i + 1 =>
      obtain ⟨b, M, e1, _, e3, e4, e5, e6⟩ := way_at h5 i (by omega)
      refine ⟨b, M, by rw [h1, List.getElem?_cons_succ]; exact e1, fun h => by omega, e3, by rw [e4]; congr 1; omega, fun h => e5 (by omega), fun h => ⟨(e6 (by omega)).1, by rw [h1, List.getElem?_cons_succ]; exact (e6 (by omega)).2⟩⟩
/-- Each item of a row is found by its key. -/
theorem valOf_mem : ∀ {l : List Itm}, risen l → ∀ x ∈ l, valOf l x.k = some x.v
  | [], _, x, hx => by cases hx
  | y :: r, hr, x, hx => by
    obtain ⟨h1, h2⟩ := List.pairwise_cons.1 hr
    unfold valOf
    rw [List.find?_cons]
    rcases List.mem_cons.1 hx with rfl | hx
    · have : x.k.same x.k = true := (Kd.same_iff _ _).2 ⟨rfl, rfl, rfl⟩
      rw [this]
      rfl
    · rw [(not_same_of_less (h1 x hx)).1]
      exact valOf_mem h2 x hx
/-- The next key parts those ahead from those behind. -/
theorem less_next {k x : Kd} (hk : k.may = true) (hx : x.may = true) (hn : k.hasNext = true) : x.less k.next = !k.less x := by
  obtain ⟨_, h1, h2⟩ := Kd.after k x hk hx hn
  rcases h2 with h | h | h | h
  · have e1 : k.less x = false := by rw [← less_same (a := k) h]; exact less_irr k
    have e2 : x.less k.next = true := by rw [← same_less h]; exact h1
    rw [e1, e2]; rfl
  · have e1 : k.less x = true := by rw [← less_same (a := k) h]; exact h1
    have e2 : x.less k.next = false := by rw [← same_less h]; exact less_irr _
    rw [e1, e2]; rfl
  · rw [less_asym h, Kd.trans _ _ _ h h1]; rfl
  · rw [less_asym h, Kd.trans _ _ _ h1 h]; rfl
theorem halves {p : Kd → Bool} (hp : ∀ a b : Kd, a.less b = true → p a = true → p b = true) : ∀ {l : List Itm}, risen l → (l.filter fun x => !p x.k) ++ (l.filter fun x => p x.k) = l
  | [], _ => rfl
  | x :: r, hr => by
    obtain ⟨h1, h2⟩ := List.pairwise_cons.1 hr
    cases hx : p x.k with
    | true =>
      have ha : ∀ y ∈ x :: r, p y.k = true := fun y hy => by
        rcases List.mem_cons.1 hy with rfl | hy
        · exact hx
        · exact hp _ _ (h1 y hy) hx
      have e1 : ((x :: r).filter fun x => !p x.k) = [] := List.filter_eq_nil_iff.2 fun y hy => by rw [ha y hy]; decide
      have e2 : ((x :: r).filter fun x => p x.k) = x :: r := List.filter_eq_self.2 ha
      rw [e1, e2]
      rfl
    | false =>
      rw [List.filter_cons, List.filter_cons, hx]
      simp only [Bool.not_false, if_true]
      rw [if_neg (by simp), List.cons_append, halves hp h2]
/-- The first key, and the last one. -/
def kdLo : Kd := ⟨0, 0, 0⟩
def kdHi : Kd := ⟨2147483647, 255, 2147483647⟩
theorem lo_no {k : Kd} (h : k.may = true) : k.less kdLo = false := by
  rw [Kd.may_iff] at h
  cases hc : k.less kdLo with
  | false => rfl
  | true => rw [Kd.less_iff] at hc; unfold kdLo at hc; dsimp only at hc; omega
theorem hi_no {k : Kd} (h : k.may = true) : kdHi.less k = false := by
  rw [Kd.may_iff] at h
  cases hc : kdHi.less k with
  | false => rfl
  | true => rw [Kd.less_iff] at hc; unfold kdHi at hc; dsimp only at hc; omega
theorem within_to {l : List Itm} (h : ∀ x ∈ l, x.k.may = true) (k : Kd) : within kdLo k l = l.filter fun x => !k.less x.k := by
  unfold within
  refine List.filter_congr fun x hx => ?_
  rw [lo_no (h x hx)]
  rfl
theorem within_from {l : List Itm} (h : ∀ x ∈ l, x.k.may = true) {k : Kd} (hk : k.may = true) (hn : k.hasNext = true) : within k.next kdHi l = l.filter fun x => k.less x.k := by
  unfold within
  refine List.filter_congr fun x hx => ?_
  rw [hi_no (h x hx), less_next hk (h x hx) hn]
  simp
/-- What stands up to a key, and what stands from the next one on, are the whole. -/
theorem within_halves {l : List Itm} (hr : risen l) (h : ∀ x ∈ l, x.k.may = true) {k : Kd} (hk : k.may = true) (hn : k.hasNext = true) : within kdLo k l ++ within k.next kdHi l = l := by
  rw [within_to h, within_from h hk hn]
  exact halves (fun a b hab ha => Kd.trans _ _ _ ha hab) hr
/-- Part by part: behind an item stands what is told from its next key on. -/
theorem few_step {A B : List Itm} {y : Itm} (hr : risen (A ++ y :: B)) (h : ∀ x ∈ A ++ y :: B, x.k.may = true) :
    (y.k.hasNext = true → within y.k.next kdHi (A ++ y :: B) = B ∧ y.k.next.may = true) ∧ (y.k.hasNext = false → B = []) := by
  have hy := h y (by simp)
  obtain ⟨r1, r2, r3⟩ := List.pairwise_append.1 hr
  obtain ⟨r4, r5⟩ := List.pairwise_cons.1 r2
  refine ⟨fun hn => ⟨?_, (Kd.after _ _ hy hy hn).1⟩, fun hn => ?_⟩
  · rw [within_from h hy hn, List.filter_append, List.filter_cons, less_irr]
    have e1 : (A.filter fun x => y.k.less x.k) = [] := List.filter_eq_nil_iff.2 fun x hx => by rw [less_asym (r3 x hx y (List.mem_cons_self ..))]; decide
    have e2 : (B.filter fun x => y.k.less x.k) = B := List.filter_eq_self.2 fun x hx => r4 x hx
    rw [e1, e2]
    rfl
  · match B, r4, h with
    | [], _, _ => rfl
    | z :: s, r4, h =>
      have h1 := r4 z (List.mem_cons_self ..)
      rcases Kd.last y.k z.k hy (h z (by simp)) hn with h2 | h2
      · rw [(not_same_of_less h1).2] at h2; cases h2
      · rw [less_asym h1] at h2; cases h2
end Go.Proofs.YtgedmodnkiijkaaGreatDoor
