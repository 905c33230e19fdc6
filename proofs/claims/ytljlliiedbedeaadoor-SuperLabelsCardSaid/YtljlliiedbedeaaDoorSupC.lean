/- Superblocks: the code's mayVol, named and May. -/
import Derived.Test.YtljlliiedbedeaaDoorSupB
namespace Go.Proofs.YtljlliiedbedeaaDoor
open Go Go.RowKit Go.Proofs

/-- Whether a subvolume may be, of a disk of n sectors; whether one of them has a name. -/
def Vl.ok (v : Vl) (n : Int) : Bool := labL v.name && (decide (0 ≤ v.root ∧ v.root ≤ n - 1) && decide (2 ≤ v.next ∧ v.next ≤ 2147483647))
def namedL (l : List Vl) (s : ByteArray) : Bool := l.any fun u => u.name.toList == s.toList
def Sp.ok1 (S : Sp) (i : Nat) : Bool := (S.at_ i).same Vl.zero || ((S.at_ i).ok S.sectors && !namedL (S.vols.take i) (S.at_ i).name)
def Sp.hd (S : Sp) : Bool := decide (1 ≤ S.gen ∧ S.gen ≤ 1099511627775 ∧ 32 ≤ S.sectors ∧ S.sectors ≤ 2048 ∧ 0 ≤ S.log ∧ S.log ≤ S.sectors - 1)
/-- Whether a superblock may be. -/
def Sp.may (S : Sp) : Bool := S.hd && (List.range 8).all S.ok1
/-- Its names' sizes are numbers. -/
def Sp.fine (S : Sp) : Prop := ∀ k, k < 8 → (S.at_ k).name.size ≤ maxLen
theorem may_no {S : Sp} {j : Nat} (hj : j < 8) (h : S.ok1 j = false) : S.may = false := by
  have : (List.range 8).all S.ok1 = false := by
    rw [List.all_eq_false]
    exact ⟨j, List.mem_range.2 hj, by rw [h]; simp⟩
  unfold Sp.may
  rw [this, Bool.and_false]
theorem may_yes {S : Sp} (h0 : S.hd = true) (h : ∀ j, j < 8 → S.ok1 j = true) : S.may = true := by
  have : (List.range 8).all S.ok1 = true := by
    rw [List.all_eq_true]
    exact fun j hj => h j (List.mem_range.1 hj)
  unfold Sp.may
  rw [this, h0]
  rfl
theorem may_hd {S : Sp} (h : S.hd = false) : S.may = false := by unfold Sp.may; rw [h, Bool.false_and]

set_option maxHeartbeats 2000000 in
theorem smayvol_any (v : Vl) (n : Int) (h1 : 32 ≤ n) (h2 : n ≤ 2048) (r : Bool) (hr : v.ok n = r) (hm : v.name.size ≤ maxLen) (w : World) :
    Calls Tryd.prog 28 #[.agg #[.string v.name, .bool v.ro, .int .i64 v.root, .int .i64 v.next], .int .i64 n] w fun e w' => e = .returned (.bool r) ∧ Below w.heap.size w w' := by
  subst hr
  obtain ⟨a, ha⟩ : ∃ a, labL v.name = a := ⟨_, rfl⟩
  obtain ⟨b, hb⟩ : ∃ b, decide (0 ≤ v.root ∧ v.root ≤ n - 1) = b := ⟨_, rfl⟩
  obtain ⟨c, hc⟩ : ∃ c, decide (2 ≤ v.next ∧ v.next ≤ 2147483647) = c := ⟨_, rfl⟩
  have hok := Lib.hid (show v.ok n = (a && (b && c)) by unfold Vl.ok; rw [ha, hb, hc])
  go_enter Tryd.func28, Tryd.ntmps28
  cases a
  · go_wp2_with (first
      | (go_at_call 21; refine (slabel_any v.name false ha _ hm).mono ?_; rintro e w2 ⟨rfl, rfl⟩)
      | fail)
    go_ret
    exact ⟨by rw [hok.out]; rfl, (Below.refl _ _).alloc (Nat.le_refl _) _⟩
  · cases b
    · go_wp2_with (first
        | (go_at_call 21; refine (slabel_any v.name true ha _ hm).mono ?_; rintro e w2 ⟨rfl, rfl⟩)
        | (go_at_call 23; refine (swithin_any v.root 0 (n - 1) false hb _).mono ?_; rintro e w2 ⟨rfl, rfl⟩)
        | fail)
      go_ret
      exact ⟨by rw [hok.out]; rfl, (Below.refl _ _).alloc (Nat.le_refl _) _⟩
    · go_wp2_with (first
        | (go_at_call 21; refine (slabel_any v.name true ha _ hm).mono ?_; rintro e w2 ⟨rfl, rfl⟩)
        | fail)
      refine (swithin_any v.root 0 (n - 1) true hb _).mono ?_
      rintro e w2 ⟨rfl, rfl⟩
      go_wp2_with fail
      refine (swithin_any v.next 2 2147483647 c hc _).mono ?_
      rintro e w2 ⟨rfl, rfl⟩
      go_wp2
      go_ret
      exact ⟨by rw [hok.out]; rfl, (Below.refl _ _).alloc (Nat.le_refl _) _⟩

/-- The j-th of some subvolumes; kept shut. -/
def vlAt (l : List Vl) (j : Nat) : Vl := l.getD j Vl.zero
theorem vlAt_get {l : List Vl} {j : Nat} (h : j < l.length) : l[j]? = some (vlAt l j) := by simp [vlAt, List.getD, h]
/-- A slice of subvolumes. -/
def Vols (w : World) (A : Option Addr) (n c : Nat) (l : List Vl) : Prop := Sls w 4 A n c (l.map Vl.vs)
theorem Vols.len {w : World} {A : Option Addr} {n c : Nat} {l : List Vl} (h : Vols w A n c l) : l.length = n := by simpa using Sls.len h
theorem Vols.cell {w : World} {A : Option Addr} {n c : Nat} {l : List Vl} (h : Vols w A n c l) {j : Nat} (hj : j < n) : ∃ g o, A = some ⟨g, o, none⟩ ∧ g < w.heap.size ∧ w.cell? ⟨g, o + j * 4, none⟩ = some (.string (vlAt l j).name) ∧ w.cell? ⟨g, o + j * 4 + 1, none⟩ = some (.bool (vlAt l j).ro) ∧
    w.cell? ⟨g, o + j * 4 + 2, none⟩ = some (.int .i64 (vlAt l j).root) ∧ w.cell? ⟨g, o + j * 4 + 3, none⟩ = some (.int .i64 (vlAt l j).next) := by
  have hl := h.len
  obtain ⟨g, o, rfl, hg, _, hc⟩ := h.2.2.2 j (vlAt l j).vs (by rw [List.getElem?_map, vlAt_get (by omega)]; rfl)
  exact ⟨g, o, rfl, hg, hc 0 _ rfl, hc 1 _ rfl, hc 2 _ rfl, hc 3 _ rfl⟩
theorem named_yes {l : List Vl} {s : ByteArray} {j : Nat} (hj : j < l.length) (h : ((vlAt l j).name.toList == s.toList) = true) : namedL l s = true := by
  unfold namedL
  rw [List.any_eq_true]
  exact ⟨_, List.mem_of_getElem? (vlAt_get hj), h⟩
theorem named_no {l : List Vl} {s : ByteArray} (h : ∀ j, j < l.length → ((vlAt l j).name.toList == s.toList) = false) : namedL l s = false := by
  unfold namedL
  rw [List.any_eq_false]
  intro u hu
  obtain ⟨j, hj, rfl⟩ := List.getElem_of_mem hu
  have := h j hj
  have e := vlAt_get hj
  rw [List.getElem?_eq_getElem hj] at e
  injection e with e
  rw [← e] at this
  rw [this]
  simp
set_option maxHeartbeats 2000000 in
theorem snamed_any (l : List Vl) (s : ByteArray) (r : Bool) (hr : namedL l s = r) (A : Option Addr) (n c : Nat) (w : World) (h : Vols w A n c l) (_hn : n ≤ 100000) :
    Calls Tryd.prog 29 #[.slice A n c, .string s] w fun e w' => e = .returned (.bool r) ∧ Below w.heap.size w w' := by
  subst hr
  have Hlen := Lib.hid h.len
  have hb1 := Sls.cap h
  have hb2 := Sls.max h
  unfold maxLen at hb2
  go_enter Tryd.func29, Tryd.ntmps29
  go_wp2_with fail
  go_loopw [9] (fun i wr => ∃ j : Nat, j ≤ n ∧ i = .int .i64 (j : Int) ∧ (∀ q, q < j → ((vlAt l q).name.toList == s.toList) = false) ∧ Below w.heap.size w wr) (fun i _ => n - (intOf i).toNat)
  case atStart => exact ⟨0, Nat.zero_le _, rfl, fun q hq => by omega, Below.refl _ _⟩
  case round =>
    obtain ⟨j, hj, rfl, hall, hB⟩ := hrel
    by_cases hlt : j < n
    · have hr : Vols wr A n c l := Sls.below h hB
      obtain ⟨g, o, hA, hg, c0, c1, c2, c3⟩ := hr.cell hlt
      subst hA
      obtain ⟨x, hx⟩ : ∃ x, vlAt l j = x := ⟨_, rfl⟩
      rw [hx] at c0 c1 c2 c3
      have Hx := Lib.hid hx
      clear hx
      have hj0 : (0 : Int) ≤ (j : Int) := by omega
      have bx : Below wr.heap.size wr (wr.alloc (.cells #[.string x.name, .bool x.ro, .int .i64 x.root, .int .i64 x.next] 23)) := (Below.refl _ _).alloc (Nat.le_refl _) _
      cases hq : x.name.toList == s.toList
      · go_wp2
        refine ⟨⟨j + 1, by omega, by go_num, fun q hq2 => ?_, hB.trans (bx.mono hB.size)⟩, by simp [intOf]; omega⟩
        by_cases hqj : q = j
        · rw [hqj, Hx.out]; exact hq
        · exact hall q (by omega)
      · go_wp2
        go_ret
        exact ⟨by rw [named_yes (j := j) (by rw [Hlen.out]; exact hlt) (by rw [Hx.out]; exact hq)]; rfl, hB.trans (bx.mono hB.size)⟩
    · have hjn : j = n := by omega
      have hno := Lib.hid (named_no (l := l) (s := s) (by rw [Hlen.out, ← hjn]; exact hall))
      go_wp2
      go_ret
      exact ⟨by rw [hno.out]; rfl, hB⟩
end Go.Proofs.YtljlliiedbedeaaDoor
