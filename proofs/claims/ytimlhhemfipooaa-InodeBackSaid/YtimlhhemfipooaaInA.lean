/- Inode's fields as rows in memory: where each number lies, its width, what it may be; whether numbers may be, and how they are put. -/
import Derived.Test.YtimlhhemfipooaaRow
import Derived.Test.YtimlhhemfipooaaTurn
import Derived.Test.YtimlhhemfipooaaGrown
import Derived.Test.YtimlhhemfipooaaQt
import Derived.Test.YtimlhhemfipooaaE6
import Derived.Test.YtimlhhemfipooaaE8
import Derived.Deep.RegionHeld3
import Derived.BigRegion
import Derived.StillTailTactics
namespace Go.Proofs.Ytimlhhemfipooaa
open Go Go.RowKit Go.Proofs

/-- A field as plain data: where its number lies, its width, its least and its most. -/
structure Fl where
  b : Nat
  o : Nat
  wid : Int
  lo : Int
  hi : Int
def Fl.vs (f : Fl) : List Value := [.pointer (some ⟨f.b, f.o, none⟩), .int .i64 f.wid, .int .i64 f.lo, .int .i64 f.hi]
/-- A slice of fields that reads as fs. -/
def Flds (w : World) (A : Option Addr) (n c : Nat) (fs : List Fl) : Prop := Sls w 4 A n c (fs.map Fl.vs)
def flAt (fs : List Fl) (j : Nat) : Fl := fs.getD j ⟨0, 0, 0, 0, 0⟩
section
variable {w w' : World} {n c : Nat} {A : Option Addr} {fs : List Fl}
theorem Flds.len (h : Flds w A n c fs) : fs.length = n := by have := Sls.len h; simpa using this
theorem Flds.bounds (h : Flds w A n c fs) : n ≤ c ∧ c ≤ maxLen := ⟨Sls.cap h, Sls.max h⟩
theorem Flds.below (h : Flds w A n c fs) (hb : Below w.heap.size w w') : Flds w' A n c fs := Sls.below h hb
theorem Flds.turn {b : Nat} (h : Flds w A n c fs) (ht : Turn (fun k => k = b) w w') (hne : ∀ g o, A = some ⟨g, o, none⟩ → g ≠ b) : Flds w' A n c fs :=
  Sls.keep h ht.size fun g o hA hg => ht.block g hg (hne g o hA)
theorem Flds.cell (h : Flds w A n c fs) {j : Nat} (hj : j < n) : ∃ g o, A = some ⟨g, o, none⟩ ∧ g < w.heap.size ∧ w.cell? ⟨g, o + j * 4, none⟩ = some (.pointer (some ⟨(flAt fs j).b, (flAt fs j).o, none⟩)) ∧
    w.cell? ⟨g, o + j * 4 + 1, none⟩ = some (.int .i64 (flAt fs j).wid) ∧ w.cell? ⟨g, o + j * 4 + 2, none⟩ = some (.int .i64 (flAt fs j).lo) ∧ w.cell? ⟨g, o + j * 4 + 3, none⟩ = some (.int .i64 (flAt fs j).hi) := by
  have hl : j < fs.length := by have := h.len; omega
  obtain ⟨g, o, rfl, hg, _, hr⟩ := Sls.at_ h hj
  have e : (fs.map Fl.vs).getD j [] = (flAt fs j).vs := by unfold flAt; simp [List.getD, hl]
  rw [e] at hr
  exact ⟨g, o, rfl, hg, hr 0 _ rfl, hr 1 _ rfl, hr 2 _ rfl, hr 3 _ rfl⟩
end

/-- The numbers that lie where the fields say. -/
def Nums (w : World) (fs : List Fl) (x : Nat → Int) : Prop := ∀ j, j < fs.length → (flAt fs j).b < w.heap.size ∧ w.cell? ⟨(flAt fs j).b, (flAt fs j).o, none⟩ = some (.int .i64 (x j))
theorem Nums.below {w w' : World} {fs : List Fl} {x : Nat → Int} (h : Nums w fs x) (hb : Below w.heap.size w w') : Nums w' fs x := fun j hj => by
  obtain ⟨h1, h2⟩ := h j hj
  exact ⟨Nat.lt_of_lt_of_le h1 hb.size, (hb.cell (p := ⟨_, _, none⟩) h1).trans h2⟩

def inF (f : Fl) (x : Int) : Bool := decide (f.lo ≤ x ∧ x ≤ f.hi)
/-- Whether numbers may be. -/
def mayF (fs : List Fl) (x : Nat → Int) : Bool := (List.range fs.length).all fun j => inF (flAt fs j) (x j)
theorem mayF_no {fs : List Fl} {x : Nat → Int} {j : Nat} (hj : j < fs.length) (h : inF (flAt fs j) (x j) = false) : mayF fs x = false := by
  unfold mayF
  rw [List.all_eq_false]
  exact ⟨j, List.mem_range.2 hj, by rw [h]; simp⟩
theorem mayF_yes {fs : List Fl} {x : Nat → Int} (h : ∀ j, j < fs.length → inF (flAt fs j) (x j) = true) : mayF fs x = true := by
  unfold mayF
  rw [List.all_eq_true]
  exact fun j hj => h j (List.mem_range.1 hj)

theorem iwithin_any (x a b : Int) (r : Bool) (h : decide (a ≤ x ∧ x ≤ b) = r) (w : World) :
    Calls Try.prog 43 #[.int .i64 x, .int .i64 a, .int .i64 b] w fun e w' => e = .returned (.bool r) ∧ w = w' := by
  subst h
  go_enter Try.func43, Try.ntmps43
  go_wp2
  all_goals
    go_ret
    refine ⟨congrArg (fun x => Ending.returned (Value.bool x)) ?_, rfl⟩
    first
      | exact (decide_eq_false (by omega)).symm
      | exact decide_eq_decide.2 (by omega)
      | (rw [Bool.eq_iff_iff]; simp; omega)

set_option maxRecDepth 10000 in
set_option maxHeartbeats 2000000 in
theorem imay_any (fs : List Fl) (x : Nat → Int) (A : Option Addr) (n c : Nat) (w : World) (hF : Flds w A n c fs) (hN : Nums w fs x) :
    Calls Try.prog 40 #[.slice A n c] w fun e w' => e = .returned (.bool (mayF fs x)) ∧ Below w.heap.size w w' := by
  have Hlen := Lib.hid hF.len
  obtain ⟨hb1, hb2⟩ := hF.bounds
  unfold maxLen at hb2
  go_enter Try.func40, Try.ntmps40
  go_wp2_with fail
  go_loopw [7] (fun i wr => ∃ j : Nat, j ≤ n ∧ i = .int .i64 (j : Int) ∧ (∀ q, q < j → inF (flAt fs q) (x q) = true) ∧ Below w.heap.size w wr) (fun i _ => n - (intOf i).toNat)
  case atStart => exact ⟨0, Nat.zero_le _, rfl, fun q hq => by omega, Below.refl _ _⟩
  case round =>
    obtain ⟨j, hj, rfl, hall, hB⟩ := hrel
    by_cases hlt : j < n
    · obtain ⟨g, o, hA, hg, c0, c1, c2, c3⟩ := (hF.below hB).cell hlt
      subst hA
      obtain ⟨hnb, cx⟩ := hN j (by rw [Hlen.out]; exact hlt)
      have hno := fun h => Lib.hid (mayF_no (fs := fs) (x := x) (by rw [Hlen.out]; exact hlt) h)
      obtain ⟨f, hf⟩ : ∃ f, flAt fs j = f := ⟨_, rfl⟩
      obtain ⟨y, hy⟩ : ∃ y, x j = y := ⟨_, rfl⟩
      rw [hf] at c0 c1 c2 c3 hnb cx hno
      rw [hy] at cx hno
      go_wp2_with fail
      have bx : Below wr.heap.size wr (wr.alloc (.cells #[.pointer (some ⟨f.b, f.o, none⟩), .int .i64 f.wid, .int .i64 f.lo, .int .i64 f.hi] 60)) := (Below.refl _ _).alloc (Nat.le_refl _) _
      have x0 : (wr.alloc (.cells #[.pointer (some ⟨f.b, f.o, none⟩), .int .i64 f.wid, .int .i64 f.lo, .int .i64 f.hi] 60)).heap[wr.heap.size]? = some (.cells #[.pointer (some ⟨f.b, f.o, none⟩), .int .i64 f.wid, .int .i64 f.lo, .int .i64 f.hi] 60 (0, 0)) := heap_alloc_new wr _
      have zx : wr.heap.size < (wr.alloc (.cells #[.pointer (some ⟨f.b, f.o, none⟩), .int .i64 f.wid, .int .i64 f.lo, .int .i64 f.hi] 60)).heap.size := by simp
      generalize wr.alloc (.cells #[.pointer (some ⟨f.b, f.o, none⟩), .int .i64 f.wid, .int .i64 f.lo, .int .i64 f.hi] 60) = wx at bx x0 zx ⊢
      have q0 : ∀ u : Grown wx, u.to.cell? ⟨wr.heap.size, 0, none⟩ = some (.pointer (some ⟨f.b, f.o, none⟩)) := Grown.cell (by rw [cell_of_row _ _ _ _ _ _ x0]; rfl) zx
      have q2 : ∀ u : Grown wx, u.to.cell? ⟨wr.heap.size, 2, none⟩ = some (.int .i64 f.lo) := Grown.cell (by rw [cell_of_row _ _ _ _ _ _ x0]; rfl) zx
      have q3 : ∀ u : Grown wx, u.to.cell? ⟨wr.heap.size, 3, none⟩ = some (.int .i64 f.hi) := Grown.cell (by rw [cell_of_row _ _ _ _ _ _ x0]; rfl) zx
      have hfb : f.b < wx.heap.size := by have := hB.size; have := bx.size; omega
      have qx : ∀ u : Grown wx, u.to.cell? ⟨f.b, f.o, none⟩ = some (.int .i64 y) := Grown.cell ((bx.cell (p := ⟨_, _, none⟩) (by have := hB.size; show f.b < _; omega)).trans ((hB.cell (p := ⟨_, _, none⟩) hnb).trans cx)) hfb
      have hBx := hB.trans (bx.mono hB.size)
      have Hf := Lib.hid hf
      have Hy := Lib.hid hy
      clear c0 c1 c2 c3 x0 cx hf hy
      cases hr : inF f y
      · have Hno := hno hr
        refine wp_region_grown (by kernel_rfl) (by kernel_rfl) ?_
        repeat (go_big_quiet_step (first
          | (go_at_call 43; exact Calls.grown_same (iwithin_any y f.lo f.hi false hr _))
          | fail))
        refine wpQuiet_nil ?_
        rintro _ ⟨u, rfl⟩
        have hBu := hBx.trans (u.ok.mono hBx.size)
        go_wp2
        go_ret
        exact ⟨by rw [Hno.out]; rfl, hBu⟩
      · clear hno
        refine wp_region_grown (by kernel_rfl) (by kernel_rfl) ?_
        repeat (go_big_quiet_step (first
          | (go_at_call 43; exact Calls.grown_same (iwithin_any y f.lo f.hi true hr _))
          | fail))
        refine wpQuiet_nil ?_
        rintro _ ⟨u, rfl⟩
        have hBu := hBx.trans (u.ok.mono hBx.size)
        go_wp2
        refine ⟨⟨j + 1, by omega, rfl, fun q hq => ?_, hBu⟩, by simp [intOf]; omega⟩
        by_cases hqj : q = j
        · rw [hqj, Hf.out, Hy.out]; exact hr
        · exact hall q (by omega)
    · obtain rfl : j = n := by omega
      have Hyes := Lib.hid (mayF_yes (fs := fs) (x := x) (by rw [Hlen.out]; exact hall))
      go_wp2
      go_ret
      exact ⟨by rw [Hyes.out]; rfl, hB⟩

/-- What is laid down of the first k numbers, behind l. -/
def putF (fs : List Fl) (x : Nat → Int) (l : List UInt8) : Nat → List UInt8
  | 0 => l
  | k + 1 => putF fs x l k ++ dig (x k) (flAt fs k).wid.toNat
theorem putF_len {fs : List Fl} {x : Nat → Int} {l : List UInt8} {n : Nat} (hw : ∀ j, j < n → 1 ≤ (flAt fs j).wid ∧ (flAt fs j).wid ≤ 7) : ∀ k, k ≤ n → (putF fs x l k).length ≤ l.length + 7 * k
  | 0, _ => by simp [putF]
  | k + 1, hk => by
    have := putF_len (x := x) (l := l) hw k (by omega)
    have := hw k (by omega)
    simp only [putF, List.length_append, dig_len]
    omega

set_option maxRecDepth 10000 in
set_option maxHeartbeats 2000000 in
theorem iput_no (fs : List Fl) (x : Nat → Int) (A : Option Addr) (n c : Nat) (B : Option Addr) (m d : Nat) (w : World) (hF : Flds w A n c fs) (hN : Nums w fs x) (hr : mayF fs x = false) :
    Calls Try.prog 26 #[.slice B m d, .slice A n c] w fun e w' => e = .returned (.tuple #[.slice none 0 0, .int .i64 1]) ∧ Below w.heap.size w w' := by
  have Hm := imay_any fs x A n c w hF hN
  rw [hr] at Hm
  go_enter Try.func26, Try.ntmps26
  go_wp2_with (go_at_call 40; refine Hm.mono ?_; rintro e w1 ⟨rfl, hb1⟩)
  go_ret2
  exact ⟨rfl, hb1⟩

set_option maxRecDepth 10000 in
set_option maxHeartbeats 2000000 in
theorem iput_yes (fs : List Fl) (x : Nat → Int) (A : Option Addr) (n c : Nat) (B : Option Addr) (m d : Nat) (l : List UInt8) (w : World) (hF : Flds w A n c fs) (hN : Nums w fs x) (hr : mayF fs x = true)
    (hs : Sl w B m d l) (hm : m ≤ 1000) (hn : n ≤ 100) (hw : ∀ j, j < n → 1 ≤ (flAt fs j).wid ∧ (flAt fs j).wid ≤ 7) :
    Calls Try.prog 26 #[.slice B m d, .slice A n c] w fun e w' => ∃ A' n' c', e = .returned (.tuple #[.slice A' n' c', .int .i64 0]) ∧ Sl w' A' n' c' (putF fs x l n) ∧ Below w.heap.size w w' := by
  have Hm := imay_any fs x A n c w hF hN
  rw [hr] at Hm
  have Hlen := Lib.hid hF.len
  have Hl := Lib.hid hs.len
  obtain ⟨hc1, hc2⟩ := hF.bounds
  unfold maxLen at hc2
  go_enter Try.func26, Try.ntmps26
  go_wp2_with (go_at_call 40; refine Hm.mono ?_; rintro e w1 ⟨rfl, hb1⟩)
  have hF1 := hF.below hb1
  have hN1 := hN.below hb1
  have hs1 := hs.below hb1
  go_loopw [0, 13] (fun s i wr => ∃ (j : Nat) (A' : Option Addr) (n' c' : Nat), j ≤ n ∧ s = .slice A' n' c' ∧ i = .int .i64 (j : Int) ∧ Sl wr A' n' c' (putF fs x l j) ∧ Below w1.heap.size w1 wr) (fun _ i _ => n - (intOf i).toNat)
  case atStart => exact ⟨0, B, m, d, Nat.zero_le _, rfl, rfl, hs1, Below.refl _ _⟩
  case round =>
    obtain ⟨j, A', n', c', hj, rfl, rfl, hsr, hB⟩ := hrel
    by_cases hlt : j < n
    · obtain ⟨g, o, hA, hg, c0, c1, c2, c3⟩ := (hF1.below hB).cell hlt
      subst hA
      obtain ⟨hnb, cx⟩ := hN1 j (by rw [Hlen.out]; exact hlt)
      have hwj := hw j hlt
      have hlj := putF_len (x := x) (l := l) hw j hj
      have hnx : putS (putF fs x l j) (x j) (flAt fs j).wid = putF fs x l (j + 1) := by unfold putS; rw [if_pos (by omega)]; rfl
      have hn' := hsr.len
      obtain ⟨f, hf⟩ : ∃ f, flAt fs j = f := ⟨_, rfl⟩
      obtain ⟨y, hy⟩ : ∃ y, x j = y := ⟨_, rfl⟩
      rw [hf] at c0 c1 c2 c3 hnb cx hwj hnx
      rw [hy] at cx hnx
      have hnn : n' ≤ 17592186044416 := by rw [Hl.out] at hlj; omega
      have Hnx := Lib.hid hnx
      clear hf hy hnx hlj hn'
      go_wp2_with fail
      have bx : Below wr.heap.size wr (wr.alloc (.cells #[.pointer (some ⟨f.b, f.o, none⟩), .int .i64 f.wid, .int .i64 f.lo, .int .i64 f.hi] 60)) := (Below.refl _ _).alloc (Nat.le_refl _) _
      have x0 : (wr.alloc (.cells #[.pointer (some ⟨f.b, f.o, none⟩), .int .i64 f.wid, .int .i64 f.lo, .int .i64 f.hi] 60)).heap[wr.heap.size]? = some (.cells #[.pointer (some ⟨f.b, f.o, none⟩), .int .i64 f.wid, .int .i64 f.lo, .int .i64 f.hi] 60 (0, 0)) := heap_alloc_new wr _
      have zx : wr.heap.size < (wr.alloc (.cells #[.pointer (some ⟨f.b, f.o, none⟩), .int .i64 f.wid, .int .i64 f.lo, .int .i64 f.hi] 60)).heap.size := by simp
      generalize wr.alloc (.cells #[.pointer (some ⟨f.b, f.o, none⟩), .int .i64 f.wid, .int .i64 f.lo, .int .i64 f.hi] 60) = wx at bx x0 zx ⊢
      have q0 : wx.cell? ⟨wr.heap.size, 0, none⟩ = some (.pointer (some ⟨f.b, f.o, none⟩)) := by rw [cell_of_row _ _ _ _ _ _ x0]; rfl
      have q1 : wx.cell? ⟨wr.heap.size, 1, none⟩ = some (.int .i64 f.wid) := by rw [cell_of_row _ _ _ _ _ _ x0]; rfl
      have qx : wx.cell? ⟨f.b, f.o, none⟩ = some (.int .i64 y) := (bx.cell (p := ⟨_, _, none⟩) (by have := hB.size; show f.b < _; omega)).trans ((hB.cell (p := ⟨_, _, none⟩) hnb).trans cx)
      have hBx := hB.trans (bx.mono hB.size)
      have hsx := hsr.below bx
      clear c0 c1 c2 c3 x0 cx hsr
      go_still_tail 7, (by kernel_rfl)
      change wpList _ _ _ _ _ wx.drew
      go_wp2_with (go_at_call 41; refine (put_any A' n' c' (putF fs x l j) y f.wid _ hsx.drew hnn).mono ?_; rintro e w3 ⟨A3, n3, c3, rfl, hown3, hb3⟩)
      rw [Hnx.out] at hown3
      have hb3' : Below wx.heap.size wx w3 := (Below.refl _ _).drew.trans hb3
      exact ⟨⟨j + 1, A3, n3, c3, by omega, rfl, rfl, hown3.sl, hBx.trans (hb3'.mono hBx.size)⟩, by simp [intOf]; omega⟩
    · obtain rfl : j = n := by omega
      go_wp2
      go_ret2
      exact ⟨A', n', c', rfl, hsr, hb1.trans (hB.mono hb1.size)⟩
end Go.Proofs.Ytimlhhemfipooaa
