/- The reference's counts: Load. -/
import Derived.Test.YtancpkdkfemgfaaCtF
namespace Go.Proofs.Ytancpkdkfemgfaa
open Go Go.RowKit Go.Proofs

/-- The k-th number of two bytes. -/
def ldX (l : List UInt8) (k : Nat) : Int := numL ((l.drop (2 * k)).take 2)
/-- A count that may not be. -/
def rowBad (n f i : Nat) (l : List UInt8) (k : Nat) : Bool := decide (ldX l k ≠ 0 ∧ (i * 118 + k < f ∨ n ≤ i * 118 + k))
def rowTo (n i : Nat) (l : List UInt8) (C : Ct) : Nat → Ct
  | 0 => C
  | k + 1 => if i * 118 + k < n then (rowTo n i l C k).put (i * 118 + k) (ldX l k) else rowTo n i l C k
def rowGood (n f i : Nat) (l : List UInt8) : Prop := l.length = 236 ∧ ∀ k, k < 118 → rowBad n f i l k = false
def allTo (n : Nat) (ls : List (List UInt8)) : Nat → Ct
  | 0 => Ct.zero n
  | i + 1 => rowTo n i (nth ls i) (allTo n ls i) 118
open Classical in
/-- What Load answers. -/
noncomputable def loadE (n : Int) (ls : List (List UInt8)) : Int := if ¬ (32 ≤ n ∧ n ≤ 2048) then 1 else if ls.length ≠ areaN n.toNat ∨ ¬ ∀ i, i < areaN n.toNat → rowGood n.toNat (2 + 2 * areaN n.toNat) i (nth ls i) then 3 else 0
def loadC (n : Nat) (ls : List (List UInt8)) : Ct := (allTo n ls (areaN n)).commit
theorem rowTo_n (n i : Nat) (l : List UInt8) (C : Ct) (k : Nat) : (rowTo n i l C k).n = C.n := by
  induction k with
  | zero => rfl
  | succ k ih => unfold rowTo; split; rw [Ct.put_n, ih]; exact ih
theorem allTo_n (n : Nat) (ls : List (List UInt8)) (i : Nat) : (allTo n ls i).n = n := by
  induction i with
  | zero => exact Ct.zero_n n
  | succ i ih => exact (rowTo_n _ _ _ _ _).trans ih
theorem taken_c (A : Option Addr) (m k c : Nat) (l : List UInt8) (w : World) (h : Sl w A m c l) (hk : m = k + 2) (hm : m ≤ 100000) :
    Calls Try.prog 43 #[.slice A m c, .int .i64 2] w fun e w' => ∃ A' c', e = .returned (.tuple #[.int .i64 (numL (l.take 2)), .slice A' k c', .int .i64 0]) ∧ Own w' w.heap.size 5 A' k c' (l.drop 2) ∧ Below w.heap.size w w' := by
  refine (reftake_yes A m c l 2 w h (by omega) (by omega) (by omega) (by omega)).mono ?_
  rintro e w' ⟨A', n', c', rfl, own, hb⟩
  have h4 := own.len
  rw [List.length_drop, h.len] at h4
  have : n' = k := by have : (2 : Int).toNat = 2 := rfl; omega
  subst this
  exact ⟨A', c', rfl, own, hb⟩
/-- A row of a later block is the same behind a store. -/
theorem own_off {w : World} {base g n c : Nat} {e : TypeId} {A : Option Addr} {l : List UInt8} (h : Own w base e A n c l) (hg : g < base) (u : Value) (a : Nat) : Sl (w.setCell ⟨g, a, none⟩ u) A n c l := by
  have h2 : Own (w.setCell ⟨g, a, none⟩ u) base e A n c l := owns_keep h fun k hk => by
    cases A with
    | none => cases hk
    | some ad =>
      have hk' : some ad.block = some k := hk
      injection hk' with hk'
      have := (h.block ad rfl).1
      exact Below.heap_setCell _ _ _ _ (by show k ≠ g; omega)
  exact h2.sl
/-- The row of now, in a later world: its block was there. -/
theorem RC.nowLt {w : World} {p : Nat} {S : Nat → Prop} {C : Ct} (H : RC w p S C) {w' : World} (hb : Below w.heap.size w w') {g n c : Nat} (hc : w'.cell? ⟨p, 0, none⟩ = some (.slice (some ⟨g, 0, none⟩) n c)) : g < w.heap.size := by
  obtain ⟨g1, cg, b, cb, c0, _, _, _, hnow, _⟩ := H.open_
  have e := (hb.cell (p := ⟨p, 0, none⟩) H.lt).trans c0
  rw [hc] at e
  injection e with e
  injection e with e
  injection e with e
  injection e with e
  have h := World.block_lt_of_cell? _ _ (hnow 0 (by have := H.ok.1; omega)).1
  rw [e]
  exact h
set_option maxRecDepth 10000 in
set_option maxHeartbeats 4000000 in
theorem crefload_in (n : Nat) (ls : List (List UInt8)) (h1 : 32 ≤ n) (h2 : n ≤ 2048) (A : Option Addr) (m c : Nat) {w : World} (H : Parts w A m c ls) (hm : m = areaN n) :
    Calls Try.prog 29 #[.int .i64 (n : Int), .slice A m c] w fun e w' => (((∀ i, i < areaN n → rowGood n (2 + 2 * areaN n) i (nth ls i)) ∧ ∃ p, e = .returned (.tuple #[.pointer (some ⟨p, 0, none⟩), .int .i64 0]) ∧ RC w' p (fun k => w.heap.size ≤ k) (loadC n ls)) ∨
      ((¬ ∀ i, i < areaN n → rowGood n (2 + 2 * areaN n) i (nth ls i)) ∧ e = .returned (.tuple #[.pointer none, .int .i64 3]))) ∧ Below w.heap.size w w' := by
  obtain ⟨many, hmn⟩ : ∃ k, areaN n = k := ⟨_, rfl⟩
  have hm2 : many ≤ 1000 := by rw [← hmn]; unfold areaN; omega
  have Hmn := Lib.hid hmn
  have hm' : m = many := by omega
  subst hm'
  rw [hmn]
  clear hm hmn
  go_enter Try.func29, Try.ntmps29
  go_wp2_with fail
  refine (crefnew_any n h1 h2 w).mono ?_
  rintro e w1 ⟨p, rfl, R, B⟩
  go_wp2_with fail
  refine (xrefareas_any (n : Int) n rfl (by omega) m Hmn.out w1).mono ?_
  rintro e w2 ⟨rfl, rfl⟩
  go_wp2_with fail
  have hz1 := B.size
  clear hz1
  go_loopw [10, 11, 12, 13, 14, 15, 16] (fun i _ _ _ _ _ _ wr => ∃ j : Nat, j ≤ m ∧ i = .int .i64 (j : Int) ∧ RC wr p (fun k => w.heap.size ≤ k) (allTo n ls j) ∧ (∀ q, q < j → rowGood n (2 + 2 * m) q (nth ls q)) ∧ Below w.heap.size w wr) (fun i _ _ _ _ _ _ _ => m - (intOf i).toNat)
  case atStart => exact ⟨0, Nat.zero_le _, rfl, R, fun q hq => absurd hq (Nat.not_lt_zero _), B⟩
  case round =>
    clear R B
    obtain ⟨j, hj, rfl, R, hall, B⟩ := hrel
    by_cases hlt : j < m
    · obtain ⟨ad, A1, n1, c1, eA, hbl, hcl, hsl⟩ := H.cell hlt
      subst eA
      have hcr := (B.cell (p := ad.add j) (by rw [addr_block]; exact hbl)).trans hcl
      have hsr := hsl.below B
      have e3 : (j : Int) < (m : Int) := by omega
      have e0 : (0 : Int) ≤ (j : Int) := by omega
      have hl1 := hsl.len
      obtain ⟨l, hl⟩ : ∃ l, nth ls j = l := ⟨_, rfl⟩
      rw [hl] at hsl hsr hl1
      have Hl := Lib.hid hl
      have Hall := Lib.hid hall
      clear hl hall hcl
      by_cases h236 : n1 = 236
      · subst h236
        go_wp2_with fail
        have Hl1 := Lib.hid hl1
        clear hcr hsl hl1
        go_loopw [11, 12, 13, 14, 15, 16] (fun b k _ _ _ _ wq => ∃ (t r : Nat) (A' : Option Addr) (c' : Nat), t ≤ 118 ∧ r + 2 * t = 236 ∧ k = .int .i64 (t : Int) ∧ b = .slice A' r c' ∧ Sl wq A' r c' (l.drop (2 * t)) ∧ RC wq p (fun k => w.heap.size ≤ k) (rowTo n j l (allTo n ls j) t) ∧ (∀ q, q < t → rowBad n (2 + 2 * m) j l q = false) ∧ Below w.heap.size w wq) (fun _ k _ _ _ _ _ => 118 - (intOf k).toNat)
        case atStart => exact ⟨0, 236, A1, c1, Nat.zero_le _, rfl, rfl, rfl, hsr, R, fun q hq => absurd hq (Nat.not_lt_zero _), B⟩
        case round =>
          clear R B hsr
          obtain ⟨t, r, A2, c2, ht, hr, rfl, rfl, hs, R, hgood, B⟩ := hrel
          by_cases hlt2 : t < 118
          · obtain ⟨r2, rfl⟩ : ∃ r2, r = r2 + 2 := ⟨r - 2, by omega⟩
            have e5 : (t : Int) < 118 := by omega
            obtain ⟨y, hy⟩ : ∃ y, numL ((l.drop (2 * t)).take 2) = y := ⟨_, rfl⟩
            have hy2 : y < 65536 := by
              have h1 := numL_lt ((l.drop (2 * t)).take 2)
              have h2 : ((l.drop (2 * t)).take 2).length = 2 := by rw [List.length_take, hs.len]; omega
              rw [h2, hy] at h1
              exact h1
            have hX := Lib.hid (show ldX l t = (y : Int) by unfold ldX; rw [hy])
            obtain ⟨C1, hC1⟩ : ∃ C1, rowTo n j l (allTo n ls j) t = C1 := ⟨_, rfl⟩
            have hn1 : C1.n = n := by rw [← hC1, rowTo_n, allTo_n]
            rw [hC1] at R
            have Hnext := Lib.hid (show rowTo n j l (allTo n ls j) (t + 1) = if j * 118 + t < n then C1.put (j * 118 + t) (ldX l t) else C1 by rw [← hC1]; rfl)
            have Hy := Lib.hid hy
            have Hgood := Lib.hid hgood
            clear hy hC1 hgood
            go_wp2_with fail
            refine (taken_c A2 (r2 + 2) r2 c2 _ wr hs rfl (by omega)).mono ?_
            rintro e w4 ⟨A4, c4, rfl, own4, hb4⟩
            rw [Hy.out]
            rw [List.drop_drop] at own4
            have R4 := R.below hb4
            have B4 := B.trans (hb4.mono B.size)
            have sl4 := own4.sl
            obtain ⟨g, cg, b0, cb, c0, c1, k1, k2, hnow, hdone, hput⟩ := R4.open_
            have hg := R.nowLt hb4 c0
            rw [hn1] at c0 k1
            have Hput := Lib.hid hput
            have Hnow := Lib.hid hnow
            have hsep : ∀ u a, Sl (w4.setCell ⟨g, a, none⟩ u) A4 r2 c4 (l.drop (2 * t + 2)) := fun u a => own_off own4 hg u a
            have Hsep := Lib.hid hsep
            obtain ⟨a, ha⟩ : ∃ a, j * 118 + t = a := ⟨_, rfl⟩
            have hA : (j : Int) * 118 + (t : Int) = (a : Int) := by omega
            have ha2 : a ≤ 200000 := by omega
            have hbad0 := Lib.hid (show rowBad n (2 + 2 * m) j l t = decide ((y : Int) ≠ 0 ∧ (a < 2 + 2 * m ∨ n ≤ a)) by unfold rowBad; rw [hX.out, ha])
            rw [ha, hX.out] at Hnext
            clear hX
            have ha3 := Lib.hid ha
            have hgn : ∀ {Z : Prop}, (rowBad n (2 + 2 * m) j l t = false) → ∀ q, q < t + 1 → rowBad n (2 + 2 * m) j l q = false := fun h q hq => by
              by_cases e : q = t
              · rw [e]; exact h
              · exact Hgood.out q (by omega)
            have Hgn := Lib.hid (@hgn True)
            clear hput hnow hdone c1 k2 ha hsep hgn hs own4 R
            by_cases hy0 : y = 0
            · subst hy0
              have hgd := Lib.hid (show rowBad n (2 + 2 * m) j l t = false by rw [hbad0.out]; simp)
              by_cases han : a < n
              · obtain ⟨hc, hfz⟩ := Hnow.out a (by omega)
                obtain ⟨R5, T5, d0, d1⟩ := Hput.out a ((0 : Nat) : Int) (by omega) (by omega) (by omega)
                have e8 : (a : Int) < (n : Int) := by omega
                have e9 : (0 : Int) ≤ (a : Int) := by omega
                have q5 := Hsep.out (.int .i64 ((0 : Nat) : Int)) a
                rw [if_pos han] at Hnext
                rw [← Hnext.out] at R5
                have B5 := B4.trans (T5.below (fun _ hk => hk) B4.size)
                obtain ⟨x0, hx0⟩ : ∃ x, nm C1.now a = x := ⟨_, rfl⟩
                rw [hx0] at hc
                clear hx0 hn1
                go_wp2
                exact ⟨⟨t + 1, r2, A4, c4, by omega, by omega, by go_num, rfl, q5, R5, Hgn.out hgd.out, B5⟩, by simp [intOf]; omega⟩
              · have e8 : (n : Int) ≤ (a : Int) := by omega
                rw [if_neg han] at Hnext
                go_wp2
                exact ⟨⟨t + 1, r2, A4, c4, by omega, by omega, by go_num, rfl, sl4, by rw [Hnext.out]; exact R4, Hgn.out hgd.out, B4⟩, by simp [intOf]; omega⟩
            · have hyb : ((y : Int) == 0) = false := by simpa using hy0
              have hyi : ¬ (y : Int) = 0 := by omega
              by_cases haf : a < 2 + 2 * m
              · have e7 : (a : Int) < 2 + 2 * (m : Int) := by omega
                have hno : ¬ ∀ i, i < m → rowGood n (2 + 2 * m) i (nth ls i) := fun hh => by
                  have h3 := (hh j hlt).2 t hlt2
                  rw [Hl.out, hbad0.out, decide_eq_false_iff_not] at h3
                  exact h3 ⟨hyi, .inl haf⟩
                go_wp2
                go_ret2
                exact ⟨.inr ⟨hno, rfl⟩, B4⟩
              · have e7 : ¬ (a : Int) < 2 + 2 * (m : Int) := by omega
                by_cases han : a < n
                · have hgd := Lib.hid (show rowBad n (2 + 2 * m) j l t = false by rw [hbad0.out]; exact decide_eq_false (by omega))
                  obtain ⟨hc, hfz⟩ := Hnow.out a (by omega)
                  obtain ⟨R5, T5, d0, d1⟩ := Hput.out a ((y : Nat) : Int) (by omega) (by omega) (by omega)
                  have e8 : (a : Int) < (n : Int) := by omega
                  have e9 : (0 : Int) ≤ (a : Int) := by omega
                  have q5 := Hsep.out (.int .i64 ((y : Nat) : Int)) a
                  rw [if_pos han] at Hnext
                  rw [← Hnext.out] at R5
                  have B5 := B4.trans (T5.below (fun _ hk => hk) B4.size)
                  obtain ⟨x0, hx0⟩ : ∃ x, nm C1.now a = x := ⟨_, rfl⟩
                  rw [hx0] at hc
                  clear hx0 hn1
                  go_wp2
                  exact ⟨⟨t + 1, r2, A4, c4, by omega, by omega, by go_num, rfl, q5, R5, Hgn.out hgd.out, B5⟩, by simp [intOf]; omega⟩
                · have e8 : (n : Int) ≤ (a : Int) := by omega
                  have hno : ¬ ∀ i, i < m → rowGood n (2 + 2 * m) i (nth ls i) := fun hh => by
                    have h3 := (hh j hlt).2 t hlt2
                    rw [Hl.out, hbad0.out, decide_eq_false_iff_not] at h3
                    exact h3 ⟨hyi, .inr (by omega)⟩
                  go_wp2
                  go_ret2
                  exact ⟨.inr ⟨hno, rfl⟩, B4⟩
          · have ht2 : t = 118 := by omega
            subst ht2
            go_wp2
            refine ⟨⟨j + 1, by omega, by go_num, ?_, fun q hq => ?_, B⟩, by simp [intOf]; omega⟩
            · rw [show allTo n ls (j + 1) = rowTo n j l (allTo n ls j) 118 by rw [← Hl.out]; rfl]
              exact R
            · by_cases e : q = j
              · rw [e, Hl.out]
                exact ⟨Hl1.out, hgood⟩
              · exact Hall.out q (by omega)
      · have e4 : ¬ (n1 : Int) = 236 := by omega
        have hbad : ¬ ∀ i, i < m → rowGood n (2 + 2 * m) i (nth ls i) := fun hh => h236 (by have := (hh j hlt).1; rw [Hl.out] at this; omega)
        have hb : ((n1 : Int) == 236) = false := by simpa using e4
        go_wp2
        go_ret2
        exact ⟨.inr ⟨hbad, rfl⟩, B⟩
    · have hjm : j = m := by omega
      subst hjm
      go_wp2_with fail
      refine (crefcommit_any R).mono ?_
      rintro e w5 ⟨rfl, R5, T5⟩
      go_wp2
      go_ret2
      refine ⟨.inl ⟨hall, p, rfl, ?_⟩, ?_⟩
      · refine (show loadC n ls = (allTo n ls j).commit by unfold loadC; rw [Hmn.out]) ▸ R5.mono fun k hk => ?_
        have := B.size
        rcases hk with hk | hk <;> omega
      · exact B.trans (T5.below (fun _ hk => hk) B.size)
end Go.Proofs.Ytancpkdkfemgfaa
