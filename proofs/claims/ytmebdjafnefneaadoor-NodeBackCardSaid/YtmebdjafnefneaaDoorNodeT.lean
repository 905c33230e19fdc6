/- The code's node: Kids. -/
import Derived.Test.YtmebdjafnefneaaDoorPkNR
import Derived.Test.YtmebdjafnefneaaDoorNodeG
namespace Go.Proofs.YtmebdjafnefneaaDoor
open Go Go.RowKit Go.Proofs

theorem numL_two (v : List UInt8) (h : v.length = 3) : (numL ((v.drop 1).take 2) : Int) = 256 * (byt v 1 : Int) + (byt v 2 : Int) := by
  match v, h with
  | [a, b, c], _ => simp [numL, byt]
set_option maxHeartbeats 4000000 in
theorem cnames_any (x : Itm) (r : Bool) (hr : (itNamed x).isSome = r) (B : Option Addr) (m d : Nat) (w : World) (hv : Sl w B m d x.v) :
    Calls Tryd.prog 58 #[.agg #[.int .i64 x.k.obj, .int .i64 x.k.kind, .int .i64 x.k.off, .slice B m d]] w fun e w' => e = .returned (.bool r) ∧ Below w.heap.size w w' := by
  have hvl := hv.len
  have b1 : ∀ o, Below w.heap.size w (w.alloc o) := fun o => (Below.refl _ _).alloc (Nat.le_refl _) o
  by_cases hk3 : x.k.kind = 3
  · rw [hk3]
    by_cases h3 : m = 3
    · subst h3
      obtain ⟨ad, rfl, hadl, v0⟩ := hv.cell (k := 0) (by omega)
      have v0' : ∀ o, (w.alloc o).cell? ad = some (.int .u8 (byt x.v 0 : Int)) := fun o => ((b1 o).cell (p := ad) hadl).trans v0
      by_cases hb0 : byt x.v 0 = 1
      · obtain rfl : r = true := by rw [← hr]; unfold itNamed; rw [if_pos ⟨hk3, hvl, hb0⟩]; rfl
        rw [hb0] at v0'
        clear hb0 v0 hr hvl hk3
        go_enter Tryd.func58, Tryd.ntmps58
        go_wp2
        go_ret
        exact ⟨rfl, b1 _⟩
      · obtain rfl : r = false := by rw [← hr]; unfold itNamed; rw [if_neg (fun h => hb0 h.2.2)]; rfl
        obtain ⟨y0, hy0⟩ : ∃ y0, byt x.v 0 = y0 := ⟨_, rfl⟩
        rw [hy0] at v0' hb0
        have n1 : ((y0 : Int) == 1) = false := by simp; omega
        have n2 : decide ((y0 : Int) = 1) = false := decide_eq_false (by omega)
        clear hy0 v0 hr hvl hk3
        go_enter Tryd.func58, Tryd.ntmps58
        go_wp2
        go_ret
        exact ⟨rfl, b1 _⟩
    · obtain rfl : r = false := by rw [← hr]; unfold itNamed; rw [if_neg (fun h => h3 (by rw [← hvl]; exact h.2.1))]; rfl
      have n1 : ((m : Int) == 3) = false := by simp; omega
      have n2 : decide ((m : Int) = 3) = false := decide_eq_false (by omega)
      clear hr hvl hk3
      go_enter Tryd.func58, Tryd.ntmps58
      go_wp2
      go_ret
      exact ⟨rfl, b1 _⟩
  · obtain rfl : r = false := by rw [← hr]; unfold itNamed; rw [if_neg (fun h => hk3 h.1)]; rfl
    obtain ⟨y0, hy0⟩ : ∃ y0, x.k.kind = y0 := ⟨_, rfl⟩
    rw [hy0] at hk3 ⊢
    have n1 : (y0 == 3) = false := by simp; omega
    have n2 : decide (y0 = 3) = false := decide_eq_false (by omega)
    clear hy0 hr hvl
    go_enter Tryd.func58, Tryd.ntmps58
    go_wp2
    go_ret
    exact ⟨rfl, b1 _⟩
theorem intl_nil (w : World) : Intl w none 0 0 [] := sls_nil w 1

set_option maxRecDepth 100000 in
set_option maxHeartbeats 8000000 in
theorem cnkids_any (N : Nd) (hfit : N.fit) (A : Option Addr) (n c : Nat) (B : Option Addr) (m d : Nat) (w : World) (hI : Itms w A n c N.items) (hK : Kidl w B m d N.kids) (hn : n ≤ 1000) (hm : m ≤ 1000) :
    Calls Tryd.prog 20 #[.agg #[.int .i64 N.lvl, .slice A n c, .slice B m d]] w fun e w' => ∃ A' n' c', e = .returned (.slice A' n' c') ∧ Intl w' A' n' c' N.named ∧ Below w.heap.size w w' := by
  have HlI := Lib.hid hI.len
  have HlK := Lib.hid hK.len
  go_enter Tryd.func20, Tryd.ntmps20
  go_wp2_with fail
  have N1 : NB (w.alloc (.cells #[.int .i64 N.lvl, .slice A n c, .slice B m d] 25)) w.heap.size N.lvl A n c B m d := NB.new w _ _ _ _ _ _ _ _
  have b1 : Below w.heap.size w (w.alloc (.cells #[.int .i64 N.lvl, .slice A n c, .slice B m d] 25)) := (Below.refl _ _).alloc (Nat.le_refl _) _
  generalize w.alloc (.cells #[.int .i64 N.lvl, .slice A n c, .slice B m d] 25) = w1 at N1 b1 ⊢
  by_cases hl : N.lvl = 0
  · have hk0 : N.kids.length = 0 := by rw [hfit.1 hl]; rfl
    have Hk0 := Lib.hid (show namedK N 0 = namedI N 0 by have := namedK_all N; rw [hk0] at this; exact this)
    refine (cleaf_any N.lvl true (decide_eq_true hl) A n c B m d w1).mono ?_
    rintro e w2 ⟨rfl, hb2⟩
    have N2 := N1.below hb2 N1.lt
    have B2 := b1.trans (hb2.mono b1.size)
    have q1 := N2.c1
    have zN := N2.lt
    have own0 : OwnS w2 (w.heap.size + 1) 3 1 none 0 0 (namedI N 0) := by rw [← Hk0.out]; exact owns_none _ _ _ _
    clear hl hk0 N1 b1 hb2 Hk0
    go_wp2_with fail
    clear q1
    go_loopw [3, 31] (fun l i wr => ∃ (j q : Nat) (A' : Option Addr) (c' : Nat), j ≤ n ∧ q ≤ j ∧ i = .int .i64 (j : Int) ∧ l = .slice A' q c' ∧ OwnS wr (w.heap.size + 1) 3 1 A' q c' (namedI N j) ∧ Below w.heap.size w wr ∧ w.heap.size < wr.heap.size) (fun _ i _ => n - (intOf i).toNat)
    case atStart => exact ⟨0, 0, _, _, Nat.zero_le _, Nat.le_refl _, rfl, rfl, own0, B2, zN⟩
    case round =>
      obtain ⟨j, q, A', c', hj, hq, rfl, rfl, own, hB, hz⟩ := hrel
      by_cases hlt : j < n
      · obtain ⟨g, o, B', m', d', hA, hg, c0, c1, c2, c3, hsl⟩ := (hI.below hB).cell hlt
        subst hA
        have Hyes := fun z h => Lib.hid (namedI_yes N j (by rw [HlI.out]; exact hlt) z h)
        have Hno := fun h => Lib.hid (namedI_no N j (by rw [HlI.out]; exact hlt) h)
        obtain ⟨x, hx⟩ : ∃ x, itAt N.items j = x := ⟨_, rfl⟩
        rw [hx] at c0 c1 c2 hsl Hyes Hno
        clear hx
        have bx : Below wr.heap.size wr (wr.alloc (.cells #[.int .i64 x.k.obj, .int .i64 x.k.kind, .int .i64 x.k.off, .slice B' m' d'] 52)) := (Below.refl _ _).alloc (Nat.le_refl _) _
        have x0 : (wr.alloc (.cells #[.int .i64 x.k.obj, .int .i64 x.k.kind, .int .i64 x.k.off, .slice B' m' d'] 52)).heap[wr.heap.size]? = some (.cells #[.int .i64 x.k.obj, .int .i64 x.k.kind, .int .i64 x.k.off, .slice B' m' d'] 52 (0, 0)) := heap_alloc_new wr _
        have zx : wr.heap.size < (wr.alloc (.cells #[.int .i64 x.k.obj, .int .i64 x.k.kind, .int .i64 x.k.off, .slice B' m' d'] 52)).heap.size := by simp
        go_wp2_with fail
        generalize wr.alloc (.cells #[.int .i64 x.k.obj, .int .i64 x.k.kind, .int .i64 x.k.off, .slice B' m' d'] 52) = wx at bx x0 zx ⊢
        have x3 : wx.cell? ⟨wr.heap.size, 3, none⟩ = some (.slice B' m' d') := by rw [cell_of_row _ _ _ _ _ _ x0]; rfl
        have ownx := own.below bx
        have hslx := hsl.below bx
        have hBx := hB.trans (bx.mono hB.size)
        obtain ⟨hbd1, hbd2⟩ := (hI.below hB).bounds
        clear c0 c1 c2 c3 x0 own hsl
        cases hit : itNamed x
        · have hN := Hno hit
          refine (cnames_any x false (by rw [hit]; rfl) B' m' d' wx hslx).mono ?_
          rintro e w3 ⟨rfl, hb3⟩
          have own3 := ownx.below hb3
          rw [← hN.out] at own3
          have hB3 := hBx.trans (hb3.mono hBx.size)
          have hz3 : w.heap.size < w3.heap.size := by have := hb3.size; omega
          clear Hyes Hno hN hit
          go_wp2
          exact ⟨⟨j + 1, q, A', c', by omega, by omega, by go_num, rfl, own3, hB3, hz3⟩, by simp [intOf]; omega⟩
        · rename_i z
          have hN := Hyes z hit
          refine (cnames_any x true (by rw [hit]; rfl) B' m' d' wx hslx).mono ?_
          rintro e w3 ⟨rfl, hb3⟩
          have own3 := ownx.below hb3
          have hB3 := hBx.trans (hb3.mono hBx.size)
          have hz3 : w.heap.size < w3.heap.size := by have := hb3.size; omega
          have y3 := (hb3.cell (p := ⟨wr.heap.size, 3, none⟩) zx).trans x3
          have hsl3 := hslx.below hb3
          have hl3 := hsl3.len
          have hcap := hsl3.cap
          have hmx := hsl3.max
          unfold maxLen at hmx
          have hv3 : x.v.length = 3 ∧ (numL ((x.v.drop 1).take 2) : Int) = z := by
            unfold itNamed at hit
            split at hit
            · rename_i h
              exact ⟨h.2.1, by rw [numL_two _ h.2.1]; exact Option.some.inj hit⟩
            · cases hit
          obtain rfl : 3 = m' := by rw [← hl3]; exact hv3.1.symm
          have hz4 := Lib.hid hv3.2
          obtain ⟨b4, o4, rfl, _, _⟩ := range_sl hsl3 (by omega)
          have hd := hsl3.drop (k := 1) (by omega)
          rw [if_neg (by omega : ¬ d' = 1)] at hd
          have hd4 : Sl w3 (some ⟨b4, o4 + 1, none⟩) 2 (d' - 1) (x.v.drop 1) := hd
          have hcd : (1 : Int) ≤ (d' : Int) := by omega
          have hcd1 : ¬ d' = 1 := by omega
          clear hd Hyes Hno hit hv3 hl3 bx x3 ownx hslx hB hz zx
          go_wp2_with fail
          refine (ktake_says (some ⟨b4, o4 + 1, none⟩) 2 (d' - 1) _ 2 0 w3 hd4 (by omega) (by omega) (by omega) (by omega) (by decide)).mono ?_
          rintro e w4 ⟨A4, c4, rfl, _, hb4⟩
          rw [show (2 : Int).toNat = 2 from rfl, hz4.out]
          have own4 := own3.below hb4
          have hB4 := hB3.trans (hb4.mono hB3.size)
          have hz5 : w.heap.size < w4.heap.size := by have := hb4.size; omega
          have b5 : Below w4.heap.size w4 (w4.alloc (.cells #[.int .i64 z] 3)) := (Below.refl _ _).alloc (Nat.le_refl _) _
          clear own3 y3 hd4 hsl3 hz4
          go_wp2_with (first
            | (at_builtin; refine wp_append_s _ TInt rfl _ _ rfl (w.heap.size + 1) A' q c' (namedI N j) rfl (own4.below b5) (some ⟨w4.heap.size, 0, none⟩) 1 1 [iv z] rfl (lit1_int w4 z) (by omega) (iv_one z) (by omega) (by omega) (by have := b5.size; omega) ?_)
            | fail)
          intro A5 c5 w5 own5 hb5
          have hb6 : Below (w.heap.size + 1) w4 w5 := (b5.mono (by omega)).trans hb5
          have hB5 := hB4.trans (hb6.mono (by omega))
          have hz6 : w.heap.size < w5.heap.size := by have := hb6.size; omega
          rw [← hN.out] at own5
          go_wp2
          exact ⟨⟨j + 1, q + 1, _, _, by omega, by omega, by go_num, rfl, own5, hB5, hz6⟩, by simp [intOf]; omega⟩
      · obtain rfl : n = j := by omega
        have ownN : OwnS wr (w.heap.size + 1) 3 1 A' q c' (N.named.map iv) := by rw [← namedI_all, HlI.out]; exact own
        go_wp2
        go_ret
        exact ⟨_, _, _, rfl, ownN.sls (by omega), hB⟩
  · have hi0 : N.items.length = 0 := by rw [hfit.2 hl]; rfl
    have Hi0 := Lib.hid (show namedI N 0 = N.named.map iv by have := namedI_all N; rw [hi0] at this; exact this)
    refine (cleaf_any N.lvl false (decide_eq_false hl) A n c B m d w1).mono ?_
    rintro e w2 ⟨rfl, hb2⟩
    have N2 := N1.below hb2 N1.lt
    have B2 := b1.trans (hb2.mono b1.size)
    have q2 := N2.c2
    have zN := N2.lt
    clear hl hi0 N1 b1 hb2
    go_wp2_with fail
    clear q2
    go_loopw [3, 17] (fun l i wr => ∃ (j : Nat) (A' : Option Addr) (c' : Nat), j ≤ m ∧ i = .int .i64 (j : Int) ∧ l = .slice A' j c' ∧ OwnS wr (w.heap.size + 1) 3 1 A' j c' (namedK N j) ∧ Below w.heap.size w wr ∧ w.heap.size < wr.heap.size) (fun _ i _ => m - (intOf i).toNat)
    case atStart => exact ⟨0, _, _, Nat.zero_le _, rfl, rfl, owns_none _ _ _ _, B2, zN⟩
    case round =>
      obtain ⟨j, A', c', hj, rfl, rfl, own, hB, hz⟩ := hrel
      by_cases hlt : j < m
      · obtain ⟨g, o, hA, hg, c0, c1, c2, c3⟩ := (hK.below hB).cell hlt
        subst hA
        have e2 := namedK_next N j (by rw [HlK.out]; exact hlt)
        obtain ⟨x, hx⟩ : ∃ x, kidAt N.kids j = x := ⟨_, rfl⟩
        rw [hx] at c0 c1 c2 c3 e2
        have E2 := Lib.hid e2
        clear e2 hx
        have bx : Below wr.heap.size wr (wr.alloc (.cells #[.int .i64 x.k.obj, .int .i64 x.k.kind, .int .i64 x.k.off, .int .i64 x.a] 59)) := (Below.refl _ _).alloc (Nat.le_refl _) _
        have b5 : Below wr.heap.size wr ((wr.alloc (.cells #[.int .i64 x.k.obj, .int .i64 x.k.kind, .int .i64 x.k.off, .int .i64 x.a] 59)).alloc (.cells #[.int .i64 x.a] 3)) := bx.alloc bx.size _
        have LIT : Sls ((wr.alloc (.cells #[.int .i64 x.k.obj, .int .i64 x.k.kind, .int .i64 x.k.off, .int .i64 x.a] 59)).alloc (.cells #[.int .i64 x.a] 3)) 1 (some ⟨wr.heap.size + 1, 0, none⟩) 1 1 [iv x.a] := by
          have := lit1_int (wr.alloc (.cells #[.int .i64 x.k.obj, .int .i64 x.k.kind, .int .i64 x.k.off, .int .i64 x.a] 59)) x.a
          rwa [World.size_alloc] at this
        go_wp2_with (first
          | (at_builtin; refine wp_append_s _ TInt rfl _ _ rfl (w.heap.size + 1) A' j c' (namedK N j) rfl (own.below b5) (some ⟨wr.heap.size + 1, 0, none⟩) 1 1 [iv x.a] rfl LIT (by omega) (iv_one x.a) (by omega) (by omega) (by have := b5.size; omega) ?_)
          | fail)
        intro A5 c5 w5 own5 hb5
        have hb6 : Below (w.heap.size + 1) wr w5 := (b5.mono (by omega)).trans hb5
        have hB5 := hB.trans (hb6.mono (by omega))
        have hz6 : w.heap.size < w5.heap.size := by have := hb6.size; omega
        rw [← E2.out] at own5
        clear LIT
        go_wp2
        exact ⟨⟨j + 1, _, _, by omega, by go_num, rfl, own5, hB5, hz6⟩, by simp [intOf]; omega⟩
      · obtain rfl : m = j := by omega
        have ownN : OwnS wr (w.heap.size + 1) 3 1 A' m c' (N.named.map iv) := by
          rw [← Hi0.out, ← namedK_all, HlK.out]
          exact own
        go_wp2
        go_ret
        exact ⟨_, _, _, rfl, ownN.sls (by omega), hB⟩
end Go.Proofs.YtmebdjafnefneaaDoor
