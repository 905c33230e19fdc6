/- The reference's Kids: the blocks that a node names. -/
import Derived.Test.YtmebdjafnefneaaDoorPkNA
import Derived.Deep.RegionHeld3
namespace Go.Proofs.YtmebdjafnefneaaDoor
open Go Go.RowKit Go.Proofs

section
variable {P : Program} {t e : TypeId} {s b : Nat} {z : Value} (w : World)
/-- append onto the call's own row of structs, in a region that draws. -/
theorem step_append_s (T : RowT P t e s b z) {ops : Array Oper} {o : Oper} {a : Act} {K : Act → World → Prop} {Q : Exit → Act → World → Prop} {E : Prop} (hgd : o.guard = none) (so x : Operand)
    (ho : o.op = .call { callee := .builtin .append, args := #[so, x], argTypes := #[t, t] })
    (base : Nat) (A : Option Addr) (n c : Nat) (xs : List (List Value)) (hs : a.eval so = .slice A n c) (hown : OwnS w base e s A n c xs)
    (B : Option Addr) (m d : Nat) (ys : List (List Value)) (hx : a.eval x = .slice B m d) (hr : Sls w s B m d ys) (hm0 : 0 < m) (h1 : ∀ y ∈ ys, ∀ u ∈ y, u.oneCell' = true) (hnm : n + m ≤ 1000000) (hb : b ≤ 100000) (hbase : base ≤ w.heap.size)
    (h : ∀ A' c' w', OwnS w' base e s A' (n + m) c' (xs ++ ys) → Below base w w' → K (a.put o.dst (.slice A' (n + m) c')) w') :
    if Region.wanted o (yielded ops a.tmps) = true then Oper.wp P o a w K Q else E := by
  rw [if_pos (by simp [Region.wanted, hgd])]
  obtain ⟨A', c', w', hrun, h2, h3⟩ := run_append_s (P := P) w T o.type base A n c xs hown B m d ys hr hm0 h1 hnm hb hbase
  unfold Oper.wp execOp
  simp only [ho, resolve, invoke, builtin, Sem.run_bind, Sem.run_pure, Result.andThen_ok, List.map_toArray, List.map_cons, List.map_nil, hs, hx, hrun]
  exact h A' c' w' h2 h3
end
theorem TInt : RowT Tryd.prog 42 3 1 8 (.int .i64 0) := ⟨Tryd.underlying42, by kernel_rfl, rfl, by omega⟩
def iv (z : Int) : List Value := [.int .i64 z]
/-- A slice of numbers. -/
def Intl (w : World) (A : Option Addr) (n c : Nat) (zs : List Int) : Prop := Sls w 1 A n c (zs.map iv)
theorem lit1_int (w : World) (x : Int) : Sls (w.alloc (.cells #[.int .i64 x] 3)) 1 (some ⟨w.heap.size, 0, none⟩) 1 1 [iv x] := (owns_lit1 w 3 1 (iv x) _ rfl rfl).sls (by omega)
theorem iv_one (x : Int) : ∀ y ∈ [iv x], ∀ u ∈ y, u.oneCell' = true := by
  intro y hy u hu
  obtain rfl : y = iv x := by simpa using hy
  simp [iv] at hu
  subst hu; rfl
/-- The block that an item names. -/
def itNamed (x : Itm) : Option Int := if x.k.kind = 3 ∧ x.v.length = 3 ∧ byt x.v 0 = 1 then some (256 * (byt x.v 1 : Int) + (byt x.v 2 : Int)) else none
/-- P6.2's Kids. -/
def Nd.named (N : Nd) : List Int := N.kids.map (·.a) ++ N.items.filterMap itNamed
/-- The first ones, as cells; kept shut. -/
def namedK (N : Nd) (j : Nat) : List (List Value) := ((N.kids.take j).map (·.a)).map iv
def namedI (N : Nd) (j : Nat) : List (List Value) := (N.kids.map (·.a) ++ (N.items.take j).filterMap itNamed).map iv
theorem namedK_next (N : Nd) (j : Nat) (h : j < N.kids.length) : namedK N (j + 1) = namedK N j ++ [iv (kidAt N.kids j).a] := by
  unfold namedK
  rw [List.take_succ_eq_append_getElem h, List.map_append, List.map_append]
  have := kidAt_get h
  rw [List.getElem?_eq_getElem h] at this
  rw [Option.some.inj this]; rfl
theorem namedK_all (N : Nd) : namedK N N.kids.length = namedI N 0 := by
  unfold namedK namedI
  rw [List.take_length]; simp
theorem namedI_yes (N : Nd) (j : Nat) (h : j < N.items.length) (x : Int) (hx : itNamed (itAt N.items j) = some x) : namedI N (j + 1) = namedI N j ++ [iv x] := by
  unfold namedI
  have := itAt_get h
  rw [List.getElem?_eq_getElem h] at this
  rw [List.take_succ_eq_append_getElem h, Option.some.inj this, List.filterMap_append, ← List.append_assoc, List.map_append]
  simp [hx]
theorem namedI_no (N : Nd) (j : Nat) (h : j < N.items.length) (hx : itNamed (itAt N.items j) = none) : namedI N (j + 1) = namedI N j := by
  unfold namedI
  have := itAt_get h
  rw [List.getElem?_eq_getElem h] at this
  rw [List.take_succ_eq_append_getElem h, Option.some.inj this, List.filterMap_append]
  simp [hx]
theorem namedI_all (N : Nd) : namedI N N.items.length = N.named.map iv := by
  unfold namedI Nd.named
  rw [List.take_length]

set_option maxHeartbeats 8000000 in
theorem refkids_any (N : Nd) (A : Option Addr) (n c : Nat) (B : Option Addr) (m d : Nat) (w : World) (hI : Itms w A n c N.items) (hK : Kidl w B m d N.kids) (hn : n ≤ 1000) (hm : m ≤ 1000) :
    Calls Tryd.prog 21 #[.agg #[.int .i64 N.lvl, .slice A n c, .slice B m d]] w fun e w' => ∃ A' n' c', e = .returned (.slice A' n' c') ∧ Intl w' A' n' c' N.named ∧ Below w.heap.size w w' := by
  have HlI := Lib.hid hI.len
  have HlK := Lib.hid hK.len
  go_enter Tryd.func21, Tryd.ntmps21
  go_wp2_with fail
  have N1 : NB (w.alloc (.cells #[.int .i64 N.lvl, .slice A n c, .slice B m d] 25)) w.heap.size N.lvl A n c B m d := NB.new w _ _ _ _ _ _ _ _
  have b1 : Below w.heap.size w (w.alloc (.cells #[.int .i64 N.lvl, .slice A n c, .slice B m d] 25)) := (Below.refl _ _).alloc (Nat.le_refl _) _
  have z1 := N1.lt
  have N2 := N1.below ((Below.refl _ _).alloc (Nat.le_refl _) (.cells #[] 3)) z1
  have B2 : Below w.heap.size w ((w.alloc (.cells #[.int .i64 N.lvl, .slice A n c, .slice B m d] 25)).alloc (.cells #[] 3)) := b1.trans (((Below.refl _ _).alloc (Nat.le_refl _) _).mono b1.size)
  have o1 : OwnS ((w.alloc (.cells #[.int .i64 N.lvl, .slice A n c, .slice B m d] 25)).alloc (.cells #[] 3)) (w.heap.size + 1) 3 1 (some ⟨w.heap.size + 1, 0, none⟩) 0 0 [] := by
    have := owns_lit0 (w.alloc (.cells #[.int .i64 N.lvl, .slice A n c, .slice B m d] 25)) 3 1
    rwa [World.size_alloc] at this
  generalize (w.alloc (.cells #[.int .i64 N.lvl, .slice A n c, .slice B m d] 25)).alloc (.cells #[] 3) = w2 at N2 B2 o1 ⊢
  go_loopw [3, 4] (fun l i wr => ∃ (j : Nat) (A' : Option Addr) (c' : Nat), j ≤ m ∧ i = .int .i64 (j : Int) ∧ l = .slice A' j c' ∧ OwnS wr (w.heap.size + 1) 3 1 A' j c' (namedK N j) ∧ NB wr w.heap.size N.lvl A n c B m d ∧ Below w.heap.size w wr) (fun _ i _ => m - (intOf i).toNat)
  case atStart => exact ⟨0, _, _, Nat.zero_le _, rfl, rfl, o1, N2, B2⟩
  case round =>
    obtain ⟨j, A', c', hj, rfl, rfl, own, NN, hB⟩ := hrel
    have nn := NN.c2
    have hz := NN.lt
    by_cases hlt : j < m
    · obtain ⟨g, o, hA, hg, _, _, _, c3⟩ := (hK.below hB).cell hlt
      subst hA
      obtain ⟨a, ha⟩ : ∃ a, (kidAt N.kids j).a = a := ⟨_, rfl⟩
      rw [ha] at c3
      have b2 : Below wr.heap.size wr (wr.alloc (.cells #[.int .i64 a] 3)) := (Below.refl _ _).alloc (Nat.le_refl _) _
      have e2 := namedK_next N j (by rw [HlK.out]; exact hlt)
      rw [ha] at e2
      have E2 := Lib.hid e2
      clear e2 ha
      go_wp2_with (first
        | (at_builtin; refine wp_append_s _ TInt rfl _ _ rfl (w.heap.size + 1) A' j c' (namedK N j) rfl (own.below b2) (some ⟨wr.heap.size, 0, none⟩) 1 1 [iv a] rfl (lit1_int wr a) (by omega) (iv_one a) (by omega) (by omega) (by have := b2.size; omega) ?_)
        | fail)
      intro A2 c2' w3 own3 hb3
      have hb4 : Below (w.heap.size + 1) wr w3 := (b2.mono (by omega)).trans hb3
      have NN3 := NN.below hb4 (by omega)
      have hB3 := hB.trans (hb4.mono (by omega))
      rw [← E2.out] at own3
      go_wp2
      exact ⟨⟨j + 1, _, _, by omega, by go_num, rfl, own3, NN3, hB3⟩, by simp [intOf]; omega⟩
    · obtain rfl : m = j := by omega
      have own0 : OwnS wr (w.heap.size + 1) 3 1 A' m c' (namedI N 0) := by rw [← namedK_all, HlK.out]; exact own
      go_wp2_with fail
      go_loopw [3, 5, 6] (fun l i _ wr => ∃ (j q : Nat) (A' : Option Addr) (c' : Nat), j ≤ n ∧ q ≤ m + j ∧ i = .int .i64 (j : Int) ∧ l = .slice A' q c' ∧ OwnS wr (w.heap.size + 1) 3 1 A' q c' (namedI N j) ∧ NB wr w.heap.size N.lvl A n c B m d ∧ Below w.heap.size w wr) (fun _ i _ _ => n - (intOf i).toNat)
      case atStart => exact ⟨0, m, _, _, Nat.zero_le _, by omega, rfl, rfl, own0, NN, hB⟩
      case round =>
        clear own own0 NN hB nn hz
        obtain ⟨j, q, A', c', hj, hq, rfl, rfl, own, NN, hB⟩ := hrel
        have nn := NN.c1
        have hz := NN.lt
        by_cases hlt : j < n
        · obtain ⟨g, o, B', m', d', hA, hg, _, k1, _, c3, hsl⟩ := hI.cell hlt
          subst hA
          replace k1 := (hB.cell (p := ⟨g, _, none⟩) hg).trans k1
          replace c3 := (hB.cell (p := ⟨g, _, none⟩) hg).trans c3
          obtain ⟨x, hx⟩ : ∃ x, itAt N.items j = x := ⟨_, rfl⟩
          rw [hx] at k1 hsl
          have hvl := Lib.hid hsl.len
          have Hyes := fun z h => Lib.hid (namedI_yes N j (by rw [HlI.out]; exact hlt) z (by rw [hx]; exact h))
          have Hno := fun h => Lib.hid (namedI_no N j (by rw [HlI.out]; exact hlt) (by rw [hx]; exact h))
          clear hx
          have fin : ∀ (w5 : World) (l5 : Value) (vv : Value), (∃ (q5 : Nat) (A5 : Option Addr) (c5 : Nat), q5 ≤ m + (j + 1) ∧ l5 = .slice A5 q5 c5 ∧ OwnS w5 (w.heap.size + 1) 3 1 A5 q5 c5 (namedI N (j + 1)) ∧ NB w5 w.heap.size N.lvl (some ⟨g, o, none⟩) n c B m d ∧ Below w.heap.size w w5) →
              ∃ (j' q : Nat) (A' : Option Addr) (c' : Nat), j' ≤ n ∧ q ≤ m + j' ∧ Value.int .i64 ((j : Int) + 1) = .int .i64 (j' : Int) ∧ l5 = .slice A' q c' ∧ OwnS w5 (w.heap.size + 1) 3 1 A' q c' (namedI N j') ∧ NB w5 w.heap.size N.lvl (some ⟨g, o, none⟩) n c B m d ∧ Below w.heap.size w w5 := fun w5 l5 _ ⟨q5, A5, c5, h1, h2, h3, h4, h5⟩ => ⟨j + 1, q5, A5, c5, by omega, h1, by go_num, h2, h3, h4, h5⟩
          by_cases hk3 : x.k.kind = 3
          · rw [hk3] at k1
            by_cases h3 : m' = 3
            · subst h3
              obtain ⟨ad, rfl, hadl, v0⟩ := hsl.cell (k := 0) (by omega)
              obtain ⟨ad', e', _, v1⟩ := hsl.cell (k := 1) (by omega)
              injection e' with e'
              subst e'
              obtain ⟨ad', e', _, v2⟩ := hsl.cell (k := 2) (by omega)
              injection e' with e'
              subst e'
              have v0 : wr.cell? ad = some (.int .u8 (byt x.v 0 : Int)) := (hB.cell (p := ad) hadl).trans v0
              replace v1 := (hB.cell (p := ad.add 1) (by rw [addr_block]; exact hadl)).trans v1
              replace v2 := (hB.cell (p := ad.add 2) (by rw [addr_block]; exact hadl)).trans v2
              have hcap := hsl.cap
              have l1 := byt_le x.v 1
              have l2 := byt_le x.v 2
              by_cases hb0 : byt x.v 0 = 1
              · rw [hb0] at v0
                have hN := Hyes (256 * (byt x.v 1 : Int) + (byt x.v 2 : Int)) (by unfold itNamed; rw [if_pos ⟨hk3, by rw [hvl.out], hb0⟩])
                obtain ⟨y1, hy1⟩ : ∃ y1, byt x.v 1 = y1 := ⟨_, rfl⟩
                obtain ⟨y2, hy2⟩ : ∃ y2, byt x.v 2 = y2 := ⟨_, rfl⟩
                rw [hy1] at v1 l1 hN
                rw [hy2] at v2 l2 hN
                have w1' : IntKind.i64.wrap (y1 : Int) = (y1 : Int) := IntWalk.i64_in _ (by omega)
                have w2' : IntKind.i64.wrap (y2 : Int) = (y2 : Int) := IntWalk.i64_in _ (by omega)
                have w3' : IntKind.i64.wrap (256 * (y1 : Int)) = 256 * (y1 : Int) := IntWalk.i64_in _ (by omega)
                have w4' : IntKind.i64.wrap (256 * (y1 : Int) + (y2 : Int)) = 256 * (y1 : Int) + (y2 : Int) := IntWalk.i64_in _ (by omega)
                clear hy1 hy2 hk3 hb0 Hyes Hno hvl hsl
                go_wp2_with fail
                have hS : ∀ w' : World, Below (w.heap.size + 1) wr w' → w'.cell? ⟨ad.block, ad.off + 1, none⟩ = some (.int .u8 (y1 : Int)) ∧ w'.cell? ⟨ad.block, ad.off + 2, none⟩ = some (.int .u8 (y2 : Int)) ∧ Below (w.heap.size + 1) wr w' :=
                  fun w' hb => ⟨(hb.cell (p := ⟨ad.block, ad.off + 1, none⟩) (by show ad.block < _; omega)).trans v1, (hb.cell (p := ⟨ad.block, ad.off + 2, none⟩) (by show ad.block < _; omega)).trans v2, hb⟩
                have BD : Below (w.heap.size + 1) wr wr.drew := (Below.refl _ wr).drew
                have BA : ∀ ob, Below wr.heap.size wr (wr.drew.alloc ob) := fun ob => ((Below.refl _ wr).drew).alloc (Nat.le_refl _) ob
                have BA2 : ∀ ob, Below (w.heap.size + 1) wr (wr.drew.alloc ob) := fun ob => (BA ob).mono hz
                have LIT := lit1_int wr.drew (256 * (y1 : Int) + (y2 : Int))
                have OWN := own.below (BA (.cells #[.int .i64 (256 * (y1 : Int) + (y2 : Int))] 3))
                have zA : w.heap.size + 1 ≤ (wr.drew.alloc (.cells #[.int .i64 (256 * (y1 : Int) + (y2 : Int))] 3)).heap.size := Nat.le_trans (show w.heap.size + 1 ≤ wr.heap.size from hz) (BA2 _).size
                go_region_held3 (fun w' => w'.cell? ⟨ad.block, ad.off + 1, none⟩ = some (.int .u8 (y1 : Int)) ∧ w'.cell? ⟨ad.block, ad.off + 2, none⟩ = some (.int .u8 (y2 : Int)) ∧ Below (w.heap.size + 1) wr w')
                  (first | assumption | exact hS _ BD | exact hS _ (BA2 _) | exact hS _ bb5)
                  (first
                    | (refine step_append_s _ TInt rfl (.tmp 56) (.tmp 67) rfl (w.heap.size + 1) A' q c' (namedI N j) rfl OWN (some ⟨wr.heap.size, 0, none⟩) 1 1 [iv (256 * (y1 : Int) + (y2 : Int))] rfl LIT (by omega) (iv_one _) (by omega) (by omega) zA ?_; intro A5 c5 w5 own5 hb5; have bb5 : Below (w.heap.size + 1) wr w5 := (BA2 _).trans hb5)
                    | fail)
                all_goals
                  rw [← hN.out] at own5
                  have NN5 := NN.below bb5 (by omega)
                  have hB5 := hB.trans (bb5.mono (by omega))
                  clear hS BD BA BA2 LIT OWN
                  go_wp2
                  exact ⟨fin _ _ (.int .i64 0) ⟨q + 1, A5, c5, by omega, rfl, own5, NN5, hB5⟩, by simp [intOf]; omega⟩
              · have hN := Hno (by unfold itNamed; rw [if_neg (fun h => hb0 h.2.2)])
                obtain ⟨y0, hy0⟩ : ∃ y0, byt x.v 0 = y0 := ⟨_, rfl⟩
                rw [hy0] at v0 hb0
                have n1 : ((y0 : Int) == 1) = false := by simp; omega
                have n2 : decide ((y0 : Int) = 1) = false := decide_eq_false (by omega)
                clear hy0 hk3 Hyes Hno hvl hsl
                go_wp2
                exact ⟨fin _ _ (.int .i64 0) ⟨q, A', c', by omega, rfl, by rw [hN.out]; exact own, NN, hB⟩, by simp [intOf]; omega⟩
            · have hN := Hno (by unfold itNamed; rw [if_neg (fun h => h3 (by rw [← hvl.out]; exact h.2.1))])
              have n1 : ((m' : Int) == 3) = false := by simp; omega
              have n2 : decide ((m' : Int) = 3) = false := decide_eq_false (by omega)
              clear hk3 Hyes Hno hvl hsl
              go_wp2
              exact ⟨fin _ _ (.int .i64 0) ⟨q, A', c', by omega, rfl, by rw [hN.out]; exact own, NN, hB⟩, by simp [intOf]; omega⟩
          · have hN := Hno (by unfold itNamed; rw [if_neg (fun h => hk3 h.1)])
            obtain ⟨y0, hy0⟩ : ∃ y0, x.k.kind = y0 := ⟨_, rfl⟩
            rw [hy0] at k1 hk3
            have n1 : (y0 == 3) = false := by simp; omega
            have n2 : decide (y0 = 3) = false := decide_eq_false (by omega)
            clear hy0 Hyes Hno hvl hsl
            go_wp2
            exact ⟨fin _ _ (.int .i64 0) ⟨q, A', c', by omega, rfl, by rw [hN.out]; exact own, NN, hB⟩, by simp [intOf]; omega⟩
        · obtain rfl : n = j := by omega
          have ownN : OwnS wr (w.heap.size + 1) 3 1 A' q c' (N.named.map iv) := by rw [← namedI_all, HlI.out]; exact own
          go_wp2
          go_ret
          exact ⟨_, _, _, rfl, ownN.sls (by omega), hB⟩
end Go.Proofs.YtmebdjafnefneaaDoor
