/- The reference's Write: a node's block. -/
import Derived.Test.YtmebdjafnefneaaDoorPkNA
import Derived.Test.YtmebdjafnefneaaDoorSealI
namespace Go.Proofs.YtmebdjafnefneaaDoor
open Go Go.RowKit Go.Proofs

section
variable {P : Program} {t e : TypeId} (w : World)
/-- append onto the call's own row, in a region that draws. -/
theorem step_append_b (T : ByteT P t e) {ops : Array Oper} {o : Oper} {a : Act} {K : Act → World → Prop} {Q : Exit → Act → World → Prop} {E : Prop} (hgd : o.guard = none) (s x : Operand)
    (ho : o.op = .call { callee := .builtin .append, args := #[s, x], argTypes := #[t, t] })
    (base : Nat) (A : Option Addr) (n c : Nat) (l : List UInt8) (hs : a.eval s = .slice A n c) (hown : Own w base e A n c l)
    (B : Option Addr) (m d : Nat) (l2 : List UInt8) (hx : a.eval x = .slice B m d) (hr : Sl w B m d l2) (hnm : n + m ≤ 140737488355328) (hbase : base ≤ w.heap.size)
    (h : ∀ A' c' w', Own w' base e A' (n + m) c' (l ++ l2) → Below base w w' → K (a.put o.dst (.slice A' (n + m) c')) w') :
    if Region.wanted o (yielded ops a.tmps) = true then Oper.wp P o a w K Q else E := by
  rw [if_pos (by simp [Region.wanted, hgd])]
  obtain ⟨A', c', w', hrun, h2, h3, _⟩ := run_append_sl (P := P) w T o.type base A n c l hown B m d l2 hr hnm hbase
  unfold Oper.wp execOp
  simp only [ho, resolve, invoke, builtin, Sem.run_bind, Sem.run_pure, Result.andThen_ok, List.map_toArray, List.map_cons, List.map_nil, hs, hx, hrun]
  exact h A' c' w' h2 h3
end
def itBytes (x : Itm) : List UInt8 := x.k.bytes ++ (dig (x.v.length : Int) 1 ++ x.v)
def kidBytes (x : Kidd) : List UInt8 := x.k.bytes ++ dig x.a 2
/-- The body after j items, and after all items and j kids; kept shut. -/
def bodyI (N : Nd) (j : Nat) : List UInt8 := (N.items.take j).flatMap itBytes
def bodyK (N : Nd) (j : Nat) : List UInt8 := N.items.flatMap itBytes ++ (N.kids.take j).flatMap kidBytes
def Nd.body (N : Nd) : List UInt8 := N.items.flatMap itBytes ++ N.kids.flatMap kidBytes
theorem bodyI_zero (N : Nd) : bodyI N 0 = [] := rfl
theorem bodyI_next (N : Nd) (j : Nat) (h : j < N.items.length) : bodyI N (j + 1) = bodyI N j ++ itBytes (itAt N.items j) := by
  unfold bodyI
  rw [List.take_succ_eq_append_getElem h, List.flatMap_append]
  have := itAt_get h
  rw [List.getElem?_eq_getElem h] at this
  rw [Option.some.inj this]
  simp
theorem bodyI_all (N : Nd) : bodyI N N.items.length = bodyK N 0 := by
  unfold bodyI bodyK
  rw [List.take_length]; simp
theorem bodyK_next (N : Nd) (j : Nat) (h : j < N.kids.length) : bodyK N (j + 1) = bodyK N j ++ kidBytes (kidAt N.kids j) := by
  unfold bodyK
  rw [List.take_succ_eq_append_getElem h, List.flatMap_append, ← List.append_assoc]
  have := kidAt_get h
  rw [List.getElem?_eq_getElem h] at this
  rw [Option.some.inj this]
  simp
theorem bodyK_all (N : Nd) : bodyK N N.kids.length = N.body := by
  unfold bodyK Nd.body
  rw [List.take_length]
/-- The header of a node's block; P6.1's Write. -/
def Nd.head (N : Nd) (addr gen : Int) : Hd := ⟨if 0 < N.lvl then 4 else 3, addr, (N.items.length : Int) + (N.kids.length : Int), N.lvl, gen⟩
def writeB (N : Nd) (addr gen : Int) : List UInt8 := if N.may = true then sealB (N.head addr gen) N.body else []
def writeE (N : Nd) (addr gen : Int) : Int := if N.may = true then sealE (N.head addr gen) N.body else 1
theorem may_sizes {N : Nd} (h : N.may = true) : N.items.length ≤ 6 ∧ N.kids.length ≤ 12 ∧ (∀ j, j < N.items.length → (itAt N.items j).v.length ≤ 28) ∧ 0 ≤ N.lvl := by
  unfold Nd.may at h
  split at h
  · rename_i hl
    rw [Bool.and_eq_true, Bool.and_eq_true] at h
    obtain ⟨h1, _, h2⟩ := h
    have h2 := of_decide_eq_true h2
    refine ⟨h2.2.2, by omega, fun j hj => ?_, by omega⟩
    unfold itemsOk at h1
    exact of_decide_eq_true (List.all_eq_true.1 h1 _ (List.mem_of_getElem? (itAt_get hj)))
  · rw [Bool.and_eq_true, Bool.and_eq_true] at h
    obtain ⟨_, _, h2⟩ := h
    have h2 := of_decide_eq_true h2
    exact ⟨by omega, h2.2.2.2.2, fun j hj => by omega, by omega⟩

set_option maxRecDepth 10000 in
set_option maxHeartbeats 8000000 in
theorem refwrite_any (N : Nd) (addr gen : Int) (A : Option Addr) (n c : Nat) (B : Option Addr) (m d : Nat) (w : World) (hI : Itms w A n c N.items) (hK : Kidl w B m d N.kids) (hn : n ≤ 1000) (hm : m ≤ 1000) :
    Calls Tryd.prog 14 #[.agg #[.int .i64 N.lvl, .slice A n c, .slice B m d], .int .i64 addr, .int .i64 gen] w fun e w' => ∃ A' n' c', e = .returned (.tuple #[.slice A' n' c', .int .i64 (writeE N addr gen)]) ∧ Sl w' A' n' c' (writeB N addr gen) ∧ Below w.heap.size w w' := by
  have HlI := Lib.hid hI.len
  have HlK := Lib.hid hK.len
  go_enter Tryd.func14, Tryd.ntmps14
  go_wp2_with fail
  have N1 : NB (w.alloc (.cells #[.int .i64 N.lvl, .slice A n c, .slice B m d] 25)) w.heap.size N.lvl A n c B m d := NB.new w _ _ _ _ _ _ _ _
  have b1 : Below w.heap.size w (w.alloc (.cells #[.int .i64 N.lvl, .slice A n c, .slice B m d] 25)) := (Below.refl _ _).alloc (Nat.le_refl _) _
  generalize w.alloc (.cells #[.int .i64 N.lvl, .slice A n c, .slice B m d] 25) = w1 at N1 b1 ⊢
  refine (refnmay_any N A n c B m d w1 (hI.below b1) (hK.below b1) hn hm).mono ?_
  cases hmay : N.may
  · rintro e w2 ⟨rfl, hb2⟩
    go_wp2
    go_ret2
    have h1 : writeE N addr gen = 1 := by unfold writeE; rw [hmay]; rfl
    have h2 : writeB N addr gen = [] := by unfold writeB; rw [hmay]; rfl
    rw [h1, h2]
    exact ⟨_, _, _, rfl, sl_nil _, b1.trans (hb2.mono b1.size)⟩
  · rintro e w2 ⟨rfl, hb2⟩
    have N2 := N1.below hb2 N1.lt
    have B2 := b1.trans (hb2.mono b1.size)
    obtain ⟨hn6, hm12, hvals, hl0⟩ := may_sizes hmay
    have Hv := Lib.hid hvals
    rw [HlI.out] at hn6
    rw [HlK.out] at hm12
    have Hmay := Lib.hid hmay
    clear hmay hvals N1 b1 hb2
    go_wp2_with fail
    have own0 : Own (w2.alloc (.cells #[] 5)) (w.heap.size + 1) 5 (some ⟨w2.heap.size, 0, none⟩) 0 0 (bodyI N 0) := (own_empty w2 5).less N2.lt
    have ba : Below w2.heap.size w2 (w2.alloc (.cells #[] 5)) := (Below.refl _ _).alloc (Nat.le_refl _) _
    have N3 := N2.below ba N2.lt
    have B3 := B2.trans (ba.mono B2.size)
    generalize w2.alloc (.cells #[] 5) = w3 at own0 N3 B3 ⊢
    clear ba N2 B2
    go_loopw [9, 10] (fun b i wr => ∃ (j q : Nat) (A' : Option Addr) (c' : Nat), j ≤ n ∧ q ≤ 60 * j ∧ i = .int .i64 (j : Int) ∧ b = .slice A' q c' ∧ Own wr (w.heap.size + 1) 5 A' q c' (bodyI N j) ∧ NB wr w.heap.size N.lvl A n c B m d ∧ Below w.heap.size w wr) (fun _ i _ => n - (intOf i).toNat)
    case atStart => exact ⟨0, 0, _, _, Nat.zero_le _, by omega, rfl, rfl, own0, N3, B3⟩
    case round =>
      obtain ⟨j, q, A', c', hj, hq, rfl, rfl, own, NN, hB⟩ := hrel
      have nn := NN.c1
      have hz := NN.lt
      by_cases hlt : j < n
      · obtain ⟨g, o, B', m', d', hA, hg, k0, k1, k2, c3, hsl⟩ := hI.cell hlt
        subst hA
        replace k0 := (hB.cell (p := ⟨g, _, none⟩) hg).trans k0
        replace k1 := (hB.cell (p := ⟨g, _, none⟩) hg).trans k1
        replace k2 := (hB.cell (p := ⟨g, _, none⟩) hg).trans k2
        replace c3 := (hB.cell (p := ⟨g, _, none⟩) hg).trans c3
        have hv28 := Hv.out j (by rw [HlI.out]; exact hlt)
        have Hnext := Lib.hid (bodyI_next N j (by rw [HlI.out]; exact hlt))
        obtain ⟨x, hx⟩ : ∃ x, itAt N.items j = x := ⟨_, rfl⟩
        rw [hx] at k0 k1 k2 hsl hv28 Hnext
        have hvl := hsl.len
        have hm28 : m' ≤ 28 := by omega
        have Hvl := Lib.hid hvl
        clear hx hvl hv28
        go_wp2_with fail
        refine (refkput_any A' q c' _ x.k wr own.sl (by omega)).mono ?_
        rintro e w4 ⟨A4, n4, c4, rfl, own4, hb4⟩
        have hn4 : n4 = q + 9 := by have := own4.len; rw [List.length_append, own.len, Kd.bytes_len] at this; omega
        have hn4' : n4 ≤ 60 * j + 9 := by omega
        have Hn4 := Lib.hid hn4
        clear hn4 k0 k1 k2
        have N4 := NN.below hb4 hz
        have B4 := hB.trans (hb4.mono hB.size)
        have hg4 : g < w4.heap.size := by have := B4.size; omega
        have nn4 := N4.c1
        have hz4 := N4.lt
        have d3 := (hb4.cell (p := ⟨g, _, none⟩) (by have := hB.size; show g < _; omega)).trans c3
        have s4 := hsl.below B4
        clear own nn hz NN hB c3 hb4
        go_wp2_with fail
        have hS : ∀ w' : World, Below w4.heap.size w4 w' → w'.cell? ⟨w.heap.size, 1, none⟩ = some (.slice (some ⟨g, o, none⟩) n c) ∧ w'.cell? ⟨g, o + j * 4 + 3, none⟩ = some (.slice B' m' d') ∧ Below w4.heap.size w4 w' :=
          fun w' hb => ⟨(hb.cell (p := ⟨w.heap.size, 1, none⟩) hz4).trans nn4, (hb.cell (p := ⟨g, _, none⟩) hg4).trans d3, hb⟩
        have BD : Below w4.heap.size w4 w4.drew := (Below.refl _ w4).drew
        have hj0 : (0 : Int) ≤ (j : Int) := by omega
        have hj1 : (j : Int) < (n : Int) := by omega
        have z4 : w4.heap.size ≤ w4.drew.heap.size := Nat.le_refl _
        have p1 : (1 : Int) ≤ 1 := by omega
        have p2 : (1 : Int) ≤ 8 := by omega
        have p3 : n4 ≤ 17592186044416 := by omega
        go_region_held3 (fun w' => w'.cell? ⟨w.heap.size, 1, none⟩ = some (.slice (some ⟨g, o, none⟩) n c) ∧ w'.cell? ⟨g, o + j * 4 + 3, none⟩ = some (.slice B' m' d') ∧ Below w4.heap.size w4 w')
          (first | assumption | exact hS _ BD | exact hS _ bb5 | exact hS _ bb6)
          (first
            | (refine step_append_b _ T22 rfl (.tmp 41) (.tmp 47) rfl w4.heap.size A5 n5 c5 _ rfl own5 B' m' d' x.v rfl (s4.below bb5) p5 bb5.size ?_; intro A6 c6 w6 own6 hb6; have bb6 : Below w4.heap.size w4 w6 := bb5.trans hb6)
            | (go_at_call 42; refine (refputin_any A4 n4 c4 _ (m' : Int) 1 _ own4.sl.drew p3 p1 p2).mono ?_; rintro e w5 ⟨A5, n5, c5, rfl, own5', hn5, hb5⟩; have own5 : Own w5 w4.heap.size 5 A5 n5 c5 _ := own5'; have bb5 : Below w4.heap.size w4 w5 := BD.trans (hb5.mono z4); have p5 : n5 + m' ≤ 140737488355328 := by omega)
            | fail)
        all_goals
          have e6 : bodyI N j ++ x.k.bytes ++ dig (m' : Int) (1 : Int).toNat ++ x.v = bodyI N (j + 1) := by
            rw [Hnext.out]
            unfold itBytes
            rw [Hvl.out, List.append_assoc, List.append_assoc]
            rfl
          rw [e6] at own6
          have N6 := N4.below bb6 hz4
          have B6 := B4.trans (bb6.mono B4.size)
          have o6 := own6.less (show w.heap.size + 1 ≤ w4.heap.size from hz4)
          clear hS BD
          go_wp2
          exact ⟨⟨j + 1, _, _, _, by omega, by omega, by go_num, rfl, o6, N6, B6⟩, by simp [intOf]; omega⟩
      · obtain rfl : n = j := by omega
        have own1 : Own wr (w.heap.size + 1) 5 A' q c' (bodyK N 0) := by rw [← bodyI_all, HlI.out]; exact own
        clear own own0 N3 B3
        go_wp2_with fail
        go_loopw [9, 11] (fun b i wr => ∃ (j q : Nat) (A' : Option Addr) (c' : Nat), j ≤ m ∧ q ≤ 360 + 20 * j ∧ i = .int .i64 (j : Int) ∧ b = .slice A' q c' ∧ Own wr (w.heap.size + 1) 5 A' q c' (bodyK N j) ∧ NB wr w.heap.size N.lvl A n c B m d ∧ Below w.heap.size w wr) (fun _ i _ => m - (intOf i).toNat)
        case atStart => exact ⟨0, q, _, _, Nat.zero_le _, by omega, rfl, rfl, own1, NN, hB⟩
        case round =>
          clear own1 NN hB nn hz hq
          obtain ⟨j, q, A', c', hj, hq, rfl, rfl, own, NN, hB⟩ := hrel
          have nn := NN.c2
          have hz := NN.lt
          by_cases hlt : j < m
          · obtain ⟨g, o, hA, hg, k0, k1, k2, k3⟩ := hK.cell hlt
            subst hA
            replace k0 := (hB.cell (p := ⟨g, _, none⟩) hg).trans k0
            replace k1 := (hB.cell (p := ⟨g, _, none⟩) hg).trans k1
            replace k2 := (hB.cell (p := ⟨g, _, none⟩) hg).trans k2
            replace k3 := (hB.cell (p := ⟨g, _, none⟩) hg).trans k3
            have Hnext := Lib.hid (bodyK_next N j (by rw [HlK.out]; exact hlt))
            obtain ⟨x, hx⟩ : ∃ x, kidAt N.kids j = x := ⟨_, rfl⟩
            rw [hx] at k0 k1 k2 k3 Hnext
            clear hx
            have hgr : g < wr.heap.size := by have := hB.size; omega
            go_wp2_with fail
            have hS : ∀ w' : World, Below wr.heap.size wr w' → w'.cell? ⟨w.heap.size, 2, none⟩ = some (.slice (some ⟨g, o, none⟩) m d) ∧ w'.cell? ⟨g, o + j * 4, none⟩ = some (.int .i64 x.k.obj) ∧ w'.cell? ⟨g, o + j * 4 + 1, none⟩ = some (.int .i64 x.k.kind) ∧ w'.cell? ⟨g, o + j * 4 + 2, none⟩ = some (.int .i64 x.k.off) ∧ w'.cell? ⟨g, o + j * 4 + 3, none⟩ = some (.int .i64 x.a) ∧ Below wr.heap.size wr w' :=
              fun w' hb => ⟨(hb.cell (p := ⟨w.heap.size, 2, none⟩) hz).trans nn, (hb.cell (p := ⟨g, _, none⟩) hgr).trans k0, (hb.cell (p := ⟨g, _, none⟩) hgr).trans k1, (hb.cell (p := ⟨g, _, none⟩) hgr).trans k2, (hb.cell (p := ⟨g, _, none⟩) hgr).trans k3, hb⟩
            have BD : Below wr.heap.size wr wr.drew := (Below.refl _ wr).drew
            have hj0 : (0 : Int) ≤ (j : Int) := by omega
            have hj1 : (j : Int) < (m : Int) := by omega
            have zr : wr.heap.size ≤ wr.drew.heap.size := Nat.le_refl _
            have p1 : (1 : Int) ≤ 2 := by omega
            have p2 : (2 : Int) ≤ 8 := by omega
            have p3 : q ≤ 4398046511104 := by omega
            go_region_held3 (fun w' => w'.cell? ⟨w.heap.size, 2, none⟩ = some (.slice (some ⟨g, o, none⟩) m d) ∧ w'.cell? ⟨g, o + j * 4, none⟩ = some (.int .i64 x.k.obj) ∧ w'.cell? ⟨g, o + j * 4 + 1, none⟩ = some (.int .i64 x.k.kind) ∧ w'.cell? ⟨g, o + j * 4 + 2, none⟩ = some (.int .i64 x.k.off) ∧ w'.cell? ⟨g, o + j * 4 + 3, none⟩ = some (.int .i64 x.a) ∧ Below wr.heap.size wr w')
              (first | assumption | exact hS _ BD | exact hS _ bb5 | exact hS _ bb6)
              (first
                | (go_at_call 42; have hh := bb5; refine (refputin_any A5 n5 c5 _ x.a 2 _ own5.sl p5 p1 p2).mono ?_; rintro e w6 ⟨A6, n6, c6, rfl, own6, hn6, hb6⟩; have bb6 : Below wr.heap.size wr w6 := bb5.trans (hb6.mono bb5.size))
                | (go_at_call 41; refine (refkput_any A' q c' _ x.k _ own.sl.drew p3).mono ?_; rintro e w5 ⟨A5, n5, c5, rfl, own5, hb5⟩; have bb5 : Below wr.heap.size wr w5 := BD.trans (hb5.mono zr); have l5 : n5 = q + 9 := (by have := own5.len; rw [List.length_append, own.len, Kd.bytes_len] at this; omega); have l6 : n5 ≤ 369 + 20 * j := (by omega); have p5 : n5 ≤ 17592186044416 := (by omega); clear l5)
                | fail)
            all_goals
              have e6 : bodyK N j ++ x.k.bytes ++ dig x.a (2 : Int).toNat = bodyK N (j + 1) := by
                rw [Hnext.out]
                unfold kidBytes
                rw [List.append_assoc]
                rfl
              have hn6' : n6 ≤ 380 + 20 * j := by omega
              rw [e6] at own6
              have N6 := NN.below bb6 hz
              have B6 := hB.trans (bb6.mono hB.size)
              have o6 := own6.less (show w.heap.size + 1 ≤ w5.heap.size from Nat.le_trans hz bb5.size)
              clear hS BD
              have hq6 : n6 ≤ 360 + 20 * (j + 1) := by omega
              go_wp2
              exact ⟨⟨j + 1, _, _, _, by omega, hq6, by go_num, rfl, o6, N6, B6⟩, by simp [intOf]; omega⟩
          · obtain rfl : m = j := by omega
            have own1 : Own wr (w.heap.size + 1) 5 A' q c' N.body := by rw [← bodyK_all, HlK.out]; exact own
            have nn0 := NN.c0
            have nn1 := NN.c1
            have Hwe := Lib.hid (show writeE N addr gen = sealE (N.head addr gen) N.body by unfold writeE; rw [if_pos Hmay.out])
            have Hwb := Lib.hid (show writeB N addr gen = sealB (N.head addr gen) N.body by unfold writeB; rw [if_pos Hmay.out])
            clear own
            by_cases hl : 0 < N.lvl
            · have Hh := Lib.hid (show N.head addr gen = ⟨4, addr, (n : Int) + (m : Int), N.lvl, gen⟩ by unfold Nd.head; rw [if_pos hl, HlI.out, HlK.out])
              go_wp2_with fail
              have bx : Below wr.heap.size wr (wr.alloc (.cells #[.int .i64 4, .int .i64 addr, .int .i64 ((n : Int) + (m : Int)), .int .i64 N.lvl, .int .i64 gen] 65)) := (Below.refl _ _).alloc (Nat.le_refl _) _
              refine (refseal_any ⟨4, addr, (n : Int) + (m : Int), N.lvl, gen⟩ A' q c' N.body _ (own1.sl.below bx)).mono ?_
              rintro e w9 ⟨A9, n9, c9, rfl, s9, hb9⟩
              have B9 := hB.trans ((bx.trans (hb9.mono bx.size)).mono hB.size)
              go_wp2
              go_ret2
              rw [Hwe.out, Hwb.out, Hh.out]
              exact ⟨_, _, _, rfl, s9, B9⟩
            · have Hh := Lib.hid (show N.head addr gen = ⟨3, addr, (n : Int) + (m : Int), N.lvl, gen⟩ by unfold Nd.head; rw [if_neg hl, HlI.out, HlK.out])
              go_wp2_with fail
              have bx : Below wr.heap.size wr (wr.alloc (.cells #[.int .i64 3, .int .i64 addr, .int .i64 ((n : Int) + (m : Int)), .int .i64 N.lvl, .int .i64 gen] 65)) := (Below.refl _ _).alloc (Nat.le_refl _) _
              refine (refseal_any ⟨3, addr, (n : Int) + (m : Int), N.lvl, gen⟩ A' q c' N.body _ (own1.sl.below bx)).mono ?_
              rintro e w9 ⟨A9, n9, c9, rfl, s9, hb9⟩
              have B9 := hB.trans ((bx.trans (hb9.mono bx.size)).mono hB.size)
              go_wp2
              go_ret2
              rw [Hwe.out, Hwb.out, Hh.out]
              exact ⟨_, _, _, rfl, s9, B9⟩
end Go.Proofs.YtmebdjafnefneaaDoor
