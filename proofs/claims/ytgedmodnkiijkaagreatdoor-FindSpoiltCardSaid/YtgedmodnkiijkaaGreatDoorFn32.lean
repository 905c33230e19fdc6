/- The laws of find: a tree that is grown in a new pool: what the two loops keep. The code's find: each, of a node of any level. The code's find: Scan. The laws of find: what is told of a tree in a pool, by the code's Get, Scan, Path and Height. -/
import Derived.Test.YtgedmodnkiijkaaGreatDoorFn9
import Derived.Test.YtgedmodnkiijkaaGreatDoorFn11
import Derived.Test.YtgedmodnkiijkaaGreatDoorFn23
import Derived.Test.YtgedmodnkiijkaaGreatDoorFn24
import Derived.Test.YtgedmodnkiijkaaGreatDoorFn27
import Derived.Test.YtgedmodnkiijkaaGreatDoorFn28
import Derived.Test.YtgedmodnkiijkaaGreatDoorFn31
namespace Go.Proofs.YtgedmodnkiijkaaGreatDoor
open Go Go.RowKit Go.Proofs

/-- Blocks of the law's own, apart from the pool's and the drive's. -/
def OwnK (A : Option Addr) (S0 S T : Nat → Prop) : Prop := ∀ k, blockOf A = some k → T k ∧ ¬ S0 k ∧ ¬ S k
section
variable {b : Nat} {w w1 : World} {d p : Nat} {S0 S T : Nat → Prop} {D : DM} {P : Pl}
theorem own_push {e : TypeId} {s base n c n' c' : Nat} {A A' : Option Addr} {xs ys : List (List Value)} (H : SysAt b w d p S0 S T D P) (hb : 1 < b) (t : Tab w) (R : OwnS w base e s A n c xs) (ho : OwnK A S0 S T) (hr : OwnS w1 base e s A' n' c' ys) (X : Turn (fun k => blockOf A = some k) w w1) (hA : blockOf A' = blockOf A ∨ blockOf A' = some w.heap.size) :
    SysAt b w1 d p S0 S (grow T w w1) D P ∧ OwnK A' S0 S (grow T w w1) ∧ Tab w1 := by
  have hz := X.size
  have hST := H.subS
  have Q := (H.pool.mono (S' := S) (T' := grow T w w1) (fun k _ h => h) (fun k hk h => h.1.elim id fun h2 => by omega) (fun k h => ⟨.inl (hST k h), by have := (H.tight k (hST k h)).2; omega⟩)).other X (fun k hk => ⟨.inl (ho k hk).1, by have := (R.blockLt k hk).2; omega⟩) fun k hk => (ho k hk).2.2
  refine ⟨⟨H.drv.keep fun k hk hs => X.block k hk fun h => (ho k h).2.1 hs, Q, fun k hk => ⟨.inl (H.sub k hk), by have := (H.tight k (H.sub k hk)).2; omega⟩, H.apart, fun k hk => ⟨hk.1.elim (fun h => (H.tight k h).1) fun h => by have := H.base; omega, hk.2⟩⟩, fun k hk => ?_, t.turned X fun h => ?_⟩
  · have h1 := (hr.blockLt k hk).2
    rcases hA with h | h
    · obtain ⟨q1, q2, q3⟩ := ho k (h ▸ hk)
      exact ⟨⟨.inl q1, h1⟩, q2, q3⟩
    · rw [h] at hk
      injection hk with hk
      subst hk
      refine ⟨⟨.inr (Nat.le_refl _), h1⟩, fun h => ?_, fun h => ?_⟩
      · have := (H.tight _ (H.sub _ h)).2; omega
      · have := (H.tight _ (hST _ h)).2; omega
  · have := (H.tight _ (ho _ h).1).1
    omega
end
/-- The nodes of a level stay while the pool's own blocks turn. -/
theorem NdRow.turned {Q : World → Prop} {w w' : World} {base n c : Nat} {A : Option Addr} {Ns : List Nd} {S : Nat → Prop} (h : NdRow Q w base A n c Ns) (t : Turn S w w') (hS : ∀ k, base ≤ k → k < w.heap.size → ¬ S k) : NdRow Q w' base A n c Ns := by
  obtain ⟨raw, h1, h2, h3⟩ := h
  exact ⟨raw, h1.turned t (fun k hk => hS k (h1.blockLt k hk).1 (h1.blockLt k hk).2), h2, h3⟩
/-- The disk that trees are grown on. -/
def growD : DM := (DM.mk0 256).runD (fmtL 256)
theorem growD_tame : growD.tame 30 := (tame_run (fmtL 256) (tame_mk0 256)).mono (show 0 + (fmtL 256).length ≤ 30 by have := fmt_le (n := 256) (by omega); omega)
/-- A pool with a tree in it. -/
structure Treed (b : Nat) (w : World) (d p : Nat) (D : DM) (P : Pl) (root : Int) (its : List Itm) : Prop where
  sys : ∃ S0 S T, SysAt b w d p S0 S T D P
  stock : Stock D P (fmtS 256) (Ct.zero 256)
  tree : TreeOf (P.store D) root its
  n : P.C.n = 256
  S : P.S = fmtS 256
/-- What the outer loop keeps. -/
structure LvlAt (w0 : World) (d p : Nat) (S0 S : Nat → Prop) (its : List Itm) (f l : Nat) (nv lv : Value) (w : World) (P : Pl) (Ns : List Nd) : Prop where
  lvl : Lvl growD its f l P Ns
  fuel : l + f = 5
  lev : ∃ L : Nat, L = l + 1 ∧ lv = .int .i64 (L : Int)
  rows : ∃ wl A c, nv = .slice A Ns.length c ∧ NdRow (Turn S wl) w wl.heap.size A Ns.length c Ns ∧ Turn S wl w ∧ (∀ k, S k → k < wl.heap.size)
  sys : ∃ T, SysAt w0.heap.size w d p S0 S T growD P
  stock : Stock growD P (fmtS 256) (Ct.zero 256)
  tab : Tab w
  low : Below w0.heap.size w0 w
  n : P.C.n = 256
  S : P.S = fmtS 256
theorem putAll_n (Ns : List Nd) : ∀ (P : Pl), (P.putAll Ns).C.n = P.C.n ∧ (P.putAll Ns).S = P.S := by
  induction Ns with
  | nil => exact fun P => ⟨rfl, rfl⟩
  | cons N r ih =>
    intro P
    obtain ⟨h1, h2⟩ := ih (P.putN N)
    show ((P.putN N).putAll r).C.n = _ ∧ ((P.putN N).putAll r).S = _
    rw [h1, h2]
    unfold Pl.putN
    split
    · exact ⟨lay_n _, lay_S _⟩
    · exact ⟨rfl, rfl⟩
end Go.Proofs.YtgedmodnkiijkaaGreatDoor

namespace Go.Proofs.YtgedmodnkiijkaaGreatDoor
open Go Go.RowKit Go.Proofs

theorem scanK_cons (f : Int → List Itm → List Itm × Int) (to : Kd) (most : Nat) (x : Kidd) (r : List Kidd) (acc : List Itm) : scanK f to most (x :: r) acc = if to.less x.k = true ∨ most ≤ acc.length then (acc, 0) else if (f x.a acc).2 ≠ 0 then ([], (f x.a acc).2) else scanK f to most r (f x.a acc).1 := rfl
/-- What each does, of nodes of a level. -/
def EachSays (w0 : World) (p : Nat) (R : Int → Nd × Int) (fr to : Kd) (most : Int) (lim base vb mb tb : Nat) (l : Nat) : Prop :=
  ∀ (w : World) (M : Nd) (lo hi : Nat) (A1 : Option Addr) (n1 c1 : Nat) (B1 : Option Addr) (m1 d1 : Nat) (A : Option Addr) (acc : List Itm), Below w0.heap.size w0 w → SAt w lim base vb mb tb most to A acc → Held w lo hi A1 n1 c1 B1 m1 d1 M → (∀ k, lo ≤ k → k < hi → ¬ sOwn vb A k) → lim ≤ lo → M.may = true → M.lvl = (l : Int) → acc.length ≤ most.toNat → acc.length + countM R l M ≤ 100000 →
    Calls Tryz.prog 43 #[.pointer (some ⟨p, 0, none⟩), .agg #[.int .i64 M.lvl, .slice A1 n1 c1, .slice B1 m1 d1], .agg #[.int .i64 fr.obj, .int .i64 fr.kind, .int .i64 fr.off], .func (.func 41) #[] #[.pointer (some ⟨vb, 0, none⟩), .pointer (some ⟨mb, 0, none⟩), .pointer (some ⟨tb, 0, none⟩)], .func (.func 44) #[] #[.pointer (some ⟨vb, 0, none⟩)]] w fun e w' =>
      e = .returned (.int .i64 (scanM R fr to most.toNat l M acc).2) ∧ ∃ A', ((scanM R fr to most.toNat l M acc).2 = 0 → SAt w' lim base vb mb tb most to A' (scanM R fr to most.toNat l M acc).1) ∧ Turn (sOwn vb A) w w' ∧ ∀ k, blockOf A' = some k → blockOf A = some k ∨ w.heap.size ≤ k
set_option maxRecDepth 100000 in
set_option maxHeartbeats 16000000 in
theorem ceach_step {w0 : World} {p : Nat} {R : Int → Nd × Int} (H : Src w0 p R) (ht0 : Tab w0) (fr to : Kd) (most : Int) {lim base vb mb tb : Nat} (hvb : w0.heap.size ≤ vb) (hlim : w0.heap.size = lim) (l : Nat) (IH0 : EachSays w0 p R fr to most lim base vb mb tb l) : EachSays w0 p R fr to most lim base vb mb tb (l + 1) := by
  intro w M lo hi A1 n1 c1 B1 m1 d1 A acc B0 S Hd hdis hlo hmay hl ha hc
  have IH := Lib.hid IH0
  have Hlim := Lib.hid hlim
  clear IH0
  obtain ⟨-, hk1, hk8, hk2, hk12, hsk⟩ := may_inner_kids hmay (by rw [hl]; omega)
  obtain ⟨t, htt⟩ : ∃ t, M.seek fr = t := ⟨_, rfl⟩
  obtain ⟨r, hr⟩ : ∃ r, foundAt M.keys fr t = r := ⟨_, rfl⟩
  have htl := hsk fr
  rw [htt] at htl
  obtain ⟨G, hGe⟩ : ∃ G, scanM R fr to most.toNat (l + 1) M acc = G := ⟨_, rfl⟩
  have hG : scanK (scanN R fr to most.toNat l) to most.toNat (M.kids.drop t) acc = G := by rw [← hGe, ← htt]; rfl
  rw [hGe]
  have hcs : acc.length + ((M.kids.drop t).map fun x => countN R l x.a).sum ≤ 100000 := by
    have h1 := sum_drop (M.kids.map fun x => countN R l x.a) t
    rw [← List.map_drop] at h1
    have h2 : acc.length + (M.kids.map fun x => countN R l x.a).sum ≤ 100000 := hc
    omega
  have N1 : NB ((w.alloc (.cells #[.int .i64 M.lvl, .slice A1 n1 c1, .slice B1 m1 d1] 56)).alloc (.cells #[.int .i64 fr.obj, .int .i64 fr.kind, .int .i64 fr.off] 39)) w.heap.size M.lvl A1 n1 c1 B1 m1 d1 := (NB.new w _ _ _ _ _ _ _ _).below ((Below.refl _ _).alloc (Nat.le_refl _) _) (by simp)
  have b1 : Below w.heap.size w ((w.alloc (.cells #[.int .i64 M.lvl, .slice A1 n1 c1, .slice B1 m1 d1] 56)).alloc (.cells #[.int .i64 fr.obj, .int .i64 fr.kind, .int .i64 fr.off] 39)) := ((Below.refl _ _).alloc (Nat.le_refl _) _).alloc (by simp) _
  have z1 : ((w.alloc (.cells #[.int .i64 M.lvl, .slice A1 n1 c1, .slice B1 m1 d1] 56)).alloc (.cells #[.int .i64 fr.obj, .int .i64 fr.kind, .int .i64 fr.off] 39)).heap.size = w.heap.size + 2 := by simp
  have K1 : KB ((w.alloc (.cells #[.int .i64 M.lvl, .slice A1 n1 c1, .slice B1 m1 d1] 56)).alloc (.cells #[.int .i64 fr.obj, .int .i64 fr.kind, .int .i64 fr.off] 39)) (w.heap.size + 1) fr := KB.new2 w _ fr.obj fr.kind fr.off _
  have hm20 : m1 ≤ 20 := Hd.2.2.1
  have hml : M.kids.length = m1 := by
    have := Sls.len Hd.rows.2
    rwa [List.length_map] at this
  have hT0 : ∀ k, sOwn vb A k → w0.heap.size ≤ k ∧ k < w.heap.size := fun k hk => by
    obtain ⟨⟨_, _, hv, row, _⟩, _⟩ := S
    rcases hk with rfl | hk
    · exact ⟨hvb, lt_of_heap hv⟩
    · exact ⟨by rw [hlim]; exact (row.blockLt k hk).1, (row.blockLt k hk).2⟩
  clear hlim
  have S1 := S.below b1
  have Hd1 := Hd.below b1
  obtain ⟨r1, s1⟩ := Hd1.rows
  have Hsk := Lib.hid (cseek_any M (may_fit hmay) fr t htt r hr A1 n1 c1 B1 m1 d1 _ r1.itms s1 (by have := Hd.2.1; omega) (by have := Hd.2.2.1; omega))
  have g1 : (M.lvl == 0) = false := by rw [hl]; simp; omega
  have g2 : decide (M.lvl = 0) = false := decide_eq_false (by rw [hl]; omega)
  rw [hml] at htl
  have HG := Lib.hid hG
  have hml := Lib.hid hml
  have Hl := Lib.hid hl
  have p0 := N1.c0
  have p1 := N1.c1
  have p2 := N1.c2
  have k0 := K1.c0
  have k1 := K1.c1
  have k2 := K1.c2
  have z0 := B0.size
  clear htt hr hsk hG hGe r1 s1 hl S Hd hc hk2 hk12
  go_enter Tryz.func43, Tryz.ntmps43
  go_wp2_with fail
  refine Hsk.out.mono ?_
  generalize (w.alloc (.cells #[.int .i64 M.lvl, .slice A1 n1 c1, .slice B1 m1 d1] 56)).alloc (.cells #[.int .i64 fr.obj, .int .i64 fr.kind, .int .i64 fr.off] 39) = w1 at N1 b1 z1 S1 Hd1 K1 p0 p1 p2 k0 k1 k2 ⊢
  rintro e w2 ⟨rfl, b2⟩
  have N2 := N1.below b2 N1.lt
  have K2 := K1.below b2 K1.lt
  have S2 := S1.below b2
  have Hd2 := Hd1.below b2
  have B2 := b1.trans (b2.mono b1.size)
  have z2 := b2.size
  clear p0 p1 p2 k0 k1 k2 Hsk N1 S1 Hd1 K1 b1 b2
  have p0 := N2.c0
  go_wp2_with fail
  clear p0
  go_loopw [11, 13, 14] (fun iv _ _ wr => ∃ (j : Nat) (A' : Option Addr) (acc' : List Itm), j ≤ m1 ∧ iv = .int .i64 (j : Int) ∧ SAt wr lim base vb mb tb most to A' acc' ∧ scanK (scanN R fr to most.toNat l) to most.toNat (M.kids.drop j) acc' = G ∧ acc'.length ≤ most.toNat ∧ acc'.length + ((M.kids.drop j).map fun x => countN R l x.a).sum ≤ 100000 ∧ Turn (sOwn vb A) w2 wr ∧ ∀ k, blockOf A' = some k → blockOf A = some k ∨ w2.heap.size ≤ k) (fun iv _ _ _ => m1 - (intOf iv).toNat)
  case atStart => exact ⟨t, A, acc, by omega, rfl, S2, HG.out, ha, hcs, Turn.refl _ _, fun k hk => .inl hk⟩
  case round =>
    clear ha hcs HG S2
    obtain ⟨j, A', acc', hjn, rfl, S', hG', ha, hcc, X, hA'⟩ := hrel
    have Nr := N2.turned X (fun h => by have := (hT0 _ h).2; omega)
    have Kr := K2.keep (X.block _ K2.lt (fun h => by have := (hT0 _ h).2; omega))
    have Hr := Hd2.turn X hdis
    have XB : Turn (sOwn vb A) w wr := (turn_below (S := sOwn vb A) B2).trans X (fun k h => .inl h)
    have lowr : Below w0.heap.size w0 wr := B0.trans (XB.below (fun k hk => (hT0 k hk).1) z0)
    have p2 := Nr.c2
    have Hcc := Lib.hid hcc
    clear hcc
    have out : G = (acc', 0) → ∃ A', SAt wr lim base vb mb tb most to A' G.1 ∧ ∀ k, blockOf A' = some k → blockOf A = some k ∨ w.heap.size ≤ k := fun e => by
      refine ⟨A', by rw [e]; exact S', fun k hk => (hA' k hk).imp id fun h => by have := B2.size; omega⟩
    have Out := Lib.hid out
    clear out
    by_cases hlt : j < m1
    · obtain ⟨g, o, rfl, hg, c0, c1', c2, c3⟩ := Hr.rows.2.cell hlt
      obtain ⟨_, hdm⟩ := Kidl.bounds Hr.rows.2
      have hdj := drop_kid (l := M.kids) (j := j) (by rw [hml.out]; exact hlt)
      rw [hdj] at hG'
      have Hdj := Lib.hid hdj
      clear hdj
      have Hkid := Lib.hid (fun w4 (b4 : Below wr.heap.size wr w4) => ckid_any H (lowr.trans (b4.mono lowr.size)) (ht0.below (lowr.trans (b4.mono lowr.size)) ht0.1) M.lvl hk1 hk8 M.kids A1 n1 c1 (some ⟨g, o, none⟩) m1 d1 (Hr.below b4).rows.2 j hlt (kidAt M.kids j).a rfl)
      obtain ⟨y, hy⟩ : ∃ y, kidAt M.kids j = y := ⟨_, rfl⟩
      rw [hy] at c0 c1' c2 hG' Hdj Hkid
      clear hy c3
      have e0 : (0 : Int) ≤ (j : Int) := by omega
      have e1 : (j : Int) < (m1 : Int) := by omega
      obtain ⟨rr, hrr⟩ : ∃ rr, (decide ((acc'.length : Int) < most) && !(to.less y.k)) = rr := ⟨_, rfl⟩
      have Hw := Lib.hid (cwanted_any S' y.k rr hrr)
      cases rr with
      | false =>
        as_aux_lemma =>
          have hend : G = (acc', 0) := by
            rw [← hG']
            unfold scanK
            rw [if_pos ?_]
            rw [Bool.and_eq_false_iff] at hrr
            rcases hrr with h | h
            · exact .inr (by have := of_decide_eq_false h; omega)
            · exact .inl (by simpa using h)
          replace hend := Lib.hid hend
          clear hG' hrr
          go_wp2_with (first
            | (go_at_call 41; refine Hw.out.mono ?_; rintro e w4 ⟨rfl, b4⟩)
            | fail)
          go_ret
          obtain ⟨A9, S9, h9⟩ := Out.out hend.out
          exact ⟨by rw [hend.out]; rfl, A9, fun _ => S9.below b4, XB.trans (turn_below (S := sOwn vb A) b4) (fun k h => .inl h), h9⟩
      | true =>
        as_aux_lemma =>
          have hstep : (if (scanN R fr to most.toNat l y.a acc').2 ≠ 0 then ([], (scanN R fr to most.toNat l y.a acc').2) else scanK (scanN R fr to most.toNat l) to most.toNat (M.kids.drop (j + 1)) (scanN R fr to most.toNat l y.a acc').1) = G := by
            have hng : ¬ (to.less y.k = true ∨ most.toNat ≤ acc'.length) := by
              rw [Bool.and_eq_true] at hrr
              rintro (h | h)
              · rw [h] at hrr; simp at hrr
              · have := of_decide_eq_true hrr.1; omega
            rw [← hG', scanK_cons, if_neg hng]
          have Hlen := Lib.hid (scanN_len (R := R) (fr := fr) (to := to) l y.a acc' ha)
          have hks := kid_scan R fr to most.toNat Hl.out y.a acc'
          obtain ⟨M2, hM2⟩ : ∃ M2, kidN R M.lvl y.a = M2 := ⟨_, rfl⟩
          obtain ⟨E2, hE2⟩ : ∃ E2, kidE R M.lvl y.a = E2 := ⟨_, rfl⟩
          rw [hM2, hE2] at Hkid
          rw [hM2, hE2] at hks
          obtain ⟨F2, hF2⟩ : ∃ F2, scanN R fr to most.toNat l y.a acc' = F2 := ⟨_, rfl⟩
          rw [hF2] at hks hstep Hlen
          clear hM2 hE2 hG' hrr
          have Hcell := Lib.hid (fun w4 (b4 : Below wr.heap.size wr w4) => (⟨(b4.cell (p := ⟨g, _, none⟩) hg).trans c0, (b4.cell (p := ⟨g, _, none⟩) hg).trans c1', (b4.cell (p := ⟨g, _, none⟩) hg).trans c2⟩ : _ ∧ _ ∧ _))
          go_wp2_with (first
            | (go_at_call 41; refine Hw.out.mono ?_; rintro e w4 ⟨rfl, b4⟩; have N4 := Nr.below b4 Nr.lt; have u0 := N4.c0; have u1 := N4.c1; have u2 := N4.c2)
            | fail)
          refine (Hkid.out w4 b4).mono ?_
          rintro e w5 ⟨A2, n2, c2q, B2q, m2, d2, rfl, hn2, hm2, hI5, hK5, b5⟩
          have Hd5 := held_of hn2 hm2 hI5 hK5
          have b6 : Below w5.heap.size w5 (w5.alloc (.cells #[.int .i64 0, .slice none 0 0, .slice none 0 0] 56)) := (Below.refl _ _).alloc (Nat.le_refl _) _
          have NZ : NB (w5.alloc (.cells #[.int .i64 0, .slice none 0 0, .slice none 0 0] 56)) w5.heap.size 0 none 0 0 none 0 0 := NB.new w5 _ _ _ _ _ _ _ _
          have z4 := b4.size
          have z5 := b5.size
          clear u0 u1 u2 hI5 hK5 Hkid Hw Hcell c0 c1' c2 p2
          rcases hks with ⟨hE, hF⟩ | ⟨hE, hR, hl2, hF⟩
          · as_aux_lemma =>
              rw [hF] at hstep
              rw [if_pos hE] at hstep
              have hstep := Lib.hid hstep
              have hE' := Lib.hid hE
              have g3 : (E2 == 0) = false := by simp [hE]
              have g4 : (E2 != 0) = true := by simp [hE]
              clear hE hF
              go_wp2_with (first
                | (refine wp_store_nd rfl (.tmp 13) _ rfl w5.heap.size rfl M2.lvl A2 n2 c2q B2q m2 d2 rfl NZ ?_; intro w6 N6 T6)
                | fail)
              go_ret
              have X56 : Turn (fun _ => False) w5 w6 := (turn_below (S := fun _ => False) b6).trans T6 (fun k h => .inr (by have h : k = w5.heap.size := h; omega))
              have X6 : Turn (fun _ => False) wr w6 := ((turn_below (S := fun _ => False) b4).trans (turn_below (S := fun _ => False) b5) (fun _ h => .inl h)).trans X56 (fun _ h => .inl h)
              exact ⟨by rw [← hstep.out]; rfl, A, fun h => absurd (by rw [← hstep.out] at h; exact h) hE'.out, XB.trans X6 (fun _ h => h.elim), fun k h => .inl h⟩
          · as_aux_lemma =>
              subst hE
              have hsum : ((M.kids.drop j).map fun x => countN R l x.a).sum = countM R l M2 + ((M.kids.drop (j + 1)).map fun x => countN R l x.a).sum := by
                rw [Hdj.out, List.map_cons, List.sum_cons, countN_ok hR]
              have hcc := Hcc.out
              rw [hsum] at hcc
              have hlen := Hlen.out
              rw [countN_ok hR] at hlen
              have hmay2 := H.may y.a (by rw [hR])
              rw [hR] at hmay2
              have hmay2 : M2.may = true := hmay2
              have Hlen2 := Lib.hid hlen
              have HR := Lib.hid hR
              have Hl2 := Lib.hid hl2
              have HF := Lib.hid hF
              have Hst := Lib.hid hstep
              have Hcc2 := Lib.hid hcc
              clear hsum hcc hlen hR hl2 hF hstep Hlen Hcc
              go_wp2_with (first
                | (refine wp_store_nd rfl (.tmp 13) _ rfl w5.heap.size rfl M2.lvl A2 n2 c2q B2q m2 d2 rfl NZ ?_; intro w6 N6 T6; have v0 := N6.c0; have v1 := N6.c1; have v2 := N6.c2; have X56 : Turn (fun _ => False) w5 w6 := (turn_below (S := fun _ => False) b6).trans T6 (fun k h => .inr (by have h : k = w5.heap.size := h; omega)); have X6 : Turn (fun _ => False) wr w6 := ((turn_below (S := fun _ => False) b4).trans (turn_below (S := fun _ => False) b5) (fun _ h => .inl h)).trans X56 (fun _ h => .inl h); have K6 := Kr.keep (X6.block _ Kr.lt (fun h => h)); have k0 := K6.c0; have k1 := K6.c1; have k2 := K6.c2)
                | fail)
              have b46 : Below wr.heap.size wr w6 := X6.below (fun _ h => h.elim) (Nat.le_refl _)
              have low6 := lowr.trans (b46.mono lowr.size)
              have S6 := S'.below b46
              have Hd6 := Hd5.turn X56 (fun _ _ _ h => h)
              have hdis6 : ∀ k, w4.heap.size ≤ k → k < w5.heap.size → ¬ sOwn vb A' k := fun k h1 h2 h => by
                obtain ⟨⟨_, _, hv, row, _⟩, _⟩ := S'
                rcases h with rfl | h
                · have := lt_of_heap hv; omega
                · have := (row.blockLt k h).2; omega
              refine (IH.out w6 M2 w4.heap.size w5.heap.size A2 n2 c2q B2q m2 d2 A' acc' low6 S6 Hd6 hdis6 (by have := lowr.size; have := Hlim.out; omega) hmay2 Hl2.out ha (by have := Hcc2.out; omega)).mono ?_
              rw [← HF.out]
              rintro e w7 ⟨rfl, A7, h7, X7, hA7⟩
              have z6 := b46.size
              have z7 := X7.size
              have zr := X.size
              have X27 : Turn (sOwn vb A) w2 w7 := (X.trans (turn_below (S := sOwn vb A) b46) (fun _ h => .inl h)).trans X7 (fun k hk => by
                rcases hk with rfl | hk
                · exact .inl (.inl rfl)
                · exact (hA' k hk).imp (fun h => .inr h) id)
              have hA27 : ∀ k, blockOf A7 = some k → blockOf A = some k ∨ w2.heap.size ≤ k := fun k hk => by
                rcases hA7 k hk with h | h
                · exact hA' k h
                · exact .inr (by omega)
              clear v0 v1 v2 k0 k1 k2
              by_cases h0 : F2.2 = 0
              · as_aux_lemma =>
                  have g3 : (F2.2 == 0) = true := by simp [h0]
                  have g4 : (F2.2 != 0) = false := by simp [h0]
                  have hst := Hst.out
                  rw [if_neg (by simpa using h0)] at hst
                  have Hst2 := Lib.hid hst
                  have h7 := h7 h0
                  obtain ⟨q1, q2⟩ := Hlen2.out h0
                  clear hst h0
                  go_wp2_with fail
                  exact ⟨⟨j + 1, A7, F2.1, by omega, by go_num, h7, Hst2.out, q1, by have := Hcc2.out; omega, X27, hA27⟩, by simp [intOf]; omega⟩
              · as_aux_lemma =>
                  have g3 : (F2.2 == 0) = false := by simp [h0]
                  have g4 : (F2.2 != 0) = true := by simp [h0]
                  have hst := Hst.out
                  rw [if_pos h0] at hst
                  have Hst2 := Lib.hid hst
                  have h0' := Lib.hid h0
                  clear hst h0 h7
                  go_wp2_with fail
                  go_ret
                  exact ⟨by rw [← Hst2.out]; rfl, A, fun h => absurd (by rw [← Hst2.out] at h; exact h) h0'.out, (turn_below (S := sOwn vb A) B2).trans X27 (fun _ h => .inl h), fun k h => .inl h⟩
    · as_aux_lemma =>
        have hjn' : j = m1 := by omega
        have hend : G = (acc', 0) := by
          rw [← hG', List.drop_eq_nil_of_le (by rw [hml.out]; omega)]
          rfl
        replace hend := Lib.hid hend
        have e1 : ¬ (j : Int) < (m1 : Int) := by omega
        clear hG' hjn'
        go_wp2_with fail
        go_ret
        obtain ⟨A9, S9, h9⟩ := Out.out hend.out
        exact ⟨by rw [hend.out]; rfl, A9, fun _ => S9, XB, h9⟩
theorem ceach_any {w0 : World} {p : Nat} {R : Int → Nd × Int} (H : Src w0 p R) (ht0 : Tab w0) (fr to : Kd) (most : Int) {lim base vb mb tb : Nat} (hvb : w0.heap.size ≤ vb) (hlim : w0.heap.size = lim) : ∀ l, EachSays w0 p R fr to most lim base vb mb tb l
  | 0 => by
    intro w M lo hi A1 n1 c1 B1 m1 d1 A acc _ S Hd hdis hlo hmay hl ha hc
    refine (ceach_leaf (p := p) fr to most w M lo hi A1 n1 c1 B1 m1 d1 A acc S Hd hdis hlo hmay hl ha hc).mono ?_
    rintro e w' ⟨rfl, A', h1, h2, h3⟩
    exact ⟨rfl, A', fun _ => h1, h2, h3⟩
  | l + 1 => ceach_step H ht0 fr to most hvb hlim l (ceach_any H ht0 fr to most hvb hlim l)
end Go.Proofs.YtgedmodnkiijkaaGreatDoor

namespace Go.Proofs.YtgedmodnkiijkaaGreatDoor
open Go Go.RowKit Go.Proofs

set_option maxRecDepth 100000 in
set_option maxHeartbeats 16000000 in
theorem fscan_own {w : World} {p : Nat} {R : Int → Nd × Int} (H : Src w p R) (ht : Tab w) (root : Int) (fr to : Kd) (most : Int) (hcnt : root ≠ 0 → countN R (lvlN R root) root ≤ 100000) :
    Calls Tryz.prog 16 #[.pointer (some ⟨p, 0, none⟩), .int .i64 root, .agg #[.int .i64 fr.obj, .int .i64 fr.kind, .int .i64 fr.off], .agg #[.int .i64 to.obj, .int .i64 to.kind, .int .i64 to.off], .int .i64 most] w fun e w' => ∃ A n c, e = .returned (.tuple #[.slice A n c, .int .i64 (scanT R fr to most root).2]) ∧ IRow w' w.heap.size A n c (scanT R fr to most root).1 ∧ Below w.heap.size w w' := by
  obtain ⟨G, hGe⟩ : ∃ G, scanT R fr to most root = G := ⟨_, rfl⟩
  rw [hGe]
  unfold scanT at hGe
  obtain ⟨K1, K2, b2⟩ := boxes2 w fr to
  have b3 : Below w.heap.size w (((w.alloc (.cells #[.int .i64 fr.obj, .int .i64 fr.kind, .int .i64 fr.off] 39)).alloc (.cells #[.int .i64 to.obj, .int .i64 to.kind, .int .i64 to.off] 39)).alloc (.cells #[.int .i64 most] 3)) := b2.alloc (by simp; omega) _
  have b23 : Below ((w.alloc (.cells #[.int .i64 fr.obj, .int .i64 fr.kind, .int .i64 fr.off] 39)).alloc (.cells #[.int .i64 to.obj, .int .i64 to.kind, .int .i64 to.off] 39)).heap.size _ (((w.alloc (.cells #[.int .i64 fr.obj, .int .i64 fr.kind, .int .i64 fr.off] 39)).alloc (.cells #[.int .i64 to.obj, .int .i64 to.kind, .int .i64 to.off] 39)).alloc (.cells #[.int .i64 most] 3)) := (Below.refl _ _).alloc (Nat.le_refl _) _
  have K1' := K1.below b23 K1.lt
  have K2' := K2.below b23 K2.lt
  have V3 : (((w.alloc (.cells #[.int .i64 fr.obj, .int .i64 fr.kind, .int .i64 fr.off] 39)).alloc (.cells #[.int .i64 to.obj, .int .i64 to.kind, .int .i64 to.off] 39)).alloc (.cells #[.int .i64 most] 3)).heap[w.heap.size + 2]? = some (.cells #[.int .i64 most] 3 (0, 0)) := by
    have := heap_alloc_new ((w.alloc (.cells #[.int .i64 fr.obj, .int .i64 fr.kind, .int .i64 fr.off] 39)).alloc (.cells #[.int .i64 to.obj, .int .i64 to.kind, .int .i64 to.off] 39)) (.cells #[.int .i64 most] 3)
    rwa [World.size_alloc, World.size_alloc] at this
  have z3 : (((w.alloc (.cells #[.int .i64 fr.obj, .int .i64 fr.kind, .int .i64 fr.off] 39)).alloc (.cells #[.int .i64 to.obj, .int .i64 to.kind, .int .i64 to.off] 39)).alloc (.cells #[.int .i64 most] 3)).heap.size = w.heap.size + 3 := by simp
  have c3 := cell_of_one V3
  clear K1 K2 b2 b23
  by_cases h0 : root = 0
  · rw [if_pos (.inl h0)] at hGe
    subst h0
    subst hGe
    go_enter Tryz.func16, Tryz.ntmps16
    go_wp2_with fail
    go_ret2
    exact ⟨none, 0, 0, rfl, irow_nil _ _, b3⟩
  · have g1 : (root == 0) = false := by simp [h0]
    have g2 : decide (root = 0) = false := decide_eq_false h0
    by_cases hm : most < 1
    · rw [if_pos (.inr hm)] at hGe
      subst hGe
      clear h0 hcnt
      go_enter Tryz.func16, Tryz.ntmps16
      go_wp2_with fail
      go_ret2
      exact ⟨none, 0, 0, rfl, irow_nil _ _, b3⟩
    · rw [if_neg (by rintro (h | h); exact h0 h; exact hm h)] at hGe
      have hc := hcnt h0
      have Hn := Lib.hid (H.node _ b3 (ht.below b3 ht.1) root)
      have hmy := H.may root
      obtain ⟨M, E, hR⟩ : ∃ M E, R root = (M, E) := ⟨_, _, rfl⟩
      have HR := Lib.hid hR
      rw [hR] at Hn hmy
      have hmy : E = 0 → M.may = true := hmy
      have hl : lvlN R root = M.lvl.toNat := by unfold lvlN; rw [hR]
      rw [hl] at hGe hc
      clear hR hl h0 hcnt
      by_cases hE : E = 0
      · subst hE
        have hmay := hmy rfl
        have hlv : 0 ≤ M.lvl ∧ M.lvl < 8 := by
          by_cases h1 : M.lvl = 0
          · omega
          · have := may_inner_kids hmay h1; omega
        obtain ⟨l, hl⟩ : ∃ l, M.lvl.toNat = l := ⟨_, rfl⟩
        have hl2 : M.lvl = (l : Int) := by omega
        rw [hl] at hGe hc
        rw [scanN_ok HR.out [] hl2] at hGe
        rw [countN_ok HR.out] at hc
        have Hc := Lib.hid hc
        have HG := Lib.hid hGe
        have Hl2 := Lib.hid hl2
        have k10 := K1'.c0
        have k11 := K1'.c1
        have k12 := K1'.c2
        clear hc hGe hl2 hl hlv hmy
        go_enter Tryz.func16, Tryz.ntmps16
        go_wp2_with fail
        refine Hn.out.mono ?_
        generalize ((w.alloc (.cells #[.int .i64 fr.obj, .int .i64 fr.kind, .int .i64 fr.off] 39)).alloc (.cells #[.int .i64 to.obj, .int .i64 to.kind, .int .i64 to.off] 39)).alloc (.cells #[.int .i64 most] 3) = w3 at K1' K2' V3 z3 c3 b3 k10 k11 k12 ⊢
        rintro e w4 ⟨A1, n1, c1, B1, m1, d1, rfl, hn1, hm1, hI, hKo, b4⟩
        have Hd := held_of hn1 hm1 hI hKo
        have N4 : NB (w4.alloc (.cells #[.int .i64 0, .slice none 0 0, .slice none 0 0] 56)) w4.heap.size 0 none 0 0 none 0 0 := NB.new w4 _ _ _ _ _ _ _ _
        have b5 : Below w4.heap.size w4 (w4.alloc (.cells #[.int .i64 0, .slice none 0 0, .slice none 0 0] 56)) := (Below.refl _ _).alloc (Nat.le_refl _) _
        have z4 := b4.size
        clear hI hKo Hn c3 k10 k11 k12
        go_wp2_with (first
          | (refine wp_store_nd rfl (.tmp 12) _ rfl w4.heap.size rfl M.lvl A1 n1 c1 B1 m1 d1 rfl N4 ?_; intro w6 N6 T6; have X46 : Turn (fun _ => False) w4 w6 := (turn_below (S := fun _ => False) b5).trans T6 (fun k h => .inr (by have h : k = w4.heap.size := h; omega)); have z6 := X46.size; have N6l := N6.lt; have b67 : Below w6.heap.size w6 (w6.alloc (.cells #[.slice none 0 0] 22)) := (Below.refl _ _).alloc (Nat.le_refl _) _; have X37 : Turn (fun _ => False) w3 (w6.alloc (.cells #[.slice none 0 0] 22)) := ((turn_below (S := fun _ => False) b4).trans X46 (fun _ h => .inl h)).trans (turn_below (S := fun _ => False) b67) (fun _ h => .inl h); have K7 := K1'.keep (X37.block _ K1'.lt (fun h => h)); have k0 := K7.c0; have k1 := K7.c1; have k2 := K7.c2; have N7 := N6.below b67 N6.lt; have q0 := N7.c0; have q1 := N7.c1; have q2 := N7.c2)
          | fail)
        have X47 : Turn (fun _ => False) w4 (w6.alloc (.cells #[.slice none 0 0] 22)) := X46.trans (turn_below (S := fun _ => False) b67) (fun _ h => .inl h)
        have Hd7 := Hd.turn X47 (fun _ _ _ h => h)
        have V7 : (w6.alloc (.cells #[.slice none 0 0] 22)).heap[w6.heap.size]? = some (.cells #[.slice none 0 0] 22 (0, 0)) := heap_alloc_new w6 _
        have z7 : (w6.alloc (.cells #[.slice none 0 0] 22)).heap.size = w6.heap.size + 1 := by simp
        have S7 : SAt (w6.alloc (.cells #[.slice none 0 0] 22)) w.heap.size (w6.heap.size + 1) w6.heap.size (w.heap.size + 2) (w.heap.size + 1) most to none [] := by
          have hl3 := K2'.lt
          exact ⟨⟨_, 0, V7, irow_nil _ _, fun k h => (by cases h)⟩, ⟨_, (X37.block _ (by omega) (fun h => h)).trans V3⟩, K2'.keep (X37.block _ hl3 (fun h => h)), by omega, ⟨by omega, by omega, by omega, by omega, by omega, by omega⟩⟩
        have B7 : Below w.heap.size w (w6.alloc (.cells #[.slice none 0 0] 22)) := b3.trans (X37.below (fun _ h => h.elim) b3.size)
        clear k0 k1 k2 q0 q1 q2
        refine (ceach_any H ht fr to most (lim := w.heap.size) (base := w6.heap.size + 1) (vb := w6.heap.size) (mb := w.heap.size + 2) (tb := w.heap.size + 1) (by omega) rfl l _ M w3.heap.size w4.heap.size A1 n1 c1 B1 m1 d1 none [] B7 S7 Hd7 (fun k h1 h2 h => by
          rcases h with h | h
          · omega
          · cases h) (by omega) hmay Hl2.out (Nat.zero_le _) (by have := Hc.out; simpa using this)).mono ?_
        rw [HG.out]
        rintro e w8 ⟨rfl, A8, h8, X8, hA8⟩
        have B8 : Below w.heap.size w w8 := B7.trans (X8.below (fun k hk => by
          rcases hk with h | h
          · omega
          · cases h) B7.size)
        by_cases hE2 : G.2 = 0
        · have g3 : (G.2 == 0) = true := by simp [hE2]
          have g4 : (G.2 != 0) = false := by simp [hE2]
          obtain ⟨⟨t, c, hv, row, -⟩, -⟩ := h8 hE2
          have hc8 := cell_of_one hv
          have HE2 := Lib.hid hE2
          clear hE2
          go_wp2_with fail
          go_ret2
          exact ⟨A8, _, c, by rw [HE2.out]; rfl, row, B8⟩
        · have g3 : (G.2 == 0) = false := by simp [hE2]
          have g4 : (G.2 != 0) = true := by simp [hE2]
          have hnil : G.1 = [] := by
            have h := hE2
            rw [← HG.out] at h ⊢
            exact scanM_none _ _ _ h
          have Hnil := Lib.hid hnil
          clear hE2 h8 hnil
          go_wp2_with fail
          go_ret2
          exact ⟨none, 0, 0, rfl, by rw [Hnil.out]; exact irow_nil _ _, B8⟩
      · have g3 : (E == 0) = false := by simp [hE]
        have g4 : (E != 0) = true := by simp [hE]
        rw [scanN_err (by rw [HR.out]; exact hE)] at hGe
        rw [HR.out] at hGe
        subst hGe
        clear hE hmy hc
        go_enter Tryz.func16, Tryz.ntmps16
        go_wp2_with fail
        refine Hn.out.mono ?_
        rintro e w4 ⟨A1, n1, c1, B1, m1, d1, rfl, hn1, hm1, hI, hKo, b4⟩
        have N4 : NB (w4.alloc (.cells #[.int .i64 0, .slice none 0 0, .slice none 0 0] 56)) w4.heap.size 0 none 0 0 none 0 0 := NB.new w4 _ _ _ _ _ _ _ _
        have b5 : Below w4.heap.size w4 (w4.alloc (.cells #[.int .i64 0, .slice none 0 0, .slice none 0 0] 56)) := (Below.refl _ _).alloc (Nat.le_refl _) _
        clear hI hKo Hn c3
        go_wp2_with (first
          | (refine wp_store_nd rfl (.tmp 12) _ rfl w4.heap.size rfl M.lvl A1 n1 c1 B1 m1 d1 rfl N4 ?_; intro w6 N6 T6)
          | fail)
        go_ret2
        have X46 : Turn (fun _ => False) w4 w6 := (turn_below (S := fun _ => False) b5).trans T6 (fun k h => .inr (by have h : k = w4.heap.size := h; omega))
        exact ⟨none, 0, 0, rfl, irow_nil _ _, b3.trans ((b4.mono b3.size).trans (X46.below (fun _ h => h.elim) (by have := b4.size; have := b3.size; omega)))⟩
theorem fscan_any {w : World} {p : Nat} {R : Int → Nd × Int} (H : Src w p R) (ht : Tab w) (root : Int) (fr to : Kd) (most : Int) (hcnt : root ≠ 0 → countN R (lvlN R root) root ≤ 100000) :
    Calls Tryz.prog 16 #[.pointer (some ⟨p, 0, none⟩), .int .i64 root, .agg #[.int .i64 fr.obj, .int .i64 fr.kind, .int .i64 fr.off], .agg #[.int .i64 to.obj, .int .i64 to.kind, .int .i64 to.off], .int .i64 most] w fun e w' => ∃ A n c, e = .returned (.tuple #[.slice A n c, .int .i64 (scanT R fr to most root).2]) ∧ Itms w' A n c (scanT R fr to most root).1 ∧ Below w.heap.size w w' := by
  refine (fscan_own H ht root fr to most hcnt).mono ?_
  rintro e w' ⟨A, n, c, h1, h2, h3⟩
  exact ⟨A, n, c, h1, h2.itms, h3⟩
end Go.Proofs.YtgedmodnkiijkaaGreatDoor

namespace Go.Proofs.YtgedmodnkiijkaaGreatDoor
open Go Go.RowKit Go.Proofs

/-- A row of items in a tree; what is told of its nodes is R's. -/
structure Told (w : World) (p : Nat) (R : Int → Nd × Int) (root : Int) (its : List Itm) : Prop where
  src : Src w p R
  tree : TreeOf R root its
  risen : risen its
  len : its.length ≤ 150
theorem Told.below {w w' : World} {p : Nat} {R : Int → Nd × Int} {root : Int} {its : List Itm} (h : Told w p R root its) (hb : Below w.heap.size w w') : Told w' p R root its := ⟨h.src.below hb, h.tree, h.risen, h.len⟩
theorem Treed.told {b : Nat} {w : World} {d p : Nat} {D : DM} {P : Pl} {root : Int} {its : List Itm} (h : Treed b w d p D P root its) (hr : risen its) (hl : its.length ≤ 150) : Told w p (P.store D) root its := by
  obtain ⟨S0, S, T, H⟩ := h.sys
  exact ⟨src_of H.drv H.pool h.stock.kind h.stock.good, h.tree, hr, hl⟩
theorem Treed.below {b : Nat} {w w' : World} {d p : Nat} {D : DM} {P : Pl} {root : Int} {its : List Itm} (h : Treed b w d p D P root its) (hb : Below w.heap.size w w') : Treed b w' d p D P root its := by
  obtain ⟨S0, S, T, H⟩ := h.sys
  exact ⟨⟨S0, S, T, H.below hb⟩, h.stock, h.tree, h.n, h.S⟩
section
variable {w : World} {p : Nat} {R : Int → Nd × Int} {root : Int} {its : List Itm}
theorem Told.get (h : Told w p R root its) (ht : Tab w) (k : Kd) (G : List UInt8 × Int) (hG : gotOf (valOf its k) = G) :
    Calls Tryz.prog 14 #[.pointer (some ⟨p, 0, none⟩), .int .i64 root, .agg #[.int .i64 k.obj, .int .i64 k.kind, .int .i64 k.off]] w fun e w' => ∃ A n c, e = .returned (.tuple #[.slice A n c, .int .i64 G.2]) ∧ Sl w' A n c G.1 ∧ Below w.heap.size w w' := by
  have := fget_any h.src ht root k
  rw [tree_get h.tree h.risen, hG] at this
  exact this
theorem Told.scan (h : Told w p R root its) (ht : Tab w) (fr to : Kd) (most : Int) (L : List Itm) (hL : (within fr to its).take most.toNat = L) :
    Calls Tryz.prog 16 #[.pointer (some ⟨p, 0, none⟩), .int .i64 root, .agg #[.int .i64 fr.obj, .int .i64 fr.kind, .int .i64 fr.off], .agg #[.int .i64 to.obj, .int .i64 to.kind, .int .i64 to.off], .int .i64 most] w fun e w' => ∃ A n c, e = .returned (.tuple #[.slice A n c, .int .i64 0]) ∧ Itms w' A n c L ∧ Below w.heap.size w w' := by
  have := fscan_any h.src ht root fr to most (fun h0 => by have := tree_count (less_refl R) h.tree h0; have := h.len; omega)
  rw [tree_scan h.tree h.risen, hL] at this
  exact this
/-- .. what is told is new. -/
theorem Told.scanNew (h : Told w p R root its) (ht : Tab w) (fr to : Kd) (most : Int) (L : List Itm) (hL : (within fr to its).take most.toNat = L) :
    Calls Tryz.prog 16 #[.pointer (some ⟨p, 0, none⟩), .int .i64 root, .agg #[.int .i64 fr.obj, .int .i64 fr.kind, .int .i64 fr.off], .agg #[.int .i64 to.obj, .int .i64 to.kind, .int .i64 to.off], .int .i64 most] w fun e w' => ∃ A n c, e = .returned (.tuple #[.slice A n c, .int .i64 0]) ∧ IRow w' w.heap.size A n c L ∧ Below w.heap.size w w' := by
  have := fscan_own h.src ht root fr to most (fun h0 => by have := tree_count (less_refl R) h.tree h0; have := h.len; omega)
  rw [tree_scan h.tree h.risen, hL] at this
  exact this
/-- Of a tree one of whose blocks is spoilt. -/
theorem spoilt_get {R' : Int → Nd × Int} (hs : Src w p R') (hl : Less1 R R') (hT : TreeOf R root its) (hr : risen its) (ht : Tab w) (k : Kd) :
    Calls Tryz.prog 14 #[.pointer (some ⟨p, 0, none⟩), .int .i64 root, .agg #[.int .i64 k.obj, .int .i64 k.kind, .int .i64 k.off]] w fun e w' => ∃ A n c, ((e = .returned (.tuple #[.slice A n c, .int .i64 (gotOf (valOf its k)).2]) ∧ Sl w' A n c (gotOf (valOf its k)).1) ∨ (∃ x, e = .returned (.tuple #[.slice A n c, .int .i64 5]) ∧ Sl w' A n c x)) ∧ Below w.heap.size w w' := by
  refine (fget_any hs ht root k).mono ?_
  rintro e w' ⟨A, n, c, rfl, hS, hb⟩
  rcases tree_get_less hl hT hr k with h | h
  · exact ⟨A, n, c, .inl ⟨by rw [h], by rw [← h]; exact hS⟩, hb⟩
  · exact ⟨A, n, c, .inr ⟨_, by rw [h], hS⟩, hb⟩
theorem spoilt_scan {R' : Int → Nd × Int} (hs : Src w p R') (hl : Less1 R R') (hT : TreeOf R root its) (hr : risen its) (hlen : its.length ≤ 150) (ht : Tab w) (fr to : Kd) (most : Int) :
    Calls Tryz.prog 16 #[.pointer (some ⟨p, 0, none⟩), .int .i64 root, .agg #[.int .i64 fr.obj, .int .i64 fr.kind, .int .i64 fr.off], .agg #[.int .i64 to.obj, .int .i64 to.kind, .int .i64 to.off], .int .i64 most] w fun e w' => ∃ A n c, ((e = .returned (.tuple #[.slice A n c, .int .i64 0]) ∧ Itms w' A n c ((within fr to its).take most.toNat)) ∨ (e = .returned (.tuple #[.slice A n c, .int .i64 5]) ∧ Itms w' A n c [])) ∧ Below w.heap.size w w' := by
  refine (fscan_any hs ht root fr to most (fun h0 => by have := tree_count hl hT h0; omega)).mono ?_
  rintro e w' ⟨A, n, c, rfl, hS, hb⟩
  rcases tree_scan_less hl hT hr fr to most with h | h
  · rw [h] at hS ⊢
    exact ⟨A, n, c, .inl ⟨rfl, hS⟩, hb⟩
  · rw [h] at hS ⊢
    exact ⟨A, n, c, .inr ⟨rfl, hS⟩, hb⟩
end
theorem holds_tree {R R' : Int → Nd × Int} (h : ∀ a, (R a).2 = 0 → R' a = R a) {root : Int} {its : List Itm} (hT : TreeOf R root its) : TreeOf R' root its := by
  rcases hT with h0 | ⟨l, h1, h2, h3⟩
  · exact .inl h0
  · exact .inr ⟨l, h1, holds_mono h h2, h3⟩
/-- The disk behind a commit. -/
def cmtD (P : Pl) : DM := growD.runD P.steps
theorem treed_commit {b : Nat} {w : World} {d p : Nat} {P : Pl} {root : Int} {its : List Itm} (h : Treed b w d p growD P root its) (hb : 1 < b) (ht : Tab w) :
    Calls Tryz.prog 13 #[.pointer (some ⟨p, 0, none⟩)] w fun e w' => e = .returned (.int .i64 0) ∧ (∃ S0 S T, SysAt b w' d p S0 S T (cmtD P) P.done) ∧ TreeOf (P.done.store (cmtD P)) root its ∧ Tab w' ∧ Below b w w' := by
  obtain ⟨S0, S, T, H⟩ := h.sys
  obtain ⟨k1, k2, _⟩ := cmt_sys h.stock.ok h.stock.sound
  have hg : P.g < 1099511627775 := by unfold Pl.g; rw [h.S]; show (1 : Int) + 1 < 1099511627775; omega
  refine (at_commit H hb ht growD_tame (by omega) hg).mono ?_
  rw [k1, k2]
  rintro e w' ⟨rfl, H', X, t'⟩
  refine ⟨rfl, ⟨_, _, _, H'⟩, holds_tree (fun a ha => store_commit h.stock.ok h.stock.sound h.stock.good a ha) h.tree, t', X.below (fun k hk => ?_) H.base⟩
  rcases hk with hk | hk
  · exact (H.tight k (H.sub k hk)).1
  · exact (H.tight k (H.subS k hk)).1
theorem done_none (P : Pl) (a : Nat) (b : Bk) (h : P.done.L a = some b) : False := by
  have h : (none : Option Bk) = some b := h
  cases h
theorem src_done {b : Nat} {w : World} {d p : Nat} {S0 S T : Nat → Prop} {D : DM} {P : Pl} (H : SysAt b w d p S0 S T D P.done) : Src w p (P.done.store D) :=
  src_of H.drv H.pool (fun a b h => (done_none P a b h).elim) (fun a b h => (done_none P a b h).elim)
theorem cmtD_rows {P : Pl} (h : P.ok) (k : Nat) : ((cmtD P).cac k).length ≤ 1000000 := by
  have h1 := (tame_run P.steps growD_tame).rows k
  have h2 := steps_le h
  unfold cmtD
  omega
theorem at_turned {b : Nat} {w : World} {d p : Nat} {S0 S T : Nat → Prop} {D : DM} {P : Pl} (H : SysAt b w d p S0 S T D P) (s at_ t : Int) (hcl : ∀ k, (D.cac k).length ≤ 1000000) :
    Calls Tryz.prog 23 #[.pointer (some ⟨d, 0, none⟩), .int .i64 s, .int .i64 at_, .int .i64 t] w fun e w' => (∃ x, e = .returned (.int .i64 x)) ∧ SysAt b w' d p S0 S T (D.corrupt s at_ t) P ∧ Turn S0 w w' := by
  refine (corrupt_any H.drv s at_ t hcl).mono ?_
  rintro e w' ⟨rfl, L2, X⟩
  have hz := X.size
  exact ⟨⟨_, rfl⟩, ⟨L2, H.pool.other X H.sub H.apart, H.sub, H.apart, fun k hk => ⟨(H.tight k hk).1, by have := (H.tight k hk).2; omega⟩⟩, X⟩
end Go.Proofs.YtgedmodnkiijkaaGreatDoor
