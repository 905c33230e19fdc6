/- What a store of nodes tells behind a commit, and when a byte is turned. Nodes laid down one behind the other, as the law's inner loop does it; what a pool of nodes alone keeps. What the law's loop keeps, level by level, while a tree is grown. Laws of the pool: a pool, its drive, and blocks of the law's own; rows of numbers. The code's PutNode, of a node that lies apart from the pool; for a pool and its drive. What is told of a tree from its root on. Where a tree's nodes are read: what a pool tells of each address, from a world on. -/
import Derived.Test.YtgedmodnkiijkaaGreatDoorFn3
import Derived.Test.YtgedmodnkiijkaaGreatDoorFn9
import Derived.Test.YtgedmodnkiijkaaGreatDoorFn11
import Derived.Test.YtgedmodnkiijkaaGreatDoorFn12
import Derived.Test.YtgedmodnkiijkaaGreatDoorFn13
import Derived.Test.YtgedmodnkiijkaaGreatDoorFn20
import Derived.Test.YtgedmodnkiijkaaGreatDoorFn26
import Derived.Test.YtgedmodnkiijkaaGreatDoorFn27
namespace Go.Proofs.YtgedmodnkiijkaaGreatDoor
open Go Go.RowKit Go.Proofs

/-- A store that tells less of what there was: the same, or that it cannot be read. -/
def Less1 (R R' : Int → Nd × Int) : Prop := ∀ a, (R a).2 = 0 → R' a = R a ∨ (R' a).2 = 5
theorem holds_get_less {R R' : Int → Nd × Int} (h : Less1 R R') (k : Kd) : ∀ (l : Nat) (a : Int) (its : List Itm), HoldsT R l a its → risen its → getN R' k l a = gotOf (valOf its k) ∨ (getN R' k l a).2 = 5
  | 0, a, its, hh, hr => by
    rcases h a (by rw [hh.1]) with e | e
    · left
      rw [← holds_get k 0 a its hh hr]
      unfold getN
      rw [e]
    · right; unfold getN; rw [if_pos (by rw [e]; decide)]; exact e
  | l + 1, a, its, hh, hr => by
    obtain ⟨kids, part, h1, _, h3, h4, h5⟩ := way_down hh hr k
    rcases h a (by rw [h1]) with e | e
    · rw [h5]
      unfold getN
      rw [e, h1]
      dsimp only
      rw [if_neg (by simp), if_neg (by simp)]
      exact holds_get_less h k l _ part h3 h4
    · right; unfold getN; rw [if_pos (by rw [e]; decide)]; exact e
theorem scanK_less1 {f f' : Int → List Itm → List Itm × Int} {to : Kd} {most : Nat} : ∀ (kids : List Kidd) (acc : List Itm), acc.length ≤ most → (∀ x ∈ kids, ∀ acc, acc.length ≤ most → (f' x.a acc = f x.a acc ∨ f' x.a acc = ([], 5)) ∧ (f x.a acc).1.length ≤ most) → scanK f' to most kids acc = scanK f to most kids acc ∨ scanK f' to most kids acc = ([], 5)
  | [], acc, _, _ => .inl rfl
  | x :: kids, acc, ha, h => by
    unfold scanK
    by_cases hb : to.less x.k = true ∨ most ≤ acc.length
    · rw [if_pos hb, if_pos hb]; exact .inl rfl
    · rw [if_neg hb, if_neg hb]
      obtain ⟨h1, h2⟩ := h x (List.mem_cons_self ..) acc ha
      rcases h1 with e | e
      · rw [e]
        split
        · exact .inl rfl
        · exact scanK_less1 kids _ h2 fun y hy => h y (List.mem_cons_of_mem _ hy)
      · right
        rw [e]
        rfl
theorem holds_scan_less {R R' : Int → Nd × Int} (h : Less1 R R') (fr to : Kd) (most : Nat) : ∀ (l : Nat) (a : Int) (its acc : List Itm), HoldsT R l a its → risen its → acc.length ≤ most → scanN R' fr to most l a acc = scanN R fr to most l a acc ∨ scanN R' fr to most l a acc = ([], 5)
  | 0, a, its, acc, hh, hr, ha => by
    rcases h a (by rw [hh.1]) with e | e
    · left; unfold scanN; rw [e]
    · right; unfold scanN; rw [if_pos (by rw [e]; decide), e]
  | l + 1, a, its, acc, hh, hr, ha => by
    obtain ⟨kids, parts, h1, h2, h3, rfl, h4⟩ := hh
    rcases h a (by rw [h1]) with e | e
    · unfold scanN
      rw [e, h1]
      dsimp only
      rw [if_neg (by simp), if_neg (by simp), if_neg (by simp), if_neg (by simp)]
      refine scanK_less1 _ acc ha fun x hx acc ha => ?_
      obtain ⟨j, hj, ex⟩ := List.getElem_of_mem (List.mem_of_mem_drop hx)
      have ek : kidAt kids j = x := by unfold kidAt; rw [List.getD_eq_getElem?_getD, List.getElem?_eq_getElem hj, ex]; rfl
      obtain ⟨h5, _⟩ := h4 j hj
      rw [ek] at h5
      refine ⟨holds_scan_less h fr to most l x.a _ acc h5 (risen_part hr j) ha, ?_⟩
      rw [holds_scan fr to most l x.a _ acc h5 (risen_part hr j) ha]
      show ((acc ++ _).take most).length ≤ most
      rw [List.length_take]
      omega
    · right; unfold scanN; rw [if_pos (by rw [e]; decide), e]
theorem live_none {P : Pl} {n : Nat} (h0 : P.C.get (n : Int) ≠ 0) (h : P.live n = none) : P.L n = none := by
  unfold Pl.live at h
  rwa [if_neg h0] at h
/-- A node that isn't new is read from the disk. -/
theorem store_disk {P : Pl} {D : DM} {n : Nat} (h0 : P.C.get (n : Int) ≠ 0) (hv : P.live n = none) (he : D.readE (n : Int) = 0) : P.store D (n : Int) = (nodeRN (D.readL (n : Int)) (n : Int), nodeRE (D.readL (n : Int)) (n : Int) 5) := by
  unfold Pl.store Pl.nodeN Pl.nodeE
  rw [if_neg h0, if_neg h0, Int.toNat_natCast, hv]
  dsimp only
  rw [if_pos he, if_pos he]
theorem store_live {P : Pl} {D : DM} {n : Nat} (h0 : P.C.get (n : Int) ≠ 0) {b : Bk} (hv : P.live n = some b) (he : (P.store D (n : Int)).2 = 0) : ∃ N, b = .node N ∧ P.store D (n : Int) = (N, 0) := by
  cases b with
  | node N =>
    refine ⟨N, rfl, ?_⟩
    unfold Pl.store Pl.nodeN Pl.nodeE
    rw [if_neg h0, if_neg h0, Int.toNat_natCast, hv]
  | bytes k l =>
    have he : P.nodeE D (n : Int) = 0 := he
    unfold Pl.nodeE at he
    rw [if_neg h0, Int.toNat_natCast, hv] at he
    have he : (1 : Int) = 0 := he
    omega
/-- Behind a commit all nodes are as they were. -/
theorem store_commit {D : DM} {P : Pl} (h : P.ok) {S0 : Sp} {C0 : Ct} (hs : Sound D P S0 C0) (hgd : ∀ a b, P.L a = some b → b.good) (a : Int) (ha : (P.store D a).2 = 0) : P.done.store (D.runD P.steps) a = P.store D a := by
  obtain ⟨n, rfl, hn, h0⟩ := store_get ha
  obtain ⟨_, s2, _, s4, s5⟩ := cmt_sound h hs
  have hcn := h.c.1.2
  have hnn : n ≤ 2047 := by omega
  have hDn : (D.runD P.steps).n = P.C.n := s2.n
  have h0' : P.done.C.get (n : Int) ≠ 0 := h0
  have hv' : P.done.live n = none := by
    unfold Pl.live
    split <;> rfl
  have rE : ∀ (D : DM), D.free → n < D.n → D.readE (n : Int) = 0 ∧ D.readL (n : Int) = D.newest n := fun D hf hl => by
    have hin : (0 : Int) ≤ (n : Int) ∧ (n : Int) < (D.n : Int) := by omega
    unfold DM.readE DM.readL
    rw [hf.on, if_neg Bool.false_ne_true, if_neg Bool.false_ne_true, if_pos hin, if_pos hin, Int.toNat_natCast]
    exact ⟨rfl, rfl⟩
  obtain ⟨r1, r2⟩ := rE _ s2.free (by omega)
  obtain ⟨r3, r4⟩ := rE D hs.free (by have := hs.n; omega)
  have hw : (D.runD P.steps).newest n = (D.runD P.steps).dur n := by unfold DM.newest; rw [s2.set_]; rfl
  have hw0 : D.newest n = D.dur n := by unfold DM.newest; rw [hs.set_]; rfl
  rw [store_disk h0' hv' r1, r2, hw]
  cases hv : P.live n with
  | some b =>
    obtain ⟨N, rfl, e⟩ := store_live h0 hv ha
    have hL := (live_get hv).2
    have hm := may_of_good (hgd n _ hL)
    rw [e, s4 n _ hn hL h0]
    have hg := h.genOk
    have hc : creadN ((Bk.node N).out n P.g) (n : Int) = some N := by
      show creadN (writeB N (n : Int) P.g) (n : Int) = some N
      rw [cread_back hm (node_out hm hnn ⟨by have := hg.1; omega, by have := hg.2; omega⟩).1, if_pos rfl]
    unfold nodeRN nodeRE
    rw [hc]
    rfl
  | none =>
    have hL := live_none h0 hv
    rw [store_disk h0 hv r3, r4, hw0]
    rw [s5 n ?_ ?_]
    · have hr := h.res n hn
      refine Classical.byContradiction fun hlt => h0 ?_
      unfold Ct.get
      rw [if_pos ⟨by omega, by omega⟩, Int.toNat_natCast]
      exact hr (by omega)
    · intro x hx
      obtain ⟨_, b, hb, _⟩ := new_mem.1 hx
      rw [hL] at hb
      cases hb
theorem turned_okB {l : List UInt8} {a m : Nat} (hok : okB l = true) : turnB a m l = l ∨ okB (turnB a m l) = false := by
  by_cases h : turnB a m l = l
  · exact .inl h
  · refine .inr ?_
    have ha : a < l.length := Classical.byContradiction fun hn => h (by
      unfold turnB
      rw [List.set_eq_of_length_le (by omega)])
    refine block_turned l a _ ha (fun e => h ?_) hok
    unfold turnB
    rw [e]
    exact List.set_getElem_self ..
theorem turn_newest (D : DM) (s a m k : Nat) : (D.turn s a m).newest k = if k = s then turnB a m (D.newest s) else D.newest k := by
  unfold DM.newest DM.turn
  dsimp only
  by_cases e : k = s
  · subst e
    rw [upd_same, upd_same, if_pos rfl]
    rcases List.eq_nil_or_concat (D.cac k) with h | ⟨r, x, h⟩
    · rw [h]; rfl
    · rw [h]
      simp
  · rw [upd_other _ _ e, upd_other _ _ e, if_neg e]
/-- A byte that is turned: each node is told as it was, or cannot be read. -/
theorem store_turned (P : Pl) (D : DM) (s at_ m : Int) : Less1 (P.store D) (P.store (D.corrupt s at_ m)) := fun a ha => by
  obtain ⟨n, rfl, hn, h0⟩ := store_get ha
  unfold DM.corrupt
  split
  · have hE : (D.turn s.toNat at_.toNat m.toNat).readE (n : Int) = D.readE (n : Int) := rfl
    cases hv : P.live n with
    | some b =>
      left
      unfold Pl.store Pl.nodeN Pl.nodeE
      rw [if_neg h0, if_neg h0, if_neg h0, if_neg h0, Int.toNat_natCast, hv]
      cases b <;> rfl
    | none =>
      have hr : D.readE (n : Int) = 0 := Classical.byContradiction fun hne => by
        have ha : P.nodeE D (n : Int) = 0 := ha
        unfold Pl.nodeE at ha
        rw [if_neg h0, Int.toNat_natCast, hv] at ha
        dsimp only at ha
        rw [if_neg hne] at ha
        exact hne ha
      have e0 := store_disk h0 hv hr
      rw [e0] at ha ⊢
      rw [store_disk h0 hv (by rw [hE]; exact hr)]
      have hin : D.off = false ∧ (n : Int) < (D.n : Int) := by
        unfold DM.readE at hr
        split at hr
        · cases hr
        · rename_i hoff
          split at hr
          · rename_i hb; exact ⟨by simpa using hoff, hb.2⟩
          · cases hr
      have rL : ∀ D' : DM, D'.off = false → D'.n = D.n → D'.readL (n : Int) = D'.newest n := fun D' h1 h2 => by
        unfold DM.readL
        have hb : (0 : Int) ≤ (n : Int) ∧ (n : Int) < (D.n : Int) := ⟨by omega, hin.2⟩
        rw [h1, h2, if_neg Bool.false_ne_true, if_pos hb, Int.toNat_natCast]
      rw [rL D hin.1 rfl] at ha ⊢
      rw [rL (D.turn s.toNat at_.toNat m.toNat) hin.1 rfl, turn_newest]
      by_cases e : n = s.toNat
      · rw [if_pos e, ← e]
        have hok : okB (D.newest n) = true := by
          have ha : nodeRE (D.newest n) (n : Int) 5 = 0 := ha
          unfold nodeRE creadN opE at ha
          cases hc : okB (D.newest n) with
          | true => rfl
          | false => rw [hc] at ha; simp at ha
        rcases turned_okB (a := at_.toNat) (m := m.toNat) hok with e1 | e1
        · left; rw [e1]
        · right
          show nodeRE _ _ 5 = 5
          unfold nodeRE creadN opE
          rw [e1]
          rfl
      · rw [if_neg e]; exact .inl rfl
  · exact .inl rfl
end Go.Proofs.YtgedmodnkiijkaaGreatDoor

namespace Go.Proofs.YtgedmodnkiijkaaGreatDoor
open Go Go.RowKit Go.Proofs

theorem putAll_snoc (N : Nd) : ∀ (a : List Nd) (P : Pl), P.putAll (a ++ [N]) = (P.putAll a).putN N
  | [], _ => rfl
  | M :: r, P => putAll_snoc N r (P.putN M)
theorem kidsN_snoc (N : Nd) : ∀ (a : List Nd) (P : Pl), kidsN P (a ++ [N]) = kidsN P a ++ [⟨N.least, (P.putAll a).putNV N⟩]
  | [], _ => rfl
  | M :: r, P => by
    show (⟨M.least, P.putNV M⟩ : Kidd) :: kidsN (P.putN M) (r ++ [N]) = _
    rw [kidsN_snoc N r (P.putN M)]
    rfl
theorem nds_next {Ns : List Nd} {i : Nat} (h : i < Ns.length) : Ns.take (i + 1) = Ns.take i ++ [Ns[i]] := List.take_succ_eq_append_getElem h
/-- A pool all of whose new blocks are nodes, over a disk that is sound. -/
structure Stock (D : DM) (P : Pl) (S0 : Sp) (C0 : Ct) : Prop where
  ok : P.ok
  sound : Sound D P S0 C0
  nodes : ∀ a b, P.L a = some b → ∃ N, b = .node N ∧ N.may = true
theorem Stock.kind {D : DM} {P : Pl} {S0 : Sp} {C0 : Ct} (h : Stock D P S0 C0) : ∀ a b, P.L a = some b → b.kindOk := fun a b hb => by
  obtain ⟨N, rfl, _⟩ := h.nodes a b hb
  exact trivial
theorem Stock.good {D : DM} {P : Pl} {S0 : Sp} {C0 : Ct} (h : Stock D P S0 C0) : ∀ a b, P.L a = some b → b.good := fun a b hb => by
  obtain ⟨N, rfl, hm⟩ := h.nodes a b hb
  exact node_good hm
theorem Stock.put {D : DM} {P : Pl} {S0 : Sp} {C0 : Ct} (h : Stock D P S0 C0) {N : Nd} (hN : N.may = true) (hf : 0 < P.C.free) : Stock D (P.putN N) S0 C0 ∧ P.putNE N = 0 ∧ (P.putN N).C.free + 1 = P.C.free := by
  obtain ⟨c, hc⟩ := Ct.pick_some_free hf
  obtain ⟨_, v2, v3⟩ := put_node hc hN
  have hfr := Ct.alloc_free hc
  have hC : (P.putN N).C = P.C.alloc := by rw [v3, lay_some hc]
  refine ⟨⟨by rw [v3]; exact lay_ok h.ok (node_fine hN), by rw [v3]; exact lay_holds h.sound _, fun a b hb => ?_⟩, v2, by rw [hC]; exact hfr⟩
  rw [v3, lay_L hc] at hb
  split at hb
  · obtain rfl := Option.some.inj hb
    exact ⟨N, rfl, hN⟩
  · exact h.nodes a b hb
/-- A disk that was formatted. -/
theorem Stock.fresh : Stock ((DM.mk0 256).runD (fmtL 256)) (Pl.fresh 256) (fmtS 256) (Ct.zero 256) ∧ 120 ≤ (Pl.fresh 256).C.free := by
  obtain ⟨_, h, _⟩ := fmt_done (D := DM.mk0 256) (n := 256) (by omega) (by omega) rfl ⟨rfl, rfl⟩
  refine ⟨⟨fresh_ok (by omega) (by omega), h, fun a b hb => by cases hb⟩, ?_⟩
  show 120 ≤ (Ct.zero 256).free
  rw [Ct.zero_free]
  decide
end Go.Proofs.YtgedmodnkiijkaaGreatDoor

namespace Go.Proofs.YtgedmodnkiijkaaGreatDoor
open Go Go.RowKit Go.Proofs

/-- A tree of a row: none, or one of so many levels. -/
def TreeOf (R : Int → Nd × Int) (root : Int) (its : List Itm) : Prop := (its = [] ∧ root = 0) ∨ ∃ l, l ≤ 6 ∧ HoldsT R l root its ∧ 1 ≤ root ∧ root < 2048
/-- A level that is to be laid down; f: how many rounds are left. -/
structure Lvl (D : DM) (its : List Itm) (f l : Nat) (P : Pl) (Ns : List Nd) : Prop where
  beds : ∃ rows, Beds l (P.store D) Ns rows ∧ rows.flatten = its
  ok : P.ok
  free : 2 * Ns.length + 10 ≤ P.C.free
  one : 1 ≤ Ns.length
  fuel : l + f ≤ 6
  need : 1 ≤ f ∧ (2 ≤ Ns.length → 2 ≤ f) ∧ (13 ≤ Ns.length → 3 ≤ f) ∧ Ns.length ≤ 66
theorem Lvl.may {D : DM} {its : List Itm} {f l : Nat} {P : Pl} {Ns : List Nd} (h : Lvl D its f l P Ns) : ∀ N ∈ Ns, N.may = true := by
  obtain ⟨rows, b, _⟩ := h.beds
  exact b.may
theorem lvl_start (cuts : List Int) (D : DM) {P : Pl} {l : List Itm} {m : Nat} (h : goodRow l m) (hm : m ≤ 150) (h0 : l ≠ []) (hok : P.ok) (hf : 120 ≤ P.C.free) : Lvl D l 5 0 P (leavesN cuts l) := by
  obtain ⟨b1, b2, b3⟩ := beds_leaves cuts (R := P.store D) h0 h.risen h.may
  have hl := h.len
  exact ⟨⟨_, b1, cutsL_flatten 3 6 cuts l.length 0 l⟩, hok, by omega, b3, by omega, by omega, fun _ => by omega, fun _ => by omega, by omega⟩
theorem Lvl.done {D : DM} {its : List Itm} {f l : Nat} {P : Pl} {Ns : List Nd} (h : Lvl D its f l P Ns) (hone : Ns.length = 1) : TreeOf ((P.putAll Ns).store D) (kidAt (kidsN P Ns) 0).a its := by
  obtain ⟨rows, H, hfl⟩ := h.beds
  have hf := h.free
  have h1 := h.fuel
  obtain ⟨G, g1, g2, g3⟩ := beds_twigs H h.ok (by omega)
  have hGl : G.length = Ns.length := by have := congrArg List.length g1; rw [kidsN_len, List.length_map] at this; omega
  have hrow : rowOf G = its := by unfold rowOf; rw [g2]; exact hfl
  match G, hGl, g1, g3, hrow with
  | [t], _, g1, g3, hrow =>
    obtain ⟨k1, k2⟩ := g3 t (List.mem_singleton.2 rfl)
    have e : (kidAt (kidsN P Ns) 0).a = t.1 := by rw [g1]; rfl
    have e2 : t.2 = its := by rw [← hrow]; unfold rowOf; simp
    rw [e, ← e2]
    exact .inr ⟨l, by omega, k1, k2⟩
  | [], hGl, _, _, _ => exact absurd hGl (by rw [hone]; simp)
  | a :: b :: r, hGl, _, _, _ => exact absurd hGl (by rw [hone]; simp)
theorem Lvl.next {D : DM} {its : List Itm} {f l : Nat} {P : Pl} {Ns : List Nd} (h : Lvl D its (f + 1) l P Ns) (cuts : List Int) (hr : risen its) (hk : ∀ x ∈ its, x.k.may = true) (hone : Ns.length ≠ 1) : Lvl D its f (l + 1) (P.putAll Ns) (innerN cuts (l + 1) (kidsN P Ns)) := by
  obtain ⟨rows, H, hfl⟩ := h.beds
  have hf := h.free
  have h1 := h.fuel
  have hm := h.need
  have h2 := h.one
  obtain ⟨p1, p2, p3, p4, p5, p6⟩ := puts_all D Ns P h.ok H.may (by omega)
  obtain ⟨G, g1, g2, g3⟩ := beds_twigs H h.ok (by omega)
  have hGl : G.length = Ns.length := by have := congrArg List.length g1; rw [kidsN_len, List.length_map] at this; omega
  have hrow : rowOf G = its := by unfold rowOf; rw [g2]; exact hfl
  obtain ⟨b1, b2, b3, b4, b5⟩ := beds_inner cuts (l := l) (by omega) (G := G) g3 (by omega) (by rw [hrow]; exact hr) (by rw [hrow]; exact hk)
  rw [← g1] at b1 b2 b3 b4
  exact ⟨⟨_, b1, b5.trans hrow⟩, p4, by omega, b3, by omega, by omega, fun h => by have := b4 (by omega); omega, fun h => by omega, by omega⟩
/-- While nodes are laid down the pool stays one of nodes. -/
theorem stock_take {D : DM} {P : Pl} {S0 : Sp} {C0 : Ct} (h : Stock D P S0 C0) {Ns : List Nd} (hm : ∀ N ∈ Ns, N.may = true) (hf : Ns.length ≤ P.C.free) : ∀ i, i ≤ Ns.length → Stock D (P.putAll (Ns.take i)) S0 C0 ∧ (P.putAll (Ns.take i)).C.free + i = P.C.free
  | 0, _ => ⟨h, rfl⟩
  | i + 1, hi => by
    obtain ⟨s1, s2⟩ := stock_take h hm hf i (by omega)
    rw [nds_next (by omega), putAll_snoc]
    obtain ⟨t1, _, t3⟩ := s1.put (hm _ (List.getElem_mem (by omega : i < Ns.length))) (by omega)
    exact ⟨t1, by omega⟩
theorem stock_puts {D : DM} {P : Pl} {S0 : Sp} {C0 : Ct} (h : Stock D P S0 C0) {Ns : List Nd} (hm : ∀ N ∈ Ns, N.may = true) (hf : Ns.length ≤ P.C.free) {i : Nat} (hi : i < Ns.length) : (P.putAll (Ns.take i)).putNE (ndAt Ns i) = 0 := by
  obtain ⟨s1, s2⟩ := stock_take h hm hf i (by omega)
  have e : ndAt Ns i = Ns[i] := by unfold ndAt; rw [List.getD_eq_getElem?_getD, List.getElem?_eq_getElem hi]; rfl
  rw [e]
  exact (s1.put (hm _ (List.getElem_mem hi)) (by omega)).2.1
theorem puts_next {P : Pl} {Ns : List Nd} {i : Nat} (hi : i < Ns.length) : P.putAll (Ns.take (i + 1)) = (P.putAll (Ns.take i)).putN (ndAt Ns i) ∧ kidsN P (Ns.take (i + 1)) = kidsN P (Ns.take i) ++ [⟨(ndAt Ns i).least, (P.putAll (Ns.take i)).putNV (ndAt Ns i)⟩] := by
  have e : ndAt Ns i = Ns[i] := by unfold ndAt; rw [List.getD_eq_getElem?_getD, List.getElem?_eq_getElem hi]; rfl
  rw [e, nds_next hi, putAll_snoc, kidsN_snoc]
  exact ⟨rfl, rfl⟩
end Go.Proofs.YtgedmodnkiijkaaGreatDoor

namespace Go.Proofs.YtgedmodnkiijkaaGreatDoor
open Go Go.RowKit Go.Proofs

section
variable {b : Nat} {w w' : World} {d p : Nat} {S0 S T S' : Nat → Prop} {D : DM} {P : Pl}
theorem SysAt.below (H : SysAt b w d p S0 S T D P) (hb : Below w.heap.size w w') : SysAt b w' d p S0 S T D P :=
  ⟨H.drv.below hb, H.pool.below hb, H.sub, H.apart, fun k hk => ⟨(H.tight k hk).1, by have := (H.tight k hk).2; have := hb.size; omega⟩⟩
/-- What is made meanwhile is kept apart from what the pool holds. -/
theorem SysAt.more (H : SysAt b w d p S0 S T D P) (hb : Below w.heap.size w w') : SysAt b w' d p S0 S (grow T w w') D P := by
  have hbb := H.base
  have hST := H.subS
  have hz := hb.size
  refine ⟨H.drv.below hb, (H.pool.mono (S' := S) (T' := grow T w w') (fun k _ h => h) (fun k hk h => ?_) (fun k h => ⟨.inl (hST k h), by have := (H.tight k (hST k h)).2; omega⟩)).below hb, fun k hk => ⟨.inl (H.sub k hk), by have := (H.tight k (H.sub k hk)).2; omega⟩, H.apart, fun k hk => ⟨hk.1.elim (fun h => (H.tight k h).1) fun h => by omega, hk.2⟩⟩
  exact h.1.elim id fun h => by omega
/-- Blocks of the law's own turn. -/
theorem SysAt.own (H : SysAt b w d p S0 S T D P) (t : Turn S' w w') (hT : ∀ k, S' k → T k) (h0 : ∀ k, S' k → ¬ S0 k) (h1 : ∀ k, S' k → ¬ S k) : SysAt b w' d p S0 S T D P :=
  ⟨H.drv.keep fun k hk hs => t.block k hk fun h => h0 k h hs, H.pool.other t hT h1, H.sub, H.apart, fun k hk => ⟨(H.tight k hk).1, by have := (H.tight k hk).2; have := t.size; omega⟩⟩
theorem SysAt.sys (H : SysAt b w d p S0 S T D P) : Sys b w d p T D P := ⟨S0, S, H⟩
theorem at_commit (H : SysAt b w d p S0 S T D P) (hb : 1 < b) (ht : Tab w) {m0 : Nat} (htm : D.tame m0) (hm0 : m0 ≤ 500000) (hgen : P.g < 1099511627775) :
    Calls Tryz.prog 13 #[.pointer (some ⟨p, 0, none⟩)] w fun e w' => e = .returned (.int .i64 (D.cmtE P)) ∧ SysAt b w' d p (grow S0 w w') S (grow T w w') (D.runD P.steps) (D.cmtP P) ∧ Turn (fun k => S0 k ∨ S k) w w' ∧ Tab w' := by
  have hST := H.subS
  have hbb := H.base
  refine (pcommit_any H.drv H.pool H.sub H.apart (fun k hk => (H.tight k hk).2) (fun h => by have := (H.tight _ h).1; omega) ht htm hm0 hgen).mono ?_
  rintro e w' ⟨rfl, R, Q, X⟩
  have hz := X.size
  have hX : ∀ k, S0 k ∨ S k → T k := fun k hk => hk.elim (H.sub k) (hST k)
  refine ⟨rfl, ⟨R.tight, ?_, fun k hk => ⟨hk.1.imp (H.sub k) id, hk.2⟩, fun k hk h => ?_, fun k hk => ⟨hk.1.elim (fun h => (H.tight k h).1) fun h => by omega, hk.2⟩⟩, X, ht.turned X fun h => by have := (H.tight _ (hX _ h)).1; omega⟩
  · exact Q.mono (fun k _ h => h) (fun k hk h => h.1) fun k hk => ⟨.inl (hST k hk), by have := (H.tight k (hST k hk)).2; omega⟩
  · exact hk.1.elim (fun h2 => H.apart k h2 h) fun h2 => by have := (H.tight k (hST k h)).2; omega
end

/-- A row of the law's own that holds addresses. -/
def ARow (w : World) (base : Nat) (A : Option Addr) (n c : Nat) (an : List Nat) : Prop := OwnS w base 3 1 A n c (an.map fun (a : Nat) => [.int .i64 (a : Int)])
section
variable {w w' : World} {base : Nat} {A : Option Addr} {n c : Nat} {an : List Nat}
theorem ARow.len (h : ARow w base A n c an) : an.length = n := by
  have := OwnS.len h (by omega)
  rw [List.length_map] at this
  omega
theorem ARow.turned (h : ARow w base A n c an) {S : Nat → Prop} (T : Turn S w w') (hA : ∀ k, blockOf A = some k → ¬ S k) : ARow w' base A n c an := OwnS.turned h T hA
theorem ARow.below (h : ARow w base A n c an) (hb : Below w.heap.size w w') : ARow w' base A n c an := OwnS.below h hb
theorem ARow.lt (h : ARow w base A n c an) : ∀ k, blockOf A = some k → base ≤ k ∧ k < w.heap.size := OwnS.blockLt h
theorem ARow.cell (h : ARow w base A n c an) {i : Nat} (hi : i < n) : ∃ ad a, A = some ad ∧ an[i]? = some a ∧ w.cell? (ad.add i) = some (.int .i64 (a : Int)) ∧ ad.block < w.heap.size := by
  have hl := h.len
  have hs := OwnS.sls h (by omega)
  obtain ⟨g, o, hA, hg, _, hr⟩ := hs.2.2.2 i _ (List.getElem?_eq_getElem (by rw [List.length_map]; omega))
  have h0 := hr 0 (.int .i64 ((an[i]'(by omega) : Nat) : Int)) (by rw [List.getElem_map]; rfl)
  rw [Nat.mul_one, Nat.add_zero] at h0
  exact ⟨⟨g, o, none⟩, _, hA, List.getElem?_eq_getElem (by omega), by rw [Addr.add_mid]; exact h0, hg⟩
theorem ARow.cap (h : ARow w base A n c an) : n ≤ c ∧ c ≤ maxLen := by
  have hs := OwnS.sls h (by omega)
  exact ⟨hs.cap, hs.max⟩
end
end Go.Proofs.YtgedmodnkiijkaaGreatDoor

namespace Go.Proofs.YtgedmodnkiijkaaGreatDoor
open Go Go.RowKit Go.Proofs
open Go.ChangeMaps (setBlock)

set_option maxRecDepth 100000 in
set_option maxHeartbeats 8000000 in
theorem pputnode_turn {w : World} {p d : Nat} {S T : Nat → Prop} {P : Pl} (H : Pool w p d S T P) (hT : ∀ k, T k → k < w.heap.size) (hG : ¬ T 1) (N : Nd) (A : Option Addr) (n c : Nat) (B : Option Addr) (mm dd : Nat) (hst : ∀ w', Turn S w w' → Itms w' A n c N.items ∧ Kidl w' B mm dd N.kids) (hn : n ≤ 1000) (hm : mm ≤ 1000) (ht : Tab w) :
    Calls Tryz.prog 29 #[.pointer (some ⟨p, 0, none⟩), .agg #[.int .i64 N.lvl, .slice A n c, .slice B mm dd]] w fun e w' => e = .returned (.tuple #[.int .i64 (P.putNV N), .int .i64 (P.putNE N)]) ∧ Pool w' p d S T (P.putN N) ∧ Turn S w w' ∧ Tab w' := by
  have hok := H.ok
  have N1 : NB (w.alloc (.cells #[.int .i64 N.lvl, .slice A n c, .slice B mm dd] 56)) w.heap.size N.lvl A n c B mm dd := NB.new w _ _ _ _ _ _ _ _
  have b1 : Below w.heap.size w (w.alloc (.cells #[.int .i64 N.lvl, .slice A n c, .slice B mm dd] 56)) := (Below.refl _ _).alloc (Nat.le_refl _) _
  have z1 : (w.alloc (.cells #[.int .i64 N.lvl, .slice A n c, .slice B mm dd] 56)).heap.size = w.heap.size + 1 := by simp
  have hmy := fun r hr w' (hw : Turn S w w') => cnmay_any N r hr A n c B mm dd w' (hst w' hw).1 (hst w' hw).2 hn hm
  have c0 := N1.c0
  have c1 := N1.c1
  have c2 := N1.c2
  have t1 := ht.below b1 ht.1
  have H1 := H.below b1
  have B1 : Turn S w (w.alloc (.cells #[.int .i64 N.lvl, .slice A n c, .slice B mm dd] 56)) := turn_below b1
  cases hmay : N.may with
  | false =>
    have e1 : P.putNV N = 0 := by unfold Pl.putNV; rw [hmay]; rfl
    have e2 : P.putNE N = 1 := by unfold Pl.putNE; rw [hmay]; rfl
    have e3 : P.putN N = P := by unfold Pl.putN; rw [hmay]; rfl
    rw [e1, e2, e3]
    have Hmy := Lib.hid (hmy false hmay)
    clear hmay e1 e2 e3 hmy
    go_enter Tryz.func29, Tryz.ntmps29
    go_wp2_with fail
    generalize w.alloc (.cells #[.int .i64 N.lvl, .slice A n c, .slice B mm dd] 56) = w1 at b1 N1 z1 c0 c1 c2 t1 H1 B1 ⊢
    refine (Hmy.out w1 B1).mono ?_
    rintro e w2 ⟨rfl, b2⟩
    go_wp2
    go_ret2
    have BB := b1.trans (b2.mono (by omega))
    exact ⟨rfl, H.below BB, turn_below BB, ht.below BB ht.1⟩
  | true =>
    have hgd := node_good hmay
    have e1 : P.putNV N = P.C.allocV := by unfold Pl.putNV; rw [hmay]; rfl
    have e2 : P.putNE N = P.C.allocE := by unfold Pl.putNE; rw [hmay]; rfl
    have e3 : P.putN N = P.lay (.node N) := by unfold Pl.putN; rw [hmay]; rfl
    have hwo := fun (a : Nat) (ha : a ≤ 2047) => node_out hmay ha gen0_zero
    have Hmy := Lib.hid (hmy true hmay)
    have Hwo := Lib.hid hwo
    rw [e1, e2, e3]
    clear hmay hmy hwo e1 e2 e3
    have H0 := H
    obtain ⟨m, cur, l, clock, v, Sc, L⟩ := H1
    have hpl := L.plt
    have hml := L.mlt
    cases hp : P.C.pick with
    | none =>
      obtain ⟨a1, a2, a3⟩ := Ct.alloc_none hp
      have hal := fun (w2 : World) (C2 : CCo w2 p 36 Sc P.C) => calloc_any C2
      rw [a1, a2, a3] at hal
      rw [a1, a2, lay_none hp]
      have hal := Lib.hid hal
      clear a1 a2 a3 hp
      go_enter Tryz.func29, Tryz.ntmps29
      go_wp2_with fail
      generalize w.alloc (.cells #[.int .i64 N.lvl, .slice A n c, .slice B mm dd] 56) = w1 at b1 N1 z1 c0 c1 c2 t1 B1 L hpl hml ⊢
      refine (Hmy.out w1 B1).mono ?_
      rintro e w2 ⟨rfl, b2⟩
      have L2 := L.below b2
      go_wp2_with fail
      refine (hal.out w2 L2.ct).mono ?_
      rintro e w3 ⟨rfl, C3, T3⟩
      go_wp2
      go_ret2
      have BB := b1.trans (b2.mono (by omega))
      have X3 : Turn S w w3 := (turn_below (S := S) BB).trans (T3.mono L2.inS.2.2) fun k hk => .inl hk
      exact ⟨rfl, ⟨m, cur, l, clock, v, Sc, L2.setC T3 C3 rfl (fun _ => Iff.rfl) hok⟩, X3, ht.turned X3 fun h => hG (L2.sub _ h)⟩
    | some a =>
      obtain ⟨a1, a2, a3⟩ := Ct.alloc_some hp
      have han := (Ct.pick_in hp).1
      have hget0 : P.C.get (a : Int) = 0 := by unfold Ct.get; rw [if_pos (by omega), Int.toNat_natCast]; exact (Ct.pick_in hp).2.2.1
      have hnone : getE (a : Int) l = none := by rw [L.look a]; unfold Pl.live; rw [if_pos hget0]; rfl
      have Hnone := Lib.hid hnone
      have hcn := hok.c.1
      have hS := lay_S (P := P) (.node N)
      have hn2 := lay_n (P := P) (.node N)
      have hlok := lay_ok hok hgd.fine
      have hCl : P.C.alloc = (P.lay (.node N)).C := by rw [lay_some hp]
      have hlv := live_lay hp (.node N)
      have hgl := good_lay hgd L.good
      have hal := fun (w2 : World) (C2 : CCo w2 p 36 Sc P.C) => calloc_any C2
      rw [a1, a2, hCl] at hal
      rw [a1, a2]
      obtain ⟨hs1, hs2, _⟩ := Hwo.out a (by omega)
      have hlen := hgd.len (a := a) (g := 0) (by omega) gen0_zero
      have hso : (Bk.node N).out a 0 = writeB N (a : Int) 0 := rfl
      rw [hso] at hlen
      have Hs1 := Lib.hid hs1
      have Hlen := Lib.hid hlen
      have hal := Lib.hid hal
      have Hlv := Lib.hid hlv
      have Hgl := Lib.hid hgl
      have Hlok := Lib.hid hlok
      have HS := Lib.hid hS
      have Hn := Lib.hid hn2
      clear a1 a2 a3 hp hCl hS hn2 hlok hlv hgl hs1 hs2 hlen hnone hget0 hso
      go_enter Tryz.func29, Tryz.ntmps29
      go_wp2_with fail
      generalize w.alloc (.cells #[.int .i64 N.lvl, .slice A n c, .slice B mm dd] 56) = w1 at b1 N1 z1 c0 c1 c2 t1 B1 L hpl hml ⊢
      refine (Hmy.out w1 B1).mono ?_
      rintro e w2 ⟨rfl, b2⟩
      have L2 := L.below b2
      go_wp2_with fail
      refine (hal.out w2 L2.ct).mono ?_
      rintro e w3 ⟨rfl, C3, T3⟩
      have z2 := b2.size
      have z3 := T3.size
      have N2 := N1.below b2 (by omega)
      have hp3 := T3.block p L2.plt fun h => (L2.ne p h).1 rfl
      have hm3 := T3.block m L2.mlt fun h => (L2.ne m h).2 rfl
      have B3 : Turn S w w3 := (turn_below (S := S) (b1.trans (b2.mono (by omega)))).trans (T3.mono L2.inS.2.2) fun k hk => .inl hk
      have hbx : ¬ Sc w.heap.size := fun h => by have := hT _ (L2.sub _ (L2.inS.2.2 _ h)); omega
      have n3 := T3.block w.heap.size N2.lt hbx
      have N3 : NB w3 w.heap.size N.lvl A n c B mm dd := by
        obtain ⟨t, h⟩ := N2
        exact ⟨t, n3.trans h⟩
      have q40 : w3.cell? ⟨p, 40, none⟩ = some (.map (some m)) := (World.cell?_of_block (a := ⟨p, 40, none⟩) hp3).trans L2.c40
      have t3 : Tab w3 := (t1.below b2 t1.1).turned T3 fun h => hG (L2.sub _ (L2.inS.2.2 _ h))
      have hbm : w.heap.size ≠ m := fun e => by have h1 := hT m (L2.sub _ L2.inS.2.1); omega
      have hF : ∀ w', Below w3.heap.size w3 w' → w'.cell? ⟨p, 40, none⟩ = some (.map (some m)) ∧ w'.cell? ⟨w.heap.size, 0, none⟩ = some (.int .i64 N.lvl) ∧ w'.cell? ⟨w.heap.size, 1, none⟩ = some (.slice A n c) ∧ w'.cell? ⟨w.heap.size, 2, none⟩ = some (.slice B mm dd) := fun w' hb =>
        have N' := N3.below hb N3.lt
        ⟨(hb.cell (p := ⟨p, 40, none⟩) (by show p < _; omega)).trans q40, N'.c0, N'.c1, N'.c2⟩
      have hFb : ∀ w' (o : Obj), Below w3.heap.size w3 w' → (setBlock w' m o).cell? ⟨p, 40, none⟩ = some (.map (some m)) ∧ (setBlock w' m o).cell? ⟨w.heap.size, 0, none⟩ = some (.int .i64 N.lvl) ∧ (setBlock w' m o).cell? ⟨w.heap.size, 1, none⟩ = some (.slice A n c) ∧ (setBlock w' m o).cell? ⟨w.heap.size, 2, none⟩ = some (.slice B mm dd) := fun w' o hb => by
        have hz := hb.size
        have TB : Turn (fun k => k = m) w' (setBlock w' m o) := turn_setBlock _ rfl
        obtain ⟨h1, h2, h3, h4⟩ := hF w' hb
        have e1 := TB.block p (by omega) L2.p_m
        have e2 := TB.block w.heap.size (by omega) hbm
        exact ⟨(World.cell?_of_block (a := ⟨p, 40, none⟩) e1).trans h1, (World.cell?_of_block (a := ⟨w.heap.size, 0, none⟩) e2).trans h2, (World.cell?_of_block (a := ⟨w.heap.size, 1, none⟩) e2).trans h3, (World.cell?_of_block (a := ⟨w.heap.size, 2, none⟩) e2).trans h4⟩
      have BD : Below w3.heap.size w3 w3.drew := (Below.refl _ _).drew
      have Hup := Lib.hid (fun (w' : World) (hb : Below w3.heap.size w3 w') (v' : Value) => (congrArg (fun z : Nat => Result.ok () (setBlock w' m (.map (putE (a : Int) v' clock l).toArray z))) (if_pos Hnone.out)).subst (motive := fun r => (Instr.mapUpdate 90 (.map (some m)) (.int .i64 (a : Int)) v').run Tryz.prog w' = r) (run_update_ints L.ents Tryz.underlying90 Tryz.underlying3 ((hb.block m (by omega)).trans (hm3.trans L2.map)) (a : Int) v'))
      have BI : Turn S w w3.drew := B3.drew
      go_wp2_with fail
      go_region_held3 (fun w' => w'.cell? ⟨p, 40, none⟩ = some (.map (some m)) ∧ w'.cell? ⟨w.heap.size, 0, none⟩ = some (.int .i64 N.lvl) ∧ w'.cell? ⟨w.heap.size, 1, none⟩ = some (.slice A n c) ∧ w'.cell? ⟨w.heap.size, 2, none⟩ = some (.slice B mm dd))
        (first | assumption | exact hF _ BD | exact hF _ bb3 | exact hFb _ _ bb3)
        (first
          | (go_at_call 56; refine (cwrite_own N (a : Int) 0 A n c B mm dd _ (hst _ BI).1 (hst _ BI).2 hn hm (t3.below BD t3.1)).mono ?_; rw [Hs1.out]; rintro e w4 ⟨A3, n3, c3, rfl, own3', hg3, hb3⟩; have bb3 : Below w3.heap.size w3 w4 := BD.trans hb3; have hup := Hup.out w4 bb3)
          | fail)
      obtain ⟨q, rfl, rfl, rfl⟩ := hg3 (by first | trivial | rfl)
      have hq := (own3'.block ⟨q, 0, none⟩ rfl).1
      obtain ⟨R1, R2⟩ := L2.store (P' := P.lay (.node N)) (b := .node N) T3 C3 bb3 Hn.out HS.out han Hlv.out Hgl.out Hlok.out own3'.sl (fun h => by have h1 := hT q h; have h2 : w3.drew.heap.size = w3.heap.size := rfl; have h3 : w3.drew.heap.size ≤ q := hq; omega)
      rw [if_pos Hnone.out] at R1 R2
      go_wp2
      go_ret2
      have BB := b1.trans (b2.mono (by omega))
      have X3 := (turn_below (S := S) BB).trans R2 fun k hk => .inl hk
      exact ⟨rfl, R1, X3, ht.turned X3 fun h => hG (L2.sub _ h)⟩
section
variable {b : Nat} {w : World} {d p : Nat} {S0 S T : Nat → Prop} {D : DM} {P : Pl}
theorem at_putnode (H : SysAt b w d p S0 S T D P) (hb : 1 < b) (ht : Tab w) (N : Nd) (A : Option Addr) (n c : Nat) (B : Option Addr) (m k : Nat) (hst : ∀ w', Turn S w w' → Itms w' A n c N.items ∧ Kidl w' B m k N.kids) (hn : n ≤ 1000) (hm : m ≤ 1000) :
    Calls Tryz.prog 29 #[.pointer (some ⟨p, 0, none⟩), .agg #[.int .i64 N.lvl, .slice A n c, .slice B m k]] w fun e w' => e = .returned (.tuple #[.int .i64 (P.putNV N), .int .i64 (P.putNE N)]) ∧ SysAt b w' d p S0 S T D (P.putN N) ∧ Turn S w w' ∧ Tab w' := by
  refine (pputnode_turn H.pool (fun k hk => (H.tight k hk).2) (fun h => by have := (H.tight _ h).1; omega) N A n c B m k hst hn hm ht).mono ?_
  rintro e w' ⟨rfl, R, X, t⟩
  have hz := X.size
  exact ⟨rfl, ⟨H.drv.keep fun k hk hs => X.block k hk (H.apart k hs), R, H.sub, H.apart, fun k hk => ⟨(H.tight k hk).1, by have := (H.tight k hk).2; omega⟩⟩, X, t⟩
end
end Go.Proofs.YtgedmodnkiijkaaGreatDoor

namespace Go.Proofs.YtgedmodnkiijkaaGreatDoor
open Go Go.RowKit Go.Proofs

/-- How high the node at an address is. -/
def lvlN (R : Int → Nd × Int) (a : Int) : Nat := (R a).1.lvl.toNat
def getT (R : Int → Nd × Int) (k : Kd) (root : Int) : List UInt8 × Int := if root = 0 then ([], 10) else getN R k (lvlN R root) root
def scanT (R : Int → Nd × Int) (fr to : Kd) (most root : Int) : List Itm × Int := if root = 0 ∨ most < 1 then ([], 0) else scanN R fr to most.toNat (lvlN R root) root []
def pathT (R : Int → Nd × Int) (k : Kd) (root : Int) : List Int × Int := if root = 0 then ([], 0) else pathN R k (lvlN R root) root
def highT (R : Int → Nd × Int) (root : Int) : Int × Int := if root = 0 then (0, 0) else if (R root).2 ≠ 0 then (0, (R root).2) else ((R root).1.lvl + 1, 0)
theorem holds_lvl {R : Int → Nd × Int} : ∀ {l : Nat} {a : Int} {its : List Itm}, HoldsT R l a its → lvlN R a = l ∧ (R a).1.lvl = (l : Int) ∧ (R a).2 = 0
  | 0, a, its, h => by
    unfold lvlN
    rw [h.1]
    exact ⟨rfl, rfl, rfl⟩
  | l + 1, a, its, h => by
    obtain ⟨kids, parts, h1, _⟩ := h
    unfold lvlN
    rw [h1]
    exact ⟨Int.toNat_natCast _, rfl, rfl⟩
theorem tree_get {R : Int → Nd × Int} {root : Int} {its : List Itm} (h : TreeOf R root its) (hr : risen its) (k : Kd) : getT R k root = gotOf (valOf its k) := by
  unfold getT
  rcases h with ⟨rfl, rfl⟩ | ⟨l, _, h, h1, _⟩
  · rw [if_pos rfl]; rfl
  · rw [if_neg (by omega), (holds_lvl h).1, holds_get k l root its h hr]
theorem tree_scan {R : Int → Nd × Int} {root : Int} {its : List Itm} (h : TreeOf R root its) (hr : risen its) (fr to : Kd) (most : Int) : scanT R fr to most root = ((within fr to its).take most.toNat, 0) := by
  unfold scanT
  rcases h with ⟨rfl, rfl⟩ | ⟨l, _, h, h1, _⟩
  · rw [if_pos (.inl rfl)]; simp [within]
  · by_cases hm : most < 1
    · rw [if_pos (.inr hm), show most.toNat = 0 by omega, List.take_zero]
    · rw [if_neg (by omega), (holds_lvl h).1, holds_scan fr to _ l root its [] h hr (Nat.zero_le _), List.nil_append]
theorem tree_path {R : Int → Nd × Int} {root : Int} {its : List Itm} (h : TreeOf R root its) (hr : risen its) (k : Kd) :
    (its = [] ∧ root = 0 ∧ pathT R k root = ([], 0) ∧ highT R root = (0, 0)) ∨ ∃ (l : Nat) (p : List Int), l ≤ 6 ∧ its ≠ [] ∧ root ≠ 0 ∧ pathT R k root = (p, 0) ∧ highT R root = ((l : Int) + 1, 0) ∧ WayOk R k its l root p := by
  unfold pathT highT
  rcases h with ⟨rfl, rfl⟩ | ⟨l, hl, h, h1, _⟩
  · exact .inl ⟨rfl, rfl, if_pos rfl, if_pos rfl⟩
  · obtain ⟨p, e, hw⟩ := holds_path k l root its h hr
    obtain ⟨x, r, ne⟩ := holds_ne h
    obtain ⟨e1, e2, e3⟩ := holds_lvl h
    refine .inr ⟨l, p, hl, by rw [ne]; simp, by omega, ?_, ?_, hw⟩
    · rw [if_neg (by omega), e1, e]
    · rw [if_neg (by omega), if_neg (by rw [e3]; simp), e2]
/-- A store that tells less: what is got is what was, or that it cannot be read. -/
theorem tree_get_less {R R' : Int → Nd × Int} (hl : Less1 R R') {root : Int} {its : List Itm} (h : TreeOf R root its) (hr : risen its) (k : Kd) : getT R' k root = gotOf (valOf its k) ∨ (getT R' k root).2 = 5 := by
  unfold getT
  rcases h with ⟨rfl, rfl⟩ | ⟨l, _, h, h1, _⟩
  · left; rw [if_pos rfl]; rfl
  · obtain ⟨e1, e2, e3⟩ := holds_lvl h
    rw [if_neg (by omega)]
    rcases hl root e3 with e | e
    · have : lvlN R' root = l := by unfold lvlN; rw [e]; exact e1
      rw [this]
      exact holds_get_less hl k l root its h hr
    · right
      generalize lvlN R' root = m
      cases m with
      | zero => unfold getN; rw [if_pos (by rw [e]; decide)]; exact e
      | succ m => unfold getN; rw [if_pos (by rw [e]; decide)]; exact e
theorem tree_scan_less {R R' : Int → Nd × Int} (hl : Less1 R R') {root : Int} {its : List Itm} (h : TreeOf R root its) (hr : risen its) (fr to : Kd) (most : Int) : scanT R' fr to most root = ((within fr to its).take most.toNat, 0) ∨ scanT R' fr to most root = ([], 5) := by
  unfold scanT
  rcases h with ⟨rfl, rfl⟩ | ⟨l, _, h, h1, _⟩
  · left; rw [if_pos (.inl rfl)]; simp [within]
  · obtain ⟨e1, e2, e3⟩ := holds_lvl h
    by_cases hm : most < 1
    · left; rw [if_pos (.inr hm), show most.toNat = 0 by omega, List.take_zero]
    · rw [if_neg (by omega)]
      rcases hl root e3 with e | e
      · have : lvlN R' root = l := by unfold lvlN; rw [e]; exact e1
        rw [this]
        rcases holds_scan_less hl fr to most.toNat l root its [] h hr (Nat.zero_le _) with e | e
        · left; rw [e, holds_scan fr to _ l root its [] h hr (Nat.zero_le _), List.nil_append]
        · right; exact e
      · right
        generalize lvlN R' root = m
        cases m with
        | zero => unfold scanN; rw [if_pos (by rw [e]; decide), e]
        | succ m => unfold scanN; rw [if_pos (by rw [e]; decide), e]
/-- Keys that rise, any two of them. -/
theorem rises_less {ks : List Kd} (h : rises ks = true) : ∀ (j i : Nat), i < j → j < ks.length → (keyAt ks i).less (keyAt ks j) = true
  | 0, i, hi, _ => absurd hi (Nat.not_lt_zero _)
  | j + 1, i, hi, hj => by
    have h1 : riseOk ks (j + 1) = true := by
      unfold rises at h
      rw [List.all_eq_true] at h
      exact h _ (List.mem_range.2 hj)
    have h2 : (keyAt ks j).less (keyAt ks (j + 1)) = true := by
      unfold riseOk at h1
      simp at h1
      exact h1.2
    by_cases e : i = j
    · rw [e]; exact h2
    · exact Kd.trans _ _ _ (rises_less h j i (by omega) (by omega)) h2
theorem may_leaf_items {N : Nd} (hm : N.may = true) (h0 : N.lvl = 0) : N = ⟨0, N.items, []⟩ ∧ risen N.items ∧ 1 ≤ N.items.length ∧ N.items.length ≤ 6 := by
  have hk := (may_fit hm).1 h0
  unfold Nd.may at hm
  rw [if_pos h0, Bool.and_eq_true, Bool.and_eq_true] at hm
  obtain ⟨_, h2, h3⟩ := hm
  have h3 := of_decide_eq_true h3
  refine ⟨by cases N; simp_all, ?_, h3.2⟩
  have ek : N.keys = N.items.map (·.k) := by unfold Nd.keys; rw [hk]; simp
  rw [ek] at h2
  unfold risen
  rw [List.pairwise_iff_getElem]
  intro i j hi hj hij
  have := rises_less h2 j i hij (by rw [List.length_map]; exact hj)
  rw [keyAt_items _ hi, keyAt_items _ hj] at this
  have e : ∀ q (hq : q < N.items.length), itAt N.items q = N.items[q] := fun q hq => by unfold itAt; rw [List.getD_eq_getElem?_getD, List.getElem?_eq_getElem hq]; rfl
  rwa [e i hi, e j hj] at this
theorem may_inner_kids {N : Nd} (hm : N.may = true) (h0 : N.lvl ≠ 0) : N = ⟨N.lvl, [], N.kids⟩ ∧ 1 ≤ N.lvl ∧ N.lvl < 8 ∧ 2 ≤ N.kids.length ∧ N.kids.length ≤ 12 ∧ ∀ k, N.seek k < N.kids.length := by
  have hk := (may_fit hm).2 h0
  unfold Nd.may at hm
  rw [if_neg h0, Bool.and_eq_true, Bool.and_eq_true] at hm
  obtain ⟨_, h2, h3⟩ := hm
  obtain ⟨g1, g2, _, g4, g5⟩ := of_decide_eq_true h3
  refine ⟨by cases N; simp_all, g1, g2, g4, g5, fun k => ?_⟩
  have ek : N.keys = N.kids.map (·.k) := by unfold Nd.keys; rw [hk]; simp
  unfold Nd.seek
  rw [if_neg h0, ek, List.length_map]
  rcases lastTo_le (N.kids.map (·.k)) k N.kids.length with e | e <;> omega
/-- A leaf's loop: items are taken as long as there are too few, and none stands behind the last key. -/
def scanL (to : Kd) (most : Nat) : List Itm → List Itm → List Itm
  | [], acc => acc
  | x :: r, acc => if to.less x.k = true ∨ most ≤ acc.length then acc else scanL to most r (acc ++ [x])
theorem scanL_says {fr to : Kd} {most : Nat} : ∀ (r acc : List Itm), risen r → (∀ x ∈ r, x.k.less fr = false) → acc.length ≤ most → scanL to most r acc = (acc ++ within fr to r).take most
  | [], acc, _, _, ha => by
    show acc = _
    rw [show within fr to [] = [] from rfl, List.append_nil, List.take_of_length_le ha]
  | x :: r, acc, hr, hf, ha => by
    obtain ⟨r1, r2⟩ := List.pairwise_cons.1 hr
    unfold scanL
    by_cases hb : to.less x.k = true
    · rw [if_pos (.inl hb), within_none fun z hz => .inr (by
        rcases List.mem_cons.1 hz with rfl | hz
        · exact hb
        · exact Kd.trans _ _ _ hb (r1 z hz)), List.append_nil, List.take_of_length_le ha]
    · by_cases hm : most ≤ acc.length
      · rw [if_pos (.inr hm), take_enough hm, List.take_of_length_le ha]
      · rw [if_neg (by rintro (h | h); exact hb h; exact hm h), scanL_says r _ r2 (fun y hy => hf y (List.mem_cons_of_mem _ hy)) (by rw [List.length_append, List.length_singleton]; omega)]
        have : within fr to (x :: r) = x :: within fr to r := by
          unfold within
          rw [List.filter_cons, hf x (List.mem_cons_self ..), if_pos (by simp; simpa using hb)]
        rw [this, List.append_assoc]
        rfl
theorem leaf_scan {its : List Itm} (hr : risen its) (fr to : Kd) {most : Nat} (acc : List Itm) (ha : acc.length ≤ most) : scanL to most (its.drop (lead (its.map (·.k)) fr)) acc = (acc ++ within fr to its).take most := by
  obtain ⟨j, hj⟩ : ∃ j, lead (its.map (·.k)) fr = j := ⟨_, rfl⟩
  have hjl : j ≤ its.length := by have := lead_le (its.map (·.k)) fr; rw [List.length_map] at this; omega
  have e : ∀ q (hq : q < its.length), itAt its q = its[q] := fun q hq => by unfold itAt; rw [List.getD_eq_getElem?_getD, List.getElem?_eq_getElem hq]; rfl
  have h1 : within fr to (its.take j) = [] := within_none fun x hx => .inl (by
    obtain ⟨q, hq, ex⟩ := List.getElem_of_mem hx
    rw [List.length_take] at hq
    have := lead_before (its.map (·.k)) fr q (by omega)
    rw [keyAt_items its (by omega), e q (by omega)] at this
    rw [← ex, List.getElem_take]
    exact this)
  have h2 : within fr to its = within fr to (its.drop j) := by
    conv => lhs; rw [← List.take_append_drop j its]
    have : within fr to (its.take j ++ its.drop j) = within fr to (its.take j) ++ within fr to (its.drop j) := by unfold within; rw [List.filter_append]
    rw [this, h1, List.nil_append]
  rw [hj, h2]
  have hrd : risen (its.drop j) := by
    have : risen (its.take j ++ its.drop j) := by rw [List.take_append_drop]; exact hr
    exact (List.pairwise_append.1 this).2.1
  refine scanL_says _ acc hrd (fun x hx => ?_) ha
  by_cases hlt : j < its.length
  · have h3 : (itAt its j).k.less fr = false := by
      have := lead_stop (its.map (·.k)) fr (by rw [hj, List.length_map]; exact hlt)
      rwa [hj, keyAt_items its hlt] at this
    rw [List.drop_eq_getElem_cons hlt] at hx hrd
    rcases List.mem_cons.1 hx with rfl | hx
    · rw [← e j hlt]; exact h3
    · have h4 := (List.pairwise_cons.1 hrd).1 x hx
      rw [← e j hlt] at h4
      cases hc : x.k.less fr with
      | false => rfl
      | true => rw [Kd.trans _ _ _ h4 hc] at h3; cases h3
  · rw [List.drop_eq_nil_of_le (by omega)] at hx
    cases hx
end Go.Proofs.YtgedmodnkiijkaaGreatDoor

namespace Go.Proofs.YtgedmodnkiijkaaGreatDoor
open Go Go.RowKit Go.Proofs

theorem cread_may {b : List UInt8} {a : Int} {N : Nd} (h : creadN b a = some N) : N.may = true := by
  unfold creadN at h
  split at h
  · unfold cfin at h
    cases hr : rnTo (opH b).level (opB b) (opH b).count.toNat with
    | none => rw [hr] at h; cases h
    | some x =>
      obtain ⟨M, r⟩ := x
      rw [hr] at h
      dsimp only at h
      by_cases hc : (opH b).kind = (if (opH b).level = 0 then 3 else 4) ∧ (opH b).addr = a ∧ allZ r = true ∧ M.may = true
      · rw [if_pos hc] at h
        obtain rfl := Option.some.inj h
        exact hc.2.2.2
      · rw [if_neg hc] at h
        cases h
  · cases h
theorem store_may {P : Pl} {D : DM} (hg : ∀ a b, P.L a = some b → b.good) (a : Int) (h : (P.store D a).2 = 0) : (P.store D a).1.may = true := by
  obtain ⟨n, rfl, hn, h0⟩ := store_get h
  cases hv : P.live n with
  | some b =>
    obtain ⟨N, rfl, e⟩ := store_live h0 hv h
    rw [e]
    exact may_of_good (hg n _ (live_get hv).2)
  | none =>
    have hE : P.nodeE D (n : Int) = 0 := h
    unfold Pl.nodeE at hE
    rw [if_neg h0, Int.toNat_natCast, hv] at hE
    dsimp only at hE
    by_cases hr : D.readE (n : Int) = 0
    · rw [store_disk h0 hv hr]
      rw [if_pos hr] at hE
      unfold nodeRE at hE
      unfold nodeRN
      cases hc : creadN (D.readL (n : Int)) (n : Int) with
      | some N => exact cread_may hc
      | none => rw [hc] at hE; simp at hE
    · rw [if_neg hr] at hE
      exact absurd hE hr
/-- The nodes that a pool tells, from a world on. -/
structure Src (w0 : World) (p : Nat) (R : Int → Nd × Int) : Prop where
  node : ∀ u, Below w0.heap.size w0 u → Tab u → ∀ a, Calls Tryz.prog 21 #[.pointer (some ⟨p, 0, none⟩), .int .i64 a] u fun e w' => NodeOwn (R a).1 (R a).2 u e w'
  may : ∀ a, (R a).2 = 0 → (R a).1.may = true
theorem src_of {w : World} {p d : Nat} {S0 S T : Nat → Prop} {D : DM} {P : Pl} (L0 : Drv w d S0 D) (H : Pool w p d S T P) (hk : ∀ a b, P.L a = some b → b.kindOk) (hg : ∀ a b, P.L a = some b → b.good) : Src w p (P.store D) :=
  ⟨fun _ hu ht a => pnode_own (L0.below hu) (H.below hu) hk ht a, fun a h => store_may hg a h⟩
theorem Src.below {w0 w1 : World} {p : Nat} {R : Int → Nd × Int} (h : Src w0 p R) (hb : Below w0.heap.size w0 w1) : Src w1 p R :=
  ⟨fun u hu ht a => h.node u (hb.trans (hu.mono hb.size)) ht a, h.may⟩
end Go.Proofs.YtgedmodnkiijkaaGreatDoor
