/- The reference's Crash. -/
import Derived.Test.YtkkmnmiekmfjiaaRefE
import Derived.Test.YtkkmnmiekmfjiaaDrvF
namespace Go.Proofs.Ytkkmnmiekmfjiaa
open Go Go.RowKit Go.Proofs

theorem Ints.turn2 {w w' : World} {A : Option Addr} {n c : Nat} {zs : List Int} {S : Nat → Prop} (h : Ints w A n c zs) (t : Turn S w w') (ho : ∀ ad, A = some ad → 0 < n → ¬ S ad.block) : Ints w' A n c zs :=
  ⟨⟨h.1.1, h.1.2.1, h.1.2.2.1, fun j u hu => by
    obtain ⟨ad, e, hb, hc⟩ := h.1.2.2.2 j u hu
    have hn : 0 < n := by have := (List.getElem?_eq_some_iff.1 hu).1; have h2 := h.1.1; omega
    refine ⟨ad, e, by have := t.size; omega, ?_⟩
    exact (World.cell?_of_block (w := w) (w' := w') (a := ad.add j) (by rw [addr_block]; exact t.block _ hb (ho ad e hn))).trans hc⟩, h.2⟩

theorem settle_all (D : DM) (s i : Nat) (hi : i ≤ (D.cac s).length) : ∃ l, (D.all s)[i]? = some l ∧ D.settle s i = { D with dur := upd D.dur s l, cac := upd D.cac s [] } := by
  rcases i with _ | i
  · exact ⟨D.dur s, rfl, by simp [DM.settle, upd_self]⟩
  · refine ⟨(D.cac s)[i], ?_, ?_⟩
    · show (D.dur s :: D.cac s)[i + 1]? = _
      rw [List.getElem?_cons_succ, List.getElem?_eq_getElem]
    · unfold DM.settle
      rw [if_neg (by omega), show i + 1 - 1 = i by omega, List.getD_eq_getElem?_getD, List.getElem?_eq_getElem (by omega), Option.getD_some]
theorem Ints.at {w : World} {A : Option Addr} {n c : Nat} {zs : List Int} (h : Ints w A n c zs) {j : Nat} (hj : j < n) : ∃ ad z, A = some ad ∧ zs[j]? = some z ∧ w.cell? (ad.add j) = some (.int .i64 z) ∧ zs.drop j = z :: zs.drop (j + 1) ∧ -9223372036854775808 ≤ z ∧ z ≤ 9223372036854775807 := by
  have hl : j < zs.length := by rw [h.len]; exact hj
  obtain ⟨ad, e, _, hc⟩ := h.1.2.2.2 j (.int .i64 zs[j]) (by simp [hl])
  exact ⟨ad, zs[j], e, List.getElem?_eq_getElem hl, hc, List.drop_eq_getElem_cons hl, h.2 _ (List.getElem_mem hl)⟩

attribute [local go_sem ↓] lS_shut
set_option maxRecDepth 10000 in
set_option maxHeartbeats 4000000 in
theorem rcrash_any {w : World} {rp : Nat} {S : Nat → Prop} {D : DM} (L0 : RDrv w rp S D) (A : Option Addr) (n c : Nat) (kp : List Int) (hk : Ints w A n c kp) (hout : ∀ ad, A = some ad → 0 < n → ¬ S ad.block) (hcl : ∀ k, (D.cac k).length ≤ 999999) :
    Calls Try.prog 18 #[.pointer (some ⟨rp, 0, none⟩), .slice A n c] w fun e w' => e = .returned (.tuple #[]) ∧ RDrv w' rp (fun k => S k ∨ w.heap.size ≤ k) (D.crash kp) ∧ Turn S w w' := by
  obtain ⟨ro, oc, iv, vs, L⟩ := L0
  have hsp : S rp := L.inS.1
  have hso : S ro := L.inS.2.1
  have hcap := hk.cap
  have hmax := hk.max
  unfold maxLen at hmax
  go_enter Try.func18, Try.ntmps18
  go_wp2
  go_loopw [4, 5] (fun a i wr => ∃ (k j : Nat) (iv : Nat → Value) (vs : Nat → List Value), k ≤ D.n ∧ i = .int .i64 k ∧ a = .int .i64 j ∧ j ≤ n ∧ (crashTo D kp k).2 = kp.drop j ∧
    RLay wr rp ro oc iv vs (fun k => S k ∨ w.heap.size ≤ k) (crashTo D kp k).1 ∧ Turn S w wr) (fun _ i _ => D.n - (intOf i).toNat)
  case atStart => exact ⟨0, 0, iv, vs, Nat.zero_le _, rfl, rfl, Nat.zero_le _, rfl, L.mono fun _ _ h => .inl h, Turn.refl _ _⟩
  case round =>
    clear L
    obtain ⟨k, j, iv, vs, hkn, rfl, rfl, hj, hkq, LR, TR⟩ := hrel
    have hkr := hk.turn2 TR hout
    clear hk
    have hn32 : D.n ≤ 2048 := by have := LR.n32.2; rw [crashTo_n] at this; exact this
    have c0 : wr.cell? ⟨rp, 0, none⟩ = some (.slice (some ⟨ro, 0, none⟩) D.n oc) := by have := LR.c0; rw [crashTo_n] at this; exact this
    by_cases hlt : k < D.n
    · have hkn' : k < (crashTo D kp k).1.n := by rw [crashTo_n]; exact hlt
      have e1 : (crashTo D kp k).1.cac k = D.cac k := by rw [crashTo_cac, if_neg (by omega)]
      have e2 : crashTo D kp (k + 1) = crash1 (crashTo D kp k).1 k (crashTo D kp k).2 := rfl
      have hle := hcl k
      have hnn : (crashTo D kp k).1.n = D.n := crashTo_n D kp k
      generalize crashTo D kp k = R at *
      obtain ⟨E, kq⟩ := R
      simp only at LR hkn' e1 e2 hkq hnn
      subst hkq
      rw [← e1] at hle
      have hlen : (vs k).length = (E.cac k).length + 1 := by rw [LR.len k hkn']; simp [DM.all]
      obtain ⟨g, o, c, _, _, hv, hc1, hc2, _, _, _⟩ := LR.last hkn'
      have hkd : wr.drew.cell? ⟨ro, k, none⟩ = some (iv k) := (LR.out k hkn').1
      have hkd0 : wr.cell? ⟨ro, k, none⟩ = some (iv k) := (LR.out k hkn').1
      have hix : ∀ w', (Instr.indexAt 46 (.slice (some ⟨ro, 0, none⟩) D.n oc) (.int .i64 (k : Int))).run Try.prog w' = .ok (.pointer (some ⟨ro, k, none⟩)) w' := fun w' => by
        have := run_index_one (P := Try.prog) Try.underlying46 S64 w' ro 0 D.n oc k hlt
        simpa only [Nat.zero_add] using this
      unfold crash1 at e2
      by_cases hc : E.cac k = []
      · rw [if_pos hc] at e2
        rw [hc] at hlen
        rw [hv, hlen] at hkd0
        clear hcl hc1 hc2 hlen hle
        go_wp2_with fail
        exact ⟨⟨k + 1, j, iv, vs, by omega, by go_num, rfl, hj, by rw [e2], by rw [e2]; exact LR, TR⟩, by simp [intOf]; omega⟩
      · rw [if_neg hc] at e2
        have hm2 : 2 ≤ (vs k).length := by
          have : (E.cac k).length ≠ 0 := fun h => hc (List.eq_nil_of_length_eq_zero h)
          omega
        have LP : ∀ r, r < (vs k).length → (crashTo D kp (k + 1)).1 = E.settle k r → ∃ A1 d, ∃ hx : wr.drew.cell? ⟨g, o + r, none⟩ = some (Value.slice A1 256 d), RLay ((litS wr.drew (Value.slice A1 256 d)).setCell ⟨ro, k, none⟩ (.slice (some ⟨wr.heap.size, 0, none⟩) 1 1)) rp ro oc (upd iv k (.slice (some ⟨wr.heap.size, 0, none⟩) 1 1)) (upd vs k [Value.slice A1 256 d]) (fun k => S k ∨ w.heap.size ≤ k) (crashTo D kp (k + 1)).1 ∧
            Turn S w ((litS wr.drew (Value.slice A1 256 d)).setCell ⟨ro, k, none⟩ (.slice (some ⟨wr.heap.size, 0, none⟩) 1 1)) := fun r hr hre => by
          obtain ⟨l, hl, hset⟩ := settle_all E k r (by omega)
          have hvr := List.getElem?_eq_getElem hr
          have hbr := LR.brow k hkn' r _ l hvr hl
          obtain ⟨A1, d, hA, hsl⟩ := hbr.sl
          rw [hA] at hvr hbr
          have hcell : wr.drew.cell? ⟨g, o + r, none⟩ = some (Value.slice A1 256 d) := by
            obtain ⟨g', o', c', e, _, _, h3, h4⟩ := LR.irow k hkn'
            rw [hv] at e; cases e
            exact h3 r _ hvr
          have hbl : Below wr.heap.size wr.drew (litS wr.drew (.slice A1 256 d)) := show Below wr.drew.heap.size wr.drew (wr.drew.alloc _) from (Below.refl _ _).alloc (Nat.le_refl _) _
          have hsz : (litS wr.drew (.slice A1 256 d)).heap.size = wr.heap.size + 1 := by simp [litS]
          have hrolt := LR.rolt
          have hTE := turn_setCell (S := fun k => k = ro) (w := litS wr.drew (.slice A1 256 d)) (a := ⟨ro, k, none⟩) (.slice (some ⟨wr.heap.size, 0, none⟩) 1 1) rfl
          have hTF : Turn (fun k => k = ro) wr.drew ((litS wr.drew (Value.slice A1 256 d)).setCell ⟨ro, k, none⟩ (.slice (some ⟨wr.heap.size, 0, none⟩) 1 1)) := (turn_alloc _ _ _).then hTE
          have hck : ∀ z, (litS wr.drew (Value.slice A1 256 d)).cell? ⟨ro, z, none⟩ = wr.drew.cell? ⟨ro, z, none⟩ := fun z => World.cell?_of_block (w := wr.drew) (a := ⟨ro, z, none⟩) (hbl.block ro hrolt)
          have hfk : ∀ z, (litS wr.drew (Value.slice A1 256 d)).frozen? ⟨ro, z, none⟩ = wr.drew.frozen? ⟨ro, z, none⟩ := fun z => World.frozen?_of_block (w := wr.drew) (a := ⟨ro, z, none⟩) (hbl.block ro hrolt)
          have hir : IRow (litS wr.drew (Value.slice A1 256 d)) (.slice (some ⟨wr.heap.size, 0, none⟩) 1 1) [Value.slice A1 256 d] := irow_lit wr.drew _ _
          have hwz : w.heap.size ≤ wr.heap.size := TR.size
          have := LR.drew.pick k hkn' (S' := fun k => S k ∨ w.heap.size ≤ k) (.slice (some ⟨wr.heap.size, 0, none⟩) 1 1) (.slice A1 256 d) l hTF
            ⟨World.cell?_setCell_same _ _ _ ((hck k).trans hkd), fun z hz => (World.cell?_setCell_other _ _ _ _ (fun e => hz (by injection e with _ e2; exact e2.symm))).trans (hck z)⟩ (fun z => (World.frozen?_setCell _ _ _ _).trans (hfk z))
            (hir.keep fun g' e => by cases e; exact hTE.block wr.heap.size (by rw [hsz]; omega) (Nat.ne_of_gt hrolt)) (List.mem_of_getElem? hvr) hbr (fun _ h => h) (.inr ⟨_, rfl, Nat.le_refl _, .inr hwz⟩)
          rw [← hset, ← hre] at this
          exact ⟨A1, d, hcell, this, TR.drew.then (hTF.mono fun z e => e ▸ hso)⟩
        rw [hv] at hkd hkd0
        have hmx : (vs k).length ≤ 1000001 := by omega
        have hmd := fun x => md_lt x (m := (vs k).length) (by omega)
        have hmp := fun x (hx : 0 ≤ x) => md_pos (x := x) (vs k).length hx (by omega)
        have hmn := fun x (hx : x < 0) => md_neg (x := x) (vs k).length hx (by omega)
        have hx2 : ∀ r, r < (vs k).length → ∀ w', (Instr.indexAt 54 (.slice (some ⟨g, o, none⟩) (vs k).length c) (.int .i64 (r : Int))).run Try.prog w' = .ok (.pointer (some ⟨g, o + r, none⟩)) w' := fun r hr w' => run_index_one (P := Try.prog) Try.underlying54 S35 w' g o (vs k).length c r hr
        have cP : ∀ v, (litS wr.drew v).cell? ⟨rp, 0, none⟩ = some (.slice (some ⟨ro, 0, none⟩) D.n oc) := fun v => (World.cell?_of_block (w := wr.drew) (a := ⟨rp, 0, none⟩) (heap_alloc_old wr.drew _ (lt_of_heap LR.me))).trans c0
        have cQ : ∀ v, (litS wr.drew v).cell? ⟨ro, k, none⟩ = some (.slice (some ⟨g, o, none⟩) (vs k).length c) := fun v => (World.cell?_of_block (w := wr.drew) (a := ⟨ro, k, none⟩) (heap_alloc_old wr.drew _ LR.rolt)).trans hkd
        have fQ : ∀ v, (litS wr.drew v).frozen? ⟨ro, k, none⟩ = false := fun v => (World.frozen?_of_block (w := wr.drew) (a := ⟨ro, k, none⟩) (heap_alloc_old wr.drew _ LR.rolt)).trans (LR.out k hkn').2
        have cd : wr.drew.cell? ⟨rp, 0, none⟩ = some (.slice (some ⟨ro, 0, none⟩) D.n oc) := c0
        rw [← hlen] at e2
        have hlS := fun v hv => run_lS wr.drew v hv
        generalize (vs k).length = m at *
        have hne : (((m : Int) - 1) == 0) = false := by rw [beq_eq_false_iff_ne]; omega
        by_cases hjn : j < n
        · obtain ⟨ad, z, rfl, hz, hzc, hzd, hz1, hz2⟩ := hkr.at hjn
          rw [hzd, List.headD_cons, List.drop_one, List.tail_cons] at e2
          have hzd' : (crashTo D kp (k + 1)).2 = kp.drop (j + 1) := by rw [e2]
          have hr := hmd z
          obtain ⟨A1, d, hxc, LE, TE⟩ := LP (md z m) hr (by rw [e2])
          have hxi := hx2 _ hr
          have cP := cP (.slice A1 256 d)
          have cQ := cQ (.slice A1 256 d)
          have fQ := fQ (.slice A1 256 d)
          have hlS := hlS (.slice A1 256 d) rfl
          have hm0 : ¬ (m : Int) = 0 := by omega
          clear LP hx2 hkr hcl e2 hout hle hlen hc e1 hmd
          by_cases hz0 : z < 0
          · have hmn := hmn z hz0
            clear hmp
            go_wp2_with fail
            go_region
            all_goals (go_wp2_with fail; exact ⟨⟨k + 1, j + 1, _, _, by omega, by go_num, by go_num, by omega, hzd', LE, TE⟩, by simp [intOf]; omega⟩)
          · have hmp := hmp z (by omega)
            clear hmn
            go_wp2_with fail
            go_region
            all_goals (go_wp2_with fail; exact ⟨⟨k + 1, j + 1, _, _, by omega, by go_num, by go_num, by omega, hzd', LE, TE⟩, by simp [intOf]; omega⟩)
        · have hnil : kp.drop j = [] := List.drop_eq_nil_of_le (by rw [hkr.len]; omega)
          have hm00 : md 0 m = 0 := by simp [md]
          rw [hnil, List.headD_nil, hm00] at e2
          have hzd' : (crashTo D kp (k + 1)).2 = kp.drop j := by rw [e2, hnil]; rfl
          obtain ⟨A1, d, hxc, LE, TE⟩ := LP 0 (by omega) (by rw [e2])
          have hxi := hx2 0 (by omega)
          simp only [Nat.add_zero, Int.ofNat_zero] at hxi hxc
          have cP := cP (.slice A1 256 d)
          have cQ := cQ (.slice A1 256 d)
          have fQ := fQ (.slice A1 256 d)
          have hlS := hlS (.slice A1 256 d) rfl
          have hm0 : ¬ (m : Int) = 0 := by omega
          clear LP hx2 hkr hcl e2 hout hle hlen hc e1 hmd hmp hmn
          go_wp2_with fail
          go_region
          all_goals (go_wp2_with fail; exact ⟨⟨k + 1, j, _, _, by omega, by go_num, rfl, by omega, hzd', LE, TE⟩, by simp [intOf]; omega⟩)
    · obtain rfl : k = D.n := by omega
      have f1 := LR.fz 1
      have f2 := LR.fz 2
      have f3 := LR.fz 3
      have c1 := LR.c1
      have c2 := LR.c2
      have c3 := LR.c3
      have LE := ((LR.off1 false).fused1 false).left1 0 (by omega) (x := 0) rfl
      go_wp2_with fail
      go_end0
      exact ⟨rfl, ⟨_, _, _, _, LE⟩, ((TR.then (turn_at _ _ _ |>.mono fun x hx => hx ▸ hsp)).then (turn_at _ _ _ |>.mono fun x hx => hx ▸ hsp)).then (turn_at _ _ _ |>.mono fun x hx => hx ▸ hsp)⟩
end Go.Proofs.Ytkkmnmiekmfjiaa
