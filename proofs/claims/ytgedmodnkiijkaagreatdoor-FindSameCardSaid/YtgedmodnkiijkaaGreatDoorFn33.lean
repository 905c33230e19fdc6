/- The laws of find: grown. The laws of find: the document's examples. The laws of find: what they begin with. -/
import Derived.Test.YtgedmodnkiijkaaGreatDoorFn2
import Derived.Test.YtgedmodnkiijkaaGreatDoorFn7
import Derived.Test.YtgedmodnkiijkaaGreatDoorFn10
import Derived.Test.YtgedmodnkiijkaaGreatDoorFn12
import Derived.Test.YtgedmodnkiijkaaGreatDoorFn25
import Derived.Test.YtgedmodnkiijkaaGreatDoorFn27
import Derived.Test.YtgedmodnkiijkaaGreatDoorFn30
import Derived.Test.YtgedmodnkiijkaaGreatDoorFn32
import Derived.Test.YtgedmodnkiijkaaGreatDoorFrD
import Derived.Lib.SlBytesConst
namespace Go.Proofs.YtgedmodnkiijkaaGreatDoor
open Go Go.RowKit Go.Proofs

theorem growD_says : (DM.mk0 256).runD (fmtL (DM.mk0 256).n) = growD := rfl
theorem leaves_nil (cuts : List Int) : leavesN cuts [] = [] := rfl
theorem taken_all (P : Pl) (Ns : List Nd) : P.putAll (Ns.take Ns.length) = P.putAll Ns ∧ kidsN P (Ns.take Ns.length) = kidsN P Ns := by
  rw [List.take_length]
  exact ⟨rfl, rfl⟩

set_option maxRecDepth 100000 in
set_option maxHeartbeats 16000000 in
theorem grown_says {w : World} (A : Option Addr) (n c : Nat) (l : List Itm) (A2 : Option Addr) (n2 c2 : Nat) (cuts : List Int) (hI : Itms w A n c l) (hC : Intl w A2 n2 c2 cuts) (hb : ∀ z ∈ cuts, -9223372036854775808 ≤ z ∧ z ≤ 9223372036854775807) {mx : Nat} (hgood : goodRow l mx) (hmx : mx ≤ 150) (ht : Tab w) :
    Calls Tryz.prog 12 #[.slice A n c, .slice A2 n2 c2] w fun e w' => ∃ (p d : Nat) (root : Int) (P : Pl), e = .returned (.tuple #[.pointer (some ⟨p, 0, none⟩), .pointer (some ⟨d, 0, none⟩), .int .i64 root]) ∧ Treed w.heap.size w' d p growD P root l ∧ Tab w' ∧ Below w.heap.size w w' := by
  have hG := ht.1
  have hn256 : sectors 256 := ⟨by omega, by omega⟩
  have hln : l.length = n := hI.len
  have hlm := hgood.len
  go_enter Tryz.func12, Tryz.ntmps12
  go_wp2_with fail
  refine (new_yes 256 hn256 w).mono ?_
  rintro e w1 ⟨d, rfl, L1, B1⟩
  have t1 := ht.below B1 hG
  go_wp2_with fail
  refine (pformat_any L1 ⟨rfl, rfl⟩ (by omega) t1 (tame_mk0 256) (by omega)).mono ?_
  rintro e w2 ⟨p, q, rfl, X2⟩
  rw [growD_says] at X2
  obtain ⟨hst, hfr⟩ := Stock.fresh
  have H2 := sys_of (b := w.heap.size) X2 (fun k hk => hk) B1.size
  have t2 := t1.turned X2.turn (by omega)
  have z1 := B1.size
  have BB2 : Below w.heap.size w w2 := B1.trans (X2.turn.below (fun k hk => hk) z1)
  obtain ⟨S0, S, H2⟩ := H2
  obtain ⟨T2, hT2⟩ : ∃ T : Nat → Prop, (fun k => w.heap.size ≤ k ∧ k < w2.heap.size) = T := ⟨_, rfl⟩
  rw [hT2] at H2
  have hn0 : (Pl.fresh (DM.mk0 256).n) = Pl.fresh 256 := rfl
  rw [hn0] at H2
  have tg2 := H2.tight
  have hSb : ∀ k, S k → w.heap.size ≤ k ∧ k < w2.heap.size := fun k hk => tg2 k (H2.subS k hk)
  clear hT2 X2 L1 hn0
  have hQ : ∀ w', Turn S w2 w' → Itms w' A n c l := fun w' t => hI.below (BB2.trans (t.below (fun k hk => (hSb k hk).1) BB2.size))
  have Hlv := Lib.hid (rleaves_any A n c l A2 n2 c2 cuts (Turn S w2) w2 (hI.below BB2) hQ (Sls.below hC BB2) hb (by omega))
  have hfr' : (Pl.fresh 256).C.n = 256 ∧ (Pl.fresh 256).S = fmtS 256 := ⟨rfl, rfl⟩
  have Hhb := Lib.hid hb
  have Hln := Lib.hid hln
  clear hb hln
  go_wp2_with fail
  refine Hlv.out.mono ?_
  rintro e w3 ⟨A', n', c', rfl, N3, b3⟩
  have t3 := t2.below b3 t2.1
  have H3 := H2.below b3
  have BB3 := BB2.trans (b3.mono BB2.size)
  have hn' : (leavesN cuts l).length = n' := N3.ndl.len
  clear Hlv
  by_cases h0 : l = []
  · subst h0
    rw [leaves_nil] at hn'
    have hn' : n' = 0 := hn'.symm
    subst hn'
    have Hst := Lib.hid hst
    clear hst hfr
    go_wp2_with fail
    go_ret3
    exact ⟨p, d, 0, Pl.fresh 256, rfl, ⟨⟨S0, S, T2, H3⟩, Hst.out, .inl ⟨rfl, rfl⟩, hfr'.1, hfr'.2⟩, t3, BB3⟩
  · have hlv := lvl_start cuts growD hgood hmx h0 hst.ok hfr
    obtain ⟨Ns, hNs⟩ : ∃ Ns, leavesN cuts l = Ns := ⟨_, rfl⟩
    rw [hNs] at hlv N3 hn'
    subst hn'
    have hone := hlv.one
    have g1 : ((Ns.length : Int) == 0) = false := beq_eq_false_iff_ne.2 (by omega)
    have L0 : LvlAt w d p S0 S l 5 0 (.slice A' Ns.length c') (.int .i64 1) w3 (Pl.fresh 256) Ns := ⟨hlv, rfl, ⟨1, rfl, rfl⟩, ⟨w2, A', c', rfl, N3, turn_below b3, fun k hk => (hSb k hk).2⟩, ⟨T2, H3⟩, hst, t3, BB3, hfr'.1, hfr'.2⟩
    have HL0 := Lib.hid L0
    clear hlv N3 hst hfr hfr' hNs H3 t3 L0 h0 hQ H2 t2
    go_wp2_with fail
    go_loopw [11, 12, 13, 14, 15, 16] (fun nv lv _ _ _ _ wr => ∃ (f l' : Nat) (P : Pl) (Ns : List Nd), LvlAt w d p S0 S l f l' nv lv wr P Ns) (fun _ lv _ _ _ _ _ => 6 - (intOf lv).toNat)
    case atStart => exact ⟨5, 0, _, _, HL0.out⟩
    case round =>
      obtain ⟨f, lv, P, Ns, LA⟩ := hrel
      obtain ⟨wo, rfl⟩ : ∃ x, x = wr := ⟨_, rfl⟩
      obtain ⟨hL, hfu, ⟨Lv, hLv, rfl⟩, ⟨wl, A4, c4, rfl, hN, hX, hSl⟩, ⟨T, H⟩, hst, t, low, hPn, hPS⟩ := LA
      clear HL0 hone g1 b3 BB3
      have hneed := hL.need
      obtain ⟨f, rfl⟩ : ∃ f', f = f' + 1 := ⟨f - 1, by omega⟩
      have hmayN := hL.may
      have hfree := hL.free
      have hone := hL.one
      have e1 : (Lv : Int) < 6 := by omega
      have HLv := Lib.hid hLv
      clear hLv
      have zlow := low.size
      have zX := hX.size
      have b1 : Below wo.heap.size wo (wo.alloc (.cells #[] 62)) := (Below.refl _ _).alloc (Nat.le_refl _) _
      have z1' : (wo.alloc (.cells #[] 62)).heap.size = wo.heap.size + 1 := by simp
      have R1 : OwnS (wo.alloc (.cells #[] 62)) wo.heap.size 62 4 (some ⟨wo.heap.size, 0, none⟩) 0 0 [] := owns_lit0 wo 62 4
      have H1 := H.more b1
      have O1 : OwnK (some ⟨wo.heap.size, 0, none⟩) S0 S (grow T wo (wo.alloc (.cells #[] 62))) := fun k hk => by
        injection hk with hk
        have hk : wo.heap.size = k := hk
        subst hk
        exact ⟨⟨.inr (Nat.le_refl _), by omega⟩, fun h => by have := (H.tight _ (H.sub _ h)).2; omega, fun h => by have := (H.tight _ (H.subS _ h)).2; omega⟩
      have t1' := t.below b1 t.1
      have X1 : Turn S wo (wo.alloc (.cells #[] 62)) := turn_below b1
      have HL := Lib.hid hL
      have Hst := Lib.hid hst
      clear hL hst hneed
      go_wp2_with fail
      generalize grow T wo (wo.alloc (.cells #[] 62)) = T1 at H1 O1
      generalize wo.alloc (.cells #[] 62) = w5 at b1 z1' R1 H1 t1' X1 ⊢
      go_loopw [13, 14, 15, 16] (fun kv iv _ _ wr => ∃ (i : Nat) (A5 : Option Addr) (c5 : Nat) (T5 : Nat → Prop), i ≤ Ns.length ∧ iv = .int .i64 (i : Int) ∧ kv = .slice A5 i c5 ∧ OwnS wr wo.heap.size 62 4 A5 i c5 ((kidsN P (Ns.take i)).map Kidd.vs) ∧ OwnK A5 S0 S T5 ∧ SysAt w.heap.size wr d p S0 S T5 growD (P.putAll (Ns.take i)) ∧ Turn S wo wr ∧ Tab wr) (fun _ iv _ _ _ => Ns.length - (intOf iv).toNat)
      case atStart => exact ⟨0, _, 0, T1, Nat.zero_le _, rfl, rfl, R1, O1, H1, X1, t1'⟩
      case round =>
        obtain ⟨i, A5, c5, T5, hi, rfl, rfl, R5, O5, H5, X5, t5⟩ := hrel
        clear R1 O1 H1 t1' X1
        have hXq : Turn S wl wr := hX.trans X5 (fun _ h => .inl h)
        have zq := X5.size
        have hNq : NdRow (Turn S wl) wr wl.heap.size (A4) Ns.length c4 Ns := hN.turned X5 (fun k h1 h2 h => by have := hSl k h; omega)
        have lowq : Below w.heap.size w wr := low.trans (X5.below (fun k hk => (hSb k hk).1) low.size)
        by_cases hlt : i < Ns.length
        · obtain ⟨g, o, A1, n1, c1, B1, m1, d1, rfl, hg, hrng, hn1, hm1, hst1⟩ := hNq.ndl.get hlt
          have hgl : wl.heap.size ≤ g := by
            obtain ⟨raw, hr1, _⟩ := hNq
            exact (hr1.blockLt g rfl).1
          have hpe := stock_puts Hst.out hmayN (by omega) hlt
          obtain ⟨pn1, pn2⟩ := puts_next (P := P) hlt
          obtain ⟨N, hNe⟩ : ∃ N, ndAt Ns i = N := ⟨_, rfl⟩
          rw [hNe] at hrng hst1 hpe pn1 pn2
          have hput := at_putnode H5 (by omega) t5 N A1 n1 c1 B1 m1 d1 (fun w' tt => hst1 w' (hXq.trans tt (fun _ h => .inl h))) hn1 hm1
          obtain ⟨V, hV⟩ : ∃ V, (P.putAll (Ns.take i)).putNV N = V := ⟨_, rfl⟩
          rw [hV] at hput pn2
          rw [hpe] at hput
          rw [← pn1] at hput
          have Hput := Lib.hid hput
          obtain ⟨z, hz⟩ : ∃ z, N.least = z := ⟨_, rfl⟩
          rw [hz] at pn2
          have Pn2 := Lib.hid pn2
          have q0 : wr.cell? ⟨g, o + i * 3, none⟩ = some (.int .i64 N.lvl) := hrng 0 _ rfl
          have q1 : wr.cell? ⟨g, o + i * 3 + 1, none⟩ = some (.slice A1 n1 c1) := hrng 1 _ rfl
          have q2 : wr.cell? ⟨g, o + i * 3 + 2, none⟩ = some (.slice B1 m1 d1) := hrng 2 _ rfl
          have hll := Lib.hid (fun w' (tt : Turn S wl w') => refleast_says N z hz A1 n1 c1 B1 m1 d1 w' (hst1 w' tt).1 (hst1 w' tt).2 hn1 hm1)
          have e2 : (0 : Int) ≤ (i : Int) := by omega
          have e3 : (i : Int) < (Ns.length : Int) := by omega
          have hcap : Ns.length ≤ c4 ∧ c4 ≤ maxLen := by
            obtain ⟨raw, hr1, _⟩ := hNq
            have hs := hr1.sls (by omega)
            exact ⟨hs.cap, hs.max⟩
          have hcap1 := hcap.1
          have hcap2 := hcap.2
          have Hrng := Lib.hid hrng
          have hA5 := R5.blockLt
          have hlen5 : i ≤ 66 := by have := HL.out.need; omega
          clear hput hpe pn1 pn2 hV hz hNe hst1 hrng hcap H5
          go_wp2_with fail
          refine Hput.out.mono ?_
          rintro e w7 ⟨rfl, H7, X7, t7⟩
          have z7 := X7.size
          have hXl7 : Turn S wl w7 := hXq.trans X7 (fun _ h => .inl h)
          have hb7 := X7.block g hg (fun h => by have := hSl g h; omega)
          have y0 : w7.cell? ⟨g, o + i * 3, none⟩ = some (.int .i64 N.lvl) := (World.cell?_of_block (a := ⟨g, _, none⟩) hb7).trans q0
          have y1 : w7.cell? ⟨g, o + i * 3 + 1, none⟩ = some (.slice A1 n1 c1) := (World.cell?_of_block (a := ⟨g, _, none⟩) hb7).trans q1
          have y2 : w7.cell? ⟨g, o + i * 3 + 2, none⟩ = some (.slice B1 m1 d1) := (World.cell?_of_block (a := ⟨g, _, none⟩) hb7).trans q2
          have R7 := R5.turned X7 (fun k hk => (O5 k hk).2.2)
          clear q0 q1 q2 Hput
          go_wp2_with fail
          refine (hll.out w7 hXl7).mono ?_
          rintro e w8 ⟨rfl, b8⟩
          have b9 : Below w8.heap.size w8 (w8.alloc (.cells #[.int .i64 z.obj, .int .i64 z.kind, .int .i64 z.off, .int .i64 V] 62)) := (Below.refl _ _).alloc (Nat.le_refl _) _
          have b89 := b8.trans (b9.mono b8.size)
          have R9 := (R7.below b8).below b9
          have rowY : Sls (w8.alloc (.cells #[.int .i64 z.obj, .int .i64 z.kind, .int .i64 z.off, .int .i64 V] 62)) 4 (some ⟨w8.heap.size, 0, none⟩) 1 1 [(⟨z, V⟩ : Kidd).vs] := (owns_lit1 w8 62 4 (⟨z, V⟩ : Kidd).vs _ rfl rfl).sls (by omega)
          have one : ∀ y ∈ [(⟨z, V⟩ : Kidd).vs], ∀ u ∈ y, u.oneCell' = true := by
            intro y hy u hu
            obtain rfl : y = (⟨z, V⟩ : Kidd).vs := by simpa using hy
            simp [Kidd.vs] at hu
            rcases hu with rfl | rfl | rfl | rfl <;> rfl
          have z8 := b8.size
          have z9 := b9.size
          clear y0 y1 y2 hll
          go_wp2_with (first
            | (at_builtin; refine wp_append_g _ TKid rfl _ _ rfl wo.heap.size A5 i c5 ((kidsN P (Ns.take i)).map Kidd.vs) rfl R9 (some ⟨w8.heap.size, 0, none⟩) 1 1 [(⟨z, V⟩ : Kidd).vs] rfl rowY (by omega) one (by omega) (by omega) (by omega) ?_)
            | fail)
          intro A6 c6 w10 R10 T10 hA10 _
          obtain ⟨H10, O10, t10⟩ := own_push (H7.below b89) (by omega) (t7.below b89 t7.1) R9 O5 R10 T10 (by simpa using hA10)
          have R10' : OwnS w10 wo.heap.size 62 4 A6 (i + 1) c6 ((kidsN P (Ns.take (i + 1))).map Kidd.vs) := by rw [Pn2.out, List.map_append]; exact R10
          have X10 : Turn S wo w10 := ((X5.trans X7 (fun _ h => .inl h)).trans (turn_below (S := S) b89) (fun _ h => .inl h)).trans T10 (fun k hk => .inr (hA5 k hk).1)
          clear H7 R10 hA10
          go_wp2
          exact ⟨⟨i + 1, A6, c6, _, by omega, by go_num, rfl, R10', O10, H10, X10, t10⟩, by simp [intOf]; omega⟩
        · have hie : i = Ns.length := by omega
          subst hie
          obtain ⟨ta1, ta2⟩ := taken_all P Ns
          rw [ta1] at H5
          rw [ta2] at R5
          obtain ⟨st1, st2⟩ := stock_take Hst.out hmayN (by omega) Ns.length (Nat.le_refl _)
          rw [ta1] at st1
          have hkl : (kidsN P Ns).length = Ns.length := kidsN_len Ns P
          have hpn := putAll_n Ns P
          have K5 : Kidl wr A5 Ns.length c5 (kidsN P Ns) := R5.sls (by omega)
          have e3 : ¬ (Ns.length : Int) < (Ns.length : Int) := by omega
          clear ta1 ta2 hlt st2
          by_cases hone1 : Ns.length = 1
          · have hdone := HL.out.done hone1
            obtain ⟨g, o, rfl, hg, _, _, _, k3⟩ := K5.cell (j := 0) (by omega)
            obtain ⟨root, hroot⟩ : ∃ r, (kidAt (kidsN P Ns) 0).a = r := ⟨_, rfl⟩
            rw [hroot] at k3 hdone
            have k3 : wr.cell? ⟨g, o + 3, none⟩ = some (.int .i64 root) := by rw [Nat.zero_mul] at k3; exact k3
            have g2 : ((Ns.length : Int) == 1) = true := beq_iff_eq.2 (by omega)
            have g3 : decide ((Ns.length : Int) = 1) = true := decide_eq_true (by omega)
            have g4 : (Ns.length == 1) = true := beq_iff_eq.2 (by omega)
            have e4 : (0 : Int) < (Ns.length : Int) := by omega
            obtain ⟨_, hcm⟩ := K5.bounds
            have HD := Lib.hid hdone
            have Hst1 := Lib.hid st1
            have Hpn := Lib.hid hpn
            have BD : Below wr.heap.size wr wr.drew := (Below.refl _ _).drew
            clear hdone hroot st1 hpn hone1 hone
            go_wp2_with fail
            go_region
            all_goals (try go_wp2)
            all_goals go_ret3
            all_goals exact ⟨p, d, root, P.putAll Ns, rfl, ⟨⟨S0, S, T5, H5.below BD⟩, Hst1.out, HD.out, by rw [Hpn.out.1]; exact hPn, by rw [Hpn.out.2]; exact hPS⟩, t5.below BD t5.1, lowq.trans (BD.mono lowq.size)⟩
          · have hnext := HL.out.next cuts hgood.risen (fun x hx => (hgood.may x hx).1) hone1
            have g2 : ((Ns.length : Int) == 1) = false := beq_eq_false_iff_ne.2 (by omega)
            have g3 : decide ((Ns.length : Int) = 1) = false := decide_eq_false (by omega)
            have g4 : (Ns.length == 1) = false := beq_eq_false_iff_ne.2 (by omega)
            have hin := rinner_any A5 Ns.length c5 (kidsN P Ns) Lv A2 n2 c2 cuts (Turn S wr) wr K5 (fun w' tt => (R5.turned tt (fun k hk => (O5 k hk).2.2)).sls (by omega)) (Sls.below hC lowq) Hhb.out (by have := HL.out.need; omega)
            have Hin := Lib.hid hin
            have Hnx := Lib.hid hnext
            have Hst1 := Lib.hid st1
            have Hpn := Lib.hid hpn
            clear hin hnext st1 hpn hone1
            go_wp2_with fail
            refine Hin.out.mono ?_
            rintro e w9 ⟨A7, n7, c7, rfl, N9, b9⟩
            have hn7 : (innerN cuts Lv (kidsN P Ns)).length = n7 := N9.ndl.len
            subst hn7
            clear Hin
            go_wp2_with fail
            have hSq : ∀ k, S k → k < wr.heap.size := fun k hk => (H5.tight k (H5.subS k hk)).2
            have hLv := HLv.out
            exact ⟨⟨f, lv + 1, P.putAll Ns, innerN cuts Lv (kidsN P Ns), ⟨(by rw [HLv.out]; exact Hnx.out), by omega, ⟨Lv + 1, by omega, by go_num⟩, ⟨wr, A7, c7, rfl, N9, turn_below b9, hSq⟩, ⟨T5, H5.below b9⟩, Hst1.out, t5.below b9 t5.1, lowq.trans (b9.mono lowq.size), by rw [Hpn.out.1]; exact hPn, by rw [Hpn.out.2]; exact hPS⟩⟩, by simp [intOf]; omega⟩
end Go.Proofs.YtgedmodnkiijkaaGreatDoor

namespace Go.Proofs.YtgedmodnkiijkaaGreatDoor
open Go Go.RowKit Go.Proofs

def shX : Itm := ⟨⟨1, 0, 0⟩, shB⟩
def shN : Nd := ⟨0, [shX], []⟩
theorem shN_may : shN.may = true := by decide
def shD : DM := (DM.mk0 32).runD (fmtL 32)
theorem stock32 : Stock shD (Pl.fresh 32) (fmtS 32) (Ct.zero 32) := by
  obtain ⟨_, h, _⟩ := fmt_done (D := DM.mk0 32) (n := 32) (by omega) (by omega) rfl ⟨rfl, rfl⟩
  exact ⟨fresh_ok (by omega) (by omega), h, fun a b hb => by cases hb⟩
def shQ : Pl := (Pl.fresh 32).putN shN
theorem sh_put : (Pl.fresh 32).putNV shN = 4 ∧ (Pl.fresh 32).putNE shN = 0 ∧ Stock shD shQ (fmtS 32) (Ct.zero 32) ∧ shQ.store shD 4 = (shN, 0) := by
  obtain ⟨h1, h2, _⟩ := put_node sh_pick shN_may
  exact ⟨h1, h2, (stock32.put shN_may (by decide)).1, store_new shD sh_pick shN_may⟩
theorem sh_tree : TreeOf (shQ.store shD) 4 [shX] := .inr ⟨0, by omega, ⟨sh_put.2.2.2, by simp⟩, by omega, by omega⟩
theorem sh_risen : risen [shX] := List.pairwise_singleton ..
theorem sh_irow (w : World) : IRow ((w.alloc (.cells #[.int .u8 97, .int .u8 98] 5 (2, 3))).alloc (.cells #[.int .i64 1, .int .i64 0, .int .i64 0, .slice (some ⟨w.heap.size, 0, none⟩) 2 2] 41)) w.heap.size (some ⟨w.heap.size + 1, 0, none⟩) 1 1 [shX] := by
  have hs : Sl (w.alloc (.cells #[.int .u8 97, .int .u8 98] 5 (2, 3))) (some ⟨w.heap.size, 0, none⟩) 2 2 shB := sl_mark w 5 (2, 3) [97, 98] #[.int .u8 97, .int .u8 98] rfl (by simp)
  have hr := owns_lit1 (w.alloc (.cells #[.int .u8 97, .int .u8 98] 5 (2, 3))) 41 4 (itvs shX.k (some ⟨w.heap.size, 0, none⟩) 2 2) _ rfl rfl
  rw [World.size_alloc] at hr
  refine ⟨_, hr.less (by omega), rfl, fun j r x hr hx => ?_⟩
  match j, hr, hx with
  | 0, hr, hx =>
    obtain rfl := Option.some.inj hr
    obtain rfl := Option.some.inj hx
    refine ⟨_, _, _, rfl, hs.below ((Below.refl _ _).alloc (Nat.le_refl _) _), fun _ g hg => ?_⟩
    have hg : w.heap.size = g := Option.some.inj hg
    subst hg
    refine ⟨Nat.le_refl _, fun h => ?_⟩
    have h : w.heap.size + 1 = w.heap.size := Option.some.inj h
    omega
  | j + 1, hr, hx => cases hr

set_option maxRecDepth 100000 in
set_option maxHeartbeats 8000000 in
theorem fshown_any (w : World) (ht : Tab w) : Calls Tryz.prog 10 #[] w fun e w' => e = .returned (.bool true) ∧ Below w.heap.size w w' := by
  have hG := ht.1
  have hn32 : sectors 32 := ⟨by omega, by omega⟩
  go_enter Tryz.func10, Tryz.ntmps10
  go_wp2_with fail
  refine (new_yes 32 hn32 w).mono ?_
  rintro e w1 ⟨d, rfl, L1, B1⟩
  have t1 := ht.below B1 hG
  go_wp2_with fail
  refine (pformat_any L1 ⟨rfl, rfl⟩ (by omega) t1 (tame_mk0 32) (by omega)).mono ?_
  rintro e w2 ⟨p, q, rfl, X2⟩
  have hD : (DM.mk0 32).runD (fmtL (DM.mk0 32).n) = shD := rfl
  rw [hD] at X2
  have H2 := sys_of (b := w.heap.size) X2 (fun k hk => hk) B1.size
  have t2 := t1.turned X2.turn (by omega)
  have z1 := B1.size
  have BB2 : Below w.heap.size w w2 := B1.trans (X2.turn.below (fun k hk => hk) z1)
  obtain ⟨S0, S, H2⟩ := H2
  obtain ⟨T, hT⟩ : ∃ T : Nat → Prop, (fun k => w.heap.size ≤ k ∧ k < w2.heap.size) = T := ⟨_, rfl⟩
  rw [hT] at H2
  have hn0 : (Pl.fresh (DM.mk0 32).n) = Pl.fresh 32 := rfl
  rw [hn0] at H2
  have hSb : ∀ k, S k → w.heap.size ≤ k ∧ k < w2.heap.size := fun k hk => H2.tight k (H2.subS k hk)
  have hst := stock32
  have hkd := hst.kind
  have hgd := hst.good
  clear hT X2 L1 hn0 hD
  have K3 : KB (w2.alloc (.cells #[.int .i64 0, .int .i64 0, .int .i64 0] 39)) w2.heap.size ⟨0, 0, 0⟩ := KB.new w2 0 0 0 _
  have b3 : Below w2.heap.size w2 (w2.alloc (.cells #[.int .i64 0, .int .i64 0, .int .i64 0] 39)) := (Below.refl _ _).alloc (Nat.le_refl _) _
  clear hst
  go_wp2_with (first
    | (refine wp_store_kd rfl (.tmp 5) (.tmp 29) rfl w2.heap.size rfl ⟨2147483647, 0, 0⟩ _ rfl K3 ?_; intro w4 K4 T4)
    | fail)
  have b24 : Below w2.heap.size w2 w4 := b3.trans (T4.below (fun k hk => by have hk : k = w2.heap.size := hk; omega) b3.size)
  have H4 := H2.below b24
  have t4 := t2.below b24 t2.1
  have BB4 := BB2.trans (b24.mono BB2.size)
  have z4 := b24.size
  have D4 : Told w4 p ((Pl.fresh 32).store shD) 0 [] := ⟨src_of H4.drv H4.pool hkd hgd, .inl ⟨rfl, rfl⟩, List.Pairwise.nil, by simp⟩
  refine (D4.get t4 ⟨0, 0, 0⟩ ([], 10) rfl).mono ?_
  rintro e w5 ⟨A5, n5, c5, rfl, _, b5⟩
  have D5 := D4.below b5
  have t5 := t4.below b5 t4.1
  have K5 := K4.below b5 K4.lt
  have k0 := K5.c0
  have k1 := K5.c1
  have k2 := K5.c2
  go_wp2_with fail
  refine (D5.scan t5 ⟨0, 0, 0⟩ ⟨2147483647, 0, 0⟩ 9 [] rfl).mono ?_
  rintro e w6 ⟨A6, n6, c6, rfl, I6, b6⟩
  have h6 : n6 = 0 := I6.len.symm
  subst h6
  have D6 := D5.below b6
  have t6 := t5.below b6 t5.1
  clear k0 k1 k2
  go_wp2_with fail
  have hh := fheight_any D6.src t6 0
  have hhe : highT ((Pl.fresh 32).store shD) 0 = (0, 0) := if_pos rfl
  rw [hhe] at hh
  refine hh.mono ?_
  rintro e w7 ⟨rfl, b7⟩
  have b47 : Below w4.heap.size w4 w7 := b5.trans ((b6.trans (b7.mono b6.size)).mono b5.size)
  have H7 := H4.below b47
  have t7 := t4.below b47 t4.1
  have BB7 := BB4.trans (b47.mono BB4.size)
  have z7 := b47.size
  have b8 : Below w7.heap.size w7 ((w7.alloc (.cells #[.int .u8 97, .int .u8 98] 5 (2, 3))).alloc (.cells #[.int .i64 1, .int .i64 0, .int .i64 0, .slice (some ⟨w7.heap.size, 0, none⟩) 2 2] 41)) := ((Below.refl _ _).alloc (Nat.le_refl _) _).alloc (by simp) _
  have row8 := sh_irow w7
  have H8 := H7.below b8
  have t8 := t7.below b8 t7.1
  have z8 := b8.size
  have hput := at_putnode H8 (by omega) t8 shN (some ⟨w7.heap.size + 1, 0, none⟩) 1 1 none 0 0 (fun w' tt => ⟨(irow_keep row8 tt.size (fun k h1 h2 => tt.block k h2 (fun h => by have := (hSb k h).2; omega))).itms, kidl_nil _⟩) (by omega) (by omega)
  rw [sh_put.1, sh_put.2.1] at hput
  have Hput := Lib.hid hput
  clear hput hh hhe row8 H8
  have kc := fun (w : World) (C : Array Value) (n c : Nat) => Lib.run_convert_bytes_const (P := Tryz.prog) w 35 5 C n c Tryz.underlying35 Tryz.underlying5
  go_wp2_with fail
  refine Hput.out.mono ?_
  rintro e w9 ⟨rfl, H9, X9, t9⟩
  have hst9 := sh_put.2.2.1
  have D9 : Told w9 p (shQ.store shD) 4 [shX] := ⟨src_of H9.drv H9.pool hst9.kind hst9.good, sh_tree, sh_risen, by simp⟩
  have BB9 : Below w.heap.size w w9 := (BB7.trans (b8.mono BB7.size)).trans (X9.below (fun k hk => (hSb k hk).1) (by have := BB7.size; omega))
  have Hg := Lib.hid (D9.get t9 ⟨1, 0, 0⟩ (shB, 0) rfl)
  clear hst9 Hput
  go_wp2_with fail
  refine Hg.out.mono ?_
  rintro e w10 ⟨A10, n10, c10, rfl, s10, b10⟩
  have hsb := str_bs s10
  clear Hg
  go_wp2_with fail
  go_ret
  exact ⟨rfl, BB9.trans (b10.mono BB9.size)⟩
end Go.Proofs.YtgedmodnkiijkaaGreatDoor

namespace Go.Proofs.YtgedmodnkiijkaaGreatDoor
open Go Go.RowKit Go.Proofs

theorem box_two (w : World) (o o2 : Obj) : ((w.alloc o).alloc o2).heap[w.heap.size]? = some o ∧ ((w.alloc o).alloc o2).heap[w.heap.size + 1]? = some o2 ∧ Below w.heap.size w ((w.alloc o).alloc o2) := by
  refine ⟨(((Below.refl (w.alloc o).heap.size (w.alloc o)).alloc (Nat.le_refl _) o2).block w.heap.size (by simp)).trans (heap_alloc_new w o), ?_, ((Below.refl _ _).alloc (Nat.le_refl _) _).alloc (by simp) _⟩
  have := heap_alloc_new (w.alloc o) o2
  rwa [World.size_alloc] at this
theorem box_one (w : World) (o : Obj) : (w.alloc o).heap[w.heap.size]? = some o ∧ Below w.heap.size w (w.alloc o) := ⟨heap_alloc_new w o, (Below.refl _ _).alloc (Nat.le_refl _) _⟩
/-- The two cells of a law's World. -/
theorem wd_cells {w w' : World} {b : Nat} {A B : Option Addr} {n c m k : Nat} {t : TypeId} (h : w.heap[b]? = some (.cells #[.slice A n c, .slice B m k] t (0, 0))) (hb : Below w.heap.size w w') : w'.cell? ⟨b, 0, none⟩ = some (.slice A n c) ∧ w'.cell? ⟨b, 1, none⟩ = some (.slice B m k) := by
  have h' := (hb.block b (lt_of_heap h)).trans h
  exact ⟨by rw [cell_of_row _ _ _ _ _ _ h']; rfl, by rw [cell_of_row _ _ _ _ _ _ h']; rfl⟩
/-- The six cells of two keys. -/
theorem two_cells {w w' : World} {b : Nat} {k0 k1 : Kd} {t : TypeId} (h : w.heap[b]? = some (.cells #[.int .i64 k0.obj, .int .i64 k0.kind, .int .i64 k0.off, .int .i64 k1.obj, .int .i64 k1.kind, .int .i64 k1.off] t (0, 0))) (hb : Below w.heap.size w w') :
    w'.cell? ⟨b, 0, none⟩ = some (.int .i64 k0.obj) ∧ w'.cell? ⟨b, 1, none⟩ = some (.int .i64 k0.kind) ∧ w'.cell? ⟨b, 2, none⟩ = some (.int .i64 k0.off) ∧ w'.cell? ⟨b, 3, none⟩ = some (.int .i64 k1.obj) ∧ w'.cell? ⟨b, 4, none⟩ = some (.int .i64 k1.kind) ∧ w'.cell? ⟨b, 5, none⟩ = some (.int .i64 k1.off) := by
  have h' := (hb.block b (lt_of_heap h)).trans h
  refine ⟨?_, ?_, ?_, ?_, ?_, ?_⟩ <;> (rw [cell_of_row _ _ _ _ _ _ h']; rfl)
/-- The whole row is told. -/
theorem scan_whole {l : List Itm} {m : Nat} (h : goodRow l m) (hm : m ≤ 150) : (within ⟨0, 0, 0⟩ ⟨2147483647, 255, 2147483647⟩ l).take (1000 : Int).toNat = l := by
  rw [within_all fun x hx => (h.may x hx).1, List.take_of_length_le]
  have := h.len
  show l.length ≤ 1000
  omega
end Go.Proofs.YtgedmodnkiijkaaGreatDoor
