/- The law DrivePlays: for every input it returns true, and what came in reads as it did. -/
import Derived.Test.YtkkmnmiekmfjiaaPlayH
import Derived.Deep.CutBlock
import Derived.Deep.RegionHeld3
import Derived.BigQuiet
import Derived.Deep.QuietTactic
namespace Go.Proofs.Ytkkmnmiekmfjiaa
open Go Go.RowKit Go.Proofs

theorem Ops.at_ {w : World} {A : Option Addr} {n c : Nat} {xs : List OpD} (h : Ops w A n c xs) {j : Nat} (hj : j < n) : ∃ g o x, A = some ⟨g, o, none⟩ ∧ g < w.heap.size ∧ x.ok w ∧ OpAt w g (o + j * 5) x := by
  have hl : j < xs.length := by have := h.1; omega
  obtain ⟨hok, g, o, e, hg, ha⟩ := h.2.2.2 j _ (List.getElem?_eq_getElem hl)
  exact ⟨g, o, _, e, hg, hok, ha⟩
theorem run_index_op (w : World) (g o n c j : Nat) (hj : j < n) : (Instr.indexAt 22 (.slice (some ⟨g, o, none⟩) n c) (.int .i64 (j : Int))).run Try.prog w = .ok (.pointer (some ⟨g, o + j * 5, none⟩)) w := by
  have he : (Try.prog.info? (Try.prog.elem 22)).map (·.size) = some 5 := by kernel_rfl
  have ht : Try.prog.underlying 22 = some (.slice (Try.prog.elem 22)) := by kernel_rfl
  have hz : (sizeOf (Try.prog.elem 22)).run Try.prog w = .ok 5 w := by
    obtain ⟨i, hi, hs⟩ := Option.map_eq_some_iff.1 he
    simp [sizeOf, typeInfo, hi, hs]
  have ha : (⟨g, o, none⟩ : Addr).add (j * 5) = ⟨g, o + j * 5, none⟩ := Addr.add_mid g o (j * 5)
  simp [Instr.indexAt, asIntOf, run_underlying ht, hz, hj, ha]
theorem both_new {w0 w1 w2 : World} {bp rp : Nat} {D : DM} (h1 : Run w1 w0.heap.size (fun _ => False) bp D) (h2 : RDrv w2 rp (fun k => w1.heap.size ≤ k) D) (hb : Below w1.heap.size w1 w2) (hb0 : w0.heap.size ≤ w1.heap.size) : Both w2 w0.heap.size (fun _ => False) bp rp D := by
  have hz := hb.size
  refine ⟨fun k => w1.heap.size ≤ k ∧ k < w2.heap.size, fun k hk => ⟨hk.2, by omega, id⟩, h1.below hb fun k hk => ?_, h2.mono fun k hk h => ⟨h, hk⟩⟩
  rcases hk with hk | hk
  · exact hk.elim
  · exact .inr hk

/-- The loop's relation: both drives of one data, few steps. -/
def Play (w0 : World) (rp N : Nat) (k bp : Nat) (D : DM) (wr : World) : Prop := Both wr w0.heap.size (fun _ => False) bp rp D ∧ D.ok k ∧ D.n = N ∧ Below w0.heap.size w0 wr

set_option maxRecDepth 10000 in
set_option maxHeartbeats 8000000 in
theorem drivePlays_walk (n : Int) (A : Option Addr) (m c : Nat) (xs : List OpD) (w : World) (h : Ops w A m c xs) :
    Calls Try.prog 3 #[.int .i64 n, .slice A m c] w fun e w' => e = .returned (.bool true) ∧ Below w.heap.size w w' := by
  have hcap := h.2.1
  have hmax := h.2.2.1
  unfold maxLen at hmax
  by_cases hn : n < 32 ∨ 2048 < n
  · go_enter Try.func3, Try.ntmps3
    go_wp2_with fail
    refine (shown_any w).mono ?_
    rintro e w0 ⟨rfl, hb0⟩
    go_wp2_with fail
    refine (new_no n hn w0).mono ?_
    rintro e w1 ⟨rfl, rfl⟩
    go_wp2_with fail
    refine (rnew_no n hn w0).mono ?_
    rintro e w1 ⟨rfl, rfl⟩
    go_wp2_with fail
    go_loop [10] (fun i => i = .int .i64 0) (fun _ => 0)
    case atStart => rfl
    case round =>
      subst hrel
      by_cases hm0 : (0 : Int) < (m : Int)
      · go_wp2
        go_ret
        exact ⟨rfl, hb0⟩
      · have hmd : decide ((0 : Int) < (m : Int)) = false := decide_eq_false hm0
        go_wp2
        go_ret
        exact ⟨rfl, hb0⟩
  · obtain ⟨N, rfl⟩ := Int.eq_ofNat_of_zero_le (show 0 ≤ n by omega)
    have hN : sectors N := ⟨by omega, by omega⟩
    go_enter Try.func3, Try.ntmps3
    go_wp2_with fail
    refine (shown_any w).mono ?_
    rintro e w0 ⟨rfl, hb0⟩
    go_wp2_with fail
    refine (run_new N hN w0).mono ?_
    rintro e w1 ⟨bp0, rfl, R1, hb1⟩
    go_wp2_with fail
    refine (rnew_yes N hN w1).mono ?_
    rintro e w2 ⟨rp, rfl, R2, hb2⟩
    have B2 := both_new R1 R2 hb2 hb1.size
    have hb02 := hb1.trans (hb2.mono hb1.size)
    have h0 := h.below hb0
    clear R1 R2 hb1 hb2 h
    go_wp2_with fail
    go_loopw [6, 10, 11, 12, 13, 14, 15, 16, 17, 18] (fun p i s11 s12 s13 s14 s15 s16 s17 s18 wr => ∃ (k bp : Nat) (D : DM), k ≤ 80 ∧ p = .pointer (some ⟨bp, 0, none⟩) ∧ i = .int .i64 (k : Int) ∧ Play w0 rp N k bp D wr) (fun _ i _ _ _ _ _ _ _ _ _ => 80 - (intOf i).toNat)
    case atStart => exact ⟨0, bp0, _, by omega, rfl, rfl, B2, ok_mk0 N 0, rfl, hb02⟩
    case round =>
      obtain ⟨k, bp, D, hk, rfl, rfl, hB, hok, hDN, hbw⟩ := hrel
      by_cases hgo : k < m ∧ k < 80
      · obtain ⟨hkm, hk80⟩ := hgo
        obtain ⟨g, o, x, rfl, hg, ⟨⟨q0, q1, q2, q3⟩, hkp⟩, c0, c1, c2, c3, c4⟩ := h0.at_ hkm
        have hix := fun w => run_index_op w g o m c k hkm
        have r0 := (hbw.cell (p := ⟨g, o + k * 5, none⟩) hg).trans c0
        have r1 := (hbw.cell (p := ⟨g, o + k * 5 + 1, none⟩) hg).trans c1
        have r2 := (hbw.cell (p := ⟨g, o + k * 5 + 2, none⟩) hg).trans c2
        have r3 := (hbw.cell (p := ⟨g, o + k * 5 + 3, none⟩) hg).trans c3
        have r4 := (hbw.cell (p := ⟨g, o + k * 5 + 4, none⟩) hg).trans c4
        obtain ⟨ok, os, on, ov, kA, kn, kc, kp⟩ := x
        simp only at q0 q1 q2 q3 hkp r0 r1 r2 r3 r4
        have hki : (k : Int) < (m : Int) := by omega
        have hki2 : (k : Int) < 80 := by omega
        clear c0 c1 c2 c3 c4
        have hmd := md_lt ok (m := 10) (by omega)
        go_upto_block 2 with (first
          | (go_at_call 7; refine (kind_any ok 10 q0 (by omega) (by omega) _).mono ?_; rintro e w' ⟨rfl, rfl⟩)
          | fail)
        have hbo : Below wr.heap.size wr (wr.alloc (.cells #[.int .i64 ok, .int .i64 os, .int .i64 on, .int .i64 ov, .slice kA kn kc] 33)) := (Below.refl _ _).alloc (Nat.le_refl _) _
        have hno := heap_alloc_new wr (.cells #[.int .i64 ok, .int .i64 os, .int .i64 on, .int .i64 ov, .slice kA kn kc] 33)
        have hzo : (wr.alloc (.cells #[.int .i64 ok, .int .i64 os, .int .i64 on, .int .i64 ov, .slice kA kn kc] 33)).heap.size = wr.heap.size + 1 := by simp
        generalize wr.alloc (.cells #[.int .i64 ok, .int .i64 os, .int .i64 on, .int .i64 ov, .slice kA kn kc] 33) = w1 at hbo hno hzo ⊢
        have hw0 := hbw.size
        have B1 : Both w1 w0.heap.size (fun k => k = wr.heap.size) bp rp D := hB.below hbo fun k hk => .inr ⟨by omega, by omega⟩
        have hb01 : Below w0.heap.size w0 w1 := hbw.trans (hbo.mono hw0)
        have hOC : ∀ (X : Nat → Prop) (w' : World), X wr.heap.size → Kp w0.heap.size X w1 w' → w'.cell? ⟨wr.heap.size, 1, none⟩ = some (.int .i64 os) ∧ w'.cell? ⟨wr.heap.size, 2, none⟩ = some (.int .i64 on) ∧ w'.cell? ⟨wr.heap.size, 3, none⟩ = some (.int .i64 ov) ∧ w'.cell? ⟨wr.heap.size, 4, none⟩ = some (.slice kA kn kc) := fun X w' hX K => by
          have hh : w'.heap[wr.heap.size]? = _ := (K.block wr.heap.size (by omega) (.inr hX)).trans hno
          refine ⟨?_, ?_, ?_, ?_⟩ <;> (rw [cell_of_row _ _ _ _ _ _ hh]; rfl)
        obtain ⟨o1, o2, o3, o4⟩ := hOC (fun k => k = wr.heap.size) w1 rfl (Kp.refl _ _ _)
        obtain ⟨q, hq⟩ : ∃ q, md ok 10 = q := ⟨_, rfl⟩
        rw [hq] at hmd ⊢
        have hzo1 : wr.heap.size + 1 ≤ w1.heap.size := by omega
        have hzo2 : w1.heap.size ≤ wr.heap.size + 1 := by omega
        clear r0 r1 r2 r3 r4 hix hq hno hbo hzo
        go_cut [6, 12, 13, 14, 15, 16, 17, 18] from 49 to 232 (fun p s12 s13 s14 s15 s16 s17 s18 wc => ∃ (bp' : Nat) (D' : DM), p = .pointer (some ⟨bp', 0, none⟩) ∧ Play w0 rp N (k + 1) bp' D' wc)
        case first =>
          have hq10 : q = 0 ∨ q = 1 ∨ q = 2 ∨ q = 3 ∨ q = 4 ∨ q = 5 ∨ q = 6 ∨ q = 7 ∨ q = 8 ∨ q = 9 := by omega
          rcases hq10 with rfl | rfl | rfl | rfl | rfl | rfl | rfl | rfl | rfl | rfl
          · as_aux_lemma =>
            go_wp2_with fail
            refine (filled_any ov w1).mono ?_
            rintro e w2 ⟨rfl, ob2, hb2⟩
            have hz2 := hb2.size
            have hlt2 : w1.heap.size < w2.heap.size := (ob2.block _ rfl).2
            obtain ⟨X2, hX2⟩ : ∃ X2 : Nat → Prop, ∀ k, X2 k ↔ k = wr.heap.size ∨ k = w1.heap.size := ⟨_, fun _ => Iff.rfl⟩
            have hXo : X2 wr.heap.size := (hX2 _).2 (.inl rfl)
            have hXf : X2 w1.heap.size := (hX2 _).2 (.inr rfl)
            have B2 : Both w2 w0.heap.size X2 bp rp D := B1.below hb2 fun k hk => (hX2 k).1 hk |>.imp id fun h => ⟨by omega, by show k < w2.heap.size; omega⟩
            have B2d : Both w2.drew w0.heap.size X2 bp rp D := B2.same (Below.refl _ _).drew
            have K12 : Kp w0.heap.size X2 w1 w2 := kp_below hb2
            have KD : Kp w0.heap.size X2 w1 w2.drew := K12.trans (kp_below (Below.refl _ _).drew)
            obtain ⟨X', hX', R2, cont⟩ := B2d.step
            have hS : ∀ w' : World, Kp w0.heap.size X2 w1 w' → w'.cell? ⟨wr.heap.size, 1, none⟩ = some (.int .i64 os) ∧ w'.cell? ⟨wr.heap.size, 3, none⟩ = some (.int .i64 ov) ∧ Kp w0.heap.size X2 w1 w' := fun w' K => ⟨(hOC X2 w' hXo K).1, (hOC X2 w' hXo K).2.2.1, K⟩
            obtain ⟨s1, s3, _⟩ := hS w2 K12
            clear o1 o2 o3 o4 B1 B2 B2d
            go_wp2_with fail
            go_region_held3 (fun w' => w'.cell? ⟨wr.heap.size, 1, none⟩ = some (.int .i64 os) ∧ w'.cell? ⟨wr.heap.size, 3, none⟩ = some (.int .i64 ov) ∧ Kp w0.heap.size X2 w1 w')
              (first | assumption | exact hS _ KD | exact hS _ ‹Kp w0.heap.size X2 w1 _›)
              (first
                | (go_at_call 9; refine (run_write (m := k) R2 os _ 256 256 (fill ov) (ob2.sl.drew) (by omega) hok).mono ?_; rintro e w3 ⟨rfl, R3, k3⟩; have k3' : Kp w0.heap.size X2 w2.drew w3 := k3.mono fun x _ hx => hX' x hx; obtain ⟨X5, hX5, RR, cont2⟩ := cont w3 _ R3 k3; have K3 : Kp w0.heap.size X2 w1 w3 := KD.trans k3')
                | (go_at_call 8; refine (filled_any ov _).mono ?_; rintro e w4 ⟨rfl, o4, b4⟩; have RR4 := RR.same b4; have K4 : Kp w0.heap.size X2 w1 w4 := K3.trans (kp_below b4))
                | (go_at_call 10; refine (rrun_write (m := k) RR4 os _ 256 256 (fill ov) o4.sl (by omega) hok).mono ?_; rintro e w5 ⟨rfl, R5, k5⟩; obtain ⟨B5, K5'⟩ := cont2 w5 R5 ((kp_below b4).trans k5); have K5 : Kp w0.heap.size X2 w1 w5 := KD.trans K5')
                | fail)
            have K25 : Kp w0.heap.size X2 w2 w5 := (kp_below (Below.refl _ _).drew).trans K5'
            have ob5 := ob2.kp1 (K25.block w1.heap.size (by omega) (.inr hXf))
            obtain ⟨hc0, hf0⟩ := ob5.at_ 0 (by omega)
            clear cont cont2 hS s1 s3 hOC K12 KD R2 RR RR4
            go_wp2_with fail
            go_meet
            have TT : Turn X2 w5 (w5.setCell ⟨w1.heap.size, 0, none⟩ (.int .u8 99)) := turn_setCell _ hXf
            refine ⟨bp, _, rfl, (B5.kept TT).less (fun k hk => hk.elim), ok_write hok os (fill ov), (n_write D os (fill ov)).trans hDN, ?_⟩
            exact (hb01.trans (K5.below (by omega))).trans (TT.below (fun x hx => by rcases (hX2 x).1 hx with h | h <;> omega) (by have := K5.size; omega))
          · as_aux_lemma =>
            go_wp2_with fail
            refine (filled_any ov w1).mono ?_
            rintro e w2 ⟨rfl, ob2, hb2⟩
            have hz2 := hb2.size
            have hlt2 : w1.heap.size < w2.heap.size := (ob2.block _ rfl).2
            obtain ⟨X2, hX2⟩ : ∃ X2 : Nat → Prop, ∀ k, X2 k ↔ k = wr.heap.size ∨ k = w1.heap.size := ⟨_, fun _ => Iff.rfl⟩
            have hXo : X2 wr.heap.size := (hX2 _).2 (.inl rfl)
            have hXf : X2 w1.heap.size := (hX2 _).2 (.inr rfl)
            have B2 : Both w2 w0.heap.size X2 bp rp D := B1.below hb2 fun k hk => (hX2 k).1 hk |>.imp id fun h => ⟨by omega, by show k < w2.heap.size; omega⟩
            have B2d : Both w2.drew w0.heap.size X2 bp rp D := B2.same (Below.refl _ _).drew
            have K12 : Kp w0.heap.size X2 w1 w2 := kp_below hb2
            have KD : Kp w0.heap.size X2 w1 w2.drew := K12.trans (kp_below (Below.refl _ _).drew)
            obtain ⟨X', hX', R2, cont⟩ := B2d.step
            have hS : ∀ w' : World, Kp w0.heap.size X2 w1 w' → w'.cell? ⟨wr.heap.size, 1, none⟩ = some (.int .i64 os) ∧ w'.cell? ⟨wr.heap.size, 3, none⟩ = some (.int .i64 ov) ∧ Kp w0.heap.size X2 w1 w' := fun w' K => ⟨(hOC X2 w' hXo K).1, (hOC X2 w' hXo K).2.2.1, K⟩
            obtain ⟨s1, s3, _⟩ := hS w2 K12
            clear o1 o2 o3 o4 B1 B2 B2d
            go_wp2_with fail
            go_region_held3 (fun w' => w'.cell? ⟨wr.heap.size, 1, none⟩ = some (.int .i64 os) ∧ w'.cell? ⟨wr.heap.size, 3, none⟩ = some (.int .i64 ov) ∧ Kp w0.heap.size X2 w1 w')
              (first | assumption | exact hS _ KD | exact hS _ ‹Kp w0.heap.size X2 w1 _›)
              (first
                | (go_at_call 9; refine (run_write (m := k) R2 os _ 256 256 (fill ov) (ob2.sl.drew) (by omega) hok).mono ?_; rintro e w3 ⟨rfl, R3, k3⟩; have k3' : Kp w0.heap.size X2 w2.drew w3 := k3.mono fun x _ hx => hX' x hx; obtain ⟨X5, hX5, RR, cont2⟩ := cont w3 _ R3 k3; have K3 : Kp w0.heap.size X2 w1 w3 := KD.trans k3')
                | (go_at_call 8; refine (filled_any ov _).mono ?_; rintro e w4 ⟨rfl, o4, b4⟩; have RR4 := RR.same b4; have K4 : Kp w0.heap.size X2 w1 w4 := K3.trans (kp_below b4))
                | (go_at_call 10; refine (rrun_write (m := k) RR4 os _ 256 256 (fill ov) o4.sl (by omega) hok).mono ?_; rintro e w5 ⟨rfl, R5, k5⟩; obtain ⟨B5, K5'⟩ := cont2 w5 R5 ((kp_below b4).trans k5); have K5 : Kp w0.heap.size X2 w1 w5 := KD.trans K5')
                | fail)
            have K25 : Kp w0.heap.size X2 w2 w5 := (kp_below (Below.refl _ _).drew).trans K5'
            have ob5 := ob2.kp1 (K25.block w1.heap.size (by omega) (.inr hXf))
            obtain ⟨hc0, hf0⟩ := ob5.at_ 0 (by omega)
            clear cont cont2 hS s1 s3 hOC K12 KD R2 RR RR4
            go_wp2_with fail
            go_meet
            have TT : Turn X2 w5 (w5.setCell ⟨w1.heap.size, 0, none⟩ (.int .u8 99)) := turn_setCell _ hXf
            refine ⟨bp, _, rfl, (B5.kept TT).less (fun k hk => hk.elim), ok_write hok os (fill ov), (n_write D os (fill ov)).trans hDN, ?_⟩
            exact (hb01.trans (K5.below (by omega))).trans (TT.below (fun x hx => by rcases (hX2 x).1 hx with h | h <;> omega) (by have := K5.size; omega))
          · as_aux_lemma =>
            go_wp2_with fail
            refine (filled_any ov w1).mono ?_
            rintro e w2 ⟨rfl, ob2, hb2⟩
            have hz2 := hb2.size
            have hlt2 : w1.heap.size < w2.heap.size := (ob2.block _ rfl).2
            obtain ⟨X2, hX2⟩ : ∃ X2 : Nat → Prop, ∀ k, X2 k ↔ k = wr.heap.size ∨ k = w1.heap.size := ⟨_, fun _ => Iff.rfl⟩
            have hXo : X2 wr.heap.size := (hX2 _).2 (.inl rfl)
            have hXf : X2 w1.heap.size := (hX2 _).2 (.inr rfl)
            have B2 : Both w2 w0.heap.size X2 bp rp D := B1.below hb2 fun k hk => (hX2 k).1 hk |>.imp id fun h => ⟨by omega, by show k < w2.heap.size; omega⟩
            have B2d : Both w2.drew w0.heap.size X2 bp rp D := B2.same (Below.refl _ _).drew
            have K12 : Kp w0.heap.size X2 w1 w2 := kp_below hb2
            have KD : Kp w0.heap.size X2 w1 w2.drew := K12.trans (kp_below (Below.refl _ _).drew)
            obtain ⟨X', hX', R2, cont⟩ := B2d.step
            have hS : ∀ w' : World, Kp w0.heap.size X2 w1 w' → w'.cell? ⟨wr.heap.size, 1, none⟩ = some (.int .i64 os) ∧ w'.cell? ⟨wr.heap.size, 3, none⟩ = some (.int .i64 ov) ∧ Kp w0.heap.size X2 w1 w' := fun w' K => ⟨(hOC X2 w' hXo K).1, (hOC X2 w' hXo K).2.2.1, K⟩
            obtain ⟨s1, s3, _⟩ := hS w2 K12
            clear o1 o2 o3 o4 B1 B2 B2d
            go_wp2_with fail
            go_region_held3 (fun w' => w'.cell? ⟨wr.heap.size, 1, none⟩ = some (.int .i64 os) ∧ w'.cell? ⟨wr.heap.size, 3, none⟩ = some (.int .i64 ov) ∧ Kp w0.heap.size X2 w1 w')
              (first | assumption | exact hS _ KD | exact hS _ ‹Kp w0.heap.size X2 w1 _›)
              (first
                | (go_at_call 9; refine (run_write (m := k) R2 os _ 256 256 (fill ov) (ob2.sl.drew) (by omega) hok).mono ?_; rintro e w3 ⟨rfl, R3, k3⟩; have k3' : Kp w0.heap.size X2 w2.drew w3 := k3.mono fun x _ hx => hX' x hx; obtain ⟨X5, hX5, RR, cont2⟩ := cont w3 _ R3 k3; have K3 : Kp w0.heap.size X2 w1 w3 := KD.trans k3')
                | (go_at_call 8; refine (filled_any ov _).mono ?_; rintro e w4 ⟨rfl, o4, b4⟩; have RR4 := RR.same b4; have K4 : Kp w0.heap.size X2 w1 w4 := K3.trans (kp_below b4))
                | (go_at_call 10; refine (rrun_write (m := k) RR4 os _ 256 256 (fill ov) o4.sl (by omega) hok).mono ?_; rintro e w5 ⟨rfl, R5, k5⟩; obtain ⟨B5, K5'⟩ := cont2 w5 R5 ((kp_below b4).trans k5); have K5 : Kp w0.heap.size X2 w1 w5 := KD.trans K5')
                | fail)
            have K25 : Kp w0.heap.size X2 w2 w5 := (kp_below (Below.refl _ _).drew).trans K5'
            have ob5 := ob2.kp1 (K25.block w1.heap.size (by omega) (.inr hXf))
            obtain ⟨hc0, hf0⟩ := ob5.at_ 0 (by omega)
            clear cont cont2 hS s1 s3 hOC K12 KD R2 RR RR4
            go_wp2_with fail
            go_meet
            have TT : Turn X2 w5 (w5.setCell ⟨w1.heap.size, 0, none⟩ (.int .u8 99)) := turn_setCell _ hXf
            refine ⟨bp, _, rfl, (B5.kept TT).less (fun k hk => hk.elim), ok_write hok os (fill ov), (n_write D os (fill ov)).trans hDN, ?_⟩
            exact (hb01.trans (K5.below (by omega))).trans (TT.below (fun x hx => by rcases (hX2 x).1 hx with h | h <;> omega) (by have := K5.size; omega))
          · as_aux_lemma =>
            go_wp2_with fail
            refine (both_read2 B1 os).mono ?_
            rintro e w2 ⟨A2, n2, X2, rfl, hX2, hs2, hA2, B2, hb2⟩
            obtain ⟨s1, s2, s3, s4⟩ := hOC (fun k => k = wr.heap.size) w2 rfl (kp_below hb2)
            clear o1 o2 o3 o4 B1
            go_wp2_with fail
            refine (both_readR B2 os).mono ?_
            rintro e w3 ⟨A3, n3, c3, rfl, hs3, B3, hb3⟩
            have k1 := conv_bs (hs2.below hb3)
            have k2 := conv_bs hs3
            have hb13 := hb2.trans (hb3.mono hb2.size)
            have hz2 := hb2.size
            have hz3 := hb3.size
            rcases hA2 with rfl | ⟨ga, rfl, rfl, hXg, hgw, hgl, hth⟩
            · clear hs2 hs3 hOC s1 s2 s3 s4
              go_wp2_with fail
              go_meet
              exact ⟨bp, D, rfl, B3.less (fun k hk => hk.elim), hok.mono (by omega), hDN, hb01.trans (hb13.mono (by omega))⟩
            · obtain ⟨hi0, hf0⟩ := hth 0 (by omega)
              obtain ⟨va, hva⟩ := Option.isSome_iff_exists.1 hi0
              have hc0 : w3.cell? ⟨ga, 0, none⟩ = some va := (hb3.cell (p := ⟨ga, 0, none⟩) hgl).trans hva
              have hf0 : w3.frozen? ⟨ga, 0, none⟩ = false := (hb3.frozen (p := ⟨ga, 0, none⟩) hgl).trans hf0
              clear hs2 hs3 hOC s1 s2 s3 s4 hth hi0 hva
              go_wp2_with fail
              go_meet
              have TT : Turn X2 w3 (w3.setCell ⟨ga, 0, none⟩ (.int .u8 98)) := turn_setCell _ hXg
              exact ⟨bp, D, rfl, (B3.kept TT).less (fun k hk => hk.elim), hok.mono (by omega), hDN, (hb01.trans (hb13.mono (by omega))).trans ((Below.refl _ w3).setCell (p := ⟨ga, 0, none⟩) (by show w0.heap.size ≤ ga; omega) _)⟩
          · as_aux_lemma =>
            obtain ⟨X', hX', R1, cont⟩ := B1.step
            clear o1 o2 o3 o4 hOC
            go_wp2_with fail
            refine (run_flush (m := k) R1 (by omega) hok).mono ?_
            rintro e w2 ⟨rfl, R2, k2⟩
            obtain ⟨X5, hX5, RR, cont2⟩ := cont w2 _ R2 k2
            go_wp2_with fail
            refine (rrun_flush (m := k) RR (by omega) hok).mono ?_
            rintro e w3 ⟨rfl, R3, k3⟩
            obtain ⟨B3, K3⟩ := cont2 w3 R3 k3
            clear cont cont2
            go_wp2_with fail
            go_meet
            exact ⟨bp, _, rfl, B3.less (fun k hk => hk.elim), ok_flush hok, (n_flush D).trans hDN, hb01.trans (K3.below (by omega))⟩
          · as_aux_lemma =>
            obtain ⟨X', hX', R1, cont⟩ := B1.step
            go_wp2_with fail
            refine (run_fuse R1 on q2.2).mono ?_
            rintro e w2 ⟨rfl, R2, k2⟩
            have k2' : Kp w0.heap.size (fun k => k = wr.heap.size) w1 w2 := k2.mono fun x _ hx => hX' x hx
            obtain ⟨s1, s2, s3, s4⟩ := hOC (fun k => k = wr.heap.size) w2 rfl k2'
            obtain ⟨X5, hX5, RR, cont2⟩ := cont w2 _ R2 k2
            clear o1 o2 o3 o4 hOC
            go_wp2_with fail
            refine (rrun_fuse RR on q2.2).mono ?_
            rintro e w3 ⟨rfl, R3, k3⟩
            obtain ⟨B3, K3⟩ := cont2 w3 R3 k3
            clear cont cont2 s1 s2 s3 s4
            go_wp2_with fail
            go_meet
            exact ⟨bp, _, rfl, B3.less (fun k hk => hk.elim), (ok_fuse hok on).mono (by omega), (n_fuse D on).trans hDN, hb01.trans (K3.below (by omega))⟩
          · as_aux_lemma =>
            obtain ⟨X', hX', R1, cont⟩ := B1.step
            have hkA : ∀ ad, kA = some ad → 0 < kn → ad.block < w0.heap.size := fun ad e h0 => by
              obtain ⟨z, hz⟩ : ∃ z, (kp.map (Value.int .i64))[0]? = some z := ⟨_, List.getElem?_eq_getElem (by have := hkp.1.1; omega)⟩
              obtain ⟨ad', e2, hl, _⟩ := hkp.1.2.2.2 0 z hz
              rw [e] at e2
              injection e2 with e2
              rw [e2]; exact hl
            have hk1 : Ints w1 kA kn kc kp := ⟨(Holds.below hkp.1 hb01).more hb01.size, hkp.2⟩
            go_wp2_with fail
            refine (run_crash2 (m := k) R1 kA kn kc kp hk1 (fun ad e h0 => ⟨by have := hkA ad e h0; omega, .inl (hkA ad e h0)⟩) (by omega) hok).mono ?_
            rintro e w2 ⟨rfl, R2, k2⟩
            have k2' : Kp w0.heap.size (fun k => k = wr.heap.size) w1 w2 := k2.mono fun x _ hx => hX' x hx
            obtain ⟨s1, s2, s3, s4⟩ := hOC (fun k => k = wr.heap.size) w2 rfl k2'
            obtain ⟨X5, hX5, RR, cont2⟩ := cont w2 _ R2 k2
            have hk2 : Ints w2 kA kn kc kp := hk1.kp k2' fun ad e h0 => .inl (hkA ad e h0)
            have hz2 := k2'.size
            clear o1 o2 o3 o4 hOC
            go_wp2_with fail
            refine (rrun_crash (m := k) RR kA kn kc kp hk2 (fun ad e h0 => ⟨by have := hkA ad e h0; omega, .inl (hkA ad e h0)⟩) (by omega) hok).mono ?_
            rintro e w3 ⟨rfl, R3, k3⟩
            obtain ⟨B3, K3⟩ := cont2 w3 R3 k3
            clear cont cont2 s1 s2 s3 s4
            go_wp2_with fail
            go_meet
            exact ⟨bp, _, rfl, B3.less (fun k hk => hk.elim), (ok_crash hok kp).mono (by omega), (n_crash D kp).trans hDN, hb01.trans (K3.below (by omega))⟩
          · as_aux_lemma =>
            have B1d : Both w1.drew w0.heap.size (fun k => k = wr.heap.size) bp rp D := B1.same (Below.refl _ _).drew
            have KD : Kp w0.heap.size (fun k => k = wr.heap.size) w1 w1.drew := kp_below (Below.refl _ _).drew
            obtain ⟨X', hX', R1, cont⟩ := B1d.step
            obtain ⟨E, hE⟩ : ∃ E : Int, (if D.mayTurn os on ov = true then (0 : Int) else 1) = E := ⟨_, rfl⟩
            have hS : ∀ w' : World, Kp w0.heap.size (fun k => k = wr.heap.size) w1 w' → w'.cell? ⟨wr.heap.size, 1, none⟩ = some (.int .i64 os) ∧ w'.cell? ⟨wr.heap.size, 2, none⟩ = some (.int .i64 on) ∧ w'.cell? ⟨wr.heap.size, 3, none⟩ = some (.int .i64 ov) ∧ Kp w0.heap.size (fun k => k = wr.heap.size) w1 w' := fun w' K => ⟨(hOC (fun k => k = wr.heap.size) w' rfl K).1, (hOC (fun k => k = wr.heap.size) w' rfl K).2.1, (hOC (fun k => k = wr.heap.size) w' rfl K).2.2.1, K⟩
            clear o4
            go_wp2_with fail
            go_region_held3 (fun w' => w'.cell? ⟨wr.heap.size, 1, none⟩ = some (.int .i64 os) ∧ w'.cell? ⟨wr.heap.size, 2, none⟩ = some (.int .i64 on) ∧ w'.cell? ⟨wr.heap.size, 3, none⟩ = some (.int .i64 ov) ∧ Kp w0.heap.size (fun k => k = wr.heap.size) w1 w')
              (first | assumption | exact hS _ KD | exact hS _ ‹Kp w0.heap.size (fun k => k = wr.heap.size) w1 _›)
              (first
                | (go_at_call 19; refine (run_corrupt (m := k) R1 os on ov (by omega) hok).mono ?_; rw [hE]; rintro e w3 ⟨rfl, R3, k3⟩; have k3' : Kp w0.heap.size (fun k => k = wr.heap.size) w1.drew w3 := k3.mono fun x _ hx => hX' x hx; obtain ⟨X5, hX5, RR, cont2⟩ := cont w3 _ R3 k3; have K3 : Kp w0.heap.size (fun k => k = wr.heap.size) w1 w3 := KD.trans k3')
                | (go_at_call 20; refine (rrun_corrupt (m := k) RR os on ov (by omega) hok).mono ?_; rw [hE]; rintro e w5 ⟨rfl, R5, k5⟩; obtain ⟨B5, K5'⟩ := cont2 w5 R5 k5; have K5 : Kp w0.heap.size (fun k => k = wr.heap.size) w1 w5 := KD.trans K5')
                | fail)
            clear cont cont2 hS hOC o1 o2 o3 R1 RR
            go_wp2_with fail
            go_meet
            exact ⟨bp, _, rfl, B5.less (fun k hk => hk.elim), (ok_corrupt hok os on ov).mono (by omega), (n_corrupt D os on ov).trans hDN, hb01.trans (K5.below (by omega))⟩
          · as_aux_lemma =>
            clear o1 o2 o3 o4 hOC
            go_wp2_with fail
            refine (both_clone B1 (m := k) (by omega) hok).mono ?_
            rintro e w2 ⟨bp', c', Y, rfl, hb2, hY, R2, cont⟩
            have hz2 := hb2.size
            go_wp2_with fail
            refine (filled_any 7 w2).mono ?_
            rintro e w3 ⟨rfl, o3, b3⟩
            have R3 := R2.same b3
            have K3 : Kp w0.heap.size Y w2 w3 := kp_below b3
            go_wp2_with fail
            refine (run_write (m := k) R3 0 _ 256 256 (fill 7) o3.sl (by omega) hok).mono ?_
            rintro e w4 ⟨rfl, R4, k4⟩
            have K4 := K3.trans k4
            go_wp2_with fail
            refine (run_flush (m := k + 1) R4 (by omega) (ok_write hok 0 (fill 7))).mono ?_
            rintro e w5 ⟨rfl, R5, k5⟩
            have K5 := K4.trans k5
            go_wp2_with fail
            refine (run_crash2 (m := k + 2) R5 none 0 0 [] (ints_nil _) (fun ad e => by cases e) (by omega) (ok_flush (ok_write hok 0 (fill 7)))).mono ?_
            rintro e w6 ⟨rfl, R6, k6⟩
            have K6 := K5.trans k6
            obtain ⟨B6, KX⟩ := cont w6 _ R6 K6
            clear cont R2 R3 R4 R5 R6 o3
            go_wp2_with fail
            go_meet
            exact ⟨bp', _, rfl, B6.less (fun k hk => hk.elim), ⟨by have := hok.1; show D.steps ≤ k + 1; omega, fun j => by have := hok.2 j; show (D.cac j).length ≤ k + 1; omega⟩, hDN, hb01.trans ((hb2.mono (by omega)).trans (KX.below (by omega)))⟩
          · as_aux_lemma =>
            have hmv := md_lt ov (m := 300) (by omega)
            have C300 := fun w' => kind_any ov 300 q3 (by omega) (by omega) w'
            obtain ⟨z, hz⟩ : ∃ z, md ov 300 = z := ⟨_, rfl⟩
            rw [hz] at hmv C300
            go_wp2_with (first
              | (go_at_call 7; refine (C300 _).mono ?_; rintro e w' ⟨rfl, rfl⟩)
              | (at_make; refine wp_make_z _ T22 rfl _ _ rfl _ _ z rfl rfl (by omega) ?_)
              | fail)
            intro w2 ob2 hb2
            have hz2 := hb2.size
            have hlt2 : w1.heap.size < w2.heap.size := (ob2.block _ rfl).2
            obtain ⟨X2, hX2⟩ : ∃ X2 : Nat → Prop, ∀ k, X2 k ↔ k = wr.heap.size ∨ k = w1.heap.size := ⟨_, fun _ => Iff.rfl⟩
            have hXo : X2 wr.heap.size := (hX2 _).2 (.inl rfl)
            have hXf : X2 w1.heap.size := (hX2 _).2 (.inr rfl)
            have B2 : Both w2 w0.heap.size X2 bp rp D := B1.below hb2 fun k hk => (hX2 k).1 hk |>.imp id fun h => ⟨by omega, by show k < w2.heap.size; omega⟩
            have B2d : Both w2.drew w0.heap.size X2 bp rp D := B2.same (Below.refl _ _).drew
            have K12 : Kp w0.heap.size X2 w1 w2 := kp_below hb2
            have KD : Kp w0.heap.size X2 w1 w2.drew := K12.trans (kp_below (Below.refl _ _).drew)
            obtain ⟨X', hX', R2, cont⟩ := B2d.step
            have hS : ∀ w' : World, Kp w0.heap.size X2 w1 w' → w'.cell? ⟨wr.heap.size, 1, none⟩ = some (.int .i64 os) ∧ Kp w0.heap.size X2 w1 w' := fun w' K => ⟨(hOC X2 w' hXo K).1, K⟩
            obtain ⟨s1, _⟩ := hS w2 K12
            clear o1 o2 o3 o4 B1 B2 B2d C300
            go_wp2_with fail
            go_region_held3 (fun w' => w'.cell? ⟨wr.heap.size, 1, none⟩ = some (.int .i64 os) ∧ Kp w0.heap.size X2 w1 w')
              (first | assumption | exact hS _ KD | exact hS _ ‹Kp w0.heap.size X2 w1 _›)
              (first
                | (go_at_call 9; refine (run_write (m := k) R2 os _ z z (zeros z) (ob2.sl.drew) (by omega) hok).mono ?_; rintro e w3 ⟨rfl, R3, k3⟩; have k3' : Kp w0.heap.size X2 w2.drew w3 := k3.mono fun x _ hx => hX' x hx; obtain ⟨X5, hX5, RR, cont2⟩ := cont w3 _ R3 k3; have K3 : Kp w0.heap.size X2 w1 w3 := KD.trans k3'; have sl3 := k3'.sl (ob2.sl.drew) (fun ad e => by cases e; exact .inr hXf))
                | (go_at_call 10; refine (rrun_write (m := k) RR os _ z z (zeros z) sl3 (by omega) hok).mono ?_; rintro e w5 ⟨rfl, R5, k5⟩; obtain ⟨B5, K5'⟩ := cont2 w5 R5 k5; have K5 : Kp w0.heap.size X2 w1 w5 := KD.trans K5')
                | fail)
            clear cont cont2 hS s1 hOC K12 KD R2 RR sl3 ob2
            go_wp2_with fail
            go_meet
            exact ⟨bp, _, rfl, B5.less (fun k hk => hk.elim), ok_write hok os (zeros z), (n_write D os (zeros z)).trans hDN, hb01.trans (K5.below (by omega))⟩
        case rest =>
          as_aux_lemma =>
          obtain ⟨bp', D', rfl, hB', hok', hDN', hbw'⟩ := hcut
          have C1 := fun j => size_both hB' j
          have C2 := fun j => cached_both hB' j
          have C3 := fun j => on_both hB' j
          have C4 := fun j => steps_both hB' j
          have C5 := fun j => rcached_both hB' j
          obtain ⟨ro, oc, iv, vs, SS, LL⟩ := hB'.ref
          have l0 := LL.c0
          have l1 := LL.c1
          have l4 := LL.c4
          clear LL o1 o2 o3 o4 hOC B1 hb01 hB hok hbw
          obtain ⟨of, hof⟩ : ∃ of, D'.off = of := ⟨_, rfl⟩
          rw [hof] at l1 C3
          obtain ⟨cn, hcn⟩ : ∃ cn, D'.cnt = cn := ⟨_, rfl⟩
          rw [hcn] at C2 C5
          obtain ⟨nn, hnn⟩ : ∃ nn, D'.n = nn := ⟨_, rfl⟩
          rw [hnn] at l0 C1
          obtain ⟨st, hst⟩ : ∃ st, D'.steps = st := ⟨_, rfl⟩
          rw [hst] at l4 C4
          clear hof hcn hst
          cases of
          all_goals
            go_upto_region 49 with fail
            go_quiet (first
              | (go_at_call 22; exact Calls.quiet_of_same (C1 _))
              | (go_at_call 23; exact Calls.quiet_of_same (C2 _))
              | (go_at_call 24; exact Calls.quiet_of_same (C5 _))
              | (go_at_call 25; exact Calls.quiet_of_same (C3 _))
              | (go_at_call 26; exact Calls.quiet_of_same (C4 _)))
            go_wp2
            exact ⟨⟨k + 1, bp', D', by omega, rfl, by go_num, hB'.same (below_drewN (Below.refl _ _) _), hok', hDN', below_drewN hbw' _⟩, by simp [intOf]; omega⟩
      · have hcase : ¬ (k < m) ∨ (k < m ∧ ¬ k < 80) := by omega
        as_aux_lemma =>
        obtain ⟨ri, hri, rj⟩ : ∃ b : Bool, decide ((k : Int) < (m : Int)) = b ∧ (b = true → decide ((k : Int) < 80) = false) := ⟨_, rfl, fun hb => by
          have := of_decide_eq_true hb
          exact decide_eq_false (by omega)⟩
        obtain ⟨X', hX', R1, cont⟩ := hB.step
        have fin : Calls Try.prog 15 #[.pointer (some ⟨bp, 0, none⟩), .int .i64 (-1)] wr fun e w' => e = .returned (.tuple #[]) ∧ Run w' w0.heap.size X' bp (D.fuse (-1)) ∧ Kp w0.heap.size X' wr w' := run_fuse R1 (-1) (by omega)
        rcases hcase with hc1 | ⟨hc1, hc2⟩
        · have hk1 : ¬ ((k : Int) < (m : Int)) := by omega
          have hk2 : decide ((k : Int) < (m : Int)) = false := decide_eq_false hk1
          clear hri rj
          go_wp2_with fail
          refine fin.mono ?_
          rintro e w2 ⟨rfl, R2, k2⟩
          obtain ⟨X5, hX5, RR, cont2⟩ := cont w2 _ R2 k2
          go_wp2_with fail
          refine (rrun_fuse RR (-1) (by omega)).mono ?_
          rintro e w3 ⟨rfl, R3, k3⟩
          obtain ⟨B3, K3⟩ := cont2 w3 R3 k3
          have hb03 : Below w0.heap.size w0 w3 := hbw.trans (K3.below hbw.size)
          have hDF : (D.fuse (-1)).n = N := hDN
          clear cont cont2 R1 R2 RR R3 fin hB hok
          generalize D.fuse (-1) = DF at B3 hDF
          go_wp2_with fail
          go_loopw [19, 20, 21, 22, 23] (fun i s20 s21 s22 s23 wq => ∃ s : Nat, s ≤ N ∧ i = .int .i64 (s : Int) ∧ Both wq w0.heap.size (fun _ => False) bp rp DF ∧ Below w0.heap.size w0 wq) (fun i _ _ _ _ _ => N - (intOf i).toNat)
          case atStart => exact ⟨0, Nat.zero_le _, rfl, B3, hb03⟩
          case round =>
            obtain ⟨s, hs, rfl, hBq, hbq⟩ := hrel
            obtain ⟨ro, oc, iv, vs, SS, LL⟩ := hBq.ref
            have l0 := LL.c0
            rw [hDF] at l0
            clear LL
            have hzq := hbq.size
            by_cases hsN : s < N
            · have hsi : (s : Int) < (N : Int) := by omega
              go_wp2_with fail
              refine (both_read2 hBq s).mono ?_
              rintro e w4 ⟨A4, n4, X4, rfl, hX4, hs4, _, B4, hb4⟩
              clear l0
              go_wp2_with fail
              refine (both_readR B4 s).mono ?_
              rintro e w5 ⟨A5, n5, c5, rfl, hs5, B5, hb5⟩
              have k1 := conv_bs (hs4.below hb5)
              have k2 := conv_bs hs5
              have hb45 := hb4.trans (hb5.mono hb4.size)
              clear hs4 hs5
              go_wp2
              exact ⟨⟨s + 1, by omega, by go_num, B5.less (fun k hk => (hX4 k hk.elim)), hbq.trans (hb45.mono hzq)⟩, by simp [intOf]; omega⟩
            · have hsi : ¬ (s : Int) < (N : Int) := by omega
              have hsd : decide ((s : Int) < (N : Int)) = false := decide_eq_false hsi
              go_wp2
              go_ret
              exact ⟨rfl, hb0.trans (hbq.mono hb0.size)⟩
        · have hk1 : (k : Int) < (m : Int) := by omega
          have hk2 : ¬ ((k : Int) < 80) := by omega
          have hk3 : decide ((k : Int) < 80) = false := decide_eq_false hk2
          clear hri rj
          go_wp2_with fail
          refine fin.mono ?_
          rintro e w2 ⟨rfl, R2, k2⟩
          obtain ⟨X5, hX5, RR, cont2⟩ := cont w2 _ R2 k2
          go_wp2_with fail
          refine (rrun_fuse RR (-1) (by omega)).mono ?_
          rintro e w3 ⟨rfl, R3, k3⟩
          obtain ⟨B3, K3⟩ := cont2 w3 R3 k3
          have hb03 : Below w0.heap.size w0 w3 := hbw.trans (K3.below hbw.size)
          have hDF : (D.fuse (-1)).n = N := hDN
          clear cont cont2 R1 R2 RR R3 fin hB hok
          generalize D.fuse (-1) = DF at B3 hDF
          go_wp2_with fail
          go_loopw [19, 20, 21, 22, 23] (fun i s20 s21 s22 s23 wq => ∃ s : Nat, s ≤ N ∧ i = .int .i64 (s : Int) ∧ Both wq w0.heap.size (fun _ => False) bp rp DF ∧ Below w0.heap.size w0 wq) (fun i _ _ _ _ _ => N - (intOf i).toNat)
          case atStart => exact ⟨0, Nat.zero_le _, rfl, B3, hb03⟩
          case round =>
            obtain ⟨s, hs, rfl, hBq, hbq⟩ := hrel
            obtain ⟨ro, oc, iv, vs, SS, LL⟩ := hBq.ref
            have l0 := LL.c0
            rw [hDF] at l0
            clear LL
            have hzq := hbq.size
            by_cases hsN : s < N
            · have hsi : (s : Int) < (N : Int) := by omega
              go_wp2_with fail
              refine (both_read2 hBq s).mono ?_
              rintro e w4 ⟨A4, n4, X4, rfl, hX4, hs4, _, B4, hb4⟩
              clear l0
              go_wp2_with fail
              refine (both_readR B4 s).mono ?_
              rintro e w5 ⟨A5, n5, c5, rfl, hs5, B5, hb5⟩
              have k1 := conv_bs (hs4.below hb5)
              have k2 := conv_bs hs5
              have hb45 := hb4.trans (hb5.mono hb4.size)
              clear hs4 hs5
              go_wp2
              exact ⟨⟨s + 1, by omega, by go_num, B5.less (fun k hk => (hX4 k hk.elim)), hbq.trans (hb45.mono hzq)⟩, by simp [intOf]; omega⟩
            · have hsi : ¬ (s : Int) < (N : Int) := by omega
              have hsd : decide ((s : Int) < (N : Int)) = false := decide_eq_false hsi
              go_wp2
              go_ret
              exact ⟨rfl, hb0.trans (hbq.mono hb0.size)⟩
end Go.Proofs.Ytkkmnmiekmfjiaa
