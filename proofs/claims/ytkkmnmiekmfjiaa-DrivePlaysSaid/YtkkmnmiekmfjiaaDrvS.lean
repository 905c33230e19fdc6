/- The document's examples. -/
import Derived.Test.YtkkmnmiekmfjiaaDrvR
import Derived.Deep.RegionHeld3
import Derived.Deep.DrawnRows
namespace Go.Proofs.Ytkkmnmiekmfjiaa
open Go Go.RowKit Go.Proofs

def sd1 : DM := (DM.mk0 32).writeD 3 (fill 1)
def sd2 : DM := sd1.crash []
def sd3 : DM := sd2.writeD 3 (fill 1)
def sd4 : DM := sd3.writeD 3 (fill 2)
def sd5 : DM := sd4.crash [1]
def sd6 : DM := sd5.flushD
def sd7 : DM := sd6.writeD 3 (fill 2)
def sd8 : DM := sd7.fuse 0
def sd9 : DM := sd8.writeD 4 (fill 1)
def sd10 : DM := sd9.crash [0]
theorem sda : sd1.readL 3 = fill 1 := by decide +kernel
theorem sdb : sd2.readL 3 = fill 0 := by decide +kernel
theorem sdc : sd5.readL 3 = fill 1 := by decide +kernel
theorem sdf : sd8.writeE 4 (fill 1) = 4 := by decide +kernel
theorem sdg : sd9.readE 3 = 4 := by decide +kernel
theorem sdh : sd10.readL 3 = fill 1 := by decide +kernel

/-- filled, its new block a letter; what its text is. -/
theorem filled_text (c : Int) (w : World) :
    Calls Try.prog 8 #[.int .i64 c] w fun e w' => ∃ g, e = .returned (.slice (some ⟨g, 0, none⟩) 256 256) ∧ (convert 35 9 (.slice (some ⟨g, 0, none⟩) 256 256)).run Try.prog w' = .ok (.string ⟨(fill c).toArray⟩) w' ∧ Below w.heap.size w w' := by
  refine (filled_any c w).mono ?_
  rintro e w' ⟨rfl, o, b⟩
  exact ⟨_, rfl, conv_bs o.sl, b⟩

attribute [local go_sem ↓] Go.wp_at_zero Go.wp_at_succ
set_option maxRecDepth 10000 in
set_option maxHeartbeats 4000000 in
theorem shown_any (w : World) :
    Calls Try.prog 4 #[] w fun e w' => e = .returned (.bool true) ∧ Below w.heap.size w w' := by
  go_enter Try.func4, Try.ntmps4
  go_wp2_with fail
  refine (run_new 32 (by unfold sectors; omega) w).mono ?_
  rintro e w1 ⟨bp, rfl, R, hb⟩
  go_wp2_with fail
  refine (filled_any 1 w1).mono ?_
  rintro e w2 ⟨rfl, o2, b2⟩
  go_wp2_with fail
  refine (run_write (R.same b2) 3 _ _ _ _ o2.sl (m := 0) (by omega) (ok_mk0 32 0)).mono ?_
  rintro e w3 ⟨rfl, R3, k3⟩
  replace R3 : Run w3 w.heap.size (fun _ => False) bp sd1 := R3
  have K3 : Kp w.heap.size (fun _ => False) w w3 := (kp_below hb).trans ((kp_below b2).trans k3)
  clear R o2 b2 k3 hb
  go_wp2_with fail
  refine (run_read R3 3).mono ?_
  rintro e w4 ⟨Aa, na, X4, rfl, _, x4, Ha, R4, b4⟩
  rw [sda] at Ha
  have K4 := K3.trans (kp_below b4)
  clear R3 K3 x4 b4
  go_wp2_with fail
  refine (run_crash R4 none 0 0 [] (ints_nil _) (fun ad h => by cases h) (m := 10) (by omega) ((ok_write (ok_mk0 32 0) _ _).mono (by omega))).mono ?_
  rintro e w5 ⟨rfl, R5, k5⟩
  replace R5 : Run w5 w.heap.size X4 bp sd2 := R5
  have K5 := K4.trans (k5.mono fun _ _ h => h.elim)
  replace Ha := Ha.kp k5
  clear R4 K4 k5
  go_wp2_with fail
  refine (run_read R5 3).mono ?_
  rintro e w6 ⟨Ab, nb, X6, rfl, _, x6, Hb, R6, b6⟩
  rw [sdb] at Hb
  replace Ha := (Ha.below b6).more x6
  have K6 := K5.trans (kp_below b6)
  clear R5 K5 x6 b6
  go_wp2_with fail
  refine (filled_any 1 w6).mono ?_
  rintro e w7 ⟨rfl, o7, b7⟩
  go_wp2_with fail
  have ok2 : sd2.ok 10 := ok_crash ((ok_write (ok_mk0 32 0) _ _).mono (by omega)) _
  refine (run_write (R6.same b7) 3 _ _ _ _ o7.sl (m := 10) (by omega) ok2).mono ?_
  rintro e w8 ⟨rfl, R8, k8⟩
  replace R8 : Run w8 w.heap.size X6 bp sd3 := R8
  have ok3 : sd3.ok 11 := ok_write ok2 _ _
  replace Ha := (Ha.below b7).kp k8
  replace Hb := (Hb.below b7).kp k8
  have K8 := (K6.trans (kp_below b7)).trans (k8.mono fun _ _ h => h.elim)
  clear R6 K6 b7 o7 k8 ok2
  go_wp2_with fail
  refine (filled_any 2 w8).mono ?_
  rintro e w9 ⟨rfl, o9, b9⟩
  go_wp2_with fail
  refine (run_write (R8.same b9) 3 _ _ _ _ o9.sl (m := 11) (by omega) ok3).mono ?_
  rintro e w10 ⟨rfl, R10, k10⟩
  replace R10 : Run w10 w.heap.size X6 bp sd4 := R10
  have ok4 : sd4.ok 12 := ok_write ok3 _ _
  replace Ha := (Ha.below b9).kp k10
  replace Hb := (Hb.below b9).kp k10
  have K10 := (K8.trans (kp_below b9)).trans (k10.mono fun _ _ h => h.elim)
  clear R8 K8 b9 o9 k10 ok3
  go_wp2_with fail
  refine (run_crash1 R10 1 3 (by omega) (m := 12) (by omega) ok4).mono ?_
  rintro e w11 ⟨rfl, R11, k11⟩
  replace R11 : Run w11 w.heap.size X6 bp sd5 := R11
  have ok5 : sd5.ok 12 := ok_crash ok4 _
  replace Ha := Ha.kp k11
  replace Hb := Hb.kp k11
  have K11 := K10.trans (k11.mono fun _ _ h => h.elim)
  clear R10 K10 k11 ok4
  go_wp2_with fail
  refine (run_read R11 3).mono ?_
  rintro e w12 ⟨Ac, nc, X12, rfl, _, x12, Hc, R12, b12⟩
  rw [sdc] at Hc
  replace Ha := (Ha.below b12).more x12
  replace Hb := (Hb.below b12).more x12
  have K12 := K11.trans (kp_below b12)
  clear R11 K11 x12 b12
  go_wp2_with fail
  refine (run_flush R12 (m := 12) (by omega) ok5).mono ?_
  rintro e w13 ⟨rfl, R13, k13⟩
  replace R13 : Run w13 w.heap.size X12 bp sd6 := R13
  have ok6 : sd6.ok 13 := ok_flush ok5
  replace Ha := Ha.kp k13
  replace Hb := Hb.kp k13
  replace Hc := Hc.kp k13
  have K13 := K12.trans (k13.mono fun _ _ h => h.elim)
  clear R12 K12 k13 ok5
  go_wp2_with fail
  refine (filled_any 2 w13).mono ?_
  rintro e w14 ⟨rfl, o14, b14⟩
  go_wp2_with fail
  refine (run_write (R13.same b14) 3 _ _ _ _ o14.sl (m := 13) (by omega) ok6).mono ?_
  rintro e w15 ⟨rfl, R15, k15⟩
  replace R15 : Run w15 w.heap.size X12 bp sd7 := R15
  have ok7 : sd7.ok 14 := ok_write ok6 _ _
  replace Ha := (Ha.below b14).kp k15
  replace Hb := (Hb.below b14).kp k15
  replace Hc := (Hc.below b14).kp k15
  have K15 := (K13.trans (kp_below b14)).trans (k15.mono fun _ _ h => h.elim)
  clear R13 K13 b14 o14 k15 ok6
  go_wp2_with fail
  refine (run_fuse R15 0 (by omega)).mono ?_
  rintro e w16 ⟨rfl, R16, k16⟩
  replace R16 : Run w16 w.heap.size X12 bp sd8 := R16
  have ok8 : sd8.ok 14 := ok_fuse ok7 _
  replace Ha := Ha.kp k16
  replace Hb := Hb.kp k16
  replace Hc := Hc.kp k16
  have K16 := K15.trans (k16.mono fun _ _ h => h.elim)
  clear R15 K15 k16 ok7
  go_wp2_with fail
  refine (filled_any 1 w16).mono ?_
  rintro e w17 ⟨rfl, o17, b17⟩
  go_wp2_with fail
  refine (run_write (R16.same b17) 4 _ _ _ _ o17.sl (m := 14) (by omega) ok8).mono ?_
  rintro e w18 ⟨rfl, R18, k18⟩
  rw [sdf]
  replace R18 : Run w18 w.heap.size X12 bp sd9 := R18
  have ok9 : sd9.ok 15 := ok_write ok8 _ _
  replace Ha := (Ha.below b17).kp k18
  replace Hb := (Hb.below b17).kp k18
  replace Hc := (Hc.below b17).kp k18
  have K18 := (K16.trans (kp_below b17)).trans (k18.mono fun _ _ h => h.elim)
  clear R16 K16 b17 o17 k18 ok8
  go_wp2_with fail
  refine (run_read R18 3).mono ?_
  rintro e w19 ⟨Ad, nd, X19, rfl, _, x19, Hd, R19, b19⟩
  rw [sdg]
  replace Ha := (Ha.below b19).more x19
  replace Hb := (Hb.below b19).more x19
  replace Hc := (Hc.below b19).more x19
  have K19 := K18.trans (kp_below b19)
  clear R18 K18 x19 b19 Hd
  go_wp2_with fail
  refine (run_crash1 R19 0 3 (by omega) (m := 15) (by omega) ok9).mono ?_
  rintro e w20 ⟨rfl, R20, k20⟩
  replace R20 : Run w20 w.heap.size X19 bp sd10 := R20
  replace Ha := Ha.kp k20
  replace Hb := Hb.kp k20
  replace Hc := Hc.kp k20
  have K20 := K19.trans (k20.mono fun _ _ h => h.elim)
  clear R19 K19 k20 ok9
  go_wp2_with fail
  refine (run_read R20 3).mono ?_
  rintro e w21 ⟨Ah, nh, X21, rfl, _, x21, Hh, R21, b21⟩
  rw [sdh] at Hh
  replace Ha := (Ha.below b21).more x21
  replace Hb := (Hb.below b21).more x21
  replace Hc := (Hc.below b21).more x21
  have K21 := K20.trans (kp_below b21)
  clear R20 K20 x21 b21
  go_wp2_with fail
  have hca : ∀ w', Below w21.heap.size w21 w' → (convert 35 9 (.slice Aa na na)).run Try.prog w' = .ok (.string ⟨(fill 1).toArray⟩) w' := fun w' h => conv_bs (Ha.1.below h)
  have hcb : ∀ w', Below w21.heap.size w21 w' → (convert 35 9 (.slice Ab nb nb)).run Try.prog w' = .ok (.string ⟨(fill 0).toArray⟩) w' := fun w' h => conv_bs (Hb.1.below h)
  have hcc : ∀ w', Below w21.heap.size w21 w' → (convert 35 9 (.slice Ac nc nc)).run Try.prog w' = .ok (.string ⟨(fill 1).toArray⟩) w' := fun w' h => conv_bs (Hc.1.below h)
  have hch : ∀ w', Below w21.heap.size w21 w' → (convert 35 9 (.slice Ah nh nh)).run Try.prog w' = .ok (.string ⟨(fill 1).toArray⟩) w' := fun w' h => conv_bs (Hh.1.below h)
  have KF := K21.below (Nat.le_refl _)
  have hz := K21.size
  clear Ha Hb Hc Hh K21 R21
  go_region_held (fun w' => Below w21.heap.size w21 w') (first | exact Below.drew (Below.refl _ _) | assumption | (refine Below.trans ‹Below w21.heap.size w21 _› ?_; exact Below.mono (by assumption) (Below.size ‹Below w21.heap.size w21 _›)))
    (first | (go_at_call 8; refine (filled_text _ _).mono ?_; rintro e w' ⟨g, rfl, hcf, b⟩))
  go_wp2
  go_ret
  exact ⟨by first | rfl | simp [go_sem], KF.trans (Below.mono ‹Below w21.heap.size w21 _› hz)⟩
end Go.Proofs.Ytkkmnmiekmfjiaa
