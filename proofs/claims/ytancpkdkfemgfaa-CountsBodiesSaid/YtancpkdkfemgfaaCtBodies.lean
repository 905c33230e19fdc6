/- The law CountsBodies: for every input it returns true, and what came in reads as it did. -/
import Derived.Test.YtancpkdkfemgfaaCuQ
import Derived.Test.YtancpkdkfemgfaaCuJ
import Derived.Test.YtancpkdkfemgfaaCuL
import Derived.Test.YtancpkdkfemgfaaCuM
import Derived.Test.YtancpkdkfemgfaaCuN
import Derived.Test.YtancpkdkfemgfaaCtH
import Derived.Test.YtancpkdkfemgfaaCtI
import Derived.Test.YtancpkdkfemgfaaCtS
import Derived.Deep.RegionWith
namespace Go.Proofs.Ytancpkdkfemgfaa
open Go Go.RowKit Go.Proofs

theorem conv_ct {w : World} {A : Option Addr} {n c : Nat} {l : List UInt8} (h : Sl w A n c l) (s : ByteArray) (hs : (⟨l.toArray⟩ : ByteArray) = s) : (convert 46 9 (.slice A n c)).run Try.prog w = .ok (.string s) w := by
  subst hs
  exact run_conv_bs 46 9 5 T22 Try.underlying5 Try.underlying9 h

set_option maxRecDepth 10000 in
set_option maxHeartbeats 8000000 in
theorem countsBodies_walk (n0 : Int) (A : Option Addr) (m c : Nat) (xs : List (Int × Int)) (D : Option Addr) (dm dc : Nat) (ls : List (List UInt8)) (w : World) (hn0 : -9223372036854775808 ≤ n0 ∧ n0 ≤ 9223372036854775807) (h : CtOps w A m c xs) (hp : Parts w D dm dc ls) :
    Calls Try.prog 4 #[.int .i64 n0, .slice A m c, .slice D dm dc] w fun e w' => e = .returned (.bool true) ∧ Below w.heap.size w w' := by
  have Hn0 := Lib.hid hn0
  have HO := Lib.hid h
  have HP := Lib.hid hp
  clear hn0 h hp
  go_enter Try.func4, Try.ntmps4
  go_wp2_with fail
  refine (cshown_any w).mono ?_
  rintro e w1 ⟨rfl, B1⟩
  go_wp2_with fail
  refine (ckind_any n0 2017 Hn0.out (by omega) (by omega) w1).mono ?_
  rintro e w2 ⟨rfl, rfl⟩
  have hq := mq_lt n0 2017 (by omega)
  generalize mq n0 2017 = q at hq
  obtain ⟨n, hn⟩ : ∃ n, 32 + q = n := ⟨_, rfl⟩
  have hn' : (32 : Int) + (q : Int) = (n : Int) := by omega
  have hn1 : 32 ≤ n := by omega
  have hn2 : n ≤ 2048 := by omega
  clear hn
  go_wp2_with fail
  refine (cnew_any n hn1 hn2 w1).mono ?_
  rintro e w2 ⟨p, rfl, R, B2⟩
  have B2' := B1.trans (B2.mono B1.size)
  replace R := R.shrink
  have z1 := B1.size
  have z2 := B2.size
  go_wp2_with fail
  refine (crefnew_any n hn1 hn2 w2).mono ?_
  rintro e w3 ⟨y, rfl, Y, B3⟩
  have B3' := B2'.trans (B3.mono B2'.size)
  have z3 := B3.size
  replace Y := Y.shrink
  replace R := R.below B3
  obtain ⟨S, hS⟩ : ∃ S : Nat → Prop, ∀ k, S k ↔ w1.heap.size ≤ k ∧ k < w2.heap.size := ⟨_, fun _ => Iff.rfl⟩
  obtain ⟨S2, hS2⟩ : ∃ S2 : Nat → Prop, ∀ k, S2 k ↔ w2.heap.size ≤ k ∧ k < w3.heap.size := ⟨_, fun _ => Iff.rfl⟩
  replace R : CC w3 p S (Ct.zero n) := R.mono fun k hk => (hS k).2 hk
  replace Y : RC w3 y S2 (Ct.zero n) := Y.mono fun k hk => (hS2 k).2 hk
  clear B2 B3 B2'
  go_wp2_with fail
  refine (cplay_any R A m c xs (HO.out.below B3') (fun h0 g o e hg => by have := HO.out.old h0 g o e; have := (hS _).1 hg; omega)).mono ?_
  rintro e w4 ⟨rfl, R4, T4⟩
  have Y4 : RC w4 y S2 (Ct.zero n) := Y.keep fun k hk hs => T4.block k hk fun hs' => by have := (hS _).1 hs'; have := (hS2 _).1 hs; omega
  have B4 : Below w.heap.size w w4 := B3'.trans (T4.below (fun k hk => by have := (hS k).1 hk; omega) B3'.size)
  have z4 := T4.size
  clear R Y T4 B3'
  go_wp2_with fail
  refine (crefplay_any Y4 A m c xs (HO.out.below B4) (fun h0 g o e hg => by have := HO.out.old h0 g o e; have := (hS2 _).1 hg; omega)).mono ?_
  rintro e w5 ⟨rfl, Y5, T5⟩
  have R5 : CC w5 p S ((Ct.zero n).play xs) := R4.keep fun k hk hs => T5.block k hk fun hs' => by have := (hS _).1 hs; have := (hS2 _).1 hs'; omega
  have B5 : Below w.heap.size w w5 := B4.trans (T5.below (fun k hk => by have := (hS2 k).1 hk; omega) B4.size)
  have z5 := T5.size
  replace Y5 := Y5.shrink
  obtain ⟨S3, hS3⟩ : ∃ S3 : Nat → Prop, ∀ k, S3 k ↔ (S2 k ∨ w4.heap.size ≤ k) ∧ k < w5.heap.size := ⟨_, fun _ => Iff.rfl⟩
  replace Y5 : RC w5 y S3 ((Ct.zero n).play xs) := Y5.mono fun k hk => (hS3 k).2 hk
  clear R4 Y4 T5 B4
  obtain ⟨k1, k2, k3⟩ := Ct.play_keeps (Ct.zero_ok hn1 hn2) (Ct.zero_res n) xs
  rw [Ct.zero_n] at k3
  generalize (Ct.zero n).play xs = C at R5 Y5 k1 k2 k3
  obtain ⟨ar, hm⟩ : ∃ m, areaN n = m := ⟨_, rfl⟩
  have Hm := Lib.hid hm
  have har : ar ≤ 100 := by unfold areaN at hm; omega
  have hback := Ct.back_loads k1 k2
  have hbodies : C.bodies = (List.range ar).map fun (i : Nat) => C.body (i : Int) := by unfold Ct.bodies; rw [k3, hm]
  rw [k3, hbodies] at hback
  have Hback := Lib.hid hback
  clear hm hback hbodies
  have hc3 : ∀ k, S k → k < w5.heap.size := fun k hk => by have := (hS k).1 hk; omega
  have hc4 : ∀ k, S3 k → k < w5.heap.size := fun k hk => ((hS3 k).1 hk).2
  have HC3 := Lib.hid hc3
  have HC4 := Lib.hid hc4
  clear hc3 hc4 hS hS2 hS3 z1 z2 z3 z4 z5 B1
  go_wp2_with fail
  refine (xrefareas_any (n : Int) n rfl (by omega) ar Hm.out w5).mono ?_
  rintro e w6 ⟨rfl, rfl⟩
  have P0 := prow_lit w5
  have Bl : Below w5.heap.size w5 (w5.alloc (.cells #[] 46)) := (Below.refl _ _).alloc (Nat.le_refl _) _
  have R6 := R5.below Bl
  have Y6 := Y5.below Bl
  have B6 := B5.trans (Bl.mono B5.size)
  have hbase : w.heap.size ≤ w5.heap.size := B5.size
  have hz6 : w5.heap.size < (w5.alloc (.cells #[] 46)).heap.size := by simp
  clear R5 Y5 B5 Bl
  go_wp2_with fail
  generalize w5.alloc (.cells #[] 46) = w6 at P0 R6 Y6 B6 hz6 ⊢
  generalize w5.heap.size = base at P0 HC3 HC4 hbase hz6 ⊢
  go_loopw [15, 16, 17] (fun l i _ wr => ∃ (j t : Nat) (A' : Option Addr) (c' : Nat), j ≤ ar + 2 ∧ t = min (j - 1) ar ∧ i = .int .i64 ((j : Int) - 1) ∧ l = .slice A' t c' ∧ PRow wr base A' t c' ((List.range t).map fun (i : Nat) => C.body (i : Int)) ∧ CC wr p S C ∧ RC wr y S3 C ∧ Below w.heap.size w wr ∧ base < wr.heap.size) (fun _ i _ _ => ar + 2 - (intOf i + 1).toNat)
  case atStart => exact ⟨0, 0, _, _, Nat.zero_le _, by omega, rfl, rfl, P0, R6, Y6, B6, hz6⟩
  case round =>
    clear P0 R6 Y6 B6 hz6
    obtain ⟨j, t, A', c', hj, ht, rfl, rfl, P, R, Y, B, hz⟩ := hrel
    have Ht := Lib.hid ht
    clear ht
    obtain ⟨i, hi⟩ : ∃ i : Int, (j : Int) - 1 = i := ⟨_, rfl⟩
    rw [hi]
    by_cases hlt : j < ar + 2
    · have e3 : i ≤ (ar : Int) := by omega
      have e4 : -1 ≤ i := by omega
      have hi2 := Lib.hid (show i + 1 = ((j + 1 : Nat) : Int) - 1 by omega)
      have hmeas := Lib.hid (show ar + 2 - (i + 1 + 1).toNat < ar + 2 - (i + 1).toNat by omega)
      have hbl := Lib.hid P.blockLt
      go_wp2_with fail
      refine (cbody_any R i).mono ?_
      rintro e w5 ⟨V, q5, c5, rfl, hv, B5, hV⟩
      have P5 := P.below B5
      have R5 := R.below B5
      have Y5 := Y.below B5
      have B5' := B.trans (B5.mono B.size)
      have z5 := B5.size
      have hV6 : 0 < q5 → ∀ g, blockOf V = some g → g < w5.heap.size ∧ blockOf A' ≠ some g := fun h0 g hg => by
        cases V with
        | none => cases hg
        | some ad =>
          obtain rfl : ad.block = g := Option.some.inj hg
          obtain ⟨ad', e', hlt', _⟩ := hv.cell (k := 0) h0
          injection e' with e'
          subst e'
          have h1 := hV ad rfl
          exact ⟨hlt', fun e => by have := (hbl.out _ e).2; omega⟩
      have HV6 := Lib.hid hV6
      have hq5 : 0 ≤ i → i < (ar : Int) → 0 < q5 := fun h1 h2 => by
        have h1' := hv.len
        have h2 : C.body i = C.bodyTo (i * 118) 118 := by unfold Ct.body; rw [k3, Hm.out, if_pos ⟨h1, h2⟩]
        rw [h2, C.bodyTo_len] at h1'
        omega
      have Hq5 := Lib.hid hq5
      obtain ⟨s, hs⟩ : ∃ s : ByteArray, (⟨(C.body i).toArray⟩ : ByteArray) = s := ⟨_, rfl⟩
      have Hs := Lib.hid hs
      clear hV hV6 hq5 P R Y B hs
      go_wp2_with fail
      have hc4 := conv_ct (w := w5.drew) hv s Hs.out
      go_region_with (go_at_call 27; refine (crefbody_any (w := w5.drew) Y5 i).mono ?_; rintro e w6 ⟨V6, q6, c6, rfl, hv6, B6⟩; have B56 : Below w5.heap.size w5 w6 := (Below.refl _ w5).drew.trans B6; have hv5 := hv.below B56; have hc41 := conv_ct hv5 s Hs.out; have hc42 := conv_ct hv6 s Hs.out)
      all_goals (
        have P6 := P5.below B56
        have R6 := R5.below B56
        have Y6 := Y5.below B56
        have B6' := B5'.trans (B56.mono B5'.size)
        have z6 := B56.size
        clear P5 R5 Y5 B5' hc4 hc41 hc42 hv6 B6 B56 hv B5
        by_cases hin : 0 ≤ i ∧ i < (ar : Int)
        · obtain ⟨b, rfl⟩ := Int.eq_ofNat_of_zero_le hin.1
          have hb : b < ar := by omega
          have hbt : b = t := by have := Ht.out; omega
          subst hbt
          have e5 : (0 : Int) ≤ (b : Int) := by omega
          have e6 : (b : Int) < (ar : Int) := by omega
          have hnx := Lib.hid (bodies_next C b)
          have Bl : Below w6.heap.size w6 (w6.alloc (.cells #[.slice V q5 c5] 46)) := (Below.refl _ _).alloc (Nat.le_refl _) _
          have s6 := (owns_lit1 w6 46 1 [.slice V q5 c5] #[.slice V q5 c5] rfl rfl).sls (by omega)
          have P7 := P6.below Bl
          have v7 := hv5.below Bl
          have z7 : (w6.alloc (.cells #[.slice V q5 c5] 46)).heap.size = w6.heap.size + 1 := by simp
          have hqq := Hq5.out e5 e6
          go_wp2_with (first
            | (at_builtin; refine wp_append_part rfl _ _ rfl base A' b c' _ rfl P7 _ _ V q5 c5 _ rfl s6 v7 (fun g hg => ⟨by have := (HV6.out hqq g hg).1; omega, (HV6.out hqq g hg).2⟩) (by omega) (by omega) ?_)
            | fail)
          intro A8 c8 w8 P8 T8
          rw [← hnx.out] at P8
          have R8 : CC w8 p S C := (R6.below Bl).keep fun k hk hSk => T8.block k hk fun e => by have := (hbl.out k e).1; have := HC3.out k hSk; omega
          have Y8 : RC w8 y S3 C := (Y6.below Bl).keep fun k hk hSk => T8.block k hk fun e => by have := (hbl.out k e).1; have := HC4.out k hSk; omega
          have B8 : Below w.heap.size w w8 := (B6'.trans (Bl.mono B6'.size)).trans (T8.below (fun k hk => by have := (hbl.out k hk).1; omega) (by omega))
          have z8 := T8.size
          clear T8 P7 v7 s6 R6 Y6 P6 Bl hv5
          go_wp2_with fail
          exact ⟨⟨j + 1, b + 1, A8, c8, by omega, by omega, by rw [← hi2.out], rfl, P8, R8, Y8, B8, by omega⟩, by simp [intOf]; omega⟩
        · by_cases h0 : 0 ≤ i
          · have e6 : ¬ i < (ar : Int) := by omega
            have e7 : i = (ar : Int) := by omega
            have ht2 := Lib.hid (show t = min (j + 1 - 1) ar by have := Ht.out; omega)
            clear hin e7
            go_wp2_with fail
            exact ⟨⟨j + 1, t, A', c', by omega, ht2.out, by rw [← hi2.out], rfl, P6, R6, Y6, B6', by omega⟩, by simp [intOf]; omega⟩
          · have ht2 := Lib.hid (show t = min (j + 1 - 1) ar by have := Ht.out; omega)
            clear hin
            go_wp2_with fail
            exact ⟨⟨j + 1, t, A', c', by omega, ht2.out, by rw [← hi2.out], rfl, P6, R6, Y6, B6', by omega⟩, by simp [intOf]; omega⟩)
    · have hjr : j = ar + 2 := by omega
      have htr : t = ar := by have := Ht.out; omega
      subst htr
      have e3 : ¬ i ≤ (t : Int) := by omega
      have Pp := P.parts
      clear P hj hjr hlt hi
      go_wp2_with fail
      refine (cload_any (n : Int) _ A' t c' Pp).mono ?_
      rintro e w5 ⟨⟨hE, pd, rfl, RD⟩ | ⟨hE, rfl⟩, B5⟩
      · have Pp5 := Pp.below B5
        have B5' := B.trans (B5.mono B.size)
        clear hE B B5 Pp R Y
        go_wp2_with fail
        refine (crefload_any (n : Int) _ A' t c' Pp5).mono ?_
        rintro e w6 ⟨⟨hE, pz, rfl, YZ⟩ | ⟨hE, rfl⟩, B6⟩
        · have RD6 := RD.below B6
          have B6' := B5'.trans (B6.mono B5'.size)
          have HP6 := HP.out.below B6'
          clear hE RD B5' B6 Pp5 Hback
          go_wp2_with fail
          refine (calike_any RD6 YZ).mono ?_
          rintro e w7 ⟨rfl, rfl⟩
          clear RD6 YZ
          go_wp2_with fail
          refine (cload_any n0 ls D dm dc HP6).mono ?_
          rintro e w7 ⟨⟨hE, pp, rfl, RP⟩ | ⟨hE, rfl⟩, B7⟩
          · have HP7 := HP6.below B7
            have B7' := B6'.trans (B7.mono B6'.size)
            have HE := Lib.hid hE
            clear hE B7 B6' HP6
            go_wp2_with fail
            refine (crefload_any n0 ls D dm dc HP7).mono ?_
            rintro e w8 ⟨⟨hE, pq, rfl, YQ⟩ | ⟨hE, rfl⟩, B8⟩
            · have RP8 := RP.below B8
              have B8' := B7'.trans (B8.mono B7'.size)
              clear hE RP B7' B8 HP7
              go_wp2_with fail
              refine (calike_any RP8 YQ).mono ?_
              rintro e w9 ⟨rfl, rfl⟩
              go_wp2
              go_ret
              exact ⟨rfl, B8'⟩
            · exact absurd HE.out hE
          · have HP7 := HP6.below B7
            have B7' := B6'.trans (B7.mono B6'.size)
            have HE := Lib.hid hE
            clear hE B7 B6' HP6
            go_wp2_with fail
            refine (crefload_any n0 ls D dm dc HP7).mono ?_
            rintro e w8 ⟨⟨hE, pq, rfl, YQ⟩ | ⟨hE, rfl⟩, B8⟩
            · exact absurd hE HE.out
            · have B8' := B7'.trans (B8.mono B7'.size)
              clear hE B8 B7' HP7
              generalize loadE n0 ls = E at HE ⊢
              go_wp2
              go_ret
              exact ⟨rfl, B8'⟩
        · exact absurd Hback.out.1 hE
      · exact absurd Hback.out.1 hE
end Go.Proofs.Ytancpkdkfemgfaa
