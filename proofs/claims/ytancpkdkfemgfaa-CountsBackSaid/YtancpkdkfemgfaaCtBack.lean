/- The law CountsBack: for every input it returns true, and what came in reads as it did. -/
import Derived.Test.YtancpkdkfemgfaaCuQ
import Derived.Test.YtancpkdkfemgfaaCuJ
import Derived.Test.YtancpkdkfemgfaaCuM
import Derived.Test.YtancpkdkfemgfaaCuN
import Derived.Test.YtancpkdkfemgfaaCtI
import Derived.Test.YtancpkdkfemgfaaCtS
namespace Go.Proofs.Ytancpkdkfemgfaa
open Go Go.RowKit Go.Proofs

set_option maxRecDepth 10000 in
set_option maxHeartbeats 8000000 in
theorem countsBack_walk (n0 : Int) (A : Option Addr) (m c : Nat) (xs : List (Int × Int)) (w : World) (hn0 : -9223372036854775808 ≤ n0 ∧ n0 ≤ 9223372036854775807) (h : CtOps w A m c xs) :
    Calls Try.prog 7 #[.int .i64 n0, .slice A m c] w fun e w' => e = .returned (.bool true) ∧ Below w.heap.size w w' := by
  have Hn0 := Lib.hid hn0
  have HO := Lib.hid h
  clear hn0 h
  go_enter Try.func7, Try.ntmps7
  go_wp2_with fail
  refine (cshown_any w).mono ?_
  rintro e w1 ⟨rfl, B1⟩
  go_wp2_with fail
  refine (ckind_any n0 300 Hn0.out (by omega) (by omega) w1).mono ?_
  rintro e w2 ⟨rfl, rfl⟩
  have hq := mq_lt n0 300 (by omega)
  generalize mq n0 300 = q at hq
  obtain ⟨n, hn⟩ : ∃ n, 32 + q = n := ⟨_, rfl⟩
  have hn' : (32 : Int) + (q : Int) = (n : Int) := by omega
  have hn1 : 32 ≤ n := by omega
  have hn2 : n ≤ 2048 := by omega
  clear hn
  go_wp2_with fail
  refine (cnew_any n hn1 hn2 w1).mono ?_
  rintro e w2 ⟨p, rfl, R, B2⟩
  have B2' := B1.trans (B2.mono B1.size)
  have R := R.shrink
  have z1 := B1.size
  obtain ⟨S, hS⟩ : ∃ S : Nat → Prop, ∀ k, S k ↔ w1.heap.size ≤ k ∧ k < w2.heap.size := ⟨_, fun _ => Iff.rfl⟩
  have R : CC w2 p S (Ct.zero n) := R.mono fun k hk => (hS k).2 hk
  go_wp2_with fail
  refine (cplay_any R A m c xs (HO.out.below B2') (fun h0 g o e hg => by have := HO.out.old h0 g o e; have := (hS _).1 hg; omega)).mono ?_
  rintro e w3 ⟨rfl, R3, T3⟩
  obtain ⟨k1, k2, k3⟩ := Ct.play_keeps (Ct.zero_ok hn1 hn2) (Ct.zero_res n) xs
  rw [Ct.zero_n] at k3
  have B3 : Below w.heap.size w w3 := B2'.trans (T3.below (fun k hk => by have := (hS k).1 hk; omega) B2'.size)
  have z3 := T3.size
  clear R T3 B2
  generalize (Ct.zero n).play xs = C at R3 k1 k2 k3
  obtain ⟨ar, hm⟩ : ∃ m, areaN n = m := ⟨_, rfl⟩
  obtain ⟨f, hf⟩ : ∃ f, 2 + 2 * ar = f := ⟨_, rfl⟩
  have HF := Lib.hid (show (2 : Int) + 2 * (ar : Int) = (f : Int) by omega)
  have Hm := Lib.hid hm
  have hff := Lib.hid (show C.first = f by unfold Ct.first; rw [k3, hm]; exact hf)
  have hfn : f ≤ n := by unfold areaN at hm; omega
  have har : ar ≤ 100 := by unfold areaN at hm; omega
  have hback := Ct.back_loads k1 k2
  have hbodies : C.bodies = (List.range ar).map fun (i : Nat) => C.body (i : Int) := by unfold Ct.bodies; rw [k3, hm]
  rw [k3, hbodies] at hback
  have Hback := Lib.hid hback
  clear hm hf hback hbodies
  have hc3 : ∀ k, S k → k < w3.heap.size := fun k hk => by have := (hS k).1 hk; omega
  have hc0 : ∀ k, S k → w.heap.size ≤ k := fun k hk => by have := (hS k).1 hk; omega
  have HC3 := Lib.hid hc3
  clear hc3 hS B2' z1 z3
  go_wp2_with fail
  refine (xrefareas_any (n : Int) n rfl (by omega) ar Hm.out w3).mono ?_
  rintro e w4 ⟨rfl, rfl⟩
  rw [HF.out]
  have P0 := prow_lit w3
  have Bl : Below w3.heap.size w3 (w3.alloc (.cells #[] 46)) := (Below.refl _ _).alloc (Nat.le_refl _) _
  have R4 := R3.below Bl
  have B4 := B3.trans (Bl.mono B3.size)
  have hbase : w.heap.size ≤ w3.heap.size := B3.size
  have hz4 : w3.heap.size < (w3.alloc (.cells #[] 46)).heap.size := by simp
  clear R3 B3 Bl
  go_wp2_with fail
  generalize w3.alloc (.cells #[] 46) = w4 at P0 R4 B4 hz4 ⊢
  generalize w3.heap.size = base at P0 HC3 hbase hz4 ⊢
  go_loopw [11, 12] (fun l i wr => ∃ (j : Nat) (A' : Option Addr) (c' : Nat), j ≤ ar ∧ i = .int .i64 (j : Int) ∧ l = .slice A' j c' ∧ PRow wr base A' j c' ((List.range j).map fun (i : Nat) => C.body (i : Int)) ∧ CC wr p S C ∧ Below w.heap.size w wr ∧ base < wr.heap.size) (fun _ i _ => ar - (intOf i).toNat)
  case atStart => exact ⟨0, _, _, Nat.zero_le _, rfl, rfl, P0, R4, B4, hz4⟩
  case round =>
    clear P0 R4 B4 hz4
    obtain ⟨j, A', c', hj, rfl, rfl, P, R, B, hz⟩ := hrel
    by_cases hlt : j < ar
    · have e3 : (j : Int) < (ar : Int) := by omega
      have hnx := Lib.hid (bodies_next C j)
      have hbl := Lib.hid P.blockLt
      go_wp2_with fail
      refine (cbody_any R (j : Int)).mono ?_
      rintro e w5 ⟨V, q5, c5, rfl, hv, B5, hV⟩
      have P5 := P.below B5
      have R5 := R.below B5
      have B5' := B.trans (B5.mono B.size)
      have z5 := B5.size
      have hV5 : ∀ g, blockOf V = some g → g < w5.heap.size ∧ blockOf A' ≠ some g ∨ q5 = 0 := fun g hg => by
        cases V with
        | none => cases hg
        | some ad =>
          obtain rfl : ad.block = g := Option.some.inj hg
          by_cases h0 : 0 < q5
          · obtain ⟨ad', e', hlt', _⟩ := hv.cell (k := 0) h0
            injection e' with e'
            subst e'
            have h1 := hV ad rfl
            exact .inl ⟨hlt', fun e => by have := (hbl.out _ e).2; omega⟩
          · exact .inr (by omega)
      have hq5 : 0 < q5 := by
        have h1 := hv.len
        have h2 : C.body (j : Int) = C.bodyTo ((j : Int) * 118) 118 := by unfold Ct.body; rw [k3, Hm.out, if_pos ⟨by omega, e3⟩]
        rw [h2, C.bodyTo_len] at h1
        omega
      have hV6 : ∀ g, blockOf V = some g → g < w5.heap.size ∧ blockOf A' ≠ some g := fun g hg => (hV5 g hg).resolve_right (by omega)
      have HV6 := Lib.hid hV6
      clear hV hV5 hV6 P R B
      have Bl : Below w5.heap.size w5 (w5.alloc (.cells #[.slice V q5 c5] 46)) := (Below.refl _ _).alloc (Nat.le_refl _) _
      have s6 := (owns_lit1 w5 46 1 [.slice V q5 c5] #[.slice V q5 c5] rfl rfl).sls (by omega)
      have P6 := P5.below Bl
      have v6 := hv.below Bl
      have z6 : (w5.alloc (.cells #[.slice V q5 c5] 46)).heap.size = w5.heap.size + 1 := by simp
      go_wp2_with (first
        | (at_builtin; refine wp_append_part rfl _ _ rfl base A' j c' _ rfl P6 _ _ V q5 c5 _ rfl s6 v6 (fun g hg => ⟨by have := (HV6.out g hg).1; omega, (HV6.out g hg).2⟩) (by omega) (by omega) ?_)
        | fail)
      intro A7 c7 w7 P7 T7
      rw [← hnx.out] at P7
      have R7 : CC w7 p S C := (R5.below Bl).keep fun k hk hSk => T7.block k hk fun e => by have := (hbl.out k e).1; have := HC3.out k hSk; omega
      have B7 : Below w.heap.size w w7 := (B5'.trans (Bl.mono B5'.size)).trans (T7.below (fun k hk => by have := (hbl.out k hk).1; omega) (by omega))
      have z7 := T7.size
      clear T7 P6 v6 s6 R5 P5 B5 Bl hv
      go_wp2_with fail
      exact ⟨⟨j + 1, A7, c7, by omega, by go_num, rfl, P7, R7, B7, by omega⟩, by simp [intOf]; omega⟩
    · have hjr : j = ar := by omega
      subst hjr
      have e3 : ¬ (j : Int) < (j : Int) := by omega
      have Pp := P.parts
      clear P hj
      go_wp2_with fail
      refine (cload_any (n : Int) _ A' j c' Pp).mono ?_
      rintro e w5 ⟨⟨hE, pd, rfl, RD⟩ | ⟨hE, rfl⟩, B5⟩
      · have hl := Hback.out.2
        rw [Int.toNat_natCast, hl] at RD
        have R5 := R.below B5
        have B5' := B.trans (B5.mono B.size)
        clear hl hE R B B5 Pp Hback HC3
        go_wp2_with fail
        go_loopw [15, 16] (fun u i wr => ∃ a : Nat, a ≤ n ∧ i = .int .i64 (a : Int) ∧ u = .int .i64 (C.usedTo a : Int) ∧ wr = w5) (fun _ i _ => n - (intOf i).toNat)
        case atStart => exact ⟨0, Nat.zero_le _, rfl, rfl, rfl⟩
        case round =>
          obtain ⟨a, ha, rfl, rfl, rfl⟩ := hrel
          by_cases hlt2 : a < n
          · have e5 : (a : Int) < (n : Int) := by omega
            have hu := Lib.hid (C.usedTo_next a)
            have hule : C.usedTo a ≤ a := by
              unfold Ct.usedTo
              have := List.countP_le_length (p := fun a => decide (0 < nm C.now a)) (l := List.range a)
              rwa [List.length_range] at this
            generalize C.usedTo a = u at hu hule ⊢
            obtain ⟨x, hx⟩ : ∃ x, nm C.now a = x := ⟨_, rfl⟩
            have hg := Lib.hid (show C.get (a : Int) = x by unfold Ct.get; rw [if_pos ⟨by omega, by omega⟩, Int.toNat_natCast, hx])
            have hg2 := Lib.hid (show C.commit.get (a : Int) = x from hg.out)
            have hx0 : 0 ≤ x := by rw [← hx]; exact (k1.2 a (by omega)).1
            have hu2 := Lib.hid (show C.usedTo (a + 1) = u + (if 0 < x then 1 else 0) by rw [hu.out, hx])
            have hfresh := Lib.hid (C.commit_fresh (a : Int))
            clear hx
            go_wp2_with fail
            refine (cget_any RD (a : Int) x hg2.out).mono ?_
            rintro e w6 ⟨rfl, rfl⟩
            go_wp2_with fail
            refine (cget_any R5 (a : Int) x hg.out).mono ?_
            rintro e w6 ⟨rfl, rfl⟩
            go_wp2_with fail
            refine (cfresh_any RD (a : Int) false hfresh.out).mono ?_
            rintro e w6 ⟨rfl, rfl⟩
            go_wp2_with fail
            refine (cget_any RD (a : Int) x hg2.out).mono ?_
            rintro e w6 ⟨rfl, rfl⟩
            by_cases hp : 0 < x
            · have hu3 := Lib.hid (show C.usedTo (a + 1) = u + 1 by rw [hu2.out, if_pos hp])
              go_wp2
              exact ⟨⟨a + 1, by omega, by go_num, by rw [hu3.out]; go_num, by first | exact trivial | rfl⟩, by simp [intOf]; omega⟩
            · have hu3 := Lib.hid (show C.usedTo (a + 1) = u by rw [hu2.out, if_neg hp, Nat.add_zero])
              go_wp2
              exact ⟨⟨a + 1, by omega, by go_num, by rw [hu3.out], by first | exact trivial | rfl⟩, by simp [intOf]; omega⟩
          · have han : a = n := by omega
            subst han
            have e5 : ¬ (a : Int) < (a : Int) := by omega
            have hcf := Ct.commit_free k1 k2 C.n (Nat.le_refl _)
            rw [hff.out] at hcf
            have hcf2 : C.commit.free + C.usedTo a = a - f := by
              have h1 : C.commit.free = C.commit.freeTo C.n := rfl
              rw [h1]
              rw [k3] at hcf ⊢
              exact hcf
            obtain ⟨fr, hfr⟩ : ∃ fr, C.commit.free = fr := ⟨_, rfl⟩
            rw [hfr] at hcf2
            have Hfr := Lib.hid hfr
            generalize C.usedTo a = u at hcf2 ⊢
            have hi : (a : Int) - (f : Int) - (u : Int) = (fr : Int) := by omega
            have hu9 : u ≤ 2048 := by omega
            clear hcf hcf2 hfr
            go_wp2_with fail
            refine (xrefareas_any (a : Int) a rfl (by omega) j Hm.out wr).mono ?_
            rintro e w6 ⟨rfl, rfl⟩
            rw [HF.out]
            go_wp2_with fail
            refine (cfreeAll_any RD fr Hfr.out).mono ?_
            rintro e w6 ⟨rfl, rfl⟩
            go_wp2
            go_ret
            exact ⟨rfl, B5'⟩
      · exact absurd Hback.out.1 hE
end Go.Proofs.Ytancpkdkfemgfaa
