/- The law NodeSeeks: for every input it returns true, and what came in reads as it did. -/
import Derived.Test.YtmebdjafnefneaaDoorNodeZ
import Derived.Test.YtmebdjafnefneaaDoorNodeFw
namespace Go.Proofs.YtmebdjafnefneaaDoor
open Go Go.RowKit Go.Proofs

theorem Intl.cell {w : World} {A : Option Addr} {n c : Nat} {zs : List Int} (h : Intl w A n c zs) {j : Nat} (hj : j < n) : ∃ g o, A = some ⟨g, o, none⟩ ∧ g < w.heap.size ∧ w.cell? ⟨g, o + j, none⟩ = some (.int .i64 (zs.getD j 0)) := by
  have hl : j < zs.length := by have h1 : (zs.map iv).length = n := Sls.len h; rw [List.length_map] at h1; omega
  obtain ⟨g, o, rfl, hg, _, hc⟩ := h.2.2.2 j (iv zs[j]) (by rw [List.getElem?_map, List.getElem?_eq_getElem hl]; rfl)
  refine ⟨g, o, rfl, hg, ?_⟩
  have := hc 0 _ rfl
  rw [Nat.mul_one, Nat.add_zero] at this
  rw [this, List.getD_eq_getElem?_getD, List.getElem?_eq_getElem hl]
  rfl
theorem Intl.below {w w' : World} {A : Option Addr} {n c : Nat} {zs : List Int} (h : Intl w A n c zs) (hb : Below w.heap.size w w') : Intl w' A n c zs := Sls.below h hb
theorem Intl.len {w : World} {A : Option Addr} {n c : Nat} {zs : List Int} (h : Intl w A n c zs) : zs.length = n := by simpa using Sls.len h
set_option maxRecDepth 100000 in
set_option maxHeartbeats 16000000 in
theorem nodeSeeks_walk (N : Nd) (A : Option Addr) (n c : Nat) (B : Option Addr) (m d : Nat) (k : Kd) (w : World) (hI : Itms w A n c N.items) (hK : Kidl w B m d N.kids) (ht : Tab w) :
    Calls Tryd.prog 6 #[.agg #[.int .i64 N.lvl, .slice A n c, .slice B m d], .agg #[.int .i64 k.obj, .int .i64 k.kind, .int .i64 k.off]] w fun e w' => e = .returned (.bool true) ∧ Below w.heap.size w w' := by
  go_enter Tryd.func6, Tryd.ntmps6
  go_wp2_with fail
  have N1 : NB ((w.alloc (.cells #[.int .i64 N.lvl, .slice A n c, .slice B m d] 25)).alloc (.cells #[.int .i64 k.obj, .int .i64 k.kind, .int .i64 k.off] 39)) w.heap.size N.lvl A n c B m d := (NB.new w _ _ _ _ _ _ _ _).below ((Below.refl _ _).alloc (Nat.le_refl _) _) (by simp)
  have K1 : KB ((w.alloc (.cells #[.int .i64 N.lvl, .slice A n c, .slice B m d] 25)).alloc (.cells #[.int .i64 k.obj, .int .i64 k.kind, .int .i64 k.off] 39)) (w.heap.size + 1) k := KB.new2 w _ k.obj k.kind k.off _
  have W1 : Below w.heap.size w ((w.alloc (.cells #[.int .i64 N.lvl, .slice A n c, .slice B m d] 25)).alloc (.cells #[.int .i64 k.obj, .int .i64 k.kind, .int .i64 k.off] 39)) := ((Below.refl _ _).alloc (Nat.le_refl _) _).alloc (by simp) _
  generalize (w.alloc (.cells #[.int .i64 N.lvl, .slice A n c, .slice B m d] 25)).alloc (.cells #[.int .i64 k.obj, .int .i64 k.kind, .int .i64 k.off] 39) = w1 at N1 K1 W1 ⊢
  refine (nshown_any w1 (ht.below W1 ht.1)).mono ?_
  rintro e w2 ⟨rfl, hb2⟩
  have N2 := N1.below hb2 N1.lt
  have K2 := K1.below hb2 K1.lt
  have W2 := W1.trans (hb2.mono W1.size)
  have q0 := N2.c0
  have q1 := N2.c1
  have q2 := N2.c2
  clear N1 W1 hb2 K1
  go_wp2_with fail
  refine (nfew_any N A n c B m d w2 (hI.below W2) (hK.below W2)).mono ?_
  rintro e w3 ⟨n1, m1, rfl, hn1, hm1, hI3, hK3, hb3⟩
  have hIf := fewI hI hI3
  have hKf := fewK hK hK3
  have N3 := N2.below hb3 N2.lt
  have K3 := K2.below hb3 K2.lt
  have W3 := W2.trans (hb3.mono W2.size)
  obtain ⟨M, hM⟩ : ∃ M, N.few = M := ⟨_, rfl⟩
  have hMl : M.lvl = N.lvl := by rw [← hM]; rfl
  rw [hM] at hIf hKf
  obtain ⟨l, hl⟩ : ∃ l, N.lvl = l := ⟨_, rfl⟩
  rw [hl] at N3 hMl ⊢
  clear q0 q1 q2 N2 W2 hb3 hI3 hK3 hM hl K2
  obtain rfl : M.lvl = l := hMl
  go_wp2_with (first
    | (refine wp_store_nd rfl (.tmp 2) (.tmp 16) rfl w.heap.size rfl M.lvl A n1 c B m1 d rfl N3 ?_; intro w4 N4 T4; have q0 := N4.c0; have q1 := N4.c1; have q2 := N4.c2; have K4 := K3.keep (T4.block _ K3.lt (fun e => by have e : _ = w.heap.size := e; omega)); have k0 := K4.c0; have k1 := K4.c1; have k2 := K4.c2)
    | fail)
  have W4 := W3.trans (T4.belowOne N3.lt)
  have hI4 : ∀ w' : World, Below w.heap.size w w' → Itms w' A n1 c M.items := fun w' hb => hIf.below hb
  have hK4 : ∀ w' : World, Below w.heap.size w w' → Kidl w' B m1 d M.kids := fun w' hb => hKf.below hb
  clear N3 W3 T4 hIf hKf hI hK K3
  cases hmay : M.may
  · refine (refnmay_says M false hmay A n1 c B m1 d w4 (hI4 _ W4) (hK4 _ W4) (by omega) (by omega)).mono ?_
    rintro e w5 ⟨rfl, hb5⟩
    have W5 := W4.trans (hb5.mono W4.size)
    go_wp2
    go_ret
    exact ⟨rfl, W5⟩
  · have hfit := may_fit hmay
    obtain ⟨t, ht'⟩ : ∃ t, M.seek k = t := ⟨_, rfl⟩
    obtain ⟨r, hr⟩ : ∃ r, foundAt M.keys k t = r := ⟨_, rfl⟩
    obtain ⟨z, hz⟩ : ∃ z, M.least = z := ⟨_, rfl⟩
    have Hseek := Lib.hid ht'
    have Hfound := Lib.hid hr
    have Hleast := Lib.hid hz
    have HM := Lib.hid hmay
    have HI := Lib.hid hI4
    have HK := Lib.hid hK4
    clear ht' hr hz hmay hI4 hK4
    refine (refnmay_says M true HM.out A n1 c B m1 d w4 (HI.out _ W4) (HK.out _ W4) (by omega) (by omega)).mono ?_
    rintro e w5 ⟨rfl, hb5⟩
    have N5 := N4.below hb5 N4.lt
    have K5 := K4.below hb5 K4.lt
    have W5 := W4.trans (hb5.mono W4.size)
    clear q0 q1 q2 k0 k1 k2 N4 K4 W4
    have q0 := N5.c0
    have q1 := N5.c1
    have q2 := N5.c2
    have k0 := K5.c0
    have k1 := K5.c1
    have k2 := K5.c2
    go_wp2_with fail
    refine (cseek_any M hfit k t Hseek.out r Hfound.out A n1 c B m1 d w5 (HI.out _ W5) (HK.out _ W5) (by omega) (by omega)).mono ?_
    rintro e w6 ⟨rfl, hb6⟩
    have N6 := N5.below hb6 N5.lt
    have K6 := K5.below hb6 K5.lt
    have W6 := W5.trans (hb6.mono W5.size)
    clear q0 q1 q2 k0 k1 k2 N5 K5 W5
    have q0 := N6.c0
    have q1 := N6.c1
    have q2 := N6.c2
    have k0 := K6.c0
    have k1 := K6.c1
    have k2 := K6.c2
    go_wp2_with fail
    refine (refseek_any M k A n1 c B m1 d w6 (HI.out _ W6) (HK.out _ W6) (by omega) (by omega)).mono ?_
    rw [Hseek.out, Hfound.out]
    rintro e w7 ⟨rfl, hb7⟩
    have N7 := N6.below hb7 N6.lt
    have K7 := K6.below hb7 K6.lt
    have W7 := W6.trans (hb7.mono W6.size)
    clear q0 q1 q2 k0 k1 k2 N6 K6 W6
    have q0 := N7.c0
    have q1 := N7.c1
    have q2 := N7.c2
    have k0 := K7.c0
    have k1 := K7.c1
    have k2 := K7.c2
    go_wp2_with fail
    refine (cnkids_any M hfit A n1 c B m1 d w7 (HI.out _ W7) (HK.out _ W7) (by omega) (by omega)).mono ?_
    rintro e w8 ⟨A8, n8, c8, rfl, L8, hb8⟩
    have N8 := N7.below hb8 N7.lt
    have K8 := K7.below hb8 K7.lt
    have W8 := W7.trans (hb8.mono W7.size)
    clear q0 q1 q2 k0 k1 k2 N7 K7 W7
    have q0 := N8.c0
    have q1 := N8.c1
    have q2 := N8.c2
    have k0 := K8.c0
    have k1 := K8.c1
    have k2 := K8.c2
    go_wp2_with fail
    refine (refkids_any M A n1 c B m1 d w8 (HI.out _ W8) (HK.out _ W8) (by omega) (by omega)).mono ?_
    rintro e w9 ⟨A9, n9, c9, rfl, L9, hb9⟩
    have N9 := N8.below hb9 N8.lt
    have K9 := K8.below hb9 K8.lt
    have W9 := W8.trans (hb9.mono W8.size)
    clear q0 q1 q2 k0 k1 k2 N8 K8 W8
    have q0 := N9.c0
    have q1 := N9.c1
    have q2 := N9.c2
    have k0 := K9.c0
    have k1 := K9.c1
    have k2 := K9.c2
    have L89 := L8.below hb9
    obtain rfl : n8 = n9 := by rw [← L89.len, ← L9.len]
    clear L8 q0 q1 q2 k0 k1 k2 hb5 hb6 hb7 hb8 hb9
    have hlen8 : n8 ≤ 9223372036854775807 := by
      have h1 := Sls.cap L9
      have h2 := Sls.max L9
      unfold maxLen at h2
      omega
    go_wp2_with fail
    have b0 : ∀ u : Grown w9, Below w.heap.size w u.to := fun u => W9.trans (u.ok.mono W9.size)
    have B0 := Lib.hid b0
    have q0 : ∀ u : Grown w9, u.to.cell? ⟨w.heap.size, 0, none⟩ = some (.int .i64 M.lvl) := Grown.cell N9.c0 N9.lt
    have q1 : ∀ u : Grown w9, u.to.cell? ⟨w.heap.size, 1, none⟩ = some (.slice A n1 c) := Grown.cell N9.c1 N9.lt
    have q2 : ∀ u : Grown w9, u.to.cell? ⟨w.heap.size, 2, none⟩ = some (.slice B m1 d) := Grown.cell N9.c2 N9.lt
    have hg := guard_ne
    have hne := ne_key z
    clear b0
    refine wp_region_grown (by kernel_rfl) (by kernel_rfl) ?_
    repeat (go_big_quiet_step (first
      | (go_at_call 22; exact Calls.grown (cnleast_any M hfit z Hleast.out A n1 c B m1 d _ (HI.out _ (B0.out _)) (HK.out _ (B0.out _))))
      | (go_at_call 23; exact Calls.grown (refleast_says M z Hleast.out A n1 c B m1 d _ (HI.out _ (B0.out _)) (HK.out _ (B0.out _)) (by omega) (by omega)))
      | fail))
    refine wpQuiet_nil ?_
    rintro _ ⟨u, rfl⟩
    have W10 := B0.out u
    have La := L89.below u.ok
    have Lb := L9.below u.ok
    generalize u.to = wa at W10 La Lb ⊢
    clear q0 q1 q2 hg hne B0 u N9 K9 W9 L89 L9
    obtain ⟨zs, hzs⟩ : ∃ zs, M.named = zs := ⟨_, rfl⟩
    rw [hzs] at La Lb
    clear hzs
    go_wp2_with fail
    go_loopw [13] (fun i wr => ∃ j : Nat, j ≤ n8 ∧ i = .int .i64 (j : Int) ∧ Below wa.heap.size wa wr) (fun i _ => n8 - (intOf i).toNat)
    case atStart => exact ⟨0, Nat.zero_le _, rfl, Below.refl _ _⟩
    case round =>
      obtain ⟨j, hj, rfl, hB⟩ := hrel
      by_cases hlt : j < n8
      · obtain ⟨g, o, hA8, hg, ca⟩ := (La.below hB).cell hlt
        obtain ⟨g', o', hA9, hg', cb⟩ := (Lb.below hB).cell hlt
        subst hA8 hA9
        obtain ⟨x, hx⟩ : ∃ x, zs.getD j 0 = x := ⟨_, rfl⟩
        rw [hx] at ca cb
        have pa : ∀ u : Grown wr, u.to.cell? ⟨g, o + j, none⟩ = some (.int .i64 x) := Grown.cell ca hg
        have pb : ∀ u : Grown wr, u.to.cell? ⟨g', o' + j, none⟩ = some (.int .i64 x) := Grown.cell cb hg'
        have hj0 : (0 : Int) ≤ (j : Int) := by omega
        have hj1 : (j : Int) < (n8 : Int) := by omega
        clear ca cb hx
        go_wp2_with fail
        refine wp_region_grown (by kernel_rfl) (by kernel_rfl) ?_
        repeat (go_big_quiet_step (fail))
        refine wpQuiet_nil ?_
        rintro _ ⟨u, rfl⟩
        have hBu := hB.trans (u.ok.mono hB.size)
        clear pa pb
        go_wp2
        exact ⟨⟨j + 1, by omega, by go_num, hBu⟩, by simp [intOf]; omega⟩
      · obtain rfl : n8 = j := by omega
        have Wr := W10.trans (hB.mono W10.size)
        go_wp2
        go_ret
        exact ⟨rfl, Wr⟩
end Go.Proofs.YtmebdjafnefneaaDoor
