/- The law NodeMays: for every input it returns true, and what came in reads as it did. -/
import Derived.Test.YtmebdjafnefneaaDoorNodeZ
import Derived.Test.YtmebdjafnefneaaDoorNodeFw
namespace Go.Proofs.YtmebdjafnefneaaDoor
open Go Go.RowKit Go.Proofs

set_option maxRecDepth 100000 in
set_option maxHeartbeats 16000000 in
theorem nodeMays_walk (N : Nd) (A : Option Addr) (n c : Nat) (B : Option Addr) (m d : Nat) (w : World) (hI : Itms w A n c N.items) (hK : Kidl w B m d N.kids) (ht : Tab w) :
    Calls Tryd.prog 3 #[.agg #[.int .i64 N.lvl, .slice A n c, .slice B m d]] w fun e w' => e = .returned (.bool true) ∧ Below w.heap.size w w' := by
  go_enter Tryd.func3, Tryd.ntmps3
  go_wp2_with fail
  have N1 : NB (w.alloc (.cells #[.int .i64 N.lvl, .slice A n c, .slice B m d] 25)) w.heap.size N.lvl A n c B m d := NB.new w _ _ _ _ _ _ _ _
  have W1 : Below w.heap.size w (w.alloc (.cells #[.int .i64 N.lvl, .slice A n c, .slice B m d] 25)) := (Below.refl _ _).alloc (Nat.le_refl _) _
  generalize w.alloc (.cells #[.int .i64 N.lvl, .slice A n c, .slice B m d] 25) = w1 at N1 W1 ⊢
  refine (nshown_any w1 (ht.below W1 ht.1)).mono ?_
  rintro e w2 ⟨rfl, hb2⟩
  have N2 := N1.below hb2 N1.lt
  have W2 := W1.trans (hb2.mono W1.size)
  have q0 := N2.c0
  have q1 := N2.c1
  have q2 := N2.c2
  clear N1 W1 hb2
  go_wp2_with fail
  refine (nfew_any N A n c B m d w2 (hI.below W2) (hK.below W2)).mono ?_
  rintro e w3 ⟨n1, m1, rfl, hn1, hm1, hI3, hK3, hb3⟩
  have hIf := fewI hI hI3
  have hKf := fewK hK hK3
  have N3 := N2.below hb3 N2.lt
  have W3 := W2.trans (hb3.mono W2.size)
  obtain ⟨M, hM⟩ : ∃ M, N.few = M := ⟨_, rfl⟩
  have hMl : M.lvl = N.lvl := by rw [← hM]; rfl
  rw [hM] at hIf hKf
  obtain ⟨l, hl⟩ : ∃ l, N.lvl = l := ⟨_, rfl⟩
  rw [hl] at N3 hMl ⊢
  clear q0 q1 q2 N2 W2 hb3 hI3 hK3 hM hl
  obtain rfl : M.lvl = l := hMl
  go_wp2_with (first
    | (refine wp_store_nd rfl (.tmp 1) (.tmp 6) rfl w.heap.size rfl M.lvl A n1 c B m1 d rfl N3 ?_; intro w4 N4 T4; have q0 := N4.c0; have q1 := N4.c1; have q2 := N4.c2)
    | fail)
  have W4 := W3.trans (T4.belowOne N3.lt)
  have hI4 : ∀ w' : World, Below w.heap.size w w' → Itms w' A n1 c M.items := fun w' hb => hIf.below hb
  have hK4 : ∀ w' : World, Below w.heap.size w w' → Kidl w' B m1 d M.kids := fun w' hb => hKf.below hb
  clear N3 W3 T4 hIf hKf hI hK
  clear q0 q1 q2
  have b0 : ∀ u : Grown w4, Below w.heap.size w u.to := fun u => W4.trans (u.ok.mono W4.size)
  have B0 := Lib.hid b0
  have q0 : ∀ u : Grown w4, u.to.cell? ⟨w.heap.size, 0, none⟩ = some (.int .i64 M.lvl) := Grown.cell N4.c0 N4.lt
  have q1 : ∀ u : Grown w4, u.to.cell? ⟨w.heap.size, 1, none⟩ = some (.slice A n1 c) := Grown.cell N4.c1 N4.lt
  have q2 : ∀ u : Grown w4, u.to.cell? ⟨w.heap.size, 2, none⟩ = some (.slice B m1 d) := Grown.cell N4.c2 N4.lt
  obtain ⟨r, hr⟩ : ∃ r, M.may = r := ⟨_, rfl⟩
  have Hr := Lib.hid hr
  have HI := Lib.hid hI4
  have HK := Lib.hid hK4
  clear hr hI4 hK4 b0
  simp only [Act.put]
  refine wp_region_grown (by kernel_rfl) (by kernel_rfl) ?_
  repeat (go_big_quiet_step (first
    | (go_at_call 11; exact Calls.grown (cnmay_any M r Hr.out A n1 c B m1 d _ (HI.out _ (B0.out _)) (HK.out _ (B0.out _)) (by omega) (by omega)))
    | (go_at_call 12; exact Calls.grown (refnmay_says M r Hr.out A n1 c B m1 d _ (HI.out _ (B0.out _)) (HK.out _ (B0.out _)) (by omega) (by omega)))
    | fail))
  refine wpQuiet_nil ?_
  rintro _ ⟨u, rfl⟩
  have hBu := B0.out u
  go_wp2
  go_ret
  exact ⟨by first | rfl | simp, hBu⟩
end Go.Proofs.YtmebdjafnefneaaDoor
