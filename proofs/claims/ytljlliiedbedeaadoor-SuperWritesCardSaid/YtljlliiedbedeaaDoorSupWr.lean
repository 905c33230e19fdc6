/- The law SuperWrites: for every input it returns true, and what came in reads as it did. -/
import Derived.Test.YtljlliiedbedeaaDoorSupO
namespace Go.Proofs.YtljlliiedbedeaaDoor
open Go Go.RowKit Go.Proofs

attribute [local go_sem ↓] ldS_shut ldA_shut alS_shut bdS_shut ldX_shut
set_option maxRecDepth 100000 in
set_option maxHeartbeats 4000000 in
theorem superWrites_walk (S : Sp) (slot : Int) (w : World) (hf : S.fine) (ht : Tab w) :
    Calls Tryd.prog 3 #[.agg S.vs.toArray, .int .i64 slot] w fun e w' => e = .returned (.bool true) ∧ Below w.heap.size w w' := by
  have H1 := SB.new w S 26
  have b1 : Below w.heap.size w (w.alloc (.cells S.vs.toArray 26)) := (Below.refl _ _).alloc (Nat.le_refl _) _
  go_enter Tryd.func3, Tryd.ntmps3
  go_wp2_with fail
  generalize w.alloc (.cells S.vs.toArray 26) = w1 at H1 b1 ⊢
  refine (sshown_any w1 (ht.below b1 ht.1)).mono ?_
  rintro e w2 ⟨rfl, hb2⟩
  have H2 := H1.below hb2 H1.lt
  have W2 := b1.trans (hb2.mono b1.size)
  have l2 := H2.ld
  clear H1 b1 hb2
  go_wp2_with fail
  refine (swrite_any S slot hf w2 (ht.below W2 ht.1)).mono ?_
  rintro e w3 ⟨A3, n3, c3, rfl, own3, _, hb3⟩
  have H3 := H2.below hb3 H2.lt
  have W3 := W2.trans (hb3.mono W2.size)
  have l3 := H3.ld
  have s3 := own3.sl
  clear H2 W2 l2 own3 hb3
  obtain ⟨E, hE⟩ : ∃ E, swE S slot = E := ⟨_, rfl⟩
  obtain ⟨L, hL⟩ : ∃ L, swB S slot = L := ⟨_, rfl⟩
  rw [hL] at s3
  rw [hE]
  go_wp2_with fail
  refine (srefwrite_any S slot hf w3).mono ?_
  rw [hE, hL]
  rintro e w4 ⟨A4, n4, c4, rfl, s4, hb4⟩
  have H4 := H3.below hb4 H3.lt
  have W4 := W3.trans (hb4.mono W3.size)
  have s34 := s3.below hb4
  obtain ⟨m, hm⟩ : ∃ m, S.may = m := ⟨_, rfl⟩
  have l4 : ∀ u : Grown w4, (ldS (.pointer (some ⟨w.heap.size, 0, none⟩))).run Tryd.prog u.to = .ok (.agg S.vs.toArray) u.to := fun u => (H4.below u.ok H4.lt).ld
  have k1 : ∀ u : Grown w4, (convert 28 9 (.slice A3 n3 c3)).run Tryd.prog u.to = .ok (.string ⟨L.toArray⟩) u.to := fun u => str_bs (s34.below u.ok)
  have k2 : ∀ u : Grown w4, (convert 28 9 (.slice A4 n4 c4)).run Tryd.prog u.to = .ok (.string ⟨L.toArray⟩) u.to := fun u => str_bs (s4.below u.ok)
  obtain ⟨T, hT⟩ : ∃ T, (⟨L.toArray⟩ : ByteArray) = T := ⟨_, rfl⟩
  rw [hT] at k1 k2
  clear hT hL hE s3 s34 s4 l3 H3 W3 hb4 H4
  go_wp2_with fail
  refine wp_region_grown (by kernel_rfl) (by kernel_rfl) ?_
  repeat (go_big_quiet_step (first
    | (go_at_call 13; exact Calls.grown (smay_any S m hm hf _))
    | (go_at_call 14; exact Calls.grown (srefmay_any S m hm hf _))
    | fail))
  refine wpQuiet_nil ?_
  rintro _ ⟨u, rfl⟩
  have W5 := W4.trans (u.ok.mono W4.size)
  go_wp2
  go_ret
  exact ⟨by first | rfl | simp, W5⟩
end Go.Proofs.YtljlliiedbedeaaDoor
