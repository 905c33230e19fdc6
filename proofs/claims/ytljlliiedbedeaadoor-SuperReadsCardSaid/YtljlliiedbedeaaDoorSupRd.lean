/- The law SuperReads: for every input it returns true, and what came in reads as it did. -/
import Derived.Test.YtljlliiedbedeaaDoorSupO
namespace Go.Proofs.YtljlliiedbedeaaDoor
open Go Go.RowKit Go.Proofs

attribute [local go_sem ↓] ldS_shut ldA_shut alS_shut bdS_shut ldX_shut
set_option maxRecDepth 100000 in
set_option maxHeartbeats 8000000 in
theorem superReads_walk (A : Option Addr) (n c : Nat) (l : List UInt8) (slot : Int) (w : World) (hs : Sl w A n c l) (ht : Tab w) :
    Calls Tryd.prog 4 #[.slice A n c, .int .i64 slot] w fun e w' => e = .returned (.bool true) ∧ Below w.heap.size w w' := by
  have hcap := hs.cap
  have hmx := hs.max
  unfold maxLen at hmx
  have hal := alS_run true
  have heq := fun S w' => eql_sp S w'
  have hgd := grd_sp
  go_enter Tryd.func4, Tryd.ntmps4
  go_wp2_with fail
  refine (sshown_any w ht).mono ?_
  rintro e w2 ⟨rfl, W2⟩
  by_cases h300 : 300 < n
  · have h1 : (300 : Int) < (n : Int) := by omega
    have h2 : (300 : Int) ≤ (c : Int) := by omega
    have hs3 := hs.take (k := 300) (by omega)
    have s2 := hs3.below W2
    obtain ⟨b, hb⟩ : ∃ b, l.take 300 = b := ⟨_, rfl⟩
    rw [hb] at s2
    clear hb
    have b3 : Below w2.heap.size w2 (w2.alloc (.cells #[] 5)) := (Below.refl _ _).alloc (Nat.le_refl _) _
    go_wp2_with (first
      | (at_builtin; refine wp_append_lit _ T22 rfl (.tmp 17) (.tmp 18) rfl w2.heap.size w2.heap.size rfl (own_empty w2 5) A 300 c b rfl (s2.below b3) (by omega) b3.size ?_; intro A4 c4 w4 own4 hb4)
      | fail)
    have b24 := b3.trans (hb4.mono b3.size)
    have W4 := W2.trans (b24.mono W2.size)
    have s4 := s2.below b24
    clear b3 hb4 b24 s2
    refine Calls.mono (sread_any A4 300 c4 b slot w4 own4.sl (ht.below W4 ht.1)) ?_
    obtain ⟨R, hR⟩ : ∃ R, srS b slot = R := ⟨_, rfl⟩
    obtain ⟨E, hE⟩ : ∃ E, srE b slot = E := ⟨_, rfl⟩
    rw [hR, hE]
    rintro e w5 ⟨rfl, hb5⟩
    have W5 := W4.trans (hb5.mono W4.size)
    have s5 := s4.below hb5
    have H5 := SB.new w5 Sp.zero 26
    have b5 : Below w5.heap.size w5 (w5.alloc (.cells Sp.zero.vs.toArray 26)) := (Below.refl _ _).alloc (Nat.le_refl _) _
    clear own4 s4 hb5
    go_wp2_with (first
      | (refine wp_store_sp rfl _ _ rfl w5.heap.size rfl R Sp.zero rfl H5 ?_; intro w6 H6 hb6 T6; have bb6 := b5.trans (hb6 _ (Nat.le_refl _)); have W6 := W5.trans (bb6.mono W5.size); have s6 := s5.below bb6)
      | fail)
    refine Calls.mono (srefread_any A 300 c b slot w6 s6) ?_
    rw [hR, hE]
    rintro e w7 ⟨rfl, hb7⟩
    have W7 := W6.trans (hb7.mono W6.size)
    have H7 := H6.below hb7 H6.lt
    have H8 := SB.new w7 Sp.zero 26
    have b8 : Below w7.heap.size w7 (w7.alloc (.cells Sp.zero.vs.toArray 26)) := (Below.refl _ _).alloc (Nat.le_refl _) _
    clear H5 b5 hb6 T6 bb6 W6 H6 hb7 s5 s6 W5
    go_wp2_with (first
      | (refine wp_store_sp rfl _ _ rfl w7.heap.size rfl R Sp.zero rfl H8 ?_; intro w9 H9 hb9 T9; have bb9 := b8.trans (hb9 _ (Nat.le_refl _)); have W9 := W7.trans (bb9.mono W7.size); have H79 := H7.below bb9 H7.lt; have l1 := H9.ld; have l2 := H79.ld)
      | fail)
    go_ret
    exact ⟨by first | rfl | simp, W9⟩
  · have h1 : ¬ (300 : Int) < (n : Int) := by omega
    have s2 := hs.below W2
    obtain ⟨b, hb⟩ : ∃ b, l = b := ⟨_, rfl⟩
    rw [hb] at s2
    clear hb
    have b3 : Below w2.heap.size w2 (w2.alloc (.cells #[] 5)) := (Below.refl _ _).alloc (Nat.le_refl _) _
    go_wp2_with (first
      | (at_builtin; refine wp_append_lit _ T22 rfl (.tmp 17) (.tmp 18) rfl w2.heap.size w2.heap.size rfl (own_empty w2 5) A n c b rfl (s2.below b3) (by omega) b3.size ?_; intro A4 c4 w4 own4 hb4)
      | fail)
    have b24 := b3.trans (hb4.mono b3.size)
    have W4 := W2.trans (b24.mono W2.size)
    have s4 := s2.below b24
    clear b3 hb4 b24 s2
    refine Calls.mono (sread_any A4 n c4 b slot w4 own4.sl (ht.below W4 ht.1)) ?_
    obtain ⟨R, hR⟩ : ∃ R, srS b slot = R := ⟨_, rfl⟩
    obtain ⟨E, hE⟩ : ∃ E, srE b slot = E := ⟨_, rfl⟩
    rw [hR, hE]
    rintro e w5 ⟨rfl, hb5⟩
    have W5 := W4.trans (hb5.mono W4.size)
    have s5 := s4.below hb5
    have H5 := SB.new w5 Sp.zero 26
    have b5 : Below w5.heap.size w5 (w5.alloc (.cells Sp.zero.vs.toArray 26)) := (Below.refl _ _).alloc (Nat.le_refl _) _
    clear own4 s4 hb5
    go_wp2_with (first
      | (refine wp_store_sp rfl _ _ rfl w5.heap.size rfl R Sp.zero rfl H5 ?_; intro w6 H6 hb6 T6; have bb6 := b5.trans (hb6 _ (Nat.le_refl _)); have W6 := W5.trans (bb6.mono W5.size); have s6 := s5.below bb6)
      | fail)
    refine Calls.mono (srefread_any A n c b slot w6 s6) ?_
    rw [hR, hE]
    rintro e w7 ⟨rfl, hb7⟩
    have W7 := W6.trans (hb7.mono W6.size)
    have H7 := H6.below hb7 H6.lt
    have H8 := SB.new w7 Sp.zero 26
    have b8 : Below w7.heap.size w7 (w7.alloc (.cells Sp.zero.vs.toArray 26)) := (Below.refl _ _).alloc (Nat.le_refl _) _
    clear H5 b5 hb6 T6 bb6 W6 H6 hb7 s5 s6 W5
    go_wp2_with (first
      | (refine wp_store_sp rfl _ _ rfl w7.heap.size rfl R Sp.zero rfl H8 ?_; intro w9 H9 hb9 T9; have bb9 := b8.trans (hb9 _ (Nat.le_refl _)); have W9 := W7.trans (bb9.mono W7.size); have H79 := H7.below bb9 H7.lt; have l1 := H9.ld; have l2 := H79.ld)
      | fail)
    go_ret
    exact ⟨by first | rfl | simp, W9⟩
end Go.Proofs.YtljlliiedbedeaaDoor
