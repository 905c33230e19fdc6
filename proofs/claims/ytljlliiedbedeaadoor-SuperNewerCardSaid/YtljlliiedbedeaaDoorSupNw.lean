/- The law SuperNewer: for every input it returns true, and what came in reads as it did. -/
import Derived.Test.YtljlliiedbedeaaDoorSupO
namespace Go.Proofs.YtljlliiedbedeaaDoor
open Go Go.RowKit Go.Proofs

attribute [local go_sem ↓] ldS_shut ldA_shut alS_shut bdS_shut ldX_shut
set_option maxRecDepth 100000 in
set_option maxHeartbeats 8000000 in
theorem superNewer_walk (A : Option Addr) (n c : Nat) (l : List UInt8) (B : Option Addr) (m d : Nat) (k : List UInt8) (w : World) (hs : Sl w A n c l) (hk : Sl w B m d k) (ht : Tab w) :
    Calls Tryd.prog 5 #[.slice A n c, .slice B m d] w fun e w' => e = .returned (.bool true) ∧ Below w.heap.size w w' := by
  have hcap := hs.cap
  have hmx := hs.max
  have hcap2 := hk.cap
  have hmx2 := hk.max
  unfold maxLen at hmx hmx2
  have hal := alS_run true
  have heq := fun S w' => eql_sp S w'
  have hgd := grd_sp
  go_enter Tryd.func5, Tryd.ntmps5
  go_wp2_with fail
  refine (sshown_any w ht).mono ?_
  rintro e w2 ⟨rfl, W2⟩
  by_cases h300 : 300 < n
  · have h1 : (300 : Int) < (n : Int) := by omega
    have h2 : (300 : Int) ≤ (c : Int) := by omega
    have sa := (hs.take (k := 300) (by omega)).below W2
    by_cases g300 : 300 < m
    · have g1 : (300 : Int) < (m : Int) := by omega
      have g2 : (300 : Int) ≤ (d : Int) := by omega
      have sb := (hk.take (k := 300) (by omega)).below W2
      obtain ⟨a, hqa⟩ : ∃ a, l.take 300 = a := ⟨_, rfl⟩
      obtain ⟨b, hqb⟩ : ∃ b, k.take 300 = b := ⟨_, rfl⟩
      rw [hqa] at sa
      rw [hqb] at sb
      clear hqa hqb
      have b3 : Below w2.heap.size w2 (w2.alloc (.cells #[] 5)) := (Below.refl _ _).alloc (Nat.le_refl _) _
      go_wp2_with (first
        | (have hh := own4; at_builtin; refine wp_append_lit _ T22 rfl (.tmp 27) (.tmp 28) rfl w4.heap.size w4.heap.size rfl (own_empty w4 5) B 300 d b rfl ((sb.below b24).below b5) (by omega) b5.size ?_; intro A6 c6 w6 own6 hb6)
        | (at_builtin; refine wp_append_lit _ T22 rfl (.tmp 24) (.tmp 25) rfl w2.heap.size w2.heap.size rfl (own_empty w2 5) A 300 c a rfl (sa.below b3) (by omega) b3.size ?_; intro A4 c4 w4 own4 hb4; have b24 := b3.trans (hb4.mono b3.size); have b5 : Below w4.heap.size w4 (w4.alloc (.cells #[] 5)) := (Below.refl _ _).alloc (Nat.le_refl _) _)
        | fail)
      have b46 := b5.trans (hb6.mono b5.size)
      have b26 := b24.trans (b46.mono b24.size)
      have W6 := W2.trans (b26.mono W2.size)
      have sa6 := sa.below b26
      have sb6 := sb.below b26
      have own46 := own4.below b46
      clear b3 hb4 b24 b5 hb6 b46 b26 sa sb own4
      refine Calls.mono (snewer_any A4 300 c4 a A6 300 c6 b w6 own46.sl own6.sl (ht.below W6 ht.1)) ?_
      obtain ⟨R, hR⟩ : ∃ R, snS a b = R := ⟨_, rfl⟩
      obtain ⟨I, hI⟩ : ∃ I, snI a b = I := ⟨_, rfl⟩
      obtain ⟨E, hE⟩ : ∃ E, snE a b = E := ⟨_, rfl⟩
      rw [hR, hI, hE]
      rintro e w7 ⟨rfl, hb7⟩
      have W7 := W6.trans (hb7.mono W6.size)
      have sa7 := sa6.below hb7
      have sb7 := sb6.below hb7
      have H7 := SB.new w7 Sp.zero 26
      have b7 : Below w7.heap.size w7 (w7.alloc (.cells Sp.zero.vs.toArray 26)) := (Below.refl _ _).alloc (Nat.le_refl _) _
      clear own46 own6 sa6 sb6 hb7 W6
      go_wp2_with (first
        | (refine wp_store_sp rfl _ _ rfl w7.heap.size rfl R Sp.zero rfl H7 ?_; intro w8 H8 hb8 T8; have bb8 := b7.trans (hb8 _ (Nat.le_refl _)); have W8 := W7.trans (bb8.mono W7.size); have sa8 := sa7.below bb8; have sb8 := sb7.below bb8)
        | fail)
      refine Calls.mono (srefnewer_any A 300 c a B 300 d b w8 sa8 sb8) ?_
      rw [hR, hI, hE]
      rintro e w9 ⟨rfl, hb9⟩
      have W9 := W8.trans (hb9.mono W8.size)
      have H9 := H8.below hb9 H8.lt
      have H10 := SB.new w9 Sp.zero 26
      have b10 : Below w9.heap.size w9 (w9.alloc (.cells Sp.zero.vs.toArray 26)) := (Below.refl _ _).alloc (Nat.le_refl _) _
      clear H7 b7 hb8 T8 bb8 W8 H8 hb9 sa7 sb7 sa8 sb8 W7
      go_wp2_with (first
        | (refine wp_store_sp rfl _ _ rfl w9.heap.size rfl R Sp.zero rfl H10 ?_; intro w11 H11 hb11 T11; have bb11 := b10.trans (hb11 _ (Nat.le_refl _)); have W11 := W9.trans (bb11.mono W9.size); have H911 := H9.below bb11 H9.lt; have l1 := H11.ld; have l2 := H911.ld)
        | fail)
      go_ret
      exact ⟨by first | rfl | simp, W11⟩
    · have g1 : ¬ (300 : Int) < (m : Int) := by omega
      have sb := hk.below W2
      obtain ⟨a, hqa⟩ : ∃ a, l.take 300 = a := ⟨_, rfl⟩
      obtain ⟨b, hqb⟩ : ∃ b, k = b := ⟨_, rfl⟩
      rw [hqa] at sa
      rw [hqb] at sb
      clear hqa hqb
      have b3 : Below w2.heap.size w2 (w2.alloc (.cells #[] 5)) := (Below.refl _ _).alloc (Nat.le_refl _) _
      go_wp2_with (first
        | (have hh := own4; at_builtin; refine wp_append_lit _ T22 rfl (.tmp 27) (.tmp 28) rfl w4.heap.size w4.heap.size rfl (own_empty w4 5) B m d b rfl ((sb.below b24).below b5) (by omega) b5.size ?_; intro A6 c6 w6 own6 hb6)
        | (at_builtin; refine wp_append_lit _ T22 rfl (.tmp 24) (.tmp 25) rfl w2.heap.size w2.heap.size rfl (own_empty w2 5) A 300 c a rfl (sa.below b3) (by omega) b3.size ?_; intro A4 c4 w4 own4 hb4; have b24 := b3.trans (hb4.mono b3.size); have b5 : Below w4.heap.size w4 (w4.alloc (.cells #[] 5)) := (Below.refl _ _).alloc (Nat.le_refl _) _)
        | fail)
      have b46 := b5.trans (hb6.mono b5.size)
      have b26 := b24.trans (b46.mono b24.size)
      have W6 := W2.trans (b26.mono W2.size)
      have sa6 := sa.below b26
      have sb6 := sb.below b26
      have own46 := own4.below b46
      clear b3 hb4 b24 b5 hb6 b46 b26 sa sb own4
      refine Calls.mono (snewer_any A4 300 c4 a A6 m c6 b w6 own46.sl own6.sl (ht.below W6 ht.1)) ?_
      obtain ⟨R, hR⟩ : ∃ R, snS a b = R := ⟨_, rfl⟩
      obtain ⟨I, hI⟩ : ∃ I, snI a b = I := ⟨_, rfl⟩
      obtain ⟨E, hE⟩ : ∃ E, snE a b = E := ⟨_, rfl⟩
      rw [hR, hI, hE]
      rintro e w7 ⟨rfl, hb7⟩
      have W7 := W6.trans (hb7.mono W6.size)
      have sa7 := sa6.below hb7
      have sb7 := sb6.below hb7
      have H7 := SB.new w7 Sp.zero 26
      have b7 : Below w7.heap.size w7 (w7.alloc (.cells Sp.zero.vs.toArray 26)) := (Below.refl _ _).alloc (Nat.le_refl _) _
      clear own46 own6 sa6 sb6 hb7 W6
      go_wp2_with (first
        | (refine wp_store_sp rfl _ _ rfl w7.heap.size rfl R Sp.zero rfl H7 ?_; intro w8 H8 hb8 T8; have bb8 := b7.trans (hb8 _ (Nat.le_refl _)); have W8 := W7.trans (bb8.mono W7.size); have sa8 := sa7.below bb8; have sb8 := sb7.below bb8)
        | fail)
      refine Calls.mono (srefnewer_any A 300 c a B m d b w8 sa8 sb8) ?_
      rw [hR, hI, hE]
      rintro e w9 ⟨rfl, hb9⟩
      have W9 := W8.trans (hb9.mono W8.size)
      have H9 := H8.below hb9 H8.lt
      have H10 := SB.new w9 Sp.zero 26
      have b10 : Below w9.heap.size w9 (w9.alloc (.cells Sp.zero.vs.toArray 26)) := (Below.refl _ _).alloc (Nat.le_refl _) _
      clear H7 b7 hb8 T8 bb8 W8 H8 hb9 sa7 sb7 sa8 sb8 W7
      go_wp2_with (first
        | (refine wp_store_sp rfl _ _ rfl w9.heap.size rfl R Sp.zero rfl H10 ?_; intro w11 H11 hb11 T11; have bb11 := b10.trans (hb11 _ (Nat.le_refl _)); have W11 := W9.trans (bb11.mono W9.size); have H911 := H9.below bb11 H9.lt; have l1 := H11.ld; have l2 := H911.ld)
        | fail)
      go_ret
      exact ⟨by first | rfl | simp, W11⟩
  · have h1 : ¬ (300 : Int) < (n : Int) := by omega
    have sa := hs.below W2
    by_cases g300 : 300 < m
    · have g1 : (300 : Int) < (m : Int) := by omega
      have g2 : (300 : Int) ≤ (d : Int) := by omega
      have sb := (hk.take (k := 300) (by omega)).below W2
      obtain ⟨a, hqa⟩ : ∃ a, l = a := ⟨_, rfl⟩
      obtain ⟨b, hqb⟩ : ∃ b, k.take 300 = b := ⟨_, rfl⟩
      rw [hqa] at sa
      rw [hqb] at sb
      clear hqa hqb
      have b3 : Below w2.heap.size w2 (w2.alloc (.cells #[] 5)) := (Below.refl _ _).alloc (Nat.le_refl _) _
      go_wp2_with (first
        | (have hh := own4; at_builtin; refine wp_append_lit _ T22 rfl (.tmp 27) (.tmp 28) rfl w4.heap.size w4.heap.size rfl (own_empty w4 5) B 300 d b rfl ((sb.below b24).below b5) (by omega) b5.size ?_; intro A6 c6 w6 own6 hb6)
        | (at_builtin; refine wp_append_lit _ T22 rfl (.tmp 24) (.tmp 25) rfl w2.heap.size w2.heap.size rfl (own_empty w2 5) A n c a rfl (sa.below b3) (by omega) b3.size ?_; intro A4 c4 w4 own4 hb4; have b24 := b3.trans (hb4.mono b3.size); have b5 : Below w4.heap.size w4 (w4.alloc (.cells #[] 5)) := (Below.refl _ _).alloc (Nat.le_refl _) _)
        | fail)
      have b46 := b5.trans (hb6.mono b5.size)
      have b26 := b24.trans (b46.mono b24.size)
      have W6 := W2.trans (b26.mono W2.size)
      have sa6 := sa.below b26
      have sb6 := sb.below b26
      have own46 := own4.below b46
      clear b3 hb4 b24 b5 hb6 b46 b26 sa sb own4
      refine Calls.mono (snewer_any A4 n c4 a A6 300 c6 b w6 own46.sl own6.sl (ht.below W6 ht.1)) ?_
      obtain ⟨R, hR⟩ : ∃ R, snS a b = R := ⟨_, rfl⟩
      obtain ⟨I, hI⟩ : ∃ I, snI a b = I := ⟨_, rfl⟩
      obtain ⟨E, hE⟩ : ∃ E, snE a b = E := ⟨_, rfl⟩
      rw [hR, hI, hE]
      rintro e w7 ⟨rfl, hb7⟩
      have W7 := W6.trans (hb7.mono W6.size)
      have sa7 := sa6.below hb7
      have sb7 := sb6.below hb7
      have H7 := SB.new w7 Sp.zero 26
      have b7 : Below w7.heap.size w7 (w7.alloc (.cells Sp.zero.vs.toArray 26)) := (Below.refl _ _).alloc (Nat.le_refl _) _
      clear own46 own6 sa6 sb6 hb7 W6
      go_wp2_with (first
        | (refine wp_store_sp rfl _ _ rfl w7.heap.size rfl R Sp.zero rfl H7 ?_; intro w8 H8 hb8 T8; have bb8 := b7.trans (hb8 _ (Nat.le_refl _)); have W8 := W7.trans (bb8.mono W7.size); have sa8 := sa7.below bb8; have sb8 := sb7.below bb8)
        | fail)
      refine Calls.mono (srefnewer_any A n c a B 300 d b w8 sa8 sb8) ?_
      rw [hR, hI, hE]
      rintro e w9 ⟨rfl, hb9⟩
      have W9 := W8.trans (hb9.mono W8.size)
      have H9 := H8.below hb9 H8.lt
      have H10 := SB.new w9 Sp.zero 26
      have b10 : Below w9.heap.size w9 (w9.alloc (.cells Sp.zero.vs.toArray 26)) := (Below.refl _ _).alloc (Nat.le_refl _) _
      clear H7 b7 hb8 T8 bb8 W8 H8 hb9 sa7 sb7 sa8 sb8 W7
      go_wp2_with (first
        | (refine wp_store_sp rfl _ _ rfl w9.heap.size rfl R Sp.zero rfl H10 ?_; intro w11 H11 hb11 T11; have bb11 := b10.trans (hb11 _ (Nat.le_refl _)); have W11 := W9.trans (bb11.mono W9.size); have H911 := H9.below bb11 H9.lt; have l1 := H11.ld; have l2 := H911.ld)
        | fail)
      go_ret
      exact ⟨by first | rfl | simp, W11⟩
    · have g1 : ¬ (300 : Int) < (m : Int) := by omega
      have sb := hk.below W2
      obtain ⟨a, hqa⟩ : ∃ a, l = a := ⟨_, rfl⟩
      obtain ⟨b, hqb⟩ : ∃ b, k = b := ⟨_, rfl⟩
      rw [hqa] at sa
      rw [hqb] at sb
      clear hqa hqb
      have b3 : Below w2.heap.size w2 (w2.alloc (.cells #[] 5)) := (Below.refl _ _).alloc (Nat.le_refl _) _
      go_wp2_with (first
        | (have hh := own4; at_builtin; refine wp_append_lit _ T22 rfl (.tmp 27) (.tmp 28) rfl w4.heap.size w4.heap.size rfl (own_empty w4 5) B m d b rfl ((sb.below b24).below b5) (by omega) b5.size ?_; intro A6 c6 w6 own6 hb6)
        | (at_builtin; refine wp_append_lit _ T22 rfl (.tmp 24) (.tmp 25) rfl w2.heap.size w2.heap.size rfl (own_empty w2 5) A n c a rfl (sa.below b3) (by omega) b3.size ?_; intro A4 c4 w4 own4 hb4; have b24 := b3.trans (hb4.mono b3.size); have b5 : Below w4.heap.size w4 (w4.alloc (.cells #[] 5)) := (Below.refl _ _).alloc (Nat.le_refl _) _)
        | fail)
      have b46 := b5.trans (hb6.mono b5.size)
      have b26 := b24.trans (b46.mono b24.size)
      have W6 := W2.trans (b26.mono W2.size)
      have sa6 := sa.below b26
      have sb6 := sb.below b26
      have own46 := own4.below b46
      clear b3 hb4 b24 b5 hb6 b46 b26 sa sb own4
      refine Calls.mono (snewer_any A4 n c4 a A6 m c6 b w6 own46.sl own6.sl (ht.below W6 ht.1)) ?_
      obtain ⟨R, hR⟩ : ∃ R, snS a b = R := ⟨_, rfl⟩
      obtain ⟨I, hI⟩ : ∃ I, snI a b = I := ⟨_, rfl⟩
      obtain ⟨E, hE⟩ : ∃ E, snE a b = E := ⟨_, rfl⟩
      rw [hR, hI, hE]
      rintro e w7 ⟨rfl, hb7⟩
      have W7 := W6.trans (hb7.mono W6.size)
      have sa7 := sa6.below hb7
      have sb7 := sb6.below hb7
      have H7 := SB.new w7 Sp.zero 26
      have b7 : Below w7.heap.size w7 (w7.alloc (.cells Sp.zero.vs.toArray 26)) := (Below.refl _ _).alloc (Nat.le_refl _) _
      clear own46 own6 sa6 sb6 hb7 W6
      go_wp2_with (first
        | (refine wp_store_sp rfl _ _ rfl w7.heap.size rfl R Sp.zero rfl H7 ?_; intro w8 H8 hb8 T8; have bb8 := b7.trans (hb8 _ (Nat.le_refl _)); have W8 := W7.trans (bb8.mono W7.size); have sa8 := sa7.below bb8; have sb8 := sb7.below bb8)
        | fail)
      refine Calls.mono (srefnewer_any A n c a B m d b w8 sa8 sb8) ?_
      rw [hR, hI, hE]
      rintro e w9 ⟨rfl, hb9⟩
      have W9 := W8.trans (hb9.mono W8.size)
      have H9 := H8.below hb9 H8.lt
      have H10 := SB.new w9 Sp.zero 26
      have b10 : Below w9.heap.size w9 (w9.alloc (.cells Sp.zero.vs.toArray 26)) := (Below.refl _ _).alloc (Nat.le_refl _) _
      clear H7 b7 hb8 T8 bb8 W8 H8 hb9 sa7 sb7 sa8 sb8 W7
      go_wp2_with (first
        | (refine wp_store_sp rfl _ _ rfl w9.heap.size rfl R Sp.zero rfl H10 ?_; intro w11 H11 hb11 T11; have bb11 := b10.trans (hb11 _ (Nat.le_refl _)); have W11 := W9.trans (bb11.mono W9.size); have H911 := H9.below bb11 H9.lt; have l1 := H11.ld; have l2 := H911.ld)
        | fail)
      go_ret
      exact ⟨by first | rfl | simp, W11⟩
end Go.Proofs.YtljlliiedbedeaaDoor
