/- The law NodeReads: for every input it returns true, and what came in reads as it did. -/
import Derived.Test.YtmebdjafnefneaaDoorNodeFw
import Derived.Test.YtmebdjafnefneaaDoorNodeK
namespace Go.Proofs.YtmebdjafnefneaaDoor
open Go Go.RowKit Go.Proofs

set_option maxRecDepth 100000 in
set_option maxHeartbeats 16000000 in
theorem nodeReads_walk (A : Option Addr) (n c : Nat) (l : List UInt8) (addr : Int) (w : World) (hs : Sl w A n c l) (ht : Tab w) :
    Calls Tryd.prog 5 #[.slice A n c, .int .i64 addr] w fun e w' => e = .returned (.bool true) ∧ Below w.heap.size w w' := by
  have hcap := hs.cap
  have hmx := hs.max
  unfold maxLen at hmx
  go_enter Tryd.func5, Tryd.ntmps5
  go_wp2_with fail
  refine (nshown_any w ht).mono ?_
  rintro e w2 ⟨rfl, W2⟩
  by_cases h300 : 300 < n
  · have h1 : (300 : Int) < (n : Int) := by omega
    have h2 : (300 : Int) ≤ (c : Int) := by omega
    have hs3 := hs.take (k := 300) (by omega)
    have s2 := hs3.below W2
    obtain ⟨b, hb⟩ : ∃ b, l.take 300 = b := ⟨_, rfl⟩
    rw [hb] at s2
    clear hb
    have b3 : Below w2.heap.size w2 (w2.alloc (.cells #[] 5)) := (Below.refl _ _).alloc (Nat.le_refl _) _
    go_wp2_with (first
      | (at_builtin; refine wp_append_lit _ T22 rfl (.tmp 18) (.tmp 19) rfl w2.heap.size w2.heap.size rfl (own_empty w2 5) A 300 c b rfl (s2.below b3) (by omega) b3.size ?_; intro A4 c4 w4 own4 hb4)
      | fail)
    have b24 := b3.trans (hb4.mono b3.size)
    have W4 := W2.trans (b24.mono W2.size)
    have s4 := s2.below b24
    clear b3 hb4 b24 s2
    refine (cread_says A4 300 c4 b addr w4 own4.sl (ht.below W4 ht.1)).mono ?_
    unfold ReadSays
    obtain ⟨M, hM⟩ : ∃ M, rnN b addr = M := ⟨_, rfl⟩
    obtain ⟨E, hE⟩ : ∃ E, rnE b addr = E := ⟨_, rfl⟩
    rw [hM, hE]
    rintro e w5 ⟨A1, n1, c1, B1, m1, d1, rfl, hn1, hm1, I5, K5, hb5⟩
    have W5 := W4.trans (hb5.mono W4.size)
    have s5 := s4.below hb5
    clear own4 s4 hb5
    have N6 : NB (w5.alloc (.cells #[.int .i64 M.lvl, .slice A1 n1 c1, .slice B1 m1 d1] 25)) w5.heap.size M.lvl A1 n1 c1 B1 m1 d1 := NB.new w5 _ _ _ _ _ _ _ _
    have b6 : Below w5.heap.size w5 (w5.alloc (.cells #[.int .i64 M.lvl, .slice A1 n1 c1, .slice B1 m1 d1] 25)) := (Below.refl _ _).alloc (Nat.le_refl _) _
    go_wp2_with fail
    generalize w5.alloc (.cells #[.int .i64 M.lvl, .slice A1 n1 c1, .slice B1 m1 d1] 25) = w6 at N6 b6 ⊢
    have W6 := W5.trans (b6.mono W5.size)
    have s6 := s5.below b6
    have I6 := I5.below b6
    have K6 := K5.below b6
    refine (refread_any A 300 c b addr w6 s6).mono ?_
    unfold ReadSays
    rw [hM, hE]
    rintro e w7 ⟨A2, n2, c2, B2, m2, d2, rfl, hn2, hm2, I7, K7, hb7⟩
    have N7 := N6.below hb7 N6.lt
    have W7 := W6.trans (hb7.mono W6.size)
    have I67 := I6.below hb7
    have K67 := K6.below hb7
    obtain rfl : n1 = n2 := by rw [← I67.len, ← I7.len]
    obtain rfl : m1 = m2 := by rw [← K67.len, ← K7.len]
    clear s5 I5 K5 b6 N6 W6 s6 I6 K6 hb7 W5 hM hE
    have N8 : NB (w7.alloc (.cells #[.int .i64 M.lvl, .slice A2 n1 c2, .slice B2 m1 d2] 25)) w7.heap.size M.lvl A2 n1 c2 B2 m1 d2 := NB.new w7 _ _ _ _ _ _ _ _
    have b8 : Below w7.heap.size w7 (w7.alloc (.cells #[.int .i64 M.lvl, .slice A2 n1 c2, .slice B2 m1 d2] 25)) := (Below.refl _ _).alloc (Nat.le_refl _) _
    have N68 := N7.below b8 N7.lt
    have W8 := W7.trans (b8.mono W7.size)
    have I8 := I67.below b8
    have K8 := K67.below b8
    have I88 := I7.below b8
    have K88 := K7.below b8
    have q0 := N68.c0
    have q1 := N68.c1
    have q2 := N68.c2
    go_wp2_with fail
    generalize w7.alloc (.cells #[.int .i64 M.lvl, .slice A2 n1 c2, .slice B2 m1 d2] 25) = w8 at *
    refine (refsame_yes M A1 n1 c1 B1 m1 d1 A2 c2 B2 d2 w8 I8 K8 I88 K88).mono ?_
    rintro e w9 ⟨rfl, hb9⟩
    have W9 := W8.trans (hb9.mono W8.size)
    clear q0 q1 q2
    go_wp2
    go_ret
    exact ⟨by first | rfl | simp, W9⟩
  · have h1 : ¬ (300 : Int) < (n : Int) := by omega
    have s2 := hs.below W2
    obtain ⟨b, hb⟩ : ∃ b, l = b := ⟨_, rfl⟩
    rw [hb] at s2
    clear hb
    have b3 : Below w2.heap.size w2 (w2.alloc (.cells #[] 5)) := (Below.refl _ _).alloc (Nat.le_refl _) _
    go_wp2_with (first
      | (at_builtin; refine wp_append_lit _ T22 rfl (.tmp 18) (.tmp 19) rfl w2.heap.size w2.heap.size rfl (own_empty w2 5) A n c b rfl (s2.below b3) (by omega) b3.size ?_; intro A4 c4 w4 own4 hb4)
      | fail)
    have b24 := b3.trans (hb4.mono b3.size)
    have W4 := W2.trans (b24.mono W2.size)
    have s4 := s2.below b24
    clear b3 hb4 b24 s2
    refine (cread_says A4 n c4 b addr w4 own4.sl (ht.below W4 ht.1)).mono ?_
    unfold ReadSays
    obtain ⟨M, hM⟩ : ∃ M, rnN b addr = M := ⟨_, rfl⟩
    obtain ⟨E, hE⟩ : ∃ E, rnE b addr = E := ⟨_, rfl⟩
    rw [hM, hE]
    rintro e w5 ⟨A1, n1, c1, B1, m1, d1, rfl, hn1, hm1, I5, K5, hb5⟩
    have W5 := W4.trans (hb5.mono W4.size)
    have s5 := s4.below hb5
    clear own4 s4 hb5
    have N6 : NB (w5.alloc (.cells #[.int .i64 M.lvl, .slice A1 n1 c1, .slice B1 m1 d1] 25)) w5.heap.size M.lvl A1 n1 c1 B1 m1 d1 := NB.new w5 _ _ _ _ _ _ _ _
    have b6 : Below w5.heap.size w5 (w5.alloc (.cells #[.int .i64 M.lvl, .slice A1 n1 c1, .slice B1 m1 d1] 25)) := (Below.refl _ _).alloc (Nat.le_refl _) _
    go_wp2_with fail
    generalize w5.alloc (.cells #[.int .i64 M.lvl, .slice A1 n1 c1, .slice B1 m1 d1] 25) = w6 at N6 b6 ⊢
    have W6 := W5.trans (b6.mono W5.size)
    have s6 := s5.below b6
    have I6 := I5.below b6
    have K6 := K5.below b6
    refine (refread_any A n c b addr w6 s6).mono ?_
    unfold ReadSays
    rw [hM, hE]
    rintro e w7 ⟨A2, n2, c2, B2, m2, d2, rfl, hn2, hm2, I7, K7, hb7⟩
    have N7 := N6.below hb7 N6.lt
    have W7 := W6.trans (hb7.mono W6.size)
    have I67 := I6.below hb7
    have K67 := K6.below hb7
    obtain rfl : n1 = n2 := by rw [← I67.len, ← I7.len]
    obtain rfl : m1 = m2 := by rw [← K67.len, ← K7.len]
    clear s5 I5 K5 b6 N6 W6 s6 I6 K6 hb7 W5 hM hE
    have N8 : NB (w7.alloc (.cells #[.int .i64 M.lvl, .slice A2 n1 c2, .slice B2 m1 d2] 25)) w7.heap.size M.lvl A2 n1 c2 B2 m1 d2 := NB.new w7 _ _ _ _ _ _ _ _
    have b8 : Below w7.heap.size w7 (w7.alloc (.cells #[.int .i64 M.lvl, .slice A2 n1 c2, .slice B2 m1 d2] 25)) := (Below.refl _ _).alloc (Nat.le_refl _) _
    have N68 := N7.below b8 N7.lt
    have W8 := W7.trans (b8.mono W7.size)
    have I8 := I67.below b8
    have K8 := K67.below b8
    have I88 := I7.below b8
    have K88 := K7.below b8
    have q0 := N68.c0
    have q1 := N68.c1
    have q2 := N68.c2
    go_wp2_with fail
    generalize w7.alloc (.cells #[.int .i64 M.lvl, .slice A2 n1 c2, .slice B2 m1 d2] 25) = w8 at *
    refine (refsame_yes M A1 n1 c1 B1 m1 d1 A2 c2 B2 d2 w8 I8 K8 I88 K88).mono ?_
    rintro e w9 ⟨rfl, hb9⟩
    have W9 := W8.trans (hb9.mono W8.size)
    clear q0 q1 q2
    go_wp2
    go_ret
    exact ⟨by first | rfl | simp, W9⟩
end Go.Proofs.YtmebdjafnefneaaDoor
