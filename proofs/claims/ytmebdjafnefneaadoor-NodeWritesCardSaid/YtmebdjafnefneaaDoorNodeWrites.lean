/- The law NodeWrites: for every input it returns true, and what came in reads as it did. -/
import Derived.Test.YtmebdjafnefneaaDoorNodeZ
import Derived.Test.YtmebdjafnefneaaDoorNodeFw
namespace Go.Proofs.YtmebdjafnefneaaDoor
open Go Go.RowKit Go.Proofs

set_option maxRecDepth 100000 in
set_option maxHeartbeats 16000000 in
theorem nodeWrites_walk (N : Nd) (A : Option Addr) (n c : Nat) (B : Option Addr) (m d : Nat) (x0 x1 : Int) (w : World) (hI : Itms w A n c N.items) (hK : Kidl w B m d N.kids) (ht : Tab w) :
    Calls Tryd.prog 4 #[.agg #[.int .i64 N.lvl, .slice A n c, .slice B m d], .int .i64 x0, .int .i64 x1] w fun e w' => e = .returned (.bool true) ∧ Below w.heap.size w w' := by
  go_enter Tryd.func4, Tryd.ntmps4
  go_wp2_with fail
  have N1 : NB (w.alloc (.cells #[.int .i64 N.lvl, .slice A n c, .slice B m d] 25)) w.heap.size N.lvl A n c B m d := NB.new w _ _ _ _ _ _ _ _
  have W1 : Below w.heap.size w (w.alloc (.cells #[.int .i64 N.lvl, .slice A n c, .slice B m d] 25)) := (Below.refl _ _).alloc (Nat.le_refl _) _
  generalize w.alloc (.cells #[.int .i64 N.lvl, .slice A n c, .slice B m d] 25) = w1 at N1 W1 ⊢
  refine (nshown_any w1 (ht.below W1 ht.1)).mono ?_
  rintro e w2 ⟨rfl, hb2⟩
  have N2 := N1.below hb2 N1.lt
  have W2 := W1.trans (hb2.mono W1.size)
  have q0 := N2.c0
  have q1 := N2.c1
  have q2 := N2.c2
  clear N1 W1 hb2
  go_wp2_with fail
  refine (nfew_any N A n c B m d w2 (hI.below W2) (hK.below W2)).mono ?_
  rintro e w3 ⟨n1, m1, rfl, hn1, hm1, hI3, hK3, hb3⟩
  have hIf := fewI hI hI3
  have hKf := fewK hK hK3
  have N3 := N2.below hb3 N2.lt
  have W3 := W2.trans (hb3.mono W2.size)
  obtain ⟨M, hM⟩ : ∃ M, N.few = M := ⟨_, rfl⟩
  have hMl : M.lvl = N.lvl := by rw [← hM]; rfl
  rw [hM] at hIf hKf
  obtain ⟨l, hl⟩ : ∃ l, N.lvl = l := ⟨_, rfl⟩
  rw [hl] at N3 hMl ⊢
  clear q0 q1 q2 N2 W2 hb3 hI3 hK3 hM hl
  obtain rfl : M.lvl = l := hMl
  go_wp2_with (first
    | (refine wp_store_nd rfl (.tmp 3) (.tmp 14) rfl w.heap.size rfl M.lvl A n1 c B m1 d rfl N3 ?_; intro w4 N4 T4; have q0 := N4.c0; have q1 := N4.c1; have q2 := N4.c2)
    | fail)
  have W4 := W3.trans (T4.belowOne N3.lt)
  have hI4 : ∀ w' : World, Below w.heap.size w w' → Itms w' A n1 c M.items := fun w' hb => hIf.below hb
  have hK4 : ∀ w' : World, Below w.heap.size w w' → Kidl w' B m1 d M.kids := fun w' hb => hKf.below hb
  clear N3 W3 T4 hIf hKf hI hK
  obtain ⟨E, hE⟩ : ∃ E, writeE M x0 x1 = E := ⟨_, rfl⟩
  obtain ⟨X, hX⟩ : ∃ X : ByteArray, (⟨(writeB M x0 x1).toArray⟩ : ByteArray) = X := ⟨_, rfl⟩
  refine (cwrite_any M x0 x1 A n1 c B m1 d w4 (hI4 _ W4) (hK4 _ W4) (by omega) (by omega) (ht.below W4 ht.1)).mono ?_
  rw [hE]
  rintro e w5 ⟨A5, n5, c5, rfl, s5, hb5⟩
  have N5 := N4.below hb5 N4.lt
  have W5 := W4.trans (hb5.mono W4.size)
  clear q0 q1 q2 N4 W4 hb5
  have q0 := N5.c0
  have q1 := N5.c1
  have q2 := N5.c2
  go_wp2_with fail
  refine (refwrite_any M x0 x1 A n1 c B m1 d w5 (hI4 _ W5) (hK4 _ W5) (by omega) (by omega)).mono ?_
  rw [hE]
  rintro e w6 ⟨A6, n6, c6, rfl, s6, hb6⟩
  have W6 := W5.trans (hb6.mono W5.size)
  have t5 := strB (s5.below hb6)
  have t6 := strB s6
  rw [hX] at t5 t6
  clear q0 q1 q2 N5 W5 hb6 s5 s6 hX hE
  go_wp2
  go_ret
  exact ⟨by first | rfl | simp, W6⟩
end Go.Proofs.YtmebdjafnefneaaDoor
