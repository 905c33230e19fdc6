/- Inodes: the walk of the law InodeTakes. -/
import Derived.Test.YtimlhhemfipooaaInK
namespace Go.Proofs.Ytimlhhemfipooaa
open Go Go.RowKit Go.Proofs

set_option maxRecDepth 100000 in
set_option maxHeartbeats 4000000 in
theorem inodeTakes_walk (A : Option Addr) (n c : Nat) (l : List UInt8) (w : World) (h : Sl w A n c l) :
    Calls Try.prog 4 #[.slice A n c] w fun e w' => e = .returned (.bool true) ∧ Below w.heap.size w w' := by
  have hg1 := grd_ino .eql (.inl rfl)
  have hg2 := grd_ent .eql (.inl rfl)
  have hq1 := eq_ino
  have hq2 := eq_ent
  go_enter Try.func4, Try.ntmps4
  go_wp2_with fail
  refine (shown_any w).mono ?_
  rintro e w1 ⟨rfl, hb1⟩
  have h1 := h.below hb1
  go_wp2_with fail
  refine (few_any A n c l w1 h1).mono ?_
  rintro e w1' ⟨m, hm, hmn, rfl, rfl⟩
  have h2 := h1.take hmn
  obtain ⟨L, hL⟩ : ∃ L, l.take m = L := ⟨_, rfl⟩
  rw [hL] at h2
  clear hL h1 h hmn
  go_wp2_with (at_builtin; refine wp_append_lit _ T22 rfl _ _ rfl w1.heap.size w1.heap.size rfl (own_empty w1 5) A m c L rfl (h2.alloc _) (by omega) (by simp) ?_)
  intro A3 c3 w3 own3 b3
  have b3 := below_new _ (b3.mono (B' := w1.heap.size) (by simp)) (Nat.le_refl _)
  have h3 := h2.below b3
  go_wp2_with fail
  refine (iTake_any A3 m c3 L w3 own3.sl (by omega)).mono ?_
  rintro e w4 ⟨rfl, b4⟩
  have h4 := h3.below b4
  have I5 : IB (w4.alloc (.cells #[.int .i64 (inoT L).kind, .int .i64 (inoT L).links, .int .i64 (inoT L).size] 23)) w4.heap.size (inoT L).vs := IB.new w4 _ _
  have b5 : Below w4.heap.size w4 (w4.alloc (.cells #[.int .i64 (inoT L).kind, .int .i64 (inoT L).links, .int .i64 (inoT L).size] 23)) := blA
  go_wp2_with fail
  generalize w4.alloc (.cells #[.int .i64 (inoT L).kind, .int .i64 (inoT L).links, .int .i64 (inoT L).size] 23) = w5 at I5 b5 ⊢
  have B5 := btr (btr (btr hb1 b3) b4) b5
  have h5 := h4.below b5
  clear hb1 b3 b4 h3 h4 own3 h2
  refine (rTake_any A m c L w5 h5 (by omega)).mono ?_
  rintro e w6 ⟨rfl, b6⟩
  have h6 := h5.below b6
  have J6 := I5.below b6 I5.lt
  have I7 : IB (w6.alloc (.cells #[.int .i64 (inoT L).kind, .int .i64 (inoT L).links, .int .i64 (inoT L).size] 23)) w6.heap.size (inoT L).vs := IB.new w6 _ _
  have b7 : Below w6.heap.size w6 (w6.alloc (.cells #[.int .i64 (inoT L).kind, .int .i64 (inoT L).links, .int .i64 (inoT L).size] 23)) := blA
  have s7 := h6.below b7
  have J7 := J6.below b7 J6.lt
  have B7 := btr (btr B5 b6) b7
  have ow7 : Own ((w6.alloc (.cells #[.int .i64 (inoT L).kind, .int .i64 (inoT L).links, .int .i64 (inoT L).size] 23)).alloc (.cells #[] 5)) (w6.heap.size + 1) 5 (some ⟨w6.heap.size + 1, 0, none⟩) 0 0 [] := by
    have := own_empty (w6.alloc (.cells #[.int .i64 (inoT L).kind, .int .i64 (inoT L).links, .int .i64 (inoT L).size] 23)) 5
    simpa using this
  have s8 := s7.alloc (.cells #[] 5)
  clear I5 b5 B5 h5 b6 h6 J6 b7
  go_wp2_with (at_builtin; refine wp_append_lit _ T22 rfl _ _ rfl (w6.heap.size + 1) (w6.heap.size + 1) rfl ow7 A m c L rfl s8 (by omega) (by simp) ?_)
  intro A9 c9 w9 own9 b9
  have b9 := below_new _ (b9.mono (B' := w6.heap.size + 1) (by simp)) (by simp)
  have b9 : Below (w6.alloc (.cells #[.int .i64 (inoT L).kind, .int .i64 (inoT L).links, .int .i64 (inoT L).size] 23)).heap.size (w6.alloc (.cells #[.int .i64 (inoT L).kind, .int .i64 (inoT L).links, .int .i64 (inoT L).size] 23)) w9 := b9.mono (by simp)
  have h9 := s7.below b9
  have J9 := J7.below b9 J7.lt
  have I9 := I7.below b9 I7.lt
  have B9 := btr B7 b9
  clear ow7 s8 s7 J7 I7 B7 b9
  go_wp2_with fail
  refine (iTakeEntry_says A9 m c9 L w9 own9.sl (by omega)).mono ?_
  rintro e w10 ⟨rfl, b10⟩
  have h10 := h9.below b10
  have I10 := I9.below b10 I9.lt
  have J10 := J9.below b10 J9.lt
  have B10 := btr B9 b10
  have E11 : IB (w10.alloc (.cells #[.string (entT L).name, .int .i64 (entT L).ino, .int .i64 (entT L).kind] 25)) w10.heap.size (entT L).vs := IB.new w10 _ _
  have b11 : Below w10.heap.size w10 (w10.alloc (.cells #[.string (entT L).name, .int .i64 (entT L).ino, .int .i64 (entT L).kind] 25)) := blA
  clear own9 I9 J9 h9 B9 b10
  go_wp2_with fail
  generalize w10.alloc (.cells #[.string (entT L).name, .int .i64 (entT L).ino, .int .i64 (entT L).kind] 25) = w11 at E11 b11 ⊢
  have h11 := h10.below b11
  have I11 := I10.below b11 I10.lt
  have J11 := J10.below b11 J10.lt
  have B11 := btr B10 b11
  clear I10 J10 h10 B10 b11
  refine (rTakeEntry_any A m c L w11 h11 (by omega)).mono ?_
  rintro e w12 ⟨rfl, b12⟩
  have h12 := h11.below b12
  have I12 := I11.below b12 I11.lt
  have J12 := J11.below b12 J11.lt
  have E12 := E11.below b12 E11.lt
  have B12 := btr B11 b12
  have F13 : IB (w12.alloc (.cells #[.string (entT L).name, .int .i64 (entT L).ino, .int .i64 (entT L).kind] 25)) w12.heap.size (entT L).vs := IB.new w12 _ _
  have b13 : Below w12.heap.size w12 (w12.alloc (.cells #[.string (entT L).name, .int .i64 (entT L).ino, .int .i64 (entT L).kind] 25)) := blA
  have ow13 : Own ((w12.alloc (.cells #[.string (entT L).name, .int .i64 (entT L).ino, .int .i64 (entT L).kind] 25)).alloc (.cells #[] 5)) (w12.heap.size + 1) 5 (some ⟨w12.heap.size + 1, 0, none⟩) 0 0 [] := by
    have := own_empty (w12.alloc (.cells #[.string (entT L).name, .int .i64 (entT L).ino, .int .i64 (entT L).kind] 25)) 5
    simpa using this
  have h13 := h12.below b13
  have I13 := I12.below b13 I12.lt
  have J13 := J12.below b13 J12.lt
  have E13 := E12.below b13 E12.lt
  have B13 := btr B12 b13
  have s13 := h13.alloc (.cells #[] 5)
  clear h11 I11 J11 E11 B11 b12 h12 I12 J12 E12 B12 b13
  go_wp2_with (at_builtin; refine wp_append_lit _ T22 rfl _ _ rfl (w12.heap.size + 1) (w12.heap.size + 1) rfl ow13 A m c L rfl s13 (by omega) (by simp) ?_)
  intro A14 c14 w14 own14 b14
  have b14 := below_new _ (b14.mono (B' := w12.heap.size + 1) (by simp)) (by simp)
  have b14 : Below (w12.alloc (.cells #[.string (entT L).name, .int .i64 (entT L).ino, .int .i64 (entT L).kind] 25)).heap.size (w12.alloc (.cells #[.string (entT L).name, .int .i64 (entT L).ino, .int .i64 (entT L).kind] 25)) w14 := b14.mono (by simp)
  have h14 := h13.below b14
  have I14 := I13.below b14 I13.lt
  have J14 := J13.below b14 J13.lt
  have E14 := E13.below b14 E13.lt
  have F14 := F13.below b14 F13.lt
  have B14 := btr B13 b14
  clear h13 I13 J13 E13 F13 B13 b14 s13 ow13
  go_wp2_with fail
  refine (iTakeExtent_says A14 m c14 L w14 own14.sl (by omega)).mono ?_
  rintro e w15 ⟨A15, n15, c15, rfl, s15, b15⟩
  have X16 : IB (w15.alloc (.cells #[.slice A15 n15 c15, .int .i64 (extTA L)] 28)) w15.heap.size [.slice A15 n15 c15, .int .i64 (extTA L)] := IB.new w15 _ _
  have b16 : Below w15.heap.size w15 (w15.alloc (.cells #[.slice A15 n15 c15, .int .i64 (extTA L)] 28)) := blA
  go_wp2_with fail
  generalize w15.alloc (.cells #[.slice A15 n15 c15, .int .i64 (extTA L)] 28) = w16 at X16 b16 ⊢
  have b15 := btr b15 b16
  have h16 := h14.below b15
  have I16 := I14.below b15 I14.lt
  have J16 := J14.below b15 J14.lt
  have E16 := E14.below b15 E14.lt
  have F16 := F14.below b15 F14.lt
  have B16 := btr B14 b15
  have s16 := s15.below b16
  clear h14 I14 J14 E14 F14 B14 b15 b16 s15 own14
  refine (rTakeExtent_any A m c L w16 h16 (by omega)).mono ?_
  rintro e w17 ⟨A17, n17, c17, rfl, s17, b17⟩
  have b18 := btr b17 (blA (o := .cells #[.slice A17 n17 c17, .int .i64 (extTA L)] 28))
  have Y18 : IB (w17.alloc (.cells #[.slice A17 n17 c17, .int .i64 (extTA L)] 28)) w17.heap.size [.slice A17 n17 c17, .int .i64 (extTA L)] := IB.new w17 _ _
  have X18 := X16.below b18 X16.lt
  have I18 := I16.below b18 I16.lt
  have J18 := J16.below b18 J16.lt
  have E18 := E16.below b18 E16.lt
  have F18 := F16.below b18 F16.lt
  have B18 := btr B16 b18
  have k1 := iconv (s16.below b18)
  have k2 := iconv (s17.alloc (.cells #[.slice A17 n17 c17, .int .i64 (extTA L)] 28))
  have i0 := I18.cell 0 rfl
  have i1 := I18.cell 1 rfl
  have i2 := I18.cell 2 rfl
  have j0 := J18.cell 0 rfl
  have j1 := J18.cell 1 rfl
  have j2 := J18.cell 2 rfl
  have e0 := E18.cell 0 rfl
  have e1 := E18.cell 1 rfl
  have e2 := E18.cell 2 rfl
  have f0 := F18.cell 0 rfl
  have f1 := F18.cell 1 rfl
  have f2 := F18.cell 2 rfl
  have x0 := X18.cell 0 rfl
  have x1 := X18.cell 1 rfl
  clear I16 J16 E16 F16 X16 h16 s16 s17 b17 b18 I18 J18 E18 F18 X18 Y18 B16
  go_wp2
  go_ret
  exact ⟨rfl, B18⟩
end Go.Proofs.Ytimlhhemfipooaa
