/- Inodes: the walk of the law InodePuts. -/
import Derived.Test.YtimlhhemfipooaaInK
namespace Go.Proofs.Ytimlhhemfipooaa
open Go Go.RowKit Go.Proofs

set_option maxRecDepth 100000 in
set_option maxHeartbeats 4000000 in
theorem inodePuts_walk (i : Ino) (e : Ent) (A : Option Addr) (n c : Nat) (l : List UInt8) (a : Int) (w : World) (h : Sl w A n c l) :
    Calls Try.prog 3 #[.agg #[.int .i64 i.kind, .int .i64 i.links, .int .i64 i.size], .agg #[.string e.name, .int .i64 e.ino, .int .i64 e.kind], .agg #[.slice A n c, .int .i64 a]] w fun r w' => r = .returned (.bool true) ∧ Below w.heap.size w w' := by
  obtain ⟨I1, E1, X1, b1⟩ := boxes13 w i.vs e.vs [.slice A n c, .int .i64 a] 23 25 28
  go_enter Try.func3, Try.ntmps3
  go_wp2_with fail
  change Calls _ _ _ (((w.alloc (.cells i.vs.toArray 23)).alloc (.cells e.vs.toArray 25)).alloc (.cells ([.slice A n c, .int .i64 a] : List Value).toArray 28)) _
  generalize (((w.alloc (.cells i.vs.toArray 23)).alloc (.cells e.vs.toArray 25)).alloc (.cells ([.slice A n c, .int .i64 a] : List Value).toArray 28)) = w1 at I1 E1 X1 b1 ⊢
  have h1 := h.below b1
  refine (shown_any w1).mono ?_
  rintro r w2 ⟨rfl, b2⟩
  have I2 := I1.below b2 I1.lt
  have E2 := E1.below b2 E1.lt
  have X2 := X1.below b2 X1.lt
  have h2 := h1.below b2
  have B2 := btr b1 b2
  have q0 := X2.cell 0 rfl
  have z0 := X2.fz 0
  clear I1 E1 X1 h1 b1 b2
  go_wp2_with fail
  refine (few_any A n c l w2 h2).mono ?_
  rintro r w2' ⟨m, hm, hmn, rfl, rfl⟩
  have h0 := h.take hmn
  obtain ⟨L, hL⟩ : ∃ L, l.take m = L := ⟨_, rfl⟩
  rw [hL] at h0
  clear hL h2 hmn h
  have X3 := X2.set 0 (.slice A m c)
  have B3 : Below w.heap.size w (w2.setCell ⟨w.heap.size + 1 + 1, 0, none⟩ (.slice A m c)) := B2.setCell (by show w.heap.size ≤ w.heap.size + 1 + 1; omega) _
  have I3 := I2.keep (w' := w2.setCell ⟨w.heap.size + 1 + 1, 0, none⟩ (.slice A m c)) (Below.heap_setCell _ _ _ _ (by show w.heap.size ≠ w.heap.size + 1 + 1; omega))
  have E3 := E2.keep (w' := w2.setCell ⟨w.heap.size + 1 + 1, 0, none⟩ (.slice A m c)) (Below.heap_setCell _ _ _ _ (by show w.heap.size + 1 ≠ w.heap.size + 1 + 1; omega))
  have h3 := Sl.below h0 B3
  go_wp2_with (refine wp_load_ib rfl _ _ rfl w.heap.size rfl i.vs I3 Try.underlying23 rfl (by kernel_rfl) ?_)
  generalize w2.setCell ⟨w.heap.size + 1 + 1, 0, none⟩ (.slice A m c) = w3 at X3 B3 I3 E3 h3 ⊢
  clear I2 E2 X2 B2 q0 z0
  change Calls _ _ #[.agg #[.int .i64 i.kind, .int .i64 i.links, .int .i64 i.size]] _ _
  refine (iPut_any i w3).mono ?_
  rintro r w4 ⟨A4, n4, c4, rfl, s4, b4⟩
  have I4 := I3.below b4 I3.lt
  have E4 := E3.below b4 E3.lt
  have X4 := X3.below b4 X3.lt
  have h4 := h3.below b4
  have B4 := btr B3 b4
  clear I3 E3 X3 h3 B3 b4
  go_wp2_with (refine wp_load_ib rfl _ _ rfl w.heap.size rfl i.vs I4 Try.underlying23 rfl (by kernel_rfl) ?_)
  change Calls _ _ #[.agg #[.int .i64 i.kind, .int .i64 i.links, .int .i64 i.size]] _ _
  refine (rPut_any i w4).mono ?_
  rintro r w5 ⟨A5, n5, c5, rfl, s5, b5⟩
  have E5 := E4.below b5 E4.lt
  have X5 := X4.below b5 X4.lt
  have h5 := h4.below b5
  have B5 := btr B4 b5
  have s4 := s4.below b5
  clear I4 E4 X4 h4 B4 b5
  go_wp2_with (refine wp_load_ib rfl _ _ rfl (w.heap.size + 1) rfl e.vs E5 Try.underlying25 rfl (by kernel_rfl) ?_)
  change Calls _ _ #[.agg #[.string e.name, .int .i64 e.ino, .int .i64 e.kind]] _ _
  refine (iPutEntry_any e w5).mono ?_
  rintro r w6 ⟨A6, n6, c6, rfl, s6, b6⟩
  have E6 := E5.below b6 E5.lt
  have X6 := X5.below b6 X5.lt
  have h6 := h5.below b6
  have B6 := btr B5 b6
  have s4 := s4.below b6
  have s5 := s5.below b6
  clear E5 X5 h5 B5 b6
  go_wp2_with (refine wp_load_ib rfl _ _ rfl (w.heap.size + 1) rfl e.vs E6 Try.underlying25 rfl (by kernel_rfl) ?_)
  change Calls _ _ #[.agg #[.string e.name, .int .i64 e.ino, .int .i64 e.kind]] _ _
  refine (rPutEntry_any e w6).mono ?_
  rintro r w7 ⟨A7, n7, c7, rfl, s7, b7⟩
  have X7 := X6.below b7 X6.lt
  have h7 := h6.below b7
  have B7 := btr B6 b7
  have s4 := s4.below b7
  have s5 := s5.below b7
  have s6 := s6.below b7
  clear E6 X6 h6 B6 b7
  go_wp2_with (refine wp_load_ib rfl _ _ rfl (w.heap.size + 1 + 1) rfl [.slice A m c, .int .i64 a] X7 Try.underlying28 rfl (by kernel_rfl) ?_)
  change Calls _ _ #[.agg #[.slice A m c, .int .i64 a]] _ _
  refine (iPutExtent_says A m c L a w7 h7 (by omega)).mono ?_
  rintro r w8 ⟨A8, n8, c8, rfl, s8, b8⟩
  have X8 := X7.below b8 X7.lt
  have h8 := h7.below b8
  have B8 := btr B7 b8
  have s4 := s4.below b8
  have s5 := s5.below b8
  have s6 := s6.below b8
  have s7 := s7.below b8
  clear X7 h7 B7 b8
  go_wp2_with (refine wp_load_ib rfl _ _ rfl (w.heap.size + 1 + 1) rfl [.slice A m c, .int .i64 a] X8 Try.underlying28 rfl (by kernel_rfl) ?_)
  change Calls _ _ #[.agg #[.slice A m c, .int .i64 a]] _ _
  refine (rPutExtent_any A m c L a w8 h8 (by omega)).mono ?_
  rintro r w9 ⟨A9, n9, c9, rfl, s9, b9⟩
  have B9 := btr B8 b9
  have k4 := iconv (s4.below b9)
  have k5 := iconv (s5.below b9)
  have k6 := iconv (s6.below b9)
  have k7 := iconv (s7.below b9)
  have k8 := iconv (s8.below b9)
  have k9 := iconv s9
  clear s4 s5 s6 s7 s8 s9 b9 B8 h8 X8
  go_wp2
  go_ret
  exact ⟨rfl, B9⟩
end Go.Proofs.Ytimlhhemfipooaa
