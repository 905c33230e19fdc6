/- Inodes: the walk of the law InodeBack. -/
import Derived.Test.YtimlhhemfipooaaInK
namespace Go.Proofs.Ytimlhhemfipooaa
open Go Go.RowKit Go.Proofs

set_option maxRecDepth 100000 in
set_option maxHeartbeats 4000000 in
theorem inodeBack_walk (i : Ino) (e : Ent) (A : Option Addr) (n c : Nat) (l : List UInt8) (a : Int) (w : World) (h : Sl w A n c l) :
    Calls Try.prog 5 #[.agg #[.int .i64 i.kind, .int .i64 i.links, .int .i64 i.size], .agg #[.string e.name, .int .i64 e.ino, .int .i64 e.kind], .agg #[.slice A n c, .int .i64 a]] w fun r w' => r = .returned (.bool true) ∧ Below w.heap.size w w' := by
  have hg1 := grd_ino .neq (.inr rfl)
  have hg2 := grd_ent .neq (.inr rfl)
  have hq1 := ne_ino
  have hq2 := ne_ent
  obtain ⟨I1, E1, X1, b1⟩ := boxes13 w i.vs e.vs [.slice A n c, .int .i64 a] 23 25 28
  go_enter Try.func5, Try.ntmps5
  go_wp2_with fail
  change Calls _ _ _ (((w.alloc (.cells i.vs.toArray 23)).alloc (.cells e.vs.toArray 25)).alloc (.cells ([.slice A n c, .int .i64 a] : List Value).toArray 28)) _
  generalize (((w.alloc (.cells i.vs.toArray 23)).alloc (.cells e.vs.toArray 25)).alloc (.cells ([.slice A n c, .int .i64 a] : List Value).toArray 28)) = w1 at I1 E1 X1 b1 ⊢
  have h1 := h.below b1
  refine (shown_any w1).mono ?_
  rintro r w2 ⟨rfl, b2⟩
  have I2 := I1.below b2 I1.lt
  have E2 := E1.below b2 E1.lt
  have X2 := X1.below b2 X1.lt
  have h2 := h1.below b2
  have B2 := btr b1 b2
  have q0 := X2.cell 0 rfl
  have z0 := X2.fz 0
  clear I1 E1 X1 h1 b1 b2
  go_wp2_with fail
  refine (few_any A n c l w2 h2).mono ?_
  rintro r w2' ⟨m, hm, hmn, rfl, rfl⟩
  have h0 := h.take hmn
  obtain ⟨L, hL⟩ : ∃ L, l.take m = L := ⟨_, rfl⟩
  rw [hL] at h0
  clear hL h2 hmn h
  have X3 := X2.set 0 (.slice A m c)
  have B3 : Below w.heap.size w (w2.setCell ⟨w.heap.size + 1 + 1, 0, none⟩ (.slice A m c)) := B2.setCell (by show w.heap.size ≤ w.heap.size + 1 + 1; omega) _
  have I3 := I2.keep (w' := w2.setCell ⟨w.heap.size + 1 + 1, 0, none⟩ (.slice A m c)) (Below.heap_setCell _ _ _ _ (by show w.heap.size ≠ w.heap.size + 1 + 1; omega))
  have E3 := E2.keep (w' := w2.setCell ⟨w.heap.size + 1 + 1, 0, none⟩ (.slice A m c)) (Below.heap_setCell _ _ _ _ (by show w.heap.size + 1 ≠ w.heap.size + 1 + 1; omega))
  have h3 := Sl.below h0 B3
  go_wp2_with (refine wp_load_ib rfl _ _ rfl w.heap.size rfl i.vs I3 Try.underlying23 rfl (by kernel_rfl) ?_)
  generalize w2.setCell ⟨w.heap.size + 1 + 1, 0, none⟩ (.slice A m c) = w3 at X3 B3 I3 E3 h3 ⊢
  clear I2 E2 X2 B2 q0 z0
  change Calls _ _ #[.agg #[.int .i64 i.kind, .int .i64 i.links, .int .i64 i.size]] _ _
  cases hi : i.may
  case' false =>
    refine (iPut_no i hi w3).mono ?_
    rintro r w6 ⟨rfl, b6⟩
    have E6 := E3.below b6 E3.lt
    have X6 := X3.below b6 X3.lt
    have h6 := h3.below b6
    have B6 := btr B3 b6
    clear I3 E3 X3 h3 B3 b6
    go_wp2_with (refine wp_load_ib rfl _ _ rfl (w.heap.size + 1) rfl [.string e.name, .int .i64 e.ino, .int .i64 e.kind] E6 Try.underlying25 rfl (by kernel_rfl) ?_)
    change Calls _ _ #[.agg #[.string e.name, .int .i64 e.ino, .int .i64 e.kind]] _ _
  case' true =>
    obtain ⟨y1, y2⟩ := ino_back i hi
    refine (iPut_yes i hi w3).mono ?_
    rintro r w4 ⟨A4, n4, c4, rfl, s4, b4⟩
    obtain rfl : n4 = 7 := by rw [← s4.len]; exact ino_len i
    have I4 := I3.below b4 I3.lt
    have E4 := E3.below b4 E3.lt
    have X4 := X3.below b4 X3.lt
    have h4 := h3.below b4
    have B4 := btr B3 b4
    clear I3 E3 X3 h3 B3 b4
    go_wp2_with fail
    refine (iTake_yes A4 7 c4 i.bytes y2 w4 s4 (by omega)).mono ?_
    rw [y1]
    rintro r w5 ⟨rfl, b5⟩
    have b6 := btr b5 (blA (o := .cells #[.int .i64 i.kind, .int .i64 i.links, .int .i64 i.size] 23))
    have J6 : IB (w5.alloc (.cells #[.int .i64 i.kind, .int .i64 i.links, .int .i64 i.size] 23)) w5.heap.size i.vs := IB.new w5 _ _
    have I6 := I4.below b6 I4.lt
    have E6 := E4.below b6 E4.lt
    have X6 := X4.below b6 X4.lt
    have h6 := h4.below b6
    have B6 := btr B4 b6
    clear I4 E4 X4 h4 B4 b5 b6 s4
    go_wp2_with (first
      | (refine wp_load_ib rfl _ _ rfl w5.heap.size rfl [.int .i64 i.kind, .int .i64 i.links, .int .i64 i.size] J6 Try.underlying23 rfl (by kernel_rfl) ?_)
      | (refine wp_load_ib rfl _ _ rfl w.heap.size rfl [.int .i64 i.kind, .int .i64 i.links, .int .i64 i.size] I6 Try.underlying23 rfl (by kernel_rfl) ?_)
      | (refine wp_load_ib rfl _ _ rfl (w.heap.size + 1) rfl [.string e.name, .int .i64 e.ino, .int .i64 e.kind] E6 Try.underlying25 rfl (by kernel_rfl) ?_))
    change Calls _ _ #[.agg #[.string e.name, .int .i64 e.ino, .int .i64 e.kind]] _ _
    generalize w5.alloc (.cells #[.int .i64 i.kind, .int .i64 i.links, .int .i64 i.size] 23) = w6 at J6 I6 E6 X6 h6 B6 ⊢
    clear J6 I6
  all_goals
    cases he : e.may
    case' false =>
      refine (iPutEntry_no e he w6).mono ?_
      rintro r w9 ⟨rfl, b9⟩
      have X9 := X6.below b9 X6.lt
      have h9 := h6.below b9
      have B9 := btr B6 b9
      clear E6 X6 h6 B6 b9
      go_wp2_with (refine wp_load_ib rfl _ _ rfl (w.heap.size + 1 + 1) rfl [.slice A m c, .int .i64 a] X9 Try.underlying28 rfl (by kernel_rfl) ?_)
      change Calls _ _ #[.agg #[.slice A m c, .int .i64 a]] _ _
    case' true =>
      obtain ⟨v1, v2⟩ := ent_back e he
      refine (iPutEntry_yes e he w6).mono ?_
      rintro r w7 ⟨A7, n7, c7, rfl, s7, b7⟩
      have hn7 : n7 ≤ 28 := by
        have h1 := s7.len
        rw [ent_len] at h1
        have := (of_decide_eq_true (Bool.and_eq_true_iff.1 he).1).2
        omega
      have E7 := E6.below b7 E6.lt
      have X7 := X6.below b7 X6.lt
      have h7 := h6.below b7
      have B7 := btr B6 b7
      clear E6 X6 h6 B6 b7
      go_wp2_with fail
      refine (iTakeEntry_says A7 n7 c7 e.bytes w7 s7 (by omega)).mono ?_
      rw [(entT_yes v2).1, (entT_yes v2).2, v1]
      rintro r w8 ⟨rfl, b8⟩
      have b9 := btr b8 (blA (o := .cells #[.string e.name, .int .i64 e.ino, .int .i64 e.kind] 25))
      have J9 : IB (w8.alloc (.cells #[.string e.name, .int .i64 e.ino, .int .i64 e.kind] 25)) w8.heap.size e.vs := IB.new w8 _ _
      have E9 := E7.below b9 E7.lt
      have X9 := X7.below b9 X7.lt
      have h9 := h7.below b9
      have B9 := btr B7 b9
      have hn8 : decide ((28 : Int) < (n7 : Int)) = false := decide_eq_false (by omega)
      clear E7 X7 h7 B7 b8 b9 s7
      go_wp2_with (first
        | (refine wp_load_ib rfl _ _ rfl w8.heap.size rfl [.string e.name, .int .i64 e.ino, .int .i64 e.kind] J9 Try.underlying25 rfl (by kernel_rfl) ?_)
        | (refine wp_load_ib rfl _ _ rfl (w.heap.size + 1) rfl [.string e.name, .int .i64 e.ino, .int .i64 e.kind] E9 Try.underlying25 rfl (by kernel_rfl) ?_)
        | (refine wp_load_ib rfl _ _ rfl (w.heap.size + 1 + 1) rfl [.slice A m c, .int .i64 a] X9 Try.underlying28 rfl (by kernel_rfl) ?_))
      change Calls _ _ #[.agg #[.slice A m c, .int .i64 a]] _ _
      generalize w8.alloc (.cells #[.string e.name, .int .i64 e.ino, .int .i64 e.kind] 25) = w9 at J9 E9 X9 h9 B9 ⊢
      clear J9 E9
    all_goals
      refine (iPutExtent_says A m c L a w9 h9 (by omega)).mono ?_
      cases hx : extMay L a
      · obtain ⟨e1, e2⟩ := extPE_no hx
        rw [e1, e2]
        rintro r w10 ⟨A10, n10, c10, rfl, s10, b10⟩
        clear e1 e2
        go_wp2
        go_ret
        exact ⟨rfl, btr B9 b10⟩
      · obtain ⟨e1, e2⟩ := extPE_yes hx
        obtain ⟨g1, g2, g3⟩ := ext_back L a hx
        obtain ⟨f1, f2, f3⟩ := extT_yes g1
        rw [e1, e2]
        rintro r w10 ⟨A10, n10, c10, rfl, s10, b10⟩
        have hn10 : n10 ≤ 25 := by rw [← s10.len]; exact ext_len L a hx
        have X10 := X9.below b10 X9.lt
        have h10 := h9.below b10
        have B10 := btr B9 b10
        clear X9 h9 B9 b10 e1 e2
        go_wp2_with fail
        refine (iTakeExtent_says A10 n10 c10 (extBytes L a) w10 s10 (by omega)).mono ?_
        rw [f1, f2, f3, g2, g3]
        rintro r w11 ⟨A11, n11, c11, rfl, s11, b11⟩
        have b12 := btr b11 (blA (o := .cells #[.slice A11 n11 c11, .int .i64 a] 28))
        have X12 := X10.below b12 X10.lt
        have k1 := iconv (h10.below b12)
        have k2 := iconv (s11.alloc (.cells #[.slice A11 n11 c11, .int .i64 a] 28))
        have x0 := X12.cell 0 rfl
        have x1 := X12.cell 1 rfl
        have B12 := btr B10 b12
        have hn12 : decide ((28 : Int) < (n10 : Int)) = false := decide_eq_false (by omega)
        clear f1 f2 f3 g1 g2 g3 X10 h10 B10 b11 b12 X12 s10 s11 hx
        go_wp2
        go_ret
        exact ⟨rfl, B12⟩
end Go.Proofs.Ytimlhhemfipooaa
