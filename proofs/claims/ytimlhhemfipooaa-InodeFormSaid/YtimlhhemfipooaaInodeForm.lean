/- Inodes: the walk of the law InodeForm. -/
import Derived.Test.YtimlhhemfipooaaInK
namespace Go.Proofs.Ytimlhhemfipooaa
open Go Go.RowKit Go.Proofs

set_option maxRecDepth 100000 in
set_option maxHeartbeats 4000000 in
theorem inodeForm_walk (A : Option Addr) (n c : Nat) (l : List UInt8) (w : World) (h : Sl w A n c l) :
    Calls Try.prog 7 #[.slice A n c] w fun r w' => r = .returned (.bool true) ∧ Below w.heap.size w w' := by
  go_enter Try.func7, Try.ntmps7
  go_wp2_with fail
  refine (shown_any w).mono ?_
  rintro e w1 ⟨rfl, hb1⟩
  have h1 := h.below hb1
  go_wp2_with fail
  refine (few_any A n c l w1 h1).mono ?_
  rintro e w1' ⟨m, hm, hmn, rfl, rfl⟩
  have h2 := h1.take hmn
  obtain ⟨L, hL⟩ : ∃ L, l.take m = L := ⟨_, rfl⟩
  rw [hL] at h2
  clear hL h1 h hmn
  go_wp2_with fail
  refine (iTake_any A m c L w1 h2 (by omega)).mono ?_
  cases hi : inoOk L
  case' false =>
    rw [(inoT_no hi).1, (inoT_no hi).2]
    rintro e w2 ⟨rfl, b2⟩
    have b6 := btr b2 (blA (o := .cells #[.int .i64 0, .int .i64 0, .int .i64 0] 23))
    have h6 := h2.below b6
    have B6 := btr hb1 b6
    clear b2 b6 h2 hb1
    go_wp2_with fail
    change Calls _ _ _ (w2.alloc (.cells #[.int .i64 0, .int .i64 0, .int .i64 0] 23)) _
    generalize w2.alloc (.cells #[.int .i64 0, .int .i64 0, .int .i64 0] 23) = w6 at h6 B6 ⊢
  case' true =>
    obtain ⟨y1, y2, y3⟩ := ino_ok_form L hi
    rw [(inoT_yes hi).1, (inoT_yes hi).2]
    obtain ⟨i, hio⟩ : ∃ i, inoOf L = i := ⟨_, rfl⟩
    rw [hio] at y2 y3 ⊢
    rintro e w2 ⟨rfl, b2⟩
    have I3 : IB (w2.alloc (.cells #[.int .i64 i.kind, .int .i64 i.links, .int .i64 i.size] 23)) w2.heap.size i.vs := IB.new w2 _ _
    have b3 := btr b2 (blA (o := .cells #[.int .i64 i.kind, .int .i64 i.links, .int .i64 i.size] 23))
    have h3 := h2.below b3
    have B3 := btr hb1 b3
    clear b2 b3 h2 hb1
    go_wp2_with (refine wp_load_ib rfl _ _ rfl w2.heap.size rfl [.int .i64 i.kind, .int .i64 i.links, .int .i64 i.size] I3 Try.underlying23 rfl (by kernel_rfl) ?_)
    generalize w2.alloc (.cells #[.int .i64 i.kind, .int .i64 i.links, .int .i64 i.size] 23) = w3 at I3 h3 B3 ⊢
    change Calls _ _ #[.agg #[.int .i64 i.kind, .int .i64 i.links, .int .i64 i.size]] _ _
    refine (iPut_yes i y2 w3).mono ?_
    rw [y3]
    rintro e w6 ⟨A6, n6, c6, rfl, s6, b6⟩
    have h6 := h3.below b6
    have B6 := btr B3 b6
    have k1 := iconv h6
    have k2 := iconv s6
    clear I3 h3 B3 b6 y1 y2 y3 hio hi
    go_wp2_with fail
    clear k1 k2
  all_goals
    refine (iTakeEntry_says A m c L w6 h6 (by omega)).mono ?_
    cases he : entOk L
    case' false =>
      rw [(entT_no he).1, (entT_no he).2]
      rintro e w7 ⟨rfl, b7⟩
      have b9 := btr b7 (blA (o := .cells #[.string ⟨#[]⟩, .int .i64 0, .int .i64 0] 25))
      have h9 := h6.below b9
      have B9 := btr B6 b9
      clear b7 b9 h6 B6
      go_wp2_with fail
      change Calls _ _ _ (w7.alloc (.cells #[.string ⟨#[]⟩, .int .i64 0, .int .i64 0] 25)) _
      generalize w7.alloc (.cells #[.string ⟨#[]⟩, .int .i64 0, .int .i64 0] 25) = w9 at h9 B9 ⊢
    case' true =>
      obtain ⟨y2, y3⟩ := ent_ok_form L he
      rw [(entT_yes he).1, (entT_yes he).2]
      obtain ⟨i, hio⟩ : ∃ i, entOf L = i := ⟨_, rfl⟩
      rw [hio] at y2 y3 ⊢
      rintro e w7 ⟨rfl, b7⟩
      have I8 : IB (w7.alloc (.cells #[.string i.name, .int .i64 i.ino, .int .i64 i.kind] 25)) w7.heap.size i.vs := IB.new w7 _ _
      have b8 := btr b7 (blA (o := .cells #[.string i.name, .int .i64 i.ino, .int .i64 i.kind] 25))
      have h8 := h6.below b8
      have B8 := btr B6 b8
      clear b7 b8 h6 B6
      go_wp2_with (refine wp_load_ib rfl _ _ rfl w7.heap.size rfl [.string i.name, .int .i64 i.ino, .int .i64 i.kind] I8 Try.underlying25 rfl (by kernel_rfl) ?_)
      generalize w7.alloc (.cells #[.string i.name, .int .i64 i.ino, .int .i64 i.kind] 25) = w8 at I8 h8 B8 ⊢
      change Calls _ _ #[.agg #[.string i.name, .int .i64 i.ino, .int .i64 i.kind]] _ _
      refine (iPutEntry_yes i y2 w8).mono ?_
      rw [y3]
      rintro e w9 ⟨A9, n9, c9, rfl, s9, b9⟩
      have h9 := h8.below b9
      have B9 := btr B8 b9
      have k1 := iconv h9
      have k2 := iconv s9
      clear I8 h8 B8 b9 y2 y3 hio he
      go_wp2_with fail
      clear k1 k2
    all_goals
      refine (iTakeExtent_says A m c L w9 h9 (by omega)).mono ?_
      cases hx : extOk L
      · obtain ⟨f1, f2, f3⟩ := extT_no hx
        rw [f1, f2, f3]
        rintro e w10 ⟨A10, n10, c10, rfl, s10, b10⟩
        have B11 := btr B9 (btr b10 (blA (o := .cells #[.slice A10 n10 c10, .int .i64 0] 28)))
        clear f1 f2 f3
        go_wp2
        go_ret
        exact ⟨rfl, B11⟩
      · obtain ⟨f1, f2, f3⟩ := extT_yes hx
        obtain ⟨y2, y3⟩ := ext_ok_form L hx
        rw [f1, f2, f3]
        obtain ⟨a, ha⟩ : ∃ a, extA L = a := ⟨_, rfl⟩
        obtain ⟨x, hxl⟩ : ∃ x, extL L = x := ⟨_, rfl⟩
        rw [ha, hxl] at y2 y3
        rw [ha, hxl]
        rintro e w10 ⟨A10, n10, c10, rfl, s10, b10⟩
        have I11 : IB (w10.alloc (.cells #[.slice A10 n10 c10, .int .i64 a] 28)) w10.heap.size [.slice A10 n10 c10, .int .i64 a] := IB.new w10 _ _
        have b11 := btr b10 (blA (o := .cells #[.slice A10 n10 c10, .int .i64 a] 28))
        have s11 := s10.alloc (.cells #[.slice A10 n10 c10, .int .i64 a] 28)
        have h11 := h9.below b11
        have B11 := btr B9 b11
        have hn10 : n10 ≤ 24 := by
          have h1 := s10.len
          rcases of_decide_eq_true y2 with h | h
          · omega
          · omega
        clear b10 b11 h9 B9 f1 f2 f3 s10
        go_wp2_with (refine wp_load_ib rfl _ _ rfl w10.heap.size rfl [.slice A10 n10 c10, .int .i64 a] I11 Try.underlying28 rfl (by kernel_rfl) ?_)
        generalize w10.alloc (.cells #[.slice A10 n10 c10, .int .i64 a] 28) = w11 at I11 s11 h11 B11 ⊢
        refine (iPutExtent_says A10 n10 c10 x a w11 s11 (by omega)).mono ?_
        rw [(extPE_yes y2).1, (extPE_yes y2).2, y3]
        rintro e w12 ⟨A12, n12, c12, rfl, s12, b12⟩
        have k1 := iconv (h11.below b12)
        have k2 := iconv s12
        have B12 := btr B11 b12
        clear I11 s11 h11 B11 b12 s12 y2 y3 ha hxl hx
        go_wp2
        go_ret
        exact ⟨rfl, B12⟩
end Go.Proofs.Ytimlhhemfipooaa
