/- The law NumTexts: for every input it returns true, and what came in reads as it did. -/
import Derived.Test.YtnobhmfoblnpbaaTexts
namespace Go.Proofs.Ytnobhmfoblnpbaa
open Go Go.RowKit Go.Proofs

theorem below_tr {a b c : World} (h : Below a.heap.size a b) (k : Below b.heap.size b c) : Below a.heap.size a c := h.trans (k.mono h.size)

set_option maxRecDepth 100000 in
set_option maxHeartbeats 4000000 in
theorem numTexts_walk (A : Option Addr) (n c : Nat) (l : List UInt8) (s : ByteArray) (w : World) (h : Sl w A n c l) (hm : s.size ≤ maxLen) :
    Calls Try.prog 5 #[.slice A n c, .string s] w fun e w' => e = .returned (.bool true) ∧ Below w.heap.size w w' := by
  go_enter Try.func5, Try.ntmps5
  go_wp2_with fail
  refine (shown_any w).mono ?_
  rintro e w1 ⟨rfl, b1⟩
  have h1 := h.below b1
  go_wp2_with fail
  refine (few_any A n c l w1 h1).mono ?_
  rintro e w1' ⟨A2, n2, c2, rfl, rfl, h2⟩
  have hlen : n2 ≤ 1000 := by have := h2.len; rw [List.length_take] at this; omega
  generalize List.take 1000 l = l2 at h2
  go_wp2_with (at_builtin; refine wp_append_lit _ T22 rfl _ _ rfl w1.heap.size w1.heap.size rfl (own_empty w1 5) A2 n2 c2 l2 rfl (h2.alloc _) (by omega) (by simp) ?_)
  intro A3 c3 w3 own3 b3
  have b3 := below_new _ (b3.mono (B' := w1.heap.size) (by simp)) (Nat.le_refl _)
  have h3 := own3.sl
  go_wp2_with fail
  refine (puttext_any A3 n2 c3 l2 s w3 h3 (by omega)).mono ?_
  rintro e w4 ⟨A4, n4, c4, rfl, h4, b4⟩
  go_wp2_with fail
  refine (refputtext_any A2 n2 c2 l2 s w4 ((h2.below b3).below b4) (by omega)).mono ?_
  rintro e w5 ⟨A5, n5, c5, rfl, h5, b5⟩
  have h25 := ((h2.below b3).below b4).below b5
  go_wp2_with (at_builtin; refine wp_append_lit _ T22 rfl _ _ rfl w5.heap.size w5.heap.size rfl (own_empty w5 5) A2 n2 c2 l2 rfl (h25.alloc _) (by omega) (by simp) ?_)
  intro A6 c6 w6 own6 b6
  have b6 := below_new _ (b6.mono (B' := w5.heap.size) (by simp)) (Nat.le_refl _)
  have b7 := below_conv_sb w6 5 s
  have h7 := sl_conv_sb w6 5 s hm
  have hconv6 := conv_sb s w6
  go_wp2_with fail
  refine (putbytes_any A6 _ n2 c6 _ _ l2 s.data.toList (Lib.bytesWorld w6 5 s) (own6.sl.below b7) h7 (by omega)).mono ?_
  rintro e w8 ⟨A8, n8, c8, rfl, h8, b8⟩
  clear hconv6
  have b9 := below_conv_sb w8 5 s
  have h9 := sl_conv_sb w8 5 s hm
  have hconv8 := conv_sb s w8
  have h29 := (((h25.below b6).below b7).below b8).below b9
  go_wp2_with fail
  refine (refputbytes_any A2 _ n2 c2 _ _ l2 s.data.toList (Lib.bytesWorld w8 5 s) h29 h9 (by omega)).mono ?_
  rintro e w10 ⟨A10, n10, c10, rfl, h10, b10⟩
  clear hconv8
  have h210 := h29.below b10
  go_wp2_with (at_builtin; refine wp_append_lit _ T22 rfl _ _ rfl w10.heap.size w10.heap.size rfl (own_empty w10 5) A2 n2 c2 l2 rfl (h210.alloc _) (by omega) (by simp) ?_)
  intro A11 c11 w11 own11 b11
  have b11 := below_new _ (b11.mono (B' := w10.heap.size) (by simp)) (Nat.le_refl _)
  go_wp2_with fail
  refine (taketext_any A11 n2 c11 l2 w11 own11.sl (by omega)).mono ?_
  rintro e w12 ⟨A12, n12, c12, rfl, h12, b12⟩
  have h212 := (h210.below b11).below b12
  go_wp2_with fail
  refine (reftaketext_any A2 n2 c2 l2 w12 h212 (by omega)).mono ?_
  rintro e w13 ⟨A13, n13, c13, rfl, h13, b13⟩
  have h213 := h212.below b13
  go_wp2_with (at_builtin; refine wp_append_lit _ T22 rfl _ _ rfl w13.heap.size w13.heap.size rfl (own_empty w13 5) A2 n2 c2 l2 rfl (h213.alloc _) (by omega) (by simp) ?_)
  intro A14 c14 w14 own14 b14
  have b14 := below_new _ (b14.mono (B' := w13.heap.size) (by simp)) (Nat.le_refl _)
  go_wp2_with fail
  refine (takebytes_any A14 n2 c14 l2 w14 own14.sl (by omega)).mono ?_
  rintro e w15 ⟨A15, n15, c15, A16, n16, c16, rfl, h15, h16, b15⟩
  go_wp2_with fail
  refine (reftakebytes_any A2 n2 c2 l2 w15 ((h213.below b14).below b15) (by omega)).mono ?_
  rintro e w17 ⟨A17, n17, c17, A18, n18, c18, rfl, h17, h18, b17⟩
  have t14 := below_tr b15 b17
  have t13 := below_tr b14 t14
  have t12 := below_tr b13 t13
  have t11 := below_tr b12 t12
  have t10 := below_tr b11 t11
  have t9 := below_tr b10 t10
  have t8 := below_tr b9 t9
  have t7 := below_tr b8 t8
  have t6 := below_tr b7 t7
  have t5 := below_tr b6 t6
  have t4 := below_tr b5 t5
  have t3 := below_tr b4 t4
  have t0 := below_tr b1 (below_tr b3 t3)
  have k4 := conv_bs (h4.below t4)
  have k5 := conv_bs (h5.below t5)
  have k8 := conv_bs (h8.below t8)
  have k10 := conv_bs (h10.below t10)
  have k12 := conv_bs (h12.below t12)
  have k13 := conv_bs (h13.below t13)
  have k15 := conv_bs (h15.below b17)
  have k16 := conv_bs (h16.below b17)
  have k17 := conv_bs h17
  have k18 := conv_bs h18
  clear h1 h2 h3 h4 h5 h25 h7 h8 h9 h29 h10 h210 h12 h212 h13 h213 h15 h16 h17 h18 own3 own6 own11 own14
  go_wp2
  go_ret
  exact ⟨rfl, t0⟩
end Go.Proofs.Ytnobhmfoblnpbaa
