/- The document's examples of layer 6. -/
import Derived.Test.YtmebdjafnefneaaDoorNodeY
import Derived.Test.YtmebdjafnefneaaDoorNodeQ
import Derived.Test.YtmebdjafnefneaaDoorNodeT
import Derived.Test.YtmebdjafnefneaaDoorMore
import Derived.Lib.SlBytesConst
namespace Go.Proofs.YtmebdjafnefneaaDoor
open Go Go.RowKit Go.Proofs

def exN : Nd := ⟨0, [⟨⟨1, 2, 3⟩, [97, 98]⟩], []⟩
theorem exN_may : exN.may = true := by decide +kernel
theorem exN_E : writeE exN 5 7 = 0 := by unfold writeE; rw [if_pos exN_may]; decide +kernel
theorem exN_B : writeB exN 5 7 = blkL (exN.head 5 7) exN.body := by
  have h := exN_E
  unfold writeE at h
  rw [if_pos exN_may] at h
  unfold writeB
  rw [if_pos exN_may, (run_take_seal _ _ h).2.2]
theorem exN_body : exN.body = [0, 0, 0, 1, 2, 0, 0, 0, 3, 2, 97, 98] := by decide +kernel
theorem exN_len : (writeB exN 5 7).length = 256 := by rw [exN_B]; exact blkL_len _ _ (by rw [exN_body]; decide)
theorem exN_13 : ((writeB exN 5 7).drop 20).take 13 = [0, 0, 0, 1, 2, 0, 0, 0, 3, 2, 97, 98, 0] := by
  rw [exN_B, blk_body _ _ (by rw [exN_body]; decide), exN_body]
  decide +kernel
theorem exN_s3 : exN.seek ⟨1, 2, 3⟩ = 0 := by decide +kernel
theorem exN_s4 : exN.seek ⟨1, 2, 4⟩ = 1 := by decide +kernel
theorem exN_f3 : foundAt exN.keys ⟨1, 2, 3⟩ 0 = true := by decide +kernel
theorem exN_f4 : foundAt exN.keys ⟨1, 2, 4⟩ 1 = false := by decide +kernel
theorem str13 {w : World} {A : Option Addr} {c : Nat} {l : List UInt8} (h : Sl w A 13 c l) (hl : l = [0, 0, 0, 1, 2, 0, 0, 0, 3, 2, 97, 98, 0]) : (convert 29 9 (.slice A 13 c)).run Tryd.prog w = .ok (.string ⟨#[0, 0, 0, 1, 2, 0, 0, 0, 3, 2, 97, 98, 0]⟩) w := by
  have := strB h
  rw [hl] at this
  exact this

set_option maxRecDepth 100000 in
set_option maxHeartbeats 8000000 in
theorem nshown_any (w : World) (ht : Tab w) :
    Calls Tryd.prog 9 #[] w fun e w' => e = .returned (.bool true) ∧ Below w.heap.size w w' := by
  have kc := fun (w : World) (C : Array Value) (n c : Nat) => Lib.run_convert_bytes_const (P := Tryd.prog) w 29 5 C n c Tryd.underlying29 Tryd.underlying5
  have slA := sl_mark w 5 (2, 3) [97, 98] #[.int .u8 97, .int .u8 98] rfl (by simp)
  have bA : Below w.heap.size w (w.alloc (.cells #[.int .u8 97, .int .u8 98] 5 (2, 3))) := (Below.refl _ _).alloc (Nat.le_refl _) _
  have bB : Below w.heap.size w ((w.alloc (.cells #[.int .u8 97, .int .u8 98] 5 (2, 3))).alloc (.cells #[.int .i64 1, .int .i64 2, .int .i64 3, .slice (some ⟨w.heap.size, 0, none⟩) 2 2] 52)) := bA.alloc (by simp) _
  have bC : Below w.heap.size w (((w.alloc (.cells #[.int .u8 97, .int .u8 98] 5 (2, 3))).alloc (.cells #[.int .i64 1, .int .i64 2, .int .i64 3, .slice (some ⟨w.heap.size, 0, none⟩) 2 2] 52)).alloc (.cells #[.int .i64 0, .slice (some ⟨w.heap.size + 1, 0, none⟩) 1 1, .slice none 0 0] 25)) := bB.alloc (by simp; omega) _
  have rowB : Sls ((w.alloc (.cells #[.int .u8 97, .int .u8 98] 5 (2, 3))).alloc (.cells #[.int .i64 1, .int .i64 2, .int .i64 3, .slice (some ⟨w.heap.size, 0, none⟩) 2 2] 52)) 4 (some ⟨w.heap.size + 1, 0, none⟩) 1 1 [itvs ⟨1, 2, 3⟩ (some ⟨w.heap.size, 0, none⟩) 2 2] := by
    have := (owns_lit1 (w.alloc (.cells #[.int .u8 97, .int .u8 98] 5 (2, 3))) 52 4 (itvs ⟨1, 2, 3⟩ (some ⟨w.heap.size, 0, none⟩) 2 2) _ rfl rfl).sls (by omega)
    rwa [World.size_alloc] at this
  have hI : Itms (((w.alloc (.cells #[.int .u8 97, .int .u8 98] 5 (2, 3))).alloc (.cells #[.int .i64 1, .int .i64 2, .int .i64 3, .slice (some ⟨w.heap.size, 0, none⟩) 2 2] 52)).alloc (.cells #[.int .i64 0, .slice (some ⟨w.heap.size + 1, 0, none⟩) 1 1, .slice none 0 0] 25)) (some ⟨w.heap.size + 1, 0, none⟩) 1 1 exN.items := by
    have hIB : Itms ((w.alloc (.cells #[.int .u8 97, .int .u8 98] 5 (2, 3))).alloc (.cells #[.int .i64 1, .int .i64 2, .int .i64 3, .slice (some ⟨w.heap.size, 0, none⟩) 2 2] 52)) (some ⟨w.heap.size + 1, 0, none⟩) 1 1 exN.items := by
      refine ⟨_, rowB, rfl, fun j r x hr hx => ?_⟩
      match j, hr, hx with
      | 0, hr, hx =>
        injection hr with hr
        injection hx with hx
        subst hr hx
        exact ⟨_, _, _, rfl, slA.alloc _⟩
    exact hIB.below ((Below.refl _ _).alloc (Nat.le_refl _) _)
  have N1 : NB (((w.alloc (.cells #[.int .u8 97, .int .u8 98] 5 (2, 3))).alloc (.cells #[.int .i64 1, .int .i64 2, .int .i64 3, .slice (some ⟨w.heap.size, 0, none⟩) 2 2] 52)).alloc (.cells #[.int .i64 0, .slice (some ⟨w.heap.size + 1, 0, none⟩) 1 1, .slice none 0 0] 25)) (w.heap.size + 2) 0 (some ⟨w.heap.size + 1, 0, none⟩) 1 1 none 0 0 := by
    have := NB.new ((w.alloc (.cells #[.int .u8 97, .int .u8 98] 5 (2, 3))).alloc (.cells #[.int .i64 1, .int .i64 2, .int .i64 3, .slice (some ⟨w.heap.size, 0, none⟩) 2 2] 52)) 0 (some ⟨w.heap.size + 1, 0, none⟩) 1 1 none 0 0 25
    rw [World.size_alloc, World.size_alloc] at this
    exact this
  go_enter Tryd.func9, Tryd.ntmps9
  go_wp2_with fail
  clear kc slA bA bB rowB
  generalize (((w.alloc (.cells #[.int .u8 97, .int .u8 98] 5 (2, 3))).alloc (.cells #[.int .i64 1, .int .i64 2, .int .i64 3, .slice (some ⟨w.heap.size, 0, none⟩) 2 2] 52)).alloc (.cells #[.int .i64 0, .slice (some ⟨w.heap.size + 1, 0, none⟩) 1 1, .slice none 0 0] 25)) = w1 at hI N1 bC ⊢
  refine (cwrite_any exN 5 7 _ _ _ none 0 0 w1 hI (kidl_nil w1) (by omega) (by omega) (ht.below bC ht.1)).mono ?_
  rw [exN_E]
  rintro e w2 ⟨A2, n2, c2, rfl, s2, hb2⟩
  obtain rfl : 256 = n2 := by rw [← s2.len, exN_len]
  obtain ⟨g, o, rfl, _, _⟩ := range_sl s2 (by rw [exN_len]; omega)
  have hcap := s2.cap
  have hmax := s2.max
  unfold maxLen at hmax
  have hi1 : (33 : Int) ≤ (c2 : Int) := by omega
  have N2 := N1.below hb2 N1.lt
  have I2 := hI.below hb2
  have B2 := bC.trans (hb2.mono bC.size)
  have q0 := N2.c0
  have q1 := N2.c1
  have q2 := N2.c2
  clear hI N1 bC hb2
  go_wp2_with fail
  refine (cseek_any exN (may_fit exN_may) ⟨1, 2, 3⟩ 0 exN_s3 true exN_f3 _ _ _ none 0 0 w2 I2 (kidl_nil w2) (by omega) (by omega)).mono ?_
  rintro e w3 ⟨rfl, hb3⟩
  have N3 := N2.below hb3 N2.lt
  have I3 := I2.below hb3
  have s3 := s2.below hb3
  have B3 := B2.trans (hb3.mono B2.size)
  clear q0 q1 q2
  have q0 := N3.c0
  have q1 := N3.c1
  have q2 := N3.c2
  clear N2 I2 s2 hb3
  go_wp2_with fail
  refine (cseek_any exN (may_fit exN_may) ⟨1, 2, 4⟩ 1 exN_s4 false exN_f4 _ _ _ none 0 0 w3 I3 (kidl_nil w3) (by omega) (by omega)).mono ?_
  rintro e w4 ⟨rfl, hb4⟩
  have s4 := s3.below hb4
  have B4 := B3.trans (hb4.mono B3.size)
  have hd := (s4.drop (k := 20) (by omega)).take (k := 13) (by omega)
  rw [if_neg (by omega : ¬ c2 = 20)] at hd
  have hstr := str13 (show Sl w4 (some ⟨g, o + 20, none⟩) 13 (c2 - 20) _ from hd) exN_13
  have hc20 : ¬ c2 = 20 := by omega
  clear q0 q1 q2 N3 I3 s3 s4 hd hb4
  go_wp2
  go_ret
  exact ⟨rfl, B4⟩
end Go.Proofs.YtmebdjafnefneaaDoor
