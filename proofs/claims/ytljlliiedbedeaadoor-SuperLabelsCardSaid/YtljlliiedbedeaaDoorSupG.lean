/- Superblocks: the code's body and Write. -/
import Derived.Test.YtljlliiedbedeaaDoorSupF
import Derived.Test.YtljlliiedbedeaaDoorSupD
namespace Go.Proofs.YtljlliiedbedeaaDoor
open Go Go.RowKit Go.Proofs

/-- A superblock's load, and that of its subvolumes, kept shut. -/
def ldS (p : Value) : Sem Value := Instr.loadAt 26 p
theorem ldS_shut (p : Value) : Instr.loadAt 26 p = ldS p := rfl
def ldA (p : Value) : Sem Value := Instr.loadAt 24 p
theorem ldA_shut (p : Value) : Instr.loadAt 24 p = ldA p := rfl
theorem SB.ld {w : World} {b : Nat} {S : Sp} (H : SB w b S) : (ldS (.pointer (some ⟨b, 0, none⟩))).run Tryd.prog w = .ok (.agg S.vs.toArray) w := la_sp H
theorem SB.lda {w : World} {b : Nat} {S : Sp} (H : SB w b S) : (ldA (.pointer (some ⟨b, 3, none⟩))).run Tryd.prog w = .ok (.agg (S.vols.flatMap Vl.vs).toArray) w := la_va H
attribute [local go_sem ↓] ldS_shut ldA_shut
def bodyB (S : Sp) : List UInt8 := bodyTo S 8

set_option maxRecDepth 100000 in
set_option maxHeartbeats 4000000 in
theorem sbody_any (S : Sp) (hv : ∀ j, j < 8 → (S.at_ j).name.size ≤ 10) (w : World) :
    Calls Tryd.prog 25 #[.agg S.vs.toArray] w fun e w' => ∃ A' n' c', e = .returned (.slice A' n' c') ∧ Own w' w.heap.size 5 A' n' c' (bodyB S) ∧ Below w.heap.size w w' := by
  have H1 := SB.new w S 26
  have b1 : Below w.heap.size w (w.alloc (.cells S.vs.toArray 26)) := (Below.refl _ _).alloc (Nat.le_refl _) _
  have q1 := H1.c1
  go_enter Tryd.func25, Tryd.ntmps25
  go_wp2_with fail
  generalize w.alloc (.cells S.vs.toArray 26) = w1 at H1 b1 q1 ⊢
  refine (putin_any none 0 0 [] S.sectors 2 _ (sl_nil _) (by omega) (by omega) (by omega)).mono ?_
  rintro e w2 ⟨A2, n2, c2, rfl, own2, hn2, hb2⟩
  have H2 := H1.below hb2 H1.lt
  have B2 := b1.trans (hb2.mono b1.size)
  have q2 := H2.c2
  clear q1
  go_wp2_with fail
  refine (putin_any A2 n2 c2 _ S.log 2 _ own2.sl (by omega) (by omega) (by omega)).mono ?_
  rintro e w3 ⟨A3, n3, c3, rfl, own3, hn3, hb3⟩
  have H3 := H2.below hb3 H2.lt
  have B3 := B2.trans (hb3.mono B2.size)
  have q3 := H3.lda
  have e3 : [] ++ dig S.sectors (2 : Int).toNat ++ dig S.log (2 : Int).toNat = bodyTo S 0 := by rw [bodyTo_zero]; rfl
  rw [e3] at own3
  have own3 := own3.less B2.size
  clear q2 H1 H2 own2
  go_wp2_with fail
  go_loopw [3, 15] (fun b i wr => ∃ (k : Nat) (A : Option Addr) (n c : Nat), k ≤ 8 ∧ n ≤ 4 + 18 * k ∧ b = .slice A n c ∧ i = .int .i64 (k : Int) ∧ Own wr w.heap.size 5 A n c (bodyTo S k) ∧ Below w.heap.size w wr) (fun _ i _ => 8 - (intOf i).toNat)
  case atStart => exact ⟨0, A3, n3, c3, by omega, by omega, rfl, rfl, own3, B3⟩
  case round =>
    obtain ⟨k, A, n, c, hk, hn, rfl, rfl, own, hB⟩ := hrel
    by_cases hlt : k < 8
    · have hix := ix_vl S hlt
      have hk0 : (0 : Int) ≤ (k : Int) := by omega
      have hnx := Lib.hid (bodyTo_next S hlt)
      have hsz := hv k hlt
      obtain ⟨x, hx⟩ : ∃ x, S.at_ k = x := ⟨_, rfl⟩
      rw [hx] at hix hsz hnx
      clear hx
      go_wp2_with fail
      have bx : Below wr.heap.size wr (wr.alloc (.cells #[.string x.name, .bool x.ro, .int .i64 x.root, .int .i64 x.next] 23)) := (Below.refl _ _).alloc (Nat.le_refl _) _
      have owx := own.below bx
      have hBx := hB.trans (bx.mono hB.size)
      generalize wr.alloc (.cells #[.string x.name, .bool x.ro, .int .i64 x.root, .int .i64 x.next] 23) = wx at bx owx hBx ⊢
      refine (putvol_any x hsz A n c _ wx owx.sl (by omega)).mono ?_
      rintro e w5 ⟨A5, n5, c5, rfl, own5, hn5, hb5⟩
      rw [← hnx.out] at own5
      have hn5' : n5 ≤ 4 + 18 * (k + 1) := by omega
      clear hn5
      go_wp2
      exact ⟨⟨k + 1, A5, n5, c5, by omega, hn5', rfl, by go_num, own5.less hBx.size, hBx.trans (hb5.mono hBx.size)⟩, by simp [intOf]; omega⟩
    · have hk8 : k = 8 := by omega
      rw [hk8] at own
      go_wp2
      go_ret
      exact ⟨_, _, _, rfl, own, hB⟩
end Go.Proofs.YtljlliiedbedeaaDoor
