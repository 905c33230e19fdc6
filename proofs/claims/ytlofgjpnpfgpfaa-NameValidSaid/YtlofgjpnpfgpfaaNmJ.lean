/- The law's head: the document's examples (shown). -/
import Derived.Test.YtlofgjpnpfgpfaaNmI
namespace Go.Proofs.Ytlofgjpnpfgpfaa
open Go Go.RowKit Go.Proofs

theorem one_ok (b : UInt8) (h0 : b ≠ 0) (h47 : b ≠ 47) (h46 : b ≠ 46) : validE ⟨#[b]⟩ = 0 := by
  refine validE_ok (show 1 ≤ 20 by decide) (fun j hj => ?_) ?_
  · obtain rfl : j = 0 := by
      have : (⟨#[b]⟩ : ByteArray).size = 1 := rfl
      omega
    unfold badC
    have e : byt (⟨#[b]⟩ : ByteArray).data.toList 0 = b.toNat := rfl
    rw [e]
    rintro (h | h)
    · exact h0 (UInt8.toNat_inj.1 (by rw [h]; rfl))
    · exact h47 (UInt8.toNat_inj.1 (by rw [h]; rfl))
  · unfold oddN
    simp [h46]
theorem sp_dab : splitP ⟨#[47, 100, 97, 116, 97, 47, 97, 47, 98]⟩ = (⟨#[100, 97, 116, 97]⟩, [⟨#[97]⟩, ⟨#[98]⟩], 0) := by
  rw [splitP_cut (by decide) (by decide) (by decide)]
  rw [show cutS (mkS ((⟨#[47, 100, 97, 116, 97, 47, 97, 47, 98]⟩ : ByteArray).data.toList.drop 1)) = [⟨#[100, 97, 116, 97]⟩, ⟨#[97]⟩, ⟨#[98]⟩] from rfl]
  refine splitR_ok (by decide) fun i hi => ?_
  rcases (by simp at hi; omega : i = 0 ∨ i = 1) with rfl | rfl
  · exact one_ok 97 (by decide) (by decide) (by decide)
  · exact one_ok 98 (by decide) (by decide) (by decide)
theorem sp_root : splitP ⟨#[47]⟩ = (⟨#[]⟩, [], 0) := splitP_root (by decide) (by decide)
theorem sp_data : splitP ⟨#[47, 100, 97, 116, 97, 47]⟩ = (⟨#[]⟩, [], 12) := by
  rw [splitP_cut (by decide) (by decide) (by decide)]
  rw [show cutS (mkS ((⟨#[47, 100, 97, 116, 97, 47]⟩ : ByteArray).data.toList.drop 1)) = [⟨#[100, 97, 116, 97]⟩, ⟨#[]⟩] from rfl]
  have h12 : validE ⟨#[]⟩ = 12 := validE_odd (by decide) (.inl rfl)
  rw [splitR_bad (j := 0) (by decide) (by decide) (fun i hi => by omega) (by show validE ⟨#[]⟩ ≠ 0; rw [h12]; decide)]
  show (emp, [], validE ⟨#[]⟩) = _
  rw [h12]
  rfl
theorem sp_home : splitP ⟨#[104, 111, 109, 101]⟩ = (⟨#[]⟩, [], 12) := splitP_no (by decide) (by decide)

theorem two_below (w : World) (cs cs2 : Array Value) : Below w.heap.size w ((w.alloc (.cells cs 9)).alloc (.cells cs2 9)) :=
  ((Below.refl w.heap.size w).alloc (Nat.le_refl _) _).alloc (by simp) _
theorem two_lit (w : World) (ss tt : List ByteArray) (cs cs2 : Array Value) (h : cs.toList = ss.map Value.string) (h2 : cs2.toList = tt.map Value.string) (hn : ss.length ≤ 1000) (hm : tt.length ≤ 1000) (hs : ∀ s ∈ ss, s.size ≤ maxLen) (ht : ∀ s ∈ tt, s.size ≤ maxLen) :
    StrSl ((w.alloc (.cells cs 9)).alloc (.cells cs2 9)) (some ⟨w.heap.size, 0, none⟩) ss.length ss.length ss ∧ StrSl ((w.alloc (.cells cs 9)).alloc (.cells cs2 9)) (some ⟨w.heap.size + 1, 0, none⟩) tt.length tt.length tt := by
  have h3 := strsl_lit (w.alloc (.cells cs 9)) 9 tt cs2 h2 hm ht
  rw [show (w.alloc (.cells cs 9)).heap.size = w.heap.size + 1 by simp] at h3
  exact ⟨(strsl_lit w 9 ss cs h hn hs).below ((Below.refl _ _).alloc (Nat.le_refl _) _), h3⟩
set_option maxRecDepth 10000 in
set_option maxHeartbeats 4000000 in
theorem shown14_any (w : World) : Calls Try.prog 10 #[] w fun e w' => e = .returned (.bool true) ∧ Below w.heap.size w w' := by
  have s1 := csplit_any ⟨#[47, 100, 97, 116, 97, 47, 97, 47, 98]⟩ _ sp_dab (by decide)
  have s2 := csplit_any ⟨#[47]⟩ _ sp_root (by decide)
  have s3 := csplit_any ⟨#[47, 100, 97, 116, 97, 47]⟩ _ sp_data (by decide)
  have s4 := csplit_any ⟨#[104, 111, 109, 101]⟩ _ sp_home (by decide)
  have S1 := Lib.hid s1
  have S2 := Lib.hid s2
  have S3 := Lib.hid s3
  have S4 := Lib.hid s4
  clear s1 s2 s3 s4
  go_enter Try.func10, Try.ntmps10
  go_wp2_with fail
  refine (S1.out w).mono ?_
  rintro e w1 ⟨A1, n1, c1, rfl, r1, b1⟩
  go_wp2_with fail
  refine (S2.out w1).mono ?_
  rintro e w2 ⟨A2, n2, c2, rfl, r2, b2⟩
  go_wp2_with fail
  refine (S3.out w2).mono ?_
  rintro e w3 ⟨A3, n3, c3, rfl, r3, b3⟩
  go_wp2_with fail
  refine (S4.out w3).mono ?_
  rintro e w4 ⟨A4, n4, c4, rfl, r4, b4⟩
  have b14 : Below w1.heap.size w1 w4 := b2.trans ((b3.mono b2.size).trans (b4.mono (Nat.le_trans b2.size b3.size)))
  have b04 : Below w.heap.size w w4 := b1.trans (b14.mono b1.size)
  have q1 := r1.below b14
  obtain rfl : n1 = 2 := q1.len.symm
  obtain rfl : n2 = 0 := r2.len.symm
  obtain ⟨g, o, rfl, hg, k1⟩ := q1.plain (by omega)
  have k10 : w4.cell? ⟨g, o, none⟩ = some (.string ⟨#[97]⟩) := k1 0 (by omega)
  have k11 : w4.cell? ⟨g, o + 1, none⟩ = some (.string ⟨#[98]⟩) := k1 1 (by omega)
  have L1 := Lib.hid k1
  clear r1 r2 r3 r4 k1 q1
  go_wp2_with fail
  refine (cbelow_any (two_lit w4 [⟨#[97]⟩, ⟨#[98]⟩] [⟨#[97]⟩] #[.string ⟨#[97]⟩, .string ⟨#[98]⟩] #[.string ⟨#[97]⟩] rfl rfl (by simp) (by simp) (by intro s hs; simp at hs; rcases hs with rfl | rfl <;> (unfold maxLen; decide)) (by intro s hs; simp at hs; subst hs; unfold maxLen; decide)).1 (two_lit w4 [⟨#[97]⟩, ⟨#[98]⟩] [⟨#[97]⟩] #[.string ⟨#[97]⟩, .string ⟨#[98]⟩] #[.string ⟨#[97]⟩] rfl rfl (by simp) (by simp) (by intro s hs; simp at hs; rcases hs with rfl | rfl <;> (unfold maxLen; decide)) (by intro s hs; simp at hs; subst hs; unfold maxLen; decide)).2 true (by decide)).mono ?_
  rintro e w5 ⟨rfl, b5⟩
  have b05 := b04.trans ((two_below w4 #[.string ⟨#[97]⟩, .string ⟨#[98]⟩] #[.string ⟨#[97]⟩]).mono b04.size)
  have b06 := b05.trans (b5.mono b05.size)
  clear k10 k11 L1
  go_wp2_with fail
  refine (cbelow_any (two_lit w5 [⟨#[97]⟩] [⟨#[97]⟩] #[.string ⟨#[97]⟩] #[.string ⟨#[97]⟩] rfl rfl (by simp) (by simp) (by intro s hs; simp at hs; subst hs; unfold maxLen; decide) (by intro s hs; simp at hs; subst hs; unfold maxLen; decide)).1 (two_lit w5 [⟨#[97]⟩] [⟨#[97]⟩] #[.string ⟨#[97]⟩] #[.string ⟨#[97]⟩] rfl rfl (by simp) (by simp) (by intro s hs; simp at hs; subst hs; unfold maxLen; decide) (by intro s hs; simp at hs; subst hs; unfold maxLen; decide)).2 false (by decide)).mono ?_
  rintro e w6 ⟨rfl, b6⟩
  have b07 := b06.trans ((two_below w5 #[.string ⟨#[97]⟩] #[.string ⟨#[97]⟩]).mono b06.size)
  go_wp2
  go_ret
  exact ⟨rfl, b07.trans (b6.mono b07.size)⟩
end Go.Proofs.Ytlofgjpnpfgpfaa
