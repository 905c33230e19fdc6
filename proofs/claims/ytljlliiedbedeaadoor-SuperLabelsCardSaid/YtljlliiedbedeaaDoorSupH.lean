/- Superblocks: the code's Write. -/
import Derived.Test.YtljlliiedbedeaaDoorSupG
import Derived.Test.YtljlliiedbedeaaDoorPkS
namespace Go.Proofs.YtljlliiedbedeaaDoor
open Go Go.RowKit Go.Proofs

/-- The header of a superblock's block; P7.1's Write. -/
def hdS (S : Sp) (slot : Int) : Hd := ⟨1, slot, 0, 0, S.gen⟩
def swOk (S : Sp) (slot : Int) : Bool := S.may && decide (0 ≤ slot ∧ slot ≤ 1)
def swE (S : Sp) (slot : Int) : Int := if swOk S slot = true then 0 else 1
def swB (S : Sp) (slot : Int) : List UInt8 := if swOk S slot = true then blkL (hdS S slot) (bodyB S) else []
theorem may_parts {S : Sp} (h : S.may = true) : (1 ≤ S.gen ∧ S.gen ≤ 1099511627775 ∧ 32 ≤ S.sectors ∧ S.sectors ≤ 2048 ∧ 0 ≤ S.log ∧ S.log ≤ S.sectors - 1) ∧ ∀ j, j < 8 → S.ok1 j = true := by
  unfold Sp.may at h
  rw [Bool.and_eq_true] at h
  exact ⟨of_decide_eq_true h.1, fun j hj => List.all_eq_true.1 h.2 j (List.mem_range.2 hj)⟩
theorem lab_size {s : ByteArray} (h : labL s = true) : 1 ≤ s.size ∧ s.size ≤ 10 := by
  unfold labL at h
  rw [Bool.and_eq_true] at h
  exact of_decide_eq_true h.2
theorem ok1_parts {S : Sp} {j : Nat} (h : S.ok1 j = true) : S.at_ j = Vl.zero ∨ (labL (S.at_ j).name = true ∧ (0 ≤ (S.at_ j).root ∧ (S.at_ j).root ≤ S.sectors - 1) ∧ (2 ≤ (S.at_ j).next ∧ (S.at_ j).next ≤ 2147483647)) := by
  unfold Sp.ok1 at h
  rw [Bool.or_eq_true] at h
  rcases h with h | h
  · exact .inl ((Vl.same_iff _ _).1 h)
  · rw [Bool.and_eq_true] at h
    have h := h.1
    unfold Vl.ok at h
    rw [Bool.and_eq_true, Bool.and_eq_true] at h
    exact .inr ⟨h.1, of_decide_eq_true h.2.1, of_decide_eq_true h.2.2⟩
theorem may_names {S : Sp} (h : S.may = true) : ∀ j, j < 8 → (S.at_ j).name.size ≤ 10 := fun j hj => by
  rcases ok1_parts ((may_parts h).2 j hj) with e | ⟨h, _⟩
  · rw [e]; show 0 ≤ 10; omega
  · exact (lab_size h).2
theorem hdS_ok {S : Sp} {slot : Int} (h : swOk S slot = true) : (hdS S slot).ok = true := by
  unfold swOk at h
  rw [Bool.and_eq_true] at h
  have h1 := (may_parts h.1).1
  have h2 := of_decide_eq_true h.2
  refine decide_eq_true ⟨⟨?_, ?_⟩, ⟨?_, ?_⟩, ⟨?_, ?_⟩, ⟨?_, ?_⟩, ?_, ?_⟩ <;> (dsimp only [hdS]; omega)
theorem bodyB_len {S : Sp} (h : S.may = true) : (bodyB S).length = 148 := bodyTo_len S 8 (by omega) (may_names h)
theorem sw_yes {S : Sp} {slot : Int} (h : swOk S slot = true) : swE S slot = 0 ∧ swB S slot = blkL (hdS S slot) (bodyB S) ∧ sealE (hdS S slot) (bodyB S) = 0 ∧ sealB (hdS S slot) (bodyB S) = blkL (hdS S slot) (bodyB S) := by
  have hm : S.may = true := by unfold swOk at h; rw [Bool.and_eq_true] at h; exact h.1
  have hl := bodyB_len hm
  unfold swE swB sealE sealB
  rw [if_pos h, if_pos h, if_pos (hdS_ok h), if_pos (by omega), if_pos (hdS_ok h), if_pos (by omega)]
  exact ⟨rfl, rfl, rfl, rfl⟩
theorem sw_no {S : Sp} {slot : Int} (h : swOk S slot = false) : swE S slot = 1 ∧ swB S slot = [] := by
  unfold swE swB
  rw [h]
  exact ⟨rfl, rfl⟩
attribute [local go_sem ↓] ldS_shut ldA_shut
set_option maxRecDepth 100000 in
set_option maxHeartbeats 4000000 in
theorem swrite_any (S : Sp) (slot : Int) (hf : S.fine) (w : World) (ht : Tab w) :
    Calls Tryd.prog 11 #[.agg S.vs.toArray, .int .i64 slot] w fun e w' =>
      ∃ A' n' c', e = .returned (.tuple #[.slice A' n' c', .int .i64 (swE S slot)]) ∧ Own w' w.heap.size 5 A' n' c' (swB S slot) ∧ (swOk S slot = true → ∃ g, A' = some ⟨g, 0, none⟩ ∧ n' = 256 ∧ c' = 256) ∧ Below w.heap.size w w' := by
  have H1 := SB.new w S 26
  have b1 : Below w.heap.size w (w.alloc (.cells S.vs.toArray 26)) := (Below.refl _ _).alloc (Nat.le_refl _) _
  have t1 := ht.below b1 ht.1
  have hl1 := H1.ld
  obtain ⟨m, hm⟩ : ∃ m, S.may = m := ⟨_, rfl⟩
  go_enter Tryd.func11, Tryd.ntmps11
  go_wp2_with fail
  generalize w.alloc (.cells S.vs.toArray 26) = w1 at H1 b1 hl1 t1 ⊢
  refine (smay_any S m hm hf w1).mono ?_
  rintro e w2 ⟨rfl, hb2⟩
  have H2 := H1.below hb2 H1.lt
  have B2 := b1.trans (hb2.mono b1.size)
  have t2 := t1.below hb2 t1.1
  have hl2 := H2.ld
  have q2 := H2.c0
  clear H1 hl1 hb2 t1
  cases m
  · obtain ⟨h1, h2⟩ := sw_no (S := S) (slot := slot) (by unfold swOk; rw [hm]; rfl)
    have hno : swOk S slot = false := by unfold swOk; rw [hm]; rfl
    go_wp2
    go_ret2
    rw [h1, h2, hno]
    exact ⟨_, _, _, rfl, own_nil _ _ _, fun h => (by cases h), B2⟩
  · go_wp2_with fail
    by_cases hsl : 0 ≤ slot ∧ slot ≤ 1
    · have hok : swOk S slot = true := by unfold swOk; rw [hm, decide_eq_true hsl]; rfl
      obtain ⟨h1, h2, h3, h4⟩ := sw_yes hok
      have h1h := Lib.hid h1
      have h2h := Lib.hid h2
      have hokh := Lib.hid hok
      refine (swithin_any slot 0 1 true (decide_eq_true hsl) _).mono ?_
      rintro e w3 ⟨rfl, rfl⟩
      go_wp2_with fail
      have hS : ∀ w' : World, Below w2.heap.size w2 w' → w'.cell? ⟨w.heap.size, 0, none⟩ = some (.int .i64 S.gen) ∧ (ldS (.pointer (some ⟨w.heap.size, 0, none⟩))).run Tryd.prog w' = .ok (.agg S.vs.toArray) w' ∧ Below w2.heap.size w2 w' :=
        fun w' hb => ⟨(hb.cell (p := ⟨w.heap.size, 0, none⟩) H2.lt).trans q2, (H2.below hb H2.lt).ld, hb⟩
      have BD : Below w2.heap.size w2 w2.drew := (Below.refl _ _).drew
      have zd : w2.heap.size ≤ w2.drew.heap.size := Nat.le_refl _
      have hvn := may_names hm
      clear hsl h1 h2 hl2 hok
      go_region_held3 (fun w' => w'.cell? ⟨w.heap.size, 0, none⟩ = some (.int .i64 S.gen) ∧ (ldS (.pointer (some ⟨w.heap.size, 0, none⟩))).run Tryd.prog w' = .ok (.agg S.vs.toArray) w' ∧ Below w2.heap.size w2 w')
        (first | assumption | exact hS _ BD | exact hS _ bb3 | exact hS _ bb4)
        (first
          | (go_at_call 25; refine (sbody_any S hvn _).mono ?_; rintro e w3 ⟨A3, n3, c3, rfl, own3', hb3⟩; have own3 : Own w3 w2.heap.size 5 A3 n3 c3 _ := own3'; have bb3 : Below w2.heap.size w2 w3 := BD.trans (hb3.mono zd))
          | (go_at_call 24; refine (seal_any (hdS S slot) A3 n3 c3 _ w3 own3.sl (t2.below bb3 t2.1)).mono ?_; rw [h3, h4]; rintro e w4 ⟨A4, n4, c4, rfl, own4, hg4, hb4⟩; have bb4 : Below w2.heap.size w2 w4 := bb3.trans (hb4.mono (Below.size bb3)))
          | fail)
      go_wp2
      go_ret2
      rw [h1h.out, h2h.out]
      exact ⟨_, _, _, rfl, (own4.less (Below.size bb3)).less B2.size, fun _ => hg4 (by first | trivial | rfl), B2.trans (bb4.mono B2.size)⟩
    · have hno : swOk S slot = false := by unfold swOk; rw [hm, decide_eq_false hsl]; rfl
      obtain ⟨h1, h2⟩ := sw_no hno
      refine (swithin_any slot 0 1 false (decide_eq_false hsl) _).mono ?_
      rintro e w3 ⟨rfl, rfl⟩
      go_wp2
      go_ret2
      rw [h1, h2, hno]
      exact ⟨_, _, _, rfl, own_nil _ _ _, fun h => (by cases h), B2⟩
end Go.Proofs.YtljlliiedbedeaaDoor
