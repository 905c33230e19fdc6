/- Plain facts of superblocks: what was written is read as it was, by the code's way and by the reference's; in its slot alone; not with a byte turned. -/
import Derived.Test.YtljlliiedbedeaaDoorSupL
import Derived.Test.YtljlliiedbedeaaDoorSealPl
namespace Go.Proofs.YtljlliiedbedeaaDoor
open Go Go.RowKit Go.Proofs

/-- The reference's way to read a subvolume; its superblock, the first k of them. -/
def rfV (l : List UInt8) : Vl := ⟨rdN l, decide (gN l 11 1 = 1), (gN l 12 2 : Int), (gN l 14 4 : Int)⟩
def rfTo (g : Int) (l : List UInt8) (k : Nat) : Sp := ⟨g, (gN l 0 2 : Int), (gN l 2 2 : Int), (List.range 8).map (fun i => if i < k then rfV (l.drop (4 + 18 * i)) else Vl.zero), by simp⟩
def rfL (l : List UInt8) : Sp := rfTo (opH l).gen (opB l) 8
/-- A subvolume that fits its bytes. -/
def Vl.fits (v : Vl) : Prop := v.name.size ≤ 10 ∧ (0 ≤ v.root ∧ v.root < 65536) ∧ (0 ≤ v.next ∧ v.next < 4294967296)
theorem gN_mid (X Y Z : List UInt8) (p m : Nat) (hX : X.length = p) (hY : Y.length = m) : gN (X ++ (Y ++ Z)) p m = numL Y := by
  unfold gN
  rw [List.drop_left' hX, List.take_left' hY]
theorem vol_parts (v : Vl) (hv : v.fits) (Z : List UInt8) : gN (volB v ++ Z) 0 1 = v.name.size ∧ rdN (volB v ++ Z) = v.name ∧ (gN (volB v ++ Z) 11 1 : Int) = dgt v.ro ∧ (gN (volB v ++ Z) 12 2 : Int) = v.root ∧ (gN (volB v ++ Z) 14 4 : Int) = v.next := by
  obtain ⟨h1, ⟨h2, h3⟩, h4, h5⟩ := hv
  have e0 : gN (volB v ++ Z) 0 1 = v.name.size := by
    unfold volB
    have := gN_mid [] (dig (v.name.size : Int) 1) (padL v.name ++ (dig (dgt v.ro) 1 ++ (dig v.root 2 ++ dig v.next 4)) ++ Z) 0 1 rfl (dig_len _ _)
    rw [List.nil_append] at this
    rw [List.append_assoc, this]
    have := numL_one (v.name.size : Int) 1 (by omega) (by omega)
    omega
  have hd : dgt v.ro = 0 ∨ dgt v.ro = 1 := by unfold dgt; split <;> simp
  refine ⟨e0, ?_, ?_, ?_, ?_⟩
  · unfold rdN
    rw [e0, Nat.min_eq_left h1]
    have : (volB v ++ Z).drop 1 = padL v.name ++ ((dig (dgt v.ro) 1 ++ (dig v.root 2 ++ dig v.next 4)) ++ Z) := by
      unfold volB
      rw [List.append_assoc, List.drop_left' (dig_len _ _), List.append_assoc]
    rw [this]
    unfold padL
    rw [List.append_assoc, List.take_left' (by simp)]
  · have : volB v ++ Z = (dig (v.name.size : Int) 1 ++ padL v.name) ++ (dig (dgt v.ro) 1 ++ ((dig v.root 2 ++ dig v.next 4) ++ Z)) := by unfold volB; simp only [List.append_assoc]
    rw [this, gN_mid _ _ _ 11 1 (by simp [dig_len, padL_len _ h1]) (dig_len _ _)]
    exact numL_one _ 1 (by omega) (by omega)
  · have : volB v ++ Z = (dig (v.name.size : Int) 1 ++ (padL v.name ++ dig (dgt v.ro) 1)) ++ (dig v.root 2 ++ (dig v.next 4 ++ Z)) := by unfold volB; simp only [List.append_assoc]
    rw [this, gN_mid _ _ _ 12 2 (by simp [dig_len, padL_len _ h1]) (dig_len _ _)]
    exact numL_one _ 2 h2 (by omega)
  · have : volB v ++ Z = (dig (v.name.size : Int) 1 ++ (padL v.name ++ (dig (dgt v.ro) 1 ++ dig v.root 2))) ++ (dig v.next 4 ++ Z) := by unfold volB; simp only [List.append_assoc]
    rw [this, gN_mid _ _ _ 14 4 (by simp [dig_len, padL_len _ h1]) (dig_len _ _)]
    exact numL_one _ 4 h4 (by omega)
theorem vol_back (v : Vl) (hv : v.fits) (Z : List UInt8) : rdV (volB v ++ Z) = v ∧ rfV (volB v ++ Z) = v ∧ gN (volB v ++ Z) 0 1 ≤ 10 := by
  obtain ⟨e0, e1, e2, e3, e4⟩ := vol_parts v hv Z
  have hro : decide (gN (volB v ++ Z) 11 1 ≠ 0) = v.ro ∧ decide (gN (volB v ++ Z) 11 1 = 1) = v.ro := by
    unfold dgt at e2
    cases hr : v.ro
    · rw [hr] at e2
      simp at e2
      rw [e2]
      decide
    · rw [hr] at e2
      simp at e2
      have : gN (volB v ++ Z) 11 1 = 1 := by omega
      rw [this]
      decide
  refine ⟨?_, ?_, by rw [e0]; exact hv.1⟩
  · unfold rdV
    rw [e1, e3, e4, hro.1]
  · unfold rfV
    rw [e1, e3, e4, hro.2]
theorem may_fits {S : Sp} (h : S.may = true) : ∀ j, j < 8 → (S.at_ j).fits := fun j hj => by
  have hp := (may_parts h).1
  rcases ok1_parts ((may_parts h).2 j hj) with e | ⟨h1, h2, h3⟩
  · rw [e]
    exact ⟨by show 0 ≤ 10; omega, ⟨by show (0 : Int) ≤ 0; omega, by show (0 : Int) < 65536; omega⟩, by show (0 : Int) ≤ 0; omega, by show (0 : Int) < 4294967296; omega⟩
  · exact ⟨(lab_size h1).2, ⟨by omega, by omega⟩, by omega, by omega⟩
theorem body_at (S : Sp) (hn : ∀ j, j < 8 → (S.at_ j).name.size ≤ 10) (Z : List UInt8) {k : Nat} (hk : k < 8) : ∃ R, (bodyB S ++ Z).drop (4 + 18 * k) = volB (S.at_ k) ++ R := by
  have hl : k < S.vols.length := by rw [S.len]; exact hk
  have e : bodyB S = bodyTo S k ++ (volB (S.at_ k) ++ (S.vols.drop (k + 1)).flatMap volB) := by
    unfold bodyB bodyTo
    have h := S.get hk
    rw [List.getElem?_eq_getElem hl] at h
    have h2 : S.vols.take 8 = S.vols.take k ++ (S.at_ k :: S.vols.drop (k + 1)) := by
      rw [← Option.some.inj h, List.getElem_cons_drop, List.take_append_drop, List.take_of_length_le (by rw [S.len]; omega)]
    rw [h2, List.flatMap_append, List.flatMap_cons]
    simp only [List.append_assoc]
  rw [e, List.append_assoc, List.drop_left' (bodyTo_len S k (by omega) hn), List.append_assoc]
  exact ⟨_, rfl⟩
theorem body_head (S : Sp) (h : S.may = true) (Z : List UInt8) : (gN (bodyB S ++ Z) 0 2 : Int) = S.sectors ∧ (gN (bodyB S ++ Z) 2 2 : Int) = S.log := by
  have hp := (may_parts h).1
  have e : bodyB S ++ Z = [] ++ (dig S.sectors 2 ++ (dig S.log 2 ++ ((S.vols.take 8).flatMap volB ++ Z))) := by unfold bodyB bodyTo; simp only [List.append_assoc, List.nil_append]
  have e2 : bodyB S ++ Z = dig S.sectors 2 ++ (dig S.log 2 ++ ((S.vols.take 8).flatMap volB ++ Z)) := by rw [e, List.nil_append]
  constructor
  · rw [e, gN_mid _ _ _ 0 2 rfl (dig_len _ _)]
    exact numL_one _ 2 (by omega) (by omega)
  · rw [e2, gN_mid _ _ _ 2 2 (dig_len _ _) (dig_len _ _)]
    exact numL_one _ 2 (by omega) (by omega)
/-- What was written is read as it was, both ways. -/
theorem sw_back {S : Sp} {slot : Int} (h : swOk S slot = true) : okB (swB S slot) = true ∧ opH (swB S slot) = hdS S slot ∧ rdL (swB S slot) = S ∧ rfL (swB S slot) = S ∧ (∀ k, k < 8 → gN ((opB (swB S slot)).drop (4 + 18 * k)) 0 1 ≤ 10) := by
  have hm : S.may = true := by unfold swOk at h; rw [Bool.and_eq_true] at h; exact h.1
  have hk := hdS_ok h
  have hl : (bodyB S).length ≤ 236 := by rw [bodyB_len hm]; omega
  obtain ⟨o1, o2, o3⟩ := blk_open (hdS S slot) (bodyB S) hk hl
  have hB := (sw_yes h).2.1
  rw [hB]
  have hn := may_names hm
  have hf := may_fits hm
  obtain ⟨g1, g2⟩ := body_head S hm (List.replicate (236 - (bodyB S).length) 0)
  have hv : ∀ k, k < 8 → rdV ((opB (blkL (hdS S slot) (bodyB S))).drop (4 + 18 * k)) = S.at_ k ∧ rfV ((opB (blkL (hdS S slot) (bodyB S))).drop (4 + 18 * k)) = S.at_ k ∧ gN ((opB (blkL (hdS S slot) (bodyB S))).drop (4 + 18 * k)) 0 1 ≤ 10 := fun k hk => by
    rw [o2]
    obtain ⟨R, e⟩ := body_at S hn (List.replicate (236 - (bodyB S).length) 0) hk
    rw [e]
    exact vol_back _ (hf k hk) R
  have hvols : ∀ f : List UInt8 → Vl, (∀ k, k < 8 → f ((opB (blkL (hdS S slot) (bodyB S))).drop (4 + 18 * k)) = S.at_ k) → (List.range 8).map (fun i => if i < 8 then f ((opB (blkL (hdS S slot) (bodyB S))).drop (4 + 18 * i)) else Vl.zero) = S.vols := fun f hf => by
    refine List.ext_getElem (by simp [S.len]) fun i h1 h2 => ?_
    have hi : i < 8 := by simpa using h1
    simp only [List.getElem_map, List.getElem_range]
    rw [if_pos hi, hf i hi]
    have := S.get hi
    rw [List.getElem?_eq_getElem h2] at this
    exact (Option.some.inj this).symm
  refine ⟨blk_okB _ _ hk hl, o1, ?_, ?_, fun k hk => (hv k hk).2.2⟩
  · refine Sp.ext' ?_ ?_ ?_ ?_
    · show (opH (blkL (hdS S slot) (bodyB S))).gen = S.gen
      rw [o1]; rfl
    · show (gN (opB (blkL (hdS S slot) (bodyB S))) 0 2 : Int) = S.sectors
      rw [o2]; exact g1
    · show (gN (opB (blkL (hdS S slot) (bodyB S))) 2 2 : Int) = S.log
      rw [o2]; exact g2
    · exact hvols rdV fun k hk => (hv k hk).1
  · refine Sp.ext' ?_ ?_ ?_ ?_
    · show (opH (blkL (hdS S slot) (bodyB S))).gen = S.gen
      rw [o1]; rfl
    · show (gN (opB (blkL (hdS S slot) (bodyB S))) 0 2 : Int) = S.sectors
      rw [o2]; exact g1
    · show (gN (opB (blkL (hdS S slot) (bodyB S))) 2 2 : Int) = S.log
      rw [o2]; exact g2
    · exact hvols rfV fun k hk => (hv k hk).2.1
/-- The reference's way comes to the same. -/
def rfOk (l : List UInt8) (slot : Int) : Bool := okB l && (swOk (rfL l) slot && decide (swB (rfL l) slot = l))
theorem sr_parts {l : List UInt8} {slot : Int} (h : srOk l slot = true) : okB l = true ∧ swOk (rdL l) slot = true ∧ l = swB (rdL l) slot := by
  unfold srOk at h
  rw [Bool.and_eq_true, Bool.and_eq_true] at h
  exact ⟨h.1, h.2.1, of_decide_eq_true h.2.2⟩
theorem sr_small {l : List UInt8} {slot : Int} (h : srOk l slot = true) : (∀ k, k < 8 → gN ((opB l).drop (4 + 18 * k)) 0 1 ≤ 10) ∧ rfL l = rdL l := by
  obtain ⟨_, h1, h2⟩ := sr_parts h
  obtain ⟨_, _, _, h4, h5⟩ := sw_back h1
  rw [← h2] at h4 h5
  exact ⟨h5, h4⟩
theorem rf_sr {l : List UInt8} {slot : Int} : rfOk l slot = srOk l slot := by
  rw [Bool.eq_iff_iff]
  constructor
  · intro h
    unfold rfOk at h
    rw [Bool.and_eq_true, Bool.and_eq_true] at h
    obtain ⟨h0, h1, h2⟩ := h
    have h2 := of_decide_eq_true h2
    have h3 := (sw_back h1).2.2.1
    rw [h2] at h3
    unfold srOk
    rw [h0, h3, h1, h2]
    simp
  · intro h
    obtain ⟨h0, h1, h2⟩ := sr_parts h
    have h3 := (sr_small h).2
    unfold rfOk
    rw [h0, h3, h1, ← h2]
    simp
theorem rf_S {l : List UInt8} {slot : Int} (h : srOk l slot = true) : srS l slot = rfL l := by rw [(sr_yes h).1, (sr_small h).2]
/-- What was written is read in its slot alone. -/
theorem sr_written {S : Sp} {slot : Int} (h : swOk S slot = true) : srOk (swB S slot) slot = true ∧ srS (swB S slot) slot = S := by
  obtain ⟨h0, _, h2, _⟩ := sw_back h
  have hk : srOk (swB S slot) slot = true := by
    unfold srOk
    rw [h0, h2, h]
    simp
  exact ⟨hk, by rw [(sr_yes hk).1, h2]⟩
theorem sr_other {S : Sp} {slot t : Int} (h : swOk S slot = true) (ht : t ≠ slot) : srOk (swB S slot) t = false := by
  cases hk : srOk (swB S slot) t
  · rfl
  · obtain ⟨_, h1, h2⟩ := sr_parts hk
    have e1 := (sw_back h).2.1
    have e2 := (sw_back h1).2.1
    rw [← h2, e1] at e2
    exact absurd (congrArg Hd.addr e2) (fun e => ht e.symm)
theorem sr_turned {l : List UInt8} {t : Int} (h : okB l = true) (k : Nat) (d : UInt8) (hk : k < l.length) (hd : d ≠ l[k]) : srOk (l.set k d) t = false := by
  unfold srOk
  rw [block_turned l k d hk hd h, Bool.false_and]
/-- What is read may be; so its generation is above 0, and nothing's is 0. -/
theorem sr_gen {l : List UInt8} {slot : Int} : (srS l slot).gen = 0 ∧ srE l slot = 3 ∧ srOk l slot = false ∨ 1 ≤ (srS l slot).gen ∧ srE l slot = 0 ∧ srOk l slot = true := by
  cases h : srOk l slot
  · obtain ⟨h1, h2⟩ := sr_no h
    exact .inl ⟨by rw [h1]; rfl, h2, rfl⟩
  · obtain ⟨h1, h2⟩ := sr_yes h
    have h3 := (sr_parts h).2.1
    unfold swOk at h3
    rw [Bool.and_eq_true] at h3
    exact .inr ⟨by rw [h1]; exact (may_parts h3.1).1.1, h2, rfl⟩
end Go.Proofs.YtljlliiedbedeaaDoor
