/- Plain facts of inodes, entries and chunks as bytes: what was put reads as it was, and what reads is put as the same bytes. -/
import Derived.Test.YtimlhhemfipooaaInF
namespace Go.Proofs.Ytimlhhemfipooaa
open Go Go.RowKit Go.Proofs

theorem dig_num (l : List UInt8) (n : Nat) (h : l.length = n) : dig (numL l : Int) n = l := by
  subst h
  refine numL_injK (dig_len _ _) ?_
  rw [numL_digK]
  exact Nat.mod_eq_of_lt (numL_lt l)
theorem num_pos (l : List UInt8) : (0 : Int) ≤ (numL l : Int) := by omega
/-- One row's bytes: whether two rows are the same, as the walk asks it. -/
theorem sb_no {a b : List UInt8} (h : a ≠ b) : ((⟨a.toArray⟩ : ByteArray).toList == (⟨b.toArray⟩ : ByteArray).toList) = false := by
  rw [ByteArray.toList_eq, ByteArray.toList_eq]
  simpa using h

/-! ### Inodes -/
theorem ino_len (i : Ino) : i.bytes.length = 7 := by simp [Ino.bytes, dig_len]
theorem ino_back (i : Ino) (h : i.may = true) : inoOf i.bytes = i ∧ inoOk i.bytes = true := by
  have hm := of_decide_eq_true h
  have e1 : i.bytes.take 1 = dig i.kind 1 := List.take_left' (dig_len _ _)
  have e2 : i.bytes.drop 1 = dig i.links 2 ++ dig i.size 4 := List.drop_left' (dig_len _ _)
  have e3 : i.bytes.drop 3 = dig i.size 4 := by
    rw [show (3 : Nat) = 1 + 2 from rfl, ← List.drop_drop, e2]
    exact List.drop_left' (dig_len _ _)
  have hi : inoOf i.bytes = i := by
    unfold inoOf
    rw [e1, e2, e3, List.take_left' (dig_len _ _), List.take_of_length_le (by rw [dig_len]; omega), num_back i.kind 1 (by omega) (by omega), num_back i.links 2 (by omega) (by omega), num_back i.size 4 (by omega) (by omega)]
  exact ⟨hi, by unfold inoOk; rw [hi, h, ino_len]; rfl⟩
theorem ino_form (l : List UInt8) (h : l.length = 7) : (inoOf l).bytes = l := by
  unfold inoOf Ino.bytes
  dsimp only
  rw [dig_num _ 1 (by simp; omega), dig_num _ 2 (by simp; omega), dig_num _ 4 (by simp; omega), List.take_of_length_le (l := l.drop 3) (by simp; omega)]
  have e : l.drop 3 = (l.drop 1).drop 2 := by rw [List.drop_drop]
  rw [e, List.take_append_drop, List.take_append_drop]
theorem ino_ok_form (l : List UInt8) (h : inoOk l = true) : l.length = 7 ∧ (inoOf l).may = true ∧ (inoOf l).bytes = l := by
  obtain ⟨h1, h2⟩ := Bool.and_eq_true_iff.1 h
  have h7 := of_decide_eq_true h1
  exact ⟨h7, h2, ino_form l h7⟩
/-- What Put and Take answer. -/
def inoPE (i : Ino) : Int := if i.may = true then 0 else 1
def inoPB (i : Ino) : List UInt8 := if i.may = true then i.bytes else []
def inoT (l : List UInt8) : Ino := if inoOk l = true then inoOf l else Ino.zero
def inoTE (l : List UInt8) : Int := if inoOk l = true then 0 else 3
theorem inoPE_no {i : Ino} (h : i.may = false) : inoPE i = 1 ∧ inoPB i = [] := by unfold inoPE inoPB; rw [h]; exact ⟨rfl, rfl⟩
theorem inoPE_yes {i : Ino} (h : i.may = true) : inoPE i = 0 ∧ inoPB i = i.bytes := by unfold inoPE inoPB; rw [if_pos h, if_pos h]; exact ⟨rfl, rfl⟩
theorem inoT_no {l : List UInt8} (h : inoOk l = false) : inoT l = Ino.zero ∧ inoTE l = 3 := by unfold inoT inoTE; rw [h]; exact ⟨rfl, rfl⟩
theorem inoT_yes {l : List UInt8} (h : inoOk l = true) : inoT l = inoOf l ∧ inoTE l = 0 := by unfold inoT inoTE; rw [if_pos h, if_pos h]; exact ⟨rfl, rfl⟩

theorem iPut_any (i : Ino) (w : World) :
    Calls Try.prog 10 #[.agg #[.int .i64 i.kind, .int .i64 i.links, .int .i64 i.size]] w fun e w' => ∃ A n c, e = .returned (.tuple #[.slice A n c, .int .i64 (inoPE i)]) ∧ Sl w' A n c (inoPB i) ∧ Below w.heap.size w w' := by
  cases h : i.may
  · obtain ⟨e1, e2⟩ := inoPE_no h
    rw [e1, e2]
    exact (iPut_no i h w).mono fun e w' ⟨h1, h2⟩ => ⟨_, _, _, h1, sl_nil _, h2⟩
  · obtain ⟨e1, e2⟩ := inoPE_yes h
    rw [e1, e2]
    exact iPut_yes i h w
theorem iTake_any (B : Option Addr) (m d : Nat) (l : List UInt8) (w : World) (hs : Sl w B m d l) (hm : m ≤ 1000000) :
    Calls Try.prog 16 #[.slice B m d] w fun e w' => e = .returned (.tuple #[.agg #[.int .i64 (inoT l).kind, .int .i64 (inoT l).links, .int .i64 (inoT l).size], .int .i64 (inoTE l)]) ∧ Below w.heap.size w w' := by
  cases h : inoOk l
  · obtain ⟨e1, e2⟩ := inoT_no h
    rw [e1, e2]
    exact iTake_no B m d l h w hs hm
  · obtain ⟨e1, e2⟩ := inoT_yes h
    rw [e1, e2]
    exact iTake_yes B m d l h w hs hm

/-! ### Entries -/
theorem ent_body (s : List UInt8) (r : List UInt8) (h : s.length ≤ 20) : WholeT ((dig (s.length : Int) 1 ++ s) ++ r) 1 ∧ bodyT ((dig (s.length : Int) 1 ++ s) ++ r) 1 = s ∧ restT ((dig (s.length : Int) 1 ++ s) ++ r) 1 = r := by
  have e1 : ((dig (s.length : Int) 1 ++ s) ++ r).take 1 = dig (s.length : Int) 1 := by rw [List.append_assoc]; exact List.take_left' (dig_len _ _)
  have e2 : ((dig (s.length : Int) 1 ++ s) ++ r).drop 1 = s ++ r := by rw [List.append_assoc]; exact List.drop_left' (dig_len _ _)
  have e3 : numL (dig (s.length : Int) 1) = s.length := by rw [numL_digK]; omega
  refine ⟨?_, ?_, ?_⟩
  · unfold WholeT
    rw [e1, e3]
    simp [dig_len]
  · unfold bodyT
    rw [e1, e2, e3]
    exact List.take_left' rfl
  · unfold restT
    rw [e1, e3, ← List.drop_drop, e2]
    exact List.drop_left' rfl
theorem ent_len (e : Ent) : e.bytes.length = 6 + e.name.size := by
  have e2 : e.name.data.size = e.name.size := rfl
  simp [Ent.bytes, dig_len]; omega
theorem ent_back (e : Ent) (h : e.may = true) : entOf e.bytes = e ∧ entOk e.bytes = true := by
  obtain ⟨hn, hr⟩ := Bool.and_eq_true_iff.1 h
  have hz := of_decide_eq_true hn
  have hm := of_decide_eq_true hr
  have e2 : e.name.data.toList.length = e.name.size := by simp
  obtain ⟨b1, b2, b3⟩ := ent_body e.name.data.toList (dig e.ino 4 ++ dig e.kind 1) (by omega)
  rw [e2] at b1 b2 b3
  have hb : (dig (e.name.size : Int) 1 ++ e.name.data.toList) ++ (dig e.ino 4 ++ dig e.kind 1) = e.bytes := rfl
  rw [hb] at b1 b2 b3
  have hi : entOf e.bytes = e := by
    unfold entOf
    rw [b2, b3, List.take_left' (dig_len _ _), List.drop_left' (dig_len _ _), List.take_of_length_le (by rw [dig_len]; omega), num_back e.ino 4 (by omega) (by omega), num_back e.kind 1 (by omega) (by omega)]
  refine ⟨hi, ?_⟩
  unfold entOk entRest
  rw [hi, hn, hr, (wholeB_iff _).2 b1, b3]
  simp [dig_len]
theorem ent_form (l : List UInt8) (hw : wholeB l = true) (h5 : (restT l 1).length = 5) : (entOf l).bytes = l := by
  obtain ⟨w1, w2⟩ := (wholeB_iff l).1 hw
  have hb : (bodyT l 1).length = numL (l.take 1) := by unfold bodyT; rw [List.length_take, List.length_drop]; omega
  unfold entOf Ent.bytes
  dsimp only
  have hz : ((⟨(bodyT l 1).toArray⟩ : ByteArray).size : Int) = (numL (l.take 1) : Int) := by rw [← hb]; rfl
  rw [hz, dig_num _ 1 (by simp; omega), dig_num _ 4 (by simp; omega), dig_num _ 1 (by simp; omega), List.take_of_length_le (l := (restT l 1).drop 4) (by simp; omega), List.take_append_drop]
  show l.take 1 ++ bodyT l 1 ++ restT l 1 = l
  unfold bodyT restT
  rw [← List.drop_drop, List.append_assoc, List.take_append_drop, List.take_append_drop]
theorem ent_ok_form (l : List UInt8) (h : entOk l = true) : (entOf l).may = true ∧ (entOf l).bytes = l := by
  obtain ⟨h1, h2⟩ := Bool.and_eq_true_iff.1 h
  obtain ⟨h3, h4⟩ := Bool.and_eq_true_iff.1 h2
  obtain ⟨h5, h6⟩ := Bool.and_eq_true_iff.1 h4
  exact ⟨by unfold Ent.may; rw [h3, h6]; rfl, ent_form l h1 (of_decide_eq_true h5)⟩
def entPE (e : Ent) : Int := if e.may = true then 0 else 1
def entPB (e : Ent) : List UInt8 := if e.may = true then e.bytes else []
def entT (l : List UInt8) : Ent := if entOk l = true then entOf l else Ent.zero
def entTE (l : List UInt8) : Int := if entOk l = true then 0 else 3
theorem entPE_no {i : Ent} (h : i.may = false) : entPE i = 1 ∧ entPB i = [] := by unfold entPE entPB; rw [h]; exact ⟨rfl, rfl⟩
theorem entPE_yes {i : Ent} (h : i.may = true) : entPE i = 0 ∧ entPB i = i.bytes := by unfold entPE entPB; rw [if_pos h, if_pos h]; exact ⟨rfl, rfl⟩
theorem entT_no {l : List UInt8} (h : entOk l = false) : entT l = Ent.zero ∧ entTE l = 3 := by unfold entT entTE; rw [h]; exact ⟨rfl, rfl⟩
theorem entT_yes {l : List UInt8} (h : entOk l = true) : entT l = entOf l ∧ entTE l = 0 := by unfold entT entTE; rw [if_pos h, if_pos h]; exact ⟨rfl, rfl⟩
theorem iPutEntry_any (i : Ent) (w : World) :
    Calls Try.prog 12 #[.agg #[.string i.name, .int .i64 i.ino, .int .i64 i.kind]] w fun e w' => ∃ A n c, e = .returned (.tuple #[.slice A n c, .int .i64 (entPE i)]) ∧ Sl w' A n c (entPB i) ∧ Below w.heap.size w w' := by
  cases h : i.may
  · obtain ⟨e1, e2⟩ := entPE_no h
    rw [e1, e2]
    exact (iPutEntry_no i h w).mono fun e w' ⟨h1, h2⟩ => ⟨_, _, _, h1, sl_nil _, h2⟩
  · obtain ⟨e1, e2⟩ := entPE_yes h
    rw [e1, e2]
    exact iPutEntry_yes i h w
theorem iTakeEntry_says (B : Option Addr) (m d : Nat) (l : List UInt8) (w : World) (hs : Sl w B m d l) (hm : m ≤ 1000000) :
    Calls Try.prog 18 #[.slice B m d] w fun e w' => e = .returned (.tuple #[.agg #[.string (entT l).name, .int .i64 (entT l).ino, .int .i64 (entT l).kind], .int .i64 (entTE l)]) ∧ Below w.heap.size w w' := by
  refine (iTakeEntry_any B m d l w hs hm).mono fun e w' ⟨h1, h2, h3⟩ => ⟨?_, h3⟩
  cases h : entOk l
  · obtain ⟨e1, e2⟩ := entT_no h
    rw [e1, e2]
    exact h1 h
  · obtain ⟨e1, e2⟩ := entT_yes h
    rw [e1, e2]
    exact h2 h

/-! ### Chunks -/
theorem ext_len (l : List UInt8) (a : Int) (h : extMay l a = true) : (extBytes l a).length ≤ 25 := by
  have := of_decide_eq_true h
  unfold extBytes
  split
  · simp [dig_len]
  · simp; omega
theorem ext_back (l : List UInt8) (a : Int) (h : extMay l a = true) : extOk (extBytes l a) = true ∧ extA (extBytes l a) = a ∧ extL (extBytes l a) = l := by
  have hm := of_decide_eq_true h
  by_cases h0 : l.length = 0
  · have hb : extBytes l a = 1 :: dig a 2 := by unfold extBytes; rw [if_pos h0]
    have b0 : byt (1 :: dig a 2) 0 = 1 := rfl
    have hn : (numL (dig a 2) : Int) = a := num_back a 2 (by omega) (by omega)
    rw [hb]
    unfold extOk extA extL
    rw [b0, if_pos rfl, if_pos rfl]
    refine ⟨decide_eq_true (.inl ⟨rfl, by simp [dig_len], ?_, ?_⟩), hn, (List.eq_nil_of_length_eq_zero h0).symm⟩
    · show 1 ≤ numL (dig a 2); omega
    · show numL (dig a 2) ≤ 2047; omega
  · have hb : extBytes l a = 0 :: l := by unfold extBytes; rw [if_neg h0]
    have b0 : byt (0 :: l) 0 = 0 := rfl
    rw [hb]
    unfold extOk extA extL
    rw [b0, if_neg (by omega), if_neg (by omega)]
    exact ⟨decide_eq_true (.inr ⟨rfl, by simp; omega, by simp; omega⟩), by omega, rfl⟩
theorem ext_ok_form (l : List UInt8) (h : extOk l = true) : extMay (extL l) (extA l) = true ∧ extBytes (extL l) (extA l) = l := by
  have hm := of_decide_eq_true h
  match l, hm with
  | [], hm => simp at hm
  | b :: r, hm =>
    have hb : byt (b :: r) 0 = b.toNat := rfl
    unfold extL extA
    rw [hb] at hm ⊢
    rcases hm with ⟨h1, h2, h3, h4⟩ | ⟨h1, h2, h3⟩
    · have e : b = 1 := UInt8.toNat_inj.1 h1
      have h2' : r.length = 2 := by simpa using h2
      have h3' : 1 ≤ numL r := h3
      have h4' : numL r ≤ 2047 := h4
      rw [if_pos h1, if_pos h1]
      refine ⟨decide_eq_true (.inl ⟨rfl, by show (1 : Int) ≤ (numL r : Int); omega, by show (numL r : Int) ≤ 2047; omega⟩), ?_⟩
      show 1 :: dig (numL r : Int) 2 = b :: r
      rw [dig_num r 2 h2', e]
    · have e : b = 0 := UInt8.toNat_inj.1 h1
      have h2' : 1 ≤ r.length := by simp at h2; omega
      have h3' : r.length ≤ 24 := by simp at h3; omega
      rw [if_neg (by omega), if_neg (by omega)]
      refine ⟨decide_eq_true (.inr ⟨rfl, h2', h3'⟩), ?_⟩
      show extBytes r 0 = b :: r
      unfold extBytes
      rw [if_neg (by omega), e]
def extPE (l : List UInt8) (a : Int) : Int := if extMay l a = true then 0 else 1
def extPB (l : List UInt8) (a : Int) : List UInt8 := if extMay l a = true then extBytes l a else []
def extTA (l : List UInt8) : Int := if extOk l = true then extA l else 0
def extTL (l : List UInt8) : List UInt8 := if extOk l = true then extL l else []
def extTE (l : List UInt8) : Int := if extOk l = true then 0 else 3
theorem extPE_no {l : List UInt8} {a : Int} (h : extMay l a = false) : extPE l a = 1 ∧ extPB l a = [] := by unfold extPE extPB; rw [h]; exact ⟨rfl, rfl⟩
theorem extPE_yes {l : List UInt8} {a : Int} (h : extMay l a = true) : extPE l a = 0 ∧ extPB l a = extBytes l a := by unfold extPE extPB; rw [if_pos h, if_pos h]; exact ⟨rfl, rfl⟩
theorem extT_no {l : List UInt8} (h : extOk l = false) : extTA l = 0 ∧ extTL l = [] ∧ extTE l = 3 := by unfold extTA extTL extTE; rw [h]; exact ⟨rfl, rfl, rfl⟩
theorem extT_yes {l : List UInt8} (h : extOk l = true) : extTA l = extA l ∧ extTL l = extL l ∧ extTE l = 0 := by unfold extTA extTL extTE; rw [if_pos h, if_pos h, if_pos h]; exact ⟨rfl, rfl, rfl⟩
theorem iPutExtent_says (A : Option Addr) (n c : Nat) (l : List UInt8) (a : Int) (w : World) (hs : Sl w A n c l) (hn : n ≤ 1000000) :
    Calls Try.prog 14 #[.agg #[.slice A n c, .int .i64 a]] w fun e w' => ∃ A n c, e = .returned (.tuple #[.slice A n c, .int .i64 (extPE l a)]) ∧ Sl w' A n c (extPB l a) ∧ Below w.heap.size w w' := by
  refine (iPutExtent_any A n c l a w hs hn).mono fun e w' ⟨h1, h2, h3⟩ => ?_
  cases h : extMay l a
  · obtain ⟨e1, e2⟩ := extPE_no h
    rw [e1, e2]
    exact ⟨_, _, _, h1 h, sl_nil _, h3⟩
  · obtain ⟨e1, e2⟩ := extPE_yes h
    rw [e1, e2]
    obtain ⟨A, n, c, h4, h5⟩ := h2 h
    exact ⟨_, _, _, h4, h5, h3⟩
theorem iTakeExtent_says (B : Option Addr) (m d : Nat) (l : List UInt8) (w : World) (hs : Sl w B m d l) (hm : m ≤ 1000000) :
    Calls Try.prog 20 #[.slice B m d] w fun e w' => ∃ A n c, e = .returned (.tuple #[.agg #[.slice A n c, .int .i64 (extTA l)], .int .i64 (extTE l)]) ∧ Sl w' A n c (extTL l) ∧ Below w.heap.size w w' := by
  refine (iTakeExtent_any B m d l w hs hm).mono fun e w' ⟨h1, h2, h3⟩ => ?_
  cases h : extOk l
  · obtain ⟨e1, e2, e3⟩ := extT_no h
    rw [e1, e2, e3]
    exact ⟨_, _, _, h1 h, sl_nil _, h3⟩
  · obtain ⟨e1, e2, e3⟩ := extT_yes h
    rw [e1, e2, e3]
    obtain ⟨A, n, c, h4, h5⟩ := h2 h
    exact ⟨_, _, _, h4, h5, h3⟩
end Go.Proofs.Ytimlhhemfipooaa
