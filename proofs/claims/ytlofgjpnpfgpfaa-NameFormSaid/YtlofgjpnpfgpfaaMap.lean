/- A map whose keys are ints, as a plain list of its entries: get, put, del; and the operations on it. Nothing here speaks of one program. -/
import Derived.Test.YtlofgjpnpfgpfaaBase
import Derived.Maps.RangeRun
import Derived.Maps.Keyed
namespace Go.Proofs.Ytlofgjpnpfgpfaa
open Go Go.RowKit
open Go.ChangeMaps (setBlock)

/-- An entry's key as a number. -/
def kI (e : MapEntry) : Int := match e.key with | .int _ z => z | _ => 0
def getE (s : Int) : List MapEntry → Option Value
  | [] => none
  | e :: r => if kI e = s then some e.val else getE s r
def putE (s : Int) (v : Value) (c : Nat) : List MapEntry → List MapEntry
  | [] => [{ key := .int .i64 s, val := v, born := c }]
  | e :: r => if kI e = s then { e with key := .int .i64 s, val := v } :: r else e :: putE s v c r
def delE (s : Int) : List MapEntry → List MapEntry
  | [] => []
  | e :: r => if kI e = s then r else e :: delE s r
/-- Entries that lie in order: each key an int, none twice, no stamp twice, each below the clock. -/
structure Ents (l : List MapEntry) (clock : Nat) : Prop where
  key : ∀ e ∈ l, e.key = .int .i64 (kI e)
  one : (l.map kI).Nodup
  born : (l.map (·.born)).Nodup
  clock : ∀ e ∈ l, e.born < clock

theorem kI_mk (s : Int) (v : Value) (c : Nat) : kI { key := .int .i64 s, val := v, born := c } = s := rfl
theorem getE_mem {s : Int} {v : Value} : ∀ {l : List MapEntry}, getE s l = some v → ∃ e ∈ l, kI e = s ∧ e.val = v
  | [], h => by cases h
  | e :: r, h => by
    unfold getE at h
    split at h
    · exact ⟨e, by simp, by assumption, by simpa using h⟩
    · obtain ⟨x, hx, h2⟩ := getE_mem h
      exact ⟨x, by simp [hx], h2⟩
theorem getE_none {s : Int} : ∀ {l : List MapEntry}, getE s l = none → ∀ e ∈ l, kI e ≠ s
  | [], _, e, he => by cases he
  | x :: r, h, e, he => by
    unfold getE at h
    split at h
    · cases h
    · rcases List.mem_cons.1 he with rfl | h2
      · assumption
      · exact getE_none h e h2
theorem getE_of_mem {l : List MapEntry} (hn : (l.map kI).Nodup) {e : MapEntry} (he : e ∈ l) : getE (kI e) l = some e.val := by
  induction l with
  | nil => cases he
  | cons x r ih =>
    unfold getE
    rw [List.map_cons, List.nodup_cons] at hn
    rcases List.mem_cons.1 he with rfl | h2
    · simp
    · rw [if_neg (fun h => hn.1 (by rw [h]; exact List.mem_map.2 ⟨e, h2, rfl⟩))]
      exact ih hn.2 h2
theorem getE_put (s : Int) (v : Value) (c : Nat) (z : Int) : ∀ l : List MapEntry, getE z (putE s v c l) = if z = s then some v else getE z l
  | [] => by
    unfold putE getE
    rw [kI_mk]
    by_cases h : s = z
    · simp [h]
    · have : ¬ z = s := fun e => h e.symm
      simp [h, this, getE]
  | e :: r => by
    unfold putE
    by_cases h : kI e = s
    · rw [if_pos h]
      by_cases hz : s = z
      · subst hz; simp [getE, kI]
      · have hz' : ¬ z = s := fun e => hz e.symm
        have hz2 : ¬ kI e = z := fun e => hz (h.symm.trans e)
        have hz3 : ¬ kI { e with key := .int .i64 s, val := v } = z := hz
        unfold getE
        rw [if_neg hz3, if_neg hz', if_neg hz2]
    · rw [if_neg h]
      unfold getE
      rw [getE_put s v c z r]
      by_cases hz : kI e = z
      · have : ¬ z = s := fun e2 => h (hz.trans e2)
        simp [hz, this]
      · simp [hz]
theorem getE_del {s : Int} (z : Int) : ∀ {l : List MapEntry}, (l.map kI).Nodup → getE z (delE s l) = if z = s then none else getE z l
  | [], _ => by simp [delE, getE]
  | e :: r, hn => by
    rw [List.map_cons, List.nodup_cons] at hn
    unfold delE
    by_cases h : kI e = s
    · rw [if_pos h]
      by_cases hz : z = s
      · rw [if_pos hz, hz]
        cases hg : getE s r with
        | none => rfl
        | some v =>
          obtain ⟨x, hx, h2, _⟩ := getE_mem hg
          exact absurd (List.mem_map.2 ⟨x, hx, h2.trans h.symm⟩) hn.1
      · rw [if_neg hz]
        have hr : getE z (e :: r) = getE z r := by
          show (if kI e = z then some e.val else getE z r) = _
          rw [if_neg (fun e2 => hz (e2.symm.trans h))]
        exact hr.symm
    · rw [if_neg h]
      unfold getE
      rw [getE_del z hn.2]
      by_cases hz : kI e = z
      · have : ¬ z = s := fun e2 => h (hz.trans e2)
        simp [hz, this]
      · simp [hz]
theorem mem_put {s : Int} {v : Value} {c : Nat} : ∀ {l : List MapEntry} {e : MapEntry}, e ∈ putE s v c l → e ∈ l ∨ (e.key = .int .i64 s ∧ (e.born = c ∨ ∃ x ∈ l, x.born = e.born))
  | [], e, h => by
    simp [putE] at h; subst h; exact .inr ⟨rfl, .inl rfl⟩
  | x :: r, e, h => by
    unfold putE at h
    split at h
    · rcases List.mem_cons.1 h with rfl | h2
      · exact .inr ⟨rfl, .inr ⟨x, by simp, rfl⟩⟩
      · exact .inl (by simp [h2])
    · rcases List.mem_cons.1 h with rfl | h2
      · exact .inl (by simp)
      · rcases mem_put h2 with h3 | ⟨h3, h4⟩
        · exact .inl (by simp [h3])
        · refine .inr ⟨h3, h4.imp id fun ⟨y, hy, h5⟩ => ⟨y, by simp [hy], h5⟩⟩
theorem mem_del {s : Int} : ∀ {l : List MapEntry} {e : MapEntry}, e ∈ delE s l → e ∈ l
  | [], e, h => by cases h
  | x :: r, e, h => by
    unfold delE at h
    split at h
    · simp [h]
    · rcases List.mem_cons.1 h with rfl | h2
      · simp
      · simp [mem_del h2]
theorem del_sub {s : Int} : ∀ (l : List MapEntry), List.Sublist (delE s l) l
  | [] => .slnil
  | x :: r => by
    unfold delE
    split
    · exact List.sublist_cons_self ..
    · exact (del_sub r).cons_cons x
theorem kI_put {s : Int} {v : Value} {c : Nat} : ∀ (l : List MapEntry), (putE s v c l).map kI = if getE s l = none then l.map kI ++ [s] else l.map kI
  | [] => by simp [putE, getE, kI]
  | x :: r => by
    unfold putE getE
    by_cases h : kI x = s
    · rw [if_pos h, if_pos h, if_neg (by simp)]
      simp [kI] at h ⊢
      exact h.symm
    · rw [if_neg h, if_neg h, List.map_cons, kI_put r]
      split <;> simp
theorem born_put {s : Int} {v : Value} {c : Nat} : ∀ (l : List MapEntry), (putE s v c l).map (·.born) = if getE s l = none then l.map (·.born) ++ [c] else l.map (·.born)
  | [] => by simp [putE, getE]
  | x :: r => by
    unfold putE getE
    by_cases h : kI x = s
    · rw [if_pos h, if_pos h, if_neg (by simp)]
      simp
    · rw [if_neg h, if_neg h, List.map_cons, born_put r]
      split <;> simp
theorem length_put {s : Int} {v : Value} {c : Nat} (l : List MapEntry) : (putE s v c l).length = if getE s l = none then l.length + 1 else l.length := by
  have := congrArg List.length (kI_put (s := s) (v := v) (c := c) l)
  split at this <;> simp_all
theorem length_del {s : Int} : ∀ (l : List MapEntry), (delE s l).length = if getE s l = none then l.length else l.length - 1
  | [] => by simp [delE, getE]
  | x :: r => by
    unfold delE getE
    by_cases h : kI x = s
    · simp [h]
    · rw [if_neg h, if_neg h, List.length_cons, length_del r]
      split
      · simp
      · rename_i hg
        have : 0 < r.length := by
          rcases r with _ | ⟨a, b⟩
          · exact absurd rfl hg
          · simp
        simp; omega

theorem ents_nil : Ents [] 0 := ⟨by simp, by simp, by simp, by simp⟩
theorem Ents.put {l : List MapEntry} {clock : Nat} (h : Ents l clock) (s : Int) (v : Value) : Ents (putE s v clock l) (if getE s l = none then clock + 1 else clock) := by
  have hc : ∀ e ∈ putE s v clock l, e.born < clock + 1 := fun e he => by
    rcases mem_put he with h2 | ⟨_, h2 | ⟨x, hx, h2⟩⟩
    · have := h.clock e h2; omega
    · omega
    · have := h.clock x hx; omega
  refine ⟨fun e he => ?_, ?_, ?_, fun e he => ?_⟩
  · rcases mem_put he with h2 | ⟨h2, _⟩
    · exact h.key e h2
    · unfold kI; rw [h2]
  · rw [kI_put]
    split
    · rename_i hg
      rw [List.nodup_append]
      refine ⟨h.one, by simp, fun a ha b hb => ?_⟩
      obtain rfl : b = s := by simpa using hb
      obtain ⟨e, he, rfl⟩ := List.mem_map.1 ha
      exact getE_none hg e he
    · exact h.one
  · rw [born_put]
    split
    · rw [List.nodup_append]
      refine ⟨h.born, by simp, fun a ha b hb => ?_⟩
      obtain rfl : b = clock := by simpa using hb
      obtain ⟨e, he, rfl⟩ := List.mem_map.1 ha
      have := h.clock e he
      show e.born ≠ b
      omega
    · exact h.born
  · by_cases hg : getE s l = none
    · rw [if_pos hg]; exact hc e he
    · rw [if_neg hg]
      have hb : e.born ∈ (putE s v clock l).map (·.born) := List.mem_map.2 ⟨e, he, rfl⟩
      rw [born_put, if_neg hg] at hb
      obtain ⟨x, hx, h2⟩ := List.mem_map.1 hb
      have := h.clock x hx
      rw [← h2]; exact this
theorem Ents.del {l : List MapEntry} {clock : Nat} (h : Ents l clock) (s : Int) : Ents (delE s l) clock :=
  ⟨fun e he => h.key e (mem_del he), h.one.sublist ((del_sub l).map kI), h.born.sublist ((del_sub l).map _), fun e he => h.clock e (mem_del he)⟩

/-- Where the entry with key s stands. -/
theorem find_at (s : Int) : ∀ (l : List MapEntry) (i : Nat), (∀ e ∈ l, e.key = .int .i64 (kI e)) →
    (Instr.findNow (.int .i64) (.int .i64 s) l i = some none ∧ getE s l = none ∧ (∀ v c, putE s v c l = l ++ [{ key := .int .i64 s, val := v, born := c }]) ∧ delE s l = l) ∨
    ∃ j e, Instr.findNow (.int .i64) (.int .i64 s) l i = some (some (i + j, e.val)) ∧ l[j]? = some e ∧ e.key = .int .i64 s ∧ getE s l = some e.val ∧
      (∀ v c, putE s v c l = l.modify j fun e => { e with key := .int .i64 s, val := v }) ∧ delE s l = l.eraseIdx j
  | [], i, _ => .inl ⟨rfl, rfl, fun _ _ => rfl, rfl⟩
  | x :: r, i, hk => by
    have hx := hk x (by simp)
    by_cases h : kI x = s
    · refine .inr ⟨0, x, ?_, rfl, by rw [hx, h], by simp [getE, h], fun v c => by simp [putE, h], by simp [delE, h]⟩
      rw [Instr.findNow, hx, h]
      simp [Instr.sameNow]
    · have hs : Instr.findNow (.int .i64) (.int .i64 s) (x :: r) i = Instr.findNow (.int .i64) (.int .i64 s) r (i + 1) := by
        have hse : (s == kI x) = false := by rw [beq_eq_false_iff_ne]; exact fun e => h e.symm
        rw [Instr.findNow, hx]
        simp [Instr.sameNow, hse]
      rcases find_at s r (i + 1) (fun e he => hk e (by simp [he])) with ⟨h1, h2, h3, h4⟩ | ⟨j, e, h1, h2, h3, h4, h5, h6⟩
      · exact .inl ⟨hs.trans h1, by simp [getE, h, h2], fun v c => by simp [putE, h, h3], by simp [delE, h, h4]⟩
      · refine .inr ⟨j + 1, e, by rw [hs, h1]; congr 3; omega, by simpa using h2, h3, by simp [getE, h, h4], fun v c => by simp [putE, h, h5], by simp [delE, h, h6]⟩

section
variable {P : Program} {w : World} {t k e b clock : Nat} {l : List MapEntry}
/-- m[s] -/
theorem run_lookup_ints (E : Ents l clock) (ht : P.underlying t = some (.map k e)) (hk : P.underlying k = some (.int .i64)) {z : Value} (hz : (zeroValue e).run P w = .ok z w) (hb : w.heap[b]? = some (.map l.toArray clock)) (s : Int) :
    (Instr.lookup t (.map (some b)) (.int .i64 s) false).run P w = .ok ((getE s l).getD z) w := by
  have hc := fun em => MapKept.run_checkKey (P := P) (w := w) hk (k := .int .i64 s) rfl em 9999
  rcases find_at s l 0 E.key with ⟨h1, h2, _⟩ | ⟨j, x, h1, _, _, h4, _⟩
  · have hf := MapKept.run_findKey (P := P) (w := w) hk h1
    simp [Instr.lookup, run_underlying ht, MapKept.run_getObj_map hb, hc, hf, hz, h2]
  · have hf := MapKept.run_findKey (P := P) (w := w) hk h1
    simp [Instr.lookup, run_underlying ht, MapKept.run_getObj_map hb, hc, hf, h4]
/-- m[s] = v -/
theorem run_update_ints (E : Ents l clock) (ht : P.underlying t = some (.map k e)) (hk : P.underlying k = some (.int .i64)) (hb : w.heap[b]? = some (.map l.toArray clock)) (s : Int) (v : Value) :
    (Instr.mapUpdate t (.map (some b)) (.int .i64 s) v).run P w = .ok () (setBlock w b (.map (putE s v clock l).toArray (if getE s l = none then clock + 1 else clock))) := by
  have hc := fun em => MapKept.run_checkKey (P := P) (w := w) hk (k := .int .i64 s) rfl em 9999
  rcases find_at s l 0 E.key with ⟨h1, h2, h3, _⟩ | ⟨j, x, h1, hj, h3, h4, h5, _⟩
  · have hf := MapKept.run_findKey (P := P) (w := w) hk h1
    simp [Instr.mapUpdate, run_underlying ht, MapKept.run_getObj_map hb, hc, hf, h2, h3, MapKept.run_setObj_map _ hb, setBlock]
  · have hf := MapKept.run_findKey (P := P) (w := w) hk h1
    rw [Nat.zero_add] at hf
    have hks : (Instr.keyThatStays (.int .i64 s) (.int .i64 s)).run P w = .ok (.int .i64 s) w := by
      simp [Instr.keyThatStays, Instr.sameBits]
    simp [Instr.mapUpdate, run_underlying ht, MapKept.run_getObj_map hb, hc, hf, h4, h5, hj, h3, hks, MapKept.run_setObj_map _ hb, setBlock]
/-- delete(m, s) -/
theorem run_delete_ints (E : Ents l clock) (ht : P.underlying t = some (.map k e)) (hk : P.underlying k = some (.int .i64)) (hb : w.heap[b]? = some (.map l.toArray clock)) (s : Int) (u ty : TypeId) :
    (Builtin.delete_ #[t, u] ty #[.map (some b), .int .i64 s]).run P w = .ok (.tuple #[]) (setBlock w b (.map (delE s l).toArray clock)) := by
  have hc := fun em => MapKept.run_checkKey (P := P) (w := w) hk (k := .int .i64 s) rfl em 9999
  rcases find_at s l 0 E.key with ⟨h1, h2, _, h4⟩ | ⟨j, x, h1, hj, h3, _, _, h6⟩
  · have hf := MapKept.run_findKey (P := P) (w := w) hk h1
    simp [Builtin.delete_, run_underlying ht, MapKept.run_getObj_map hb, hc, hf, h4, MapKept.run_setObj_map _ hb, setBlock]
  · have hf := MapKept.run_findKey (P := P) (w := w) hk h1
    rw [Nat.zero_add] at hf
    simp [Builtin.delete_, run_underlying ht, MapKept.run_getObj_map hb, hc, hf, h6, MapKept.run_setObj_map _ hb, setBlock]
end
end Go.Proofs.Ytlofgjpnpfgpfaa
