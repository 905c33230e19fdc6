/- Counts: a row of bodies, each in a block of its own. -/
import Derived.Test.YtancpkdkfemgfaaRowG
import Derived.Test.YtancpkdkfemgfaaCuH
namespace Go.Proofs.Ytancpkdkfemgfaa
open Go Go.RowKit Go.Proofs

theorem TPart : RowT Try.prog 41 46 1 24 (.slice none 0 0) := ⟨Try.underlying41, by kernel_rfl, rfl, by omega⟩
/-- The call's own row of bodies. -/
def PRow (w : World) (base : Nat) (A : Option Addr) (n c : Nat) (ls : List (List UInt8)) : Prop :=
  ∃ raw, OwnS w base 46 1 A n c raw ∧ raw.length = ls.length ∧ ∀ (j : Nat) r l, raw[j]? = some r → ls[j]? = some l → ∃ V p q, r = [.slice V p q] ∧ Sl w V p q l ∧ ∀ g, blockOf V = some g → g < w.heap.size ∧ blockOf A ≠ some g
section
variable {w w' : World} {base n c : Nat} {A : Option Addr} {ls : List (List UInt8)}
theorem PRow.below (h : PRow w base A n c ls) (hb : Below w.heap.size w w') : PRow w' base A n c ls := by
  obtain ⟨raw, h1, h2, h3⟩ := h
  refine ⟨raw, h1.below hb, h2, fun j r x hr hx => ?_⟩
  obtain ⟨V, p, q, e, hs, hne⟩ := h3 j r x hr hx
  exact ⟨V, p, q, e, hs.below hb, fun g hg => ⟨by have := (hne g hg).1; have := hb.size; omega, (hne g hg).2⟩⟩
theorem PRow.blockLt (h : PRow w base A n c ls) : ∀ k, blockOf A = some k → base ≤ k ∧ k < w.heap.size := by
  obtain ⟨raw, h1, _⟩ := h
  exact h1.blockLt
theorem prow_lit (w : World) : PRow (w.alloc (.cells #[] 46)) w.heap.size (some ⟨w.heap.size, 0, none⟩) 0 0 [] := ⟨[], owns_lit0 w _ _, rfl, fun j r x hr => by simp at hr⟩
theorem PRow.len (h : PRow w base A n c ls) : ls.length = n := by
  obtain ⟨raw, h1, h2, _⟩ := h
  have := h1.len (by omega)
  omega
theorem PRow.parts (h : PRow w base A n c ls) : Parts w A n c ls := by
  have hl := h.len
  obtain ⟨raw, h1, h2, h3⟩ := h
  have hs := h1.sls (by omega)
  refine ⟨hl, hs.cap, hs.max, fun j l hj => ?_⟩
  have hjr : j < raw.length := by rw [h2]; exact (List.getElem?_eq_some_iff.1 hj).1
  obtain ⟨V, p, q, e, hsl, _⟩ := h3 j _ l (List.getElem?_eq_getElem hjr) hj
  obtain ⟨g, o, hA, hg, _, hr⟩ := hs.2.2.2 j _ (List.getElem?_eq_getElem hjr)
  have h0 := hr 0 (.slice V p q) (by rw [e]; rfl)
  rw [Nat.mul_one, Nat.add_zero] at h0
  exact ⟨⟨g, o, none⟩, V, p, q, hA, hg, by rw [Addr.add_mid]; exact h0, hsl⟩
end
/-- append of one body. -/
theorem wp_append_part {w : World} {ops : Array Oper} {rest : List Oper} {o : Oper} {a : Act} {Q : Exit → Act → World → Prop} (hgd : o.guard = none) (so x : Operand)
    (ho : o.op = .call { callee := .builtin .append, args := #[so, x], argTypes := #[41, 41] })
    (base : Nat) (A : Option Addr) (n c : Nat) (ls : List (List UInt8)) (hs : a.eval so = .slice A n c) (hown : PRow w base A n c ls)
    (B : Option Addr) (d : Nat) (V : Option Addr) (p q : Nat) (l : List UInt8) (hx : a.eval x = .slice B 1 d) (hr : Sls w 1 B 1 d [[.slice V p q]]) (hv : Sl w V p q l) (hva : ∀ g, blockOf V = some g → g < w.heap.size ∧ blockOf A ≠ some g) (hn : n ≤ 1000) (hbase : base ≤ w.heap.size)
    (h : ∀ A' c' w', PRow w' base A' (n + 1) c' (ls ++ [l]) → Turn (fun k => blockOf A = some k) w w' → wpList Try.prog ops Q rest (a.put o.dst (.slice A' (n + 1) c')) w') : wpList Try.prog ops Q (o :: rest) a w := by
  obtain ⟨raw, h1, h2, h3⟩ := hown
  have hlen := h1.len (by omega)
  refine wp_append_g _ TPart hgd so x ho base A n c raw hs h1 B 1 d _ hx hr (by omega) (by
    intro y hy u hu
    obtain rfl : y = [.slice V p q] := by simpa using hy
    obtain rfl : u = .slice V p q := by simpa using hu
    rfl) (by omega) (by omega) hbase ?_
  intro A' c' w' g1 T g2 g3
  refine h A' c' w' ⟨_, g1, by simp [h2], fun j r y hr' hy => ?_⟩ T
  have hA' : ∀ g, g < w.heap.size → blockOf A ≠ some g → blockOf A' ≠ some g := fun g hg hne e => by
    rcases g2 with g2 | g2
    · exact hne (g2 ▸ e)
    · rw [g2] at e
      injection e with e
      omega
  have hz := T.size
  by_cases hj : j < ls.length
  · rw [List.getElem?_append_left (by omega)] at hr'
    rw [List.getElem?_append_left hj] at hy
    obtain ⟨V', p', q', e, hsl, hne⟩ := h3 j r y hr' hy
    exact ⟨V', p', q', e, hsl.turned T fun k hk => (hne k hk).2, fun g hg => ⟨by have := (hne g hg).1; omega, hA' g (hne g hg).1 (hne g hg).2⟩⟩
  · have hj2 : j = ls.length := by
      have := (List.getElem?_eq_some_iff.1 hy).1
      rw [List.length_append] at this
      simp at this
      omega
    subst hj2
    rw [← h2, List.getElem?_append_right (Nat.le_refl _), Nat.sub_self] at hr'
    rw [List.getElem?_append_right (Nat.le_refl _), Nat.sub_self] at hy
    obtain rfl : [.slice V p q] = r := by simpa using hr'
    obtain rfl : l = y := by simpa using hy
    exact ⟨V, p, q, rfl, hv.turned T fun k hk => (hva k hk).2, fun g hg => ⟨by have := (hva g hg).1; omega, hA' g (hva g hg).1 (hva g hg).2⟩⟩
theorem bodies_next (C : Ct) (j : Nat) : (List.range (j + 1)).map (fun (i : Nat) => C.body (i : Int)) = (List.range j).map (fun (i : Nat) => C.body (i : Int)) ++ [C.body (j : Int)] := by
  rw [List.range_succ, List.map_append]; rfl
theorem Ct.commit_fresh (C : Ct) (a : Int) : C.commit.fresh a = false := by
  unfold Ct.fresh
  split
  · rfl
  · rename_i h
    obtain ⟨_, _, h3⟩ := Ct.get_in h
    refine decide_eq_false fun h4 => h ?_
    rw [h3]
    exact h4
end Go.Proofs.Ytancpkdkfemgfaa
