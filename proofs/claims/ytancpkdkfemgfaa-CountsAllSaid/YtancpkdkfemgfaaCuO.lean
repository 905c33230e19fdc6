/- Counts, plain facts: all are taken, one is given back. -/
import Derived.Test.YtancpkdkfemgfaaCtS
namespace Go.Proofs.Ytancpkdkfemgfaa
open Go Go.RowKit Go.Proofs

theorem Ct.is_unref {C : Ct} {n : Nat} {f d : Nat → Int} (h : C.is n f d) {a : Nat} (ha : a < n) (h1 : f a = 1) : (C.unrefV (a : Int) = 0 ∧ C.unrefE (a : Int) = 0) ∧ (C.unref (a : Int)).is n (fun b => if b = a then 0 else f b) d := by
  have hg : C.get (a : Int) = 1 := by
    unfold Ct.get
    rw [if_pos ⟨by omega, by rw [h.1]; omega⟩, Int.toNat_natCast, (h.2 a ha).1, h1]
  refine ⟨⟨by unfold Ct.unrefV; rw [hg]; rfl, by unfold Ct.unrefE; rw [hg]; rfl⟩, ?_⟩
  have : C.unref (a : Int) = C.put a 0 := by unfold Ct.unref; rw [hg, if_neg (by decide), Int.toNat_natCast]; rfl
  rw [this]
  exact Ct.is_put h a 0
theorem Ct.is_alloc {C : Ct} {n : Nat} {f d : Nat → Int} (h : C.is n f d) {a : Nat} (hp : C.pick = some a) : (C.allocV = (a : Int) ∧ C.allocE = 0) ∧ C.alloc.is n (fun b => if b = a then 1 else f b) d := by
  obtain ⟨h1, h2, h3⟩ := Ct.alloc_some hp
  refine ⟨⟨h2, h1⟩, ?_⟩
  rw [h3]
  exact Ct.is_put h a 1
/-- What the end of CountsAll finds. -/
theorem all_says (n J a : Nat) (hJ : 2 + 2 * areaN n + J = n) (h1 : 2 + 2 * areaN n ≤ a) (h2 : a < n) : ∃ C1 C2 C3 C4 C5 C6 : Ct,
    ((tookN n J).allocV = 0 ∧ (tookN n J).allocE = 6) ∧ (tookN n J).alloc = tookN n J ∧
    ((tookN n J).unrefV (a : Int) = 0 ∧ (tookN n J).unrefE (a : Int) = 0) ∧ (tookN n J).unref (a : Int) = C1 ∧ (C1.allocV = (a : Int) ∧ C1.allocE = 0) ∧ C1.alloc = C2 ∧ C2.commit = C3 ∧ (C3.unrefV (a : Int) = 0 ∧ C3.unrefE (a : Int) = 0) ∧ C3.unref (a : Int) = C4 ∧
    (C4.allocV = 0 ∧ C4.allocE = 6) ∧ C4.alloc = C4 ∧ C4.commit = C5 ∧ (C5.allocV = (a : Int) ∧ C5.allocE = 0) ∧ C5.alloc = C6 := by
  have hF : ∀ b, 2 + 2 * areaN n ≤ b → b < n → tookF n J b = 1 := fun b hb1 hb2 => by unfold tookF; rw [if_pos ⟨hb1, by omega⟩]
  have hfull := Ct.alloc_none (took_full n J hJ)
  have i0 := took_is n J (by omega)
  obtain ⟨u1, i1⟩ := Ct.is_unref i0 h2 (hF a h1 h2)
  have p1 : ((tookN n J).unref (a : Int)).pick = some a := Ct.is_pick i1 h2 h1 ⟨if_pos rfl, rfl⟩ fun j hj hf hh => by
    have := hh.1
    rw [if_neg (by omega), hF j hf (by omega)] at this
    omega
  obtain ⟨a2, i2⟩ := Ct.is_alloc i1 p1
  have i3 := Ct.is_commit i2
  have g1 : (fun b => if b = a then (1 : Int) else (fun b => if b = a then (0 : Int) else tookF n J b) b) a = 1 := if_pos rfl
  obtain ⟨u4, i4⟩ := Ct.is_unref i3 h2 g1
  have p4 : (((tookN n J).unref (a : Int)).alloc.commit.unref (a : Int)).pick = none := Ct.is_full i4 fun j hj hf hh => by
    obtain ⟨_, hd⟩ := hh
    by_cases e : j = a
    · rw [if_pos e] at hd; omega
    · rw [if_neg e, if_neg e, hF j hf hj] at hd; omega
  have f4 := Ct.alloc_none p4
  have i5 := Ct.is_commit i4
  have p5 : (((tookN n J).unref (a : Int)).alloc.commit.unref (a : Int)).commit.pick = some a := Ct.is_pick i5 h2 h1 ⟨if_pos rfl, if_pos rfl⟩ fun j hj hf hh => by
    have := hh.1
    rw [if_neg (by omega), if_neg (by omega), if_neg (by omega), hF j hf (by omega)] at this
    omega
  obtain ⟨a6, _⟩ := Ct.is_alloc i5 p5
  exact ⟨_, _, _, _, _, _, ⟨hfull.2.1, hfull.1⟩, hfull.2.2, u1, rfl, a2, rfl, rfl, u4, rfl, ⟨f4.2.1, f4.1⟩, f4.2.2, rfl, a6, rfl⟩
end Go.Proofs.Ytancpkdkfemgfaa
