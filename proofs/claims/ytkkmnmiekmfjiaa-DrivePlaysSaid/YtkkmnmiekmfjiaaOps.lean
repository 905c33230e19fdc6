/- A slice of calls that comes in; the reference's drive beside new memory; a crash by an empty slice. -/
import Derived.Test.YtkkmnmiekmfjiaaBothB
import Derived.Test.YtkkmnmiekmfjiaaDrvF0
import Derived.Test.YtkkmnmiekmfjiaaLaw3
import Derived.Deep.Fields
namespace Go.Proofs.Ytkkmnmiekmfjiaa
open Go Go.RowKit Go.Proofs Go.ChangeShapes Go.WideShapes Go.ChangeAt Go.Deep

/-- A call as plain data. -/
structure OpD where
  kind : Int
  s : Int
  n : Int
  v : Int
  kA : Option Addr
  kn : Nat
  kc : Nat
  keep : List Int
def OpD.ok (w : World) (x : OpD) : Prop := (i64 x.kind ∧ i64 x.s ∧ i64 x.n ∧ i64 x.v) ∧ Ints w x.kA x.kn x.kc x.keep
def OpAt (w : World) (g p : Nat) (x : OpD) : Prop :=
  w.cell? ⟨g, p, none⟩ = some (.int .i64 x.kind) ∧ w.cell? ⟨g, p + 1, none⟩ = some (.int .i64 x.s) ∧ w.cell? ⟨g, p + 2, none⟩ = some (.int .i64 x.n) ∧ w.cell? ⟨g, p + 3, none⟩ = some (.int .i64 x.v) ∧ w.cell? ⟨g, p + 4, none⟩ = some (.slice x.kA x.kn x.kc)
/-- Calls that came in. -/
def Ops (w : World) (A : Option Addr) (n c : Nat) (xs : List OpD) : Prop :=
  xs.length = n ∧ n ≤ c ∧ c ≤ maxLen ∧ ∀ (j : Nat) x, xs[j]? = some x → x.ok w ∧ ∃ g o, A = some ⟨g, o, none⟩ ∧ g < w.heap.size ∧ OpAt w g (o + j * 5) x
section
variable {H : Type} {enc : TypeId × Value → H} {P : Program} {W : World}
theorem nums_trod {t e : TypeId} (ht : P.underlying t = some (.slice e)) (he : P.underlying e = some (.int .i64)) (hc : P.cellsOf e = 1) {fuel : Nat} {v : Value} {y : DataW H × List MemPlace}
    (hf : DataW.trod enc P W 0 (fun _ => true) true fuel t [v] = some y) : ∃ A n c zs, v = .slice A n c ∧ Ints W A n c zs := by
  rcases open_ints ht he hc hf with ⟨hcs, _⟩ | ⟨a, len, cap, zs, hcs, _, hl, hm, hz, _, hcell, hw⟩
  · obtain rfl : v = .slice none 0 0 := by simpa using hcs
    exact ⟨_, _, _, [], rfl, ints_nil W⟩
  · obtain rfl : v = .slice (some a) len cap := by simpa using hcs
    rw [if_pos rfl] at hz
    refine ⟨_, _, _, zs.take len, rfl, ⟨?_, hl, hm, fun j u hu => ?_⟩, fun z hz' => bounds_i64 (hw z (List.mem_of_mem_take hz'))⟩
    · simp; omega
    · have hj : j < len := by have := (List.getElem?_eq_some_iff.1 hu).1; simp at this; omega
      have hj2 : j < zs.length := by omega
      have hc := hcell j hj2
      refine ⟨a, rfl, ?_, ?_⟩
      · have := World.block_lt_of_cell? W (a.add j) hc
        rwa [addr_block] at this
      · rw [hc, ← hu]
        rw [List.getElem?_map, List.getElem?_take_of_lt hj, List.getElem?_eq_getElem hj2]
        simp [List.getD, hj2]
/-- A slice of calls. -/
theorem open_ops {t p e : TypeId} {f0 f1 f2 f3 f4 : Field} {v : Value} {d : DataW H} {ps : List MemPlace} (ht : P.underlying t = some (.slice p)) (hp : P.underlying p = some (.struct #[f0, f1, f2, f3, f4])) (hone : oneCellFields P #[f0, f1, f2, f3, f4] = true) (hct : P.cellsOf p = 5)
    (h0 : P.underlying f0.type = some (.int .i64)) (h1 : P.underlying f1.type = some (.int .i64)) (h2 : P.underlying f2.type = some (.int .i64)) (h3 : P.underlying f3.type = some (.int .i64)) (hk : P.underlying f4.type = some (.slice e)) (he : P.underlying e = some (.int .i64)) (hc : P.cellsOf e = 1)
    (hv : ∃ a len cap, v = .slice a len cap) (h : DataW.Trod enc P W 0 (fun _ => true) true t v d ps) : ∃ A n c xs, v = .slice A n c ∧ Ops W A n c xs := by
  obtain ⟨fuel, hf⟩ := h
  obtain ⟨a0, len0, cap0, rfl⟩ := hv
  rcases Deep.open_slice ht hf with ⟨hcs, _⟩ | ⟨a, len, cap, m, f, D, Pl, hcs, _, hl, hm, hmm, _, hi⟩
  · simp [Value.cells] at hcs
    obtain ⟨rfl, rfl, rfl⟩ := hcs
    exact ⟨_, _, _, [], rfl, rfl, Nat.le_refl _, Nat.zero_le _, fun j x hx => (by simp at hx)⟩
  · simp [Value.cells] at hcs
    obtain ⟨rfl, rfl, rfl⟩ := hcs
    rw [if_pos rfl] at hmm
    have key : ∀ i, i < len0 → ∃ x : OpD, x.ok W ∧ W.cell? ((a.add (i * 5)).add 0) = some (.int .i64 x.kind) ∧ W.cell? ((a.add (i * 5)).add 1) = some (.int .i64 x.s) ∧ W.cell? ((a.add (i * 5)).add 2) = some (.int .i64 x.n) ∧ W.cell? ((a.add (i * 5)).add 3) = some (.int .i64 x.v) ∧ W.cell? ((a.add (i * 5)).add 4) = some (.slice x.kA x.kn x.kc) := fun i hil => by
      obtain ⟨cs, g1, g2⟩ := hi i (by omega)
      rw [hct] at g1
      obtain ⟨_, _, hat⟩ := World.cells?_some g1
      obtain ⟨ys, n', hn', hy, hlen, hyl, hff⟩ := DataW.trod_struct hp g2
      rw [hct] at hlen
      match cs, hlen with
      | [v0, v1, v2, v3, v4], _ =>
        have q : ∀ (j : Nat) (ff : Field), (#[f0, f1, f2, f3, f4] : Array Field)[j]? = some ff → ∃ vv y, [v0, v1, v2, v3, v4][j]? = some vv ∧ DataW.trod enc P W 0 (fun _ => true) true n' ff.type [vv] = some y := fun j ff hj => by
          obtain ⟨ho, hk1⟩ := hone_of hone j ff hj
          have hjl : j < 5 := (Array.getElem?_eq_some_iff.1 hj).1
          have g3 := hff j ff hj
          have hys : ys[j]? = some (ys[j]'(by rw [hyl]; exact hjl)) := List.getElem?_eq_getElem _
          rw [ho, hk1, hys, List.drop_eq_getElem_cons (by simpa using hjl)] at g3
          exact ⟨_, _, List.getElem?_eq_getElem (by simpa using hjl), g3⟩
        obtain ⟨u0, y0, e0, t0⟩ := q 0 f0 rfl
        obtain ⟨u1, y1, e1, t1⟩ := q 1 f1 rfl
        obtain ⟨u2, y2, e2, t2⟩ := q 2 f2 rfl
        obtain ⟨u3, y3, e3, t3⟩ := q 3 f3 rfl
        obtain ⟨u4, y4, e4, t4⟩ := q 4 f4 rfl
        obtain ⟨z0, rfl, b0⟩ := int_cell h0 t0
        obtain ⟨z1, rfl, b1⟩ := int_cell h1 t1
        obtain ⟨z2, rfl, b2⟩ := int_cell h2 t2
        obtain ⟨z3, rfl, b3⟩ := int_cell h3 t3
        obtain ⟨kA, kn, kc, zs, rfl, hks⟩ := nums_trod hk he hc t4
        refine ⟨⟨z0, z1, z2, z3, kA, kn, kc, zs⟩, ⟨⟨b0, b1, b2, b3⟩, hks⟩, ?_, ?_, ?_, ?_, ?_⟩
        · exact (hat 0 (by omega)).trans e0
        · exact (hat 1 (by omega)).trans e1
        · exact (hat 2 (by omega)).trans e2
        · exact (hat 3 (by omega)).trans e3
        · exact (hat 4 (by omega)).trans e4
    obtain ⟨g, o, s⟩ := a
    have ks : 0 < len0 → s = none := fun h0 => by
      obtain ⟨x, _, g1, _⟩ := key 0 h0
      exact spot_none (show W.cell? ⟨g, o, s⟩ = some (.int .i64 x.kind) by simpa [Addr.add] using g1)
    classical
    let F : Nat → OpD := fun i => if h : i < len0 then (key i h).choose else ⟨0, 0, 0, 0, none, 0, 0, []⟩
    refine ⟨_, _, _, (List.range len0).map F, rfl, by simp, hl, hm, fun j x hx => ?_⟩
    have hj : j < len0 := by have := (List.getElem?_eq_some_iff.1 hx).1; simpa using this
    rw [List.getElem?_map, List.getElem?_range hj] at hx
    obtain rfl : F j = x := by simpa using hx
    obtain rfl := ks (by omega)
    have hFj : F j = (key j hj).choose := dif_pos hj
    rw [hFj]
    have hq := (key j hj).choose_spec
    clear hFj hx
    generalize (key j hj).choose = X at hq ⊢
    obtain ⟨g0, g1, g2, g3, g4, g5⟩ := hq
    rw [Addr.add_mid, Addr.add_mid] at g1 g2 g3 g4 g5
    exact ⟨g0, g, o, rfl, World.block_lt_of_cell? W _ g1, g1, g2, g3, g4, g5⟩
end
section
variable {w w' : World}
theorem Ops.below {A : Option Addr} {n c : Nat} {xs : List OpD} (h : Ops w A n c xs) (hb : Below w.heap.size w w') : Ops w' A n c xs :=
  ⟨h.1, h.2.1, h.2.2.1, fun j x hx => by
    obtain ⟨⟨hb1, hi, hz⟩, g, o, e, hg, h1, h2, h3, h4, h5⟩ := h.2.2.2 j x hx
    exact ⟨⟨hb1, (Holds.below hi hb).more hb.size, hz⟩, g, o, e, by have := hb.size; omega, (hb.cell (p := ⟨g, _, none⟩) hg).trans h1, (hb.cell (p := ⟨g, _, none⟩) hg).trans h2, (hb.cell (p := ⟨g, _, none⟩) hg).trans h3, (hb.cell (p := ⟨g, _, none⟩) hg).trans h4, (hb.cell (p := ⟨g, _, none⟩) hg).trans h5⟩⟩
theorem RRun.same {B : Nat} {X : Nat → Prop} {rp : Nat} {D : DM} (h : RRun w B X rp D) (hb : Below w.heap.size w w') : RRun w' B X rp D := by
  obtain ⟨h1, h2, S, h3, h4⟩ := h
  have hsz := hb.size
  exact ⟨by omega, fun k hk => by have := h2 k hk; omega, fun k => S k ∧ k < w.heap.size, (h3.mono fun k hk h => ⟨h, hk⟩).keep fun k hk _ => hb.block k hk, fun k hk _ => h4 k hk.1 hk.2⟩
/-- Crash, wherever an empty slice points. -/
theorem run_crash2 {w : World} {B : Nat} {X : Nat → Prop} {bp : Nat} {D : DM} (R : Run w B X bp D) (A : Option Addr) (n c : Nat) (kp : List Int) (hk : Ints w A n c kp) (hout : ∀ ad, A = some ad → 0 < n → ad.block < w.heap.size ∧ (ad.block < B ∨ X ad.block)) {m : Nat} (hm : m ≤ 100000) (hok : D.ok m) :
    Calls Try.prog 17 #[.pointer (some ⟨bp, 0, none⟩), .slice A n c] w fun e w' => e = .returned (.tuple #[]) ∧ Run w' B X bp (D.crash kp) ∧ Kp B X w w' := by
  rcases Nat.eq_zero_or_pos n with h0 | h0
  · subst h0
    obtain rfl : kp = [] := List.eq_nil_of_length_eq_zero hk.len
    obtain ⟨h1, h2, S, h3, h4⟩ := R
    refine (crash_none h3 A c (fun k => by have := hok.2 k; omega)).mono ?_
    rintro e w' ⟨rfl, L, T⟩
    exact ⟨rfl, Run.turned h1 h2 h4 L T fun _ => .inl⟩
  · exact run_crash R A n c kp hk (fun ad h => hout ad h h0) hm hok
theorem Ints.kp {B : Nat} {X : Nat → Prop} {A : Option Addr} {n c : Nat} {zs : List Int} (h : Ints w A n c zs) (k : Kp B X w w') (ho : ∀ ad, A = some ad → 0 < n → ad.block < B ∨ X ad.block) : Ints w' A n c zs :=
  ⟨⟨h.1.1, h.1.2.1, h.1.2.2.1, fun j u hu => by
    obtain ⟨ad, e, hl, hc⟩ := h.1.2.2.2 j u hu
    have hn : 0 < n := by have := (List.getElem?_eq_some_iff.1 hu).1; have h2 := h.1.1; omega
    exact ⟨ad, e, by have := k.size; omega, (World.cell?_of_block (w := w) (w' := w') (a := ad.add j) (by rw [addr_block]; exact k.block _ hl (ho ad e hn))).trans hc⟩⟩, h.2⟩
theorem Both.less {B : Nat} {X X' : Nat → Prop} {bp rp : Nat} {D : DM} (h : Both w B X bp rp D) (hX : ∀ k, X' k → X k) : Both w B X' bp rp D := h.below (Below.refl _ _) fun k hk => .inl (hX k hk)
end
end Go.Proofs.Ytkkmnmiekmfjiaa
