/- The code's find: what a node that was read holds; kid. The code's find: the way down, with whatever visits its nodes. -/
import Derived.Test.YtgedmodnkiijkaaGreatDoorFn22
import Derived.Test.YtgedmodnkiijkaaGreatDoorFn28
namespace Go.Proofs.YtgedmodnkiijkaaGreatDoor
open Go Go.RowKit Go.Proofs

/-- Items, their cells and values; the values' blocks lie between two places. -/
def IVals (w : World) (lo hi : Nat) (A : Option Addr) (n : Nat) (xs : List Itm) : Prop :=
  ∀ j, j < n → ∃ g o V p q, A = some ⟨g, o, none⟩ ∧ g < w.heap.size ∧ w.cell? ⟨g, o + j * 4, none⟩ = some (.int .i64 (itAt xs j).k.obj) ∧ w.cell? ⟨g, o + j * 4 + 1, none⟩ = some (.int .i64 (itAt xs j).k.kind) ∧
    w.cell? ⟨g, o + j * 4 + 2, none⟩ = some (.int .i64 (itAt xs j).k.off) ∧ w.cell? ⟨g, o + j * 4 + 3, none⟩ = some (.slice V p q) ∧ Sl w V p q (itAt xs j).v ∧ ((itAt xs j).v ≠ [] → ∀ b, blockOf V = some b → lo ≤ b ∧ b < hi)
/-- A node's rows, all of whose blocks lie between two places. -/
def Held (w : World) (lo hi : Nat) (A : Option Addr) (n c : Nat) (B : Option Addr) (m d : Nat) (M : Nd) : Prop :=
  hi ≤ w.heap.size ∧ n ≤ 20 ∧ m ≤ 20 ∧ ∀ w', w.heap.size ≤ w'.heap.size → (∀ k, lo ≤ k → k < hi → w'.heap[k]? = w.heap[k]?) → IRow w' lo A n c M.items ∧ Kidl w' B m d M.kids ∧ IVals w' lo hi A n M.items
section
variable {w w' : World} {lo hi n c m d : Nat} {A B : Option Addr} {M : Nd}
theorem Held.rows (h : Held w lo hi A n c B m d M) : IRow w lo A n c M.items ∧ Kidl w B m d M.kids := by
  obtain ⟨a, b, _⟩ := h.2.2.2 w (Nat.le_refl _) fun _ _ _ => rfl
  exact ⟨a, b⟩
theorem Held.vals (h : Held w lo hi A n c B m d M) : IVals w lo hi A n M.items := (h.2.2.2 w (Nat.le_refl _) fun _ _ _ => rfl).2.2
theorem Held.turn {S : Nat → Prop} (h : Held w lo hi A n c B m d M) (t : Turn S w w') (hS : ∀ k, lo ≤ k → k < hi → ¬ S k) : Held w' lo hi A n c B m d M := by
  obtain ⟨h1, h2, h3, h5⟩ := h
  have hk : ∀ k, lo ≤ k → k < hi → w'.heap[k]? = w.heap[k]? := fun k h1' h2' => t.block k (by omega) (hS k h1' h2')
  exact ⟨Nat.le_trans h1 t.size, h2, h3, fun w2 hz hw => h5 w2 (Nat.le_trans t.size hz) fun k a b => (hw k a b).trans (hk k a b)⟩
theorem Held.below (h : Held w lo hi A n c B m d M) (hb : Below w.heap.size w w') : Held w' lo hi A n c B m d M := h.turn (turn_below (S := fun _ => False) hb) fun _ _ _ h => h
end
theorem irow_keep {w w' : World} {base n c : Nat} {A : Option Addr} {xs : List Itm} (h : IRow w base A n c xs) (hz : w.heap.size ≤ w'.heap.size) (hk : ∀ k, base ≤ k → k < w.heap.size → w'.heap[k]? = w.heap[k]?) : IRow w' base A n c xs := by
  obtain ⟨raw, h1, h2, h3⟩ := h
  refine ⟨raw, h1.keep fun g a b => hk g a b, h2, fun j r x hr hx => ?_⟩
  obtain ⟨V, p, q, e, hs, hne⟩ := h3 j r x hr hx
  refine ⟨V, p, q, e, ⟨hs.1, hs.2.1, hs.2.2.1, fun i u hu => ?_⟩, hne⟩
  obtain ⟨ad, e1, e2, e3⟩ := hs.2.2.2 i u hu
  have hv : x.v ≠ [] := fun e => by rw [e] at hu; simp at hu
  have hb := (hne hv ad.block (by rw [e1]; rfl)).1
  exact ⟨ad, e1, by omega, (World.cell?_of_block (a := ad.add i) (by rw [addr_block]; exact hk _ hb e2)).trans e3⟩
theorem irow_vals {w w' : World} {lo n c : Nat} {A : Option Addr} {xs : List Itm} (h : IRow w lo A n c xs) (hz : w.heap.size ≤ w'.heap.size) (hk : ∀ k, lo ≤ k → k < w.heap.size → w'.heap[k]? = w.heap[k]?) : IVals w' lo w.heap.size A n xs := fun j hj => by
  obtain ⟨raw, h1, h2, h3⟩ := h
  have hl : raw.length = n := h1.len (by omega)
  have hr : raw[j]? = some (raw[j]'(by omega)) := List.getElem?_eq_getElem (by omega)
  have hx := itAt_get (xs := xs) (j := j) (by omega)
  obtain ⟨V, p, q, e, hs, hne⟩ := h3 j _ _ hr hx
  obtain ⟨g, o, hA, hg, _, hc⟩ := (h1.sls (by omega)).2.2.2 j _ hr
  rw [e] at hc
  have hgl := (h1.blockLt g (by rw [hA]; rfl)).1
  have cell : ∀ i v, (itvs (itAt xs j).k V p q)[i]? = some v → w'.cell? ⟨g, o + j * 4 + i, none⟩ = some v := fun i v hv => (World.cell?_of_block (a := ⟨g, _, none⟩) (hk g hgl hg)).trans (hc i v hv)
  refine ⟨g, o, V, p, q, hA, by omega, cell 0 _ rfl, cell 1 _ rfl, cell 2 _ rfl, cell 3 _ rfl, ⟨hs.1, hs.2.1, hs.2.2.1, fun i u hu => ?_⟩, fun hv b hb => ⟨(hne hv b hb).1, hs.blockLt hv b hb⟩⟩
  obtain ⟨ad, e1, e2, e3⟩ := hs.2.2.2 i u hu
  have hv : (itAt xs j).v ≠ [] := fun e => by rw [e] at hu; simp at hu
  have hb := (hne hv ad.block (by rw [e1]; rfl)).1
  exact ⟨ad, e1, by omega, (World.cell?_of_block (a := ad.add i) (by rw [addr_block]; exact hk _ hb e2)).trans e3⟩
theorem held_of {w w' : World} {A B : Option Addr} {n c m d : Nat} {M : Nd} (hn : n ≤ 20) (hm : m ≤ 20) (hI : IRow w' w.heap.size A n c M.items) (hK : OwnS w' w.heap.size 62 4 B m d (M.kids.map Kidd.vs)) : Held w' w.heap.size w'.heap.size A n c B m d M :=
  ⟨Nat.le_refl _, hn, hm, fun w2 hz hk => ⟨irow_keep hI hz hk, (hK.keep fun g a b => hk g a b).sls (by omega), irow_vals hI hz hk⟩⟩
theorem NB.turned {w w' : World} {b : Nat} {l : Int} {A B : Option Addr} {n c m d : Nat} (H : NB w b l A n c B m d) {S : Nat → Prop} (T : Turn S w w') (hb : ¬ S b) : NB w' b l A n c B m d := H.keep (T.block b H.lt hb)
/-- What kid answers. -/
def kidE (R : Int → Nd × Int) (l a : Int) : Int := if (R a).2 ≠ 0 then (R a).2 else if (R a).1.lvl ≠ l - 1 then 5 else 0
def kidN (R : Int → Nd × Int) (l a : Int) : Nd := if (R a).2 ≠ 0 then nodeZ else if (R a).1.lvl ≠ l - 1 then nodeZ else (R a).1

set_option maxRecDepth 100000 in
set_option maxHeartbeats 8000000 in
theorem ckid_any {w0 w : World} {p : Nat} {R : Int → Nd × Int} (H : Src w0 p R) (B0 : Below w0.heap.size w0 w) (ht : Tab w) (l : Int) (hl1 : 1 ≤ l) (hl8 : l < 8) (kids : List Kidd) (A : Option Addr) (n c : Nat) (B : Option Addr) (m d : Nat) (hK : Kidl w B m d kids) (i : Nat) (hi : i < m) (x : Int) (hx : (kidAt kids i).a = x) :
    Calls Tryz.prog 71 #[.pointer (some ⟨p, 0, none⟩), .agg #[.int .i64 l, .slice A n c, .slice B m d], .int .i64 (i : Int)] w fun e w' => NodeOwn (kidN R l x) (kidE R l x) w e w' := by
  obtain ⟨g, o, rfl, hg, -, -, -, k3⟩ := hK.cell hi
  rw [hx] at k3
  have N1 : NB ((w.alloc (.cells #[.int .i64 l, .slice A n c, .slice (some ⟨g, o, none⟩) m d] 56)).alloc (.cells #[.int .i64 0, .slice none 0 0, .slice none 0 0] 56)) w.heap.size l A n c (some ⟨g, o, none⟩) m d := (NB.new w _ _ _ _ _ _ _ _).below ((Below.refl _ _).alloc (Nat.le_refl _) _) (by simp)
  have R1 : NB ((w.alloc (.cells #[.int .i64 l, .slice A n c, .slice (some ⟨g, o, none⟩) m d] 56)).alloc (.cells #[.int .i64 0, .slice none 0 0, .slice none 0 0] 56)) (w.heap.size + 1) 0 none 0 0 none 0 0 := by
    have := NB.new (w.alloc (.cells #[.int .i64 l, .slice A n c, .slice (some ⟨g, o, none⟩) m d] 56)) 0 none 0 0 none 0 0 56
    rwa [World.size_alloc] at this
  have b1 : Below w.heap.size w ((w.alloc (.cells #[.int .i64 l, .slice A n c, .slice (some ⟨g, o, none⟩) m d] 56)).alloc (.cells #[.int .i64 0, .slice none 0 0, .slice none 0 0] 56)) := ((Below.refl _ _).alloc (Nat.le_refl _) _).alloc (by simp) _
  have z1 : ((w.alloc (.cells #[.int .i64 l, .slice A n c, .slice (some ⟨g, o, none⟩) m d] 56)).alloc (.cells #[.int .i64 0, .slice none 0 0, .slice none 0 0] 56)).heap.size = w.heap.size + 2 := by simp
  have q2 := N1.c2
  have k3' := (b1.cell (p := ⟨g, _, none⟩) hg).trans k3
  have Hn := Lib.hid (fun u hu tu => H.node u hu tu x)
  have zw := B0.size
  have hj : (0 : Int) ≤ (i : Int) := by omega
  have hj1 : (i : Int) < (m : Int) := by omega
  obtain ⟨_, hmd⟩ := hK.bounds
  clear k3 hK
  obtain ⟨M, E, hR⟩ : ∃ M E, R x = (M, E) := ⟨_, _, rfl⟩
  rw [hR] at Hn
  unfold kidN kidE
  rw [hR]
  dsimp only
  clear hR
  by_cases hE : E = 0
  · have g1 : (E == 0) = true := by simp [hE]
    have g2 : (E != 0) = false := by simp [hE]
    by_cases hl : M.lvl = l - 1
    · have g3 : (M.lvl == l - 1) = true := by simp [hl]
      have g4 : (M.lvl != l - 1) = false := by simp [hl]
      simp only [if_neg (show ¬ E ≠ 0 by simpa using hE), if_neg (show ¬ M.lvl ≠ l - 1 by simpa using hl)]
      clear hl hE
      go_enter Tryz.func71, Tryz.ntmps71
      go_wp2_with fail
      generalize (w.alloc (.cells #[.int .i64 l, .slice A n c, .slice (some ⟨g, o, none⟩) m d] 56)).alloc (.cells #[.int .i64 0, .slice none 0 0, .slice none 0 0] 56) = w1 at N1 R1 b1 z1 q2 k3' ⊢
      have t1 := ht.below b1 ht.1
      refine (Hn.out w1 (B0.trans (b1.mono zw)) t1).mono ?_
      clear q2 k3'
      rintro e w2 ⟨A1, n1, c1, B1, m1, d1, rfl, hn1, hm1, hI, hKo, b2⟩
      have z2 := b2.size
      have N2 := N1.below b2 N1.lt
      have R2 := R1.below b2 R1.lt
      have BB := b1.trans (b2.mono b1.size)
      have N3 : NB (w2.alloc (.cells #[.int .i64 0, .slice none 0 0, .slice none 0 0] 56)) w2.heap.size 0 none 0 0 none 0 0 := NB.new w2 _ _ _ _ _ _ _ _
      have b3 : Below w2.heap.size w2 (w2.alloc (.cells #[.int .i64 0, .slice none 0 0, .slice none 0 0] 56)) := (Below.refl _ _).alloc (Nat.le_refl _) _
      have R3 := R2.below b3 R2.lt
      have zz := R2.lt
      have X2 : NB w2 w.heap.size l A n c (some ⟨g, o, none⟩) m d := N2
      go_wp2_with (first
        | (refine wp_store_nd rfl (.tmp 6) _ rfl (w.heap.size + 1) rfl M.lvl A1 n1 c1 B1 m1 d1 rfl R4 ?_; intro w5 R5 T5)
        | (refine wp_store_nd rfl (.tmp 8) _ rfl w2.heap.size rfl M.lvl A1 n1 c1 B1 m1 d1 rfl N3 ?_; intro w4 N4 T4; have R4 : NB w4 (w.heap.size + 1) 0 none 0 0 none 0 0 := R3.turned T4 (fun h => by have h : w.heap.size + 1 = w2.heap.size := h; omega); have p0 := N4.c0; have q40 := ((X2.below b3 X2.lt).turned T4 (fun h => by have h : w.heap.size = w2.heap.size := h; omega)).c0; have p1 := N4.c1; have p2 := N4.c2)
        | fail)
      have XX : Turn (fun k => k = w.heap.size + 1) w2 w5 := ((turn_below (S := fun k => k = w.heap.size + 1) b3).trans T4 (fun x hx => .inr (by have : x = w2.heap.size := hx; omega))).trans T5 (fun x hx => .inl hx)
      refine bodyPost_ret (res_c2 Tryz.results71 rfl (load_nd R5)) rfl ?_
      exact ⟨A1, n1, c1, B1, m1, d1, rfl, hn1, hm1, (irow_keep hI XX.size fun k h1 h2 => XX.block k h2 (by intro (h : k = w.heap.size + 1); omega)).less (by omega), (hKo.keep fun k h1 h2 => XX.block k h2 (by intro (h : k = w.heap.size + 1); omega)).less (by omega), BB.trans (XX.below (fun k hk => by have : k = w.heap.size + 1 := hk; omega) BB.size)⟩
    · have g3 : (M.lvl == l - 1) = false := by simp [hl]
      have g4 : (M.lvl != l - 1) = true := by simp [hl]
      simp only [if_neg (show ¬ E ≠ 0 by simpa using hE), if_pos (show M.lvl ≠ l - 1 from hl)]
      clear hl hE
      go_enter Tryz.func71, Tryz.ntmps71
      go_wp2_with fail
      generalize (w.alloc (.cells #[.int .i64 l, .slice A n c, .slice (some ⟨g, o, none⟩) m d] 56)).alloc (.cells #[.int .i64 0, .slice none 0 0, .slice none 0 0] 56) = w1 at N1 R1 b1 z1 q2 k3' ⊢
      have t1 := ht.below b1 ht.1
      refine (Hn.out w1 (B0.trans (b1.mono zw)) t1).mono ?_
      clear q2 k3'
      rintro e w2 ⟨A1, n1, c1, B1, m1, d1, rfl, hn1, hm1, hI, hKo, b2⟩
      have z2 := b2.size
      have N2 := N1.below b2 N1.lt
      have R2 := R1.below b2 R1.lt
      have BB := b1.trans (b2.mono b1.size)
      have N3 : NB (w2.alloc (.cells #[.int .i64 0, .slice none 0 0, .slice none 0 0] 56)) w2.heap.size 0 none 0 0 none 0 0 := NB.new w2 _ _ _ _ _ _ _ _
      have b3 : Below w2.heap.size w2 (w2.alloc (.cells #[.int .i64 0, .slice none 0 0, .slice none 0 0] 56)) := (Below.refl _ _).alloc (Nat.le_refl _) _
      have R3 := R2.below b3 R2.lt
      have zz := R2.lt
      have X2 : NB w2 w.heap.size l A n c (some ⟨g, o, none⟩) m d := N2
      go_wp2_with (first
        | (refine wp_store_nd rfl (.tmp 6) _ rfl (w.heap.size + 1) rfl 0 none 0 0 none 0 0 rfl R4 ?_; intro w5 R5 T5)
        | (refine wp_store_nd rfl (.tmp 8) _ rfl w2.heap.size rfl M.lvl A1 n1 c1 B1 m1 d1 rfl N3 ?_; intro w4 N4 T4; have R4 : NB w4 (w.heap.size + 1) 0 none 0 0 none 0 0 := R3.turned T4 (fun h => by have h : w.heap.size + 1 = w2.heap.size := h; omega); have p0 := N4.c0; have q40 := ((X2.below b3 X2.lt).turned T4 (fun h => by have h : w.heap.size = w2.heap.size := h; omega)).c0)
        | fail)
      have XX : Turn (fun k => k = w.heap.size + 1) w2 w5 := ((turn_below (S := fun k => k = w.heap.size + 1) b3).trans T4 (fun x hx => .inr (by have : x = w2.heap.size := hx; omega))).trans T5 (fun x hx => .inl hx)
      refine bodyPost_ret (res_c2 Tryz.results71 rfl (load_nd R5)) rfl ?_
      exact ⟨none, 0, 0, none, 0, 0, rfl, by omega, by omega, irow_nil _ _, owns_none _ _ _ _, BB.trans (XX.below (fun k hk => by have : k = w.heap.size + 1 := hk; omega) BB.size)⟩
  · have g1 : (E == 0) = false := by simp [hE]
    have g2 : (E != 0) = true := by simp [hE]
    simp only [if_pos (show E ≠ 0 from hE)]
    clear hE
    go_enter Tryz.func71, Tryz.ntmps71
    go_wp2_with fail
    generalize (w.alloc (.cells #[.int .i64 l, .slice A n c, .slice (some ⟨g, o, none⟩) m d] 56)).alloc (.cells #[.int .i64 0, .slice none 0 0, .slice none 0 0] 56) = w1 at N1 R1 b1 z1 q2 k3' ⊢
    have t1 := ht.below b1 ht.1
    refine (Hn.out w1 (B0.trans (b1.mono zw)) t1).mono ?_
    clear q2 k3'
    rintro e w2 ⟨A1, n1, c1, B1, m1, d1, rfl, hn1, hm1, hI, hKo, b2⟩
    have z2 := b2.size
    have N2 := N1.below b2 N1.lt
    have R2 := R1.below b2 R1.lt
    have BB := b1.trans (b2.mono b1.size)
    have N3 : NB (w2.alloc (.cells #[.int .i64 0, .slice none 0 0, .slice none 0 0] 56)) w2.heap.size 0 none 0 0 none 0 0 := NB.new w2 _ _ _ _ _ _ _ _
    have b3 : Below w2.heap.size w2 (w2.alloc (.cells #[.int .i64 0, .slice none 0 0, .slice none 0 0] 56)) := (Below.refl _ _).alloc (Nat.le_refl _) _
    have R3 := R2.below b3 R2.lt
    have zz := R2.lt
    have X2 : NB w2 w.heap.size l A n c (some ⟨g, o, none⟩) m d := N2
    go_wp2_with (first
      | (refine wp_store_nd rfl (.tmp 6) _ rfl (w.heap.size + 1) rfl 0 none 0 0 none 0 0 rfl R4 ?_; intro w5 R5 T5)
      | (refine wp_store_nd rfl (.tmp 8) _ rfl w2.heap.size rfl M.lvl A1 n1 c1 B1 m1 d1 rfl N3 ?_; intro w4 N4 T4; have R4 : NB w4 (w.heap.size + 1) 0 none 0 0 none 0 0 := R3.turned T4 (fun h => by have h : w.heap.size + 1 = w2.heap.size := h; omega))
      | fail)
    have XX : Turn (fun k => k = w.heap.size + 1) w2 w5 := ((turn_below (S := fun k => k = w.heap.size + 1) b3).trans T4 (fun x hx => .inr (by have : x = w2.heap.size := hx; omega))).trans T5 (fun x hx => .inl hx)
    refine bodyPost_ret (res_c2 Tryz.results71 rfl (load_nd R5)) rfl ?_
    exact ⟨none, 0, 0, none, 0, 0, rfl, by omega, by omega, irow_nil _ _, owns_none _ _ _ _, BB.trans (XX.below (fun k hk => by have : k = w.heap.size + 1 := hk; omega) BB.size)⟩
end Go.Proofs.YtgedmodnkiijkaaGreatDoor

namespace Go.Proofs.YtgedmodnkiijkaaGreatDoor
open Go Go.RowKit Go.Proofs

/-- The nodes on the way down to a key, from a node on that should be of a level. -/
def downN (R : Int → Nd × Int) (k : Kd) : Nat → Int → List (Int × Nd) × Int
  | 0, a => if (R a).2 ≠ 0 then ([], (R a).2) else if (R a).1.lvl ≠ 0 then ([], 5) else ([(a, (R a).1)], 0)
  | l + 1, a => if (R a).2 ≠ 0 then ([], (R a).2) else if (R a).1.lvl ≠ ((l + 1 : Nat) : Int) then ([], 5) else
      ((a, (R a).1) :: (downN R k l (kidAt (R a).1.kids ((R a).1.seek k)).a).1, (downN R k l (kidAt (R a).1.kids ((R a).1.seek k)).a).2)
def downT (R : Int → Nd × Int) (k : Kd) (root : Int) : List (Int × Nd) × Int := if root = 0 then ([], 0) else downN R k (lvlN R root) root
theorem downN_err {R : Int → Nd × Int} {k : Kd} {a : Int} (h : (R a).2 ≠ 0) : ∀ l, downN R k l a = ([], (R a).2)
  | 0 => by unfold downN; rw [if_pos h]
  | l + 1 => by unfold downN; rw [if_pos h]
theorem downN_off {R : Int → Nd × Int} {k : Kd} {a : Int} (h : (R a).2 = 0) : ∀ l : Nat, (R a).1.lvl ≠ (l : Int) → downN R k l a = ([], 5)
  | 0, h2 => by unfold downN; rw [if_neg (by simpa using h), if_pos (by simpa using h2)]
  | l + 1, h2 => by unfold downN; rw [if_neg (by simpa using h), if_pos h2]
theorem downN_zero {R : Int → Nd × Int} {k : Kd} {a : Int} {M : Nd} (h : R a = (M, 0)) (h2 : M.lvl = 0) : downN R k 0 a = ([(a, M)], 0) := by
  unfold downN
  rw [h]
  dsimp only
  rw [if_neg (by simp), if_neg (by simpa using h2)]
theorem downN_succ {R : Int → Nd × Int} {k : Kd} {a : Int} {M : Nd} {l : Nat} (h : R a = (M, 0)) (h2 : M.lvl = ((l + 1 : Nat) : Int)) : downN R k (l + 1) a = ((a, M) :: (downN R k l (kidAt M.kids (M.seek k)).a).1, (downN R k l (kidAt M.kids (M.seek k)).a).2) := by
  conv => lhs; unfold downN
  rw [h]
  dsimp only
  rw [if_neg (by simp), if_neg (by simpa using h2)]
/-- A function value that is handed each node: what it keeps, the blocks that it keeps it in, and what a call of it does. -/
structure Visit (w0 : World) (f : Nat) (cap : Array Value) (Inv : List (Int × Nd) → (Nat → Prop) → World → Prop) : Prop where
  ent : ∀ (args : Array Value) (w : World), (callFunc f args).run Tryz.prog w = .ok (.enter f args) w
  in_ : ∀ {vs T w}, Inv vs T w → ∀ k, T k → w0.heap.size ≤ k ∧ k < w.heap.size
  keep : ∀ {vs T w w' S}, Inv vs T w → Turn S w w' → (∀ k, S k → ¬ T k) → Inv vs T w'
  call : ∀ {vs T w lo hi a M A n c B m d}, Inv vs T w → Held w lo hi A n c B m d M → (∀ k, lo ≤ k → k < hi → ¬ T k) → w0.heap.size ≤ lo → vs.length ≤ 10 →
    Calls Tryz.prog f (#[.int .i64 a, .agg #[.int .i64 M.lvl, .slice A n c, .slice B m d]] ++ cap) w fun e w' => e = .returned (.tuple #[]) ∧ ∃ T', Inv (vs ++ [(a, M)]) T' w' ∧ Turn T w w' ∧ ∀ k, T' k → T k ∨ w.heap.size ≤ k ∨ (lo ≤ k ∧ k < hi)
/-- The level that a node's block tells. -/
def lvIn (w : World) (b : Nat) : Nat := match w.cell? ⟨b, 0, none⟩ with
  | some (.int _ z) => z.toNat
  | _ => 0
theorem lvIn_nb {w : World} {b : Nat} {l : Int} {A B : Option Addr} {n c m d : Nat} (H : NB w b l A n c B m d) : lvIn w b = l.toNat := by
  unfold lvIn
  rw [H.c0]
/-- What the way down keeps from round to round; F: what all of it comes to. -/
structure DownAt (w0 wb : World) (T0 : Nat → Prop) (R : Int → Nd × Int) (k : Kd) (Inv : List (Int × Nd) → (Nat → Prop) → World → Prop) (F : List (Int × Nd) × Int) (nb : Nat) (av ev : Value) (w : World) (vs : List (Int × Nd)) (T : Nat → Prop) : Prop where
  inv : Inv vs T w
  low : Below w0.heap.size w0 w
  key : KB w wb.heap.size k
  kge : w0.heap.size ≤ wb.heap.size ∧ wb.heap.size < nb
  node : ∃ l A n c B m d, NB w nb l A n c B m d
  old : Turn T0 wb w
  sub : ∀ k, T k → T0 k ∨ wb.heap.size ≤ k
  noT : ¬ T nb ∧ ¬ T wb.heap.size
  at_ : (∃ E : Int, E ≠ 0 ∧ ev = .int .i64 E ∧ F = (vs, E)) ∨
    (∃ (l : Nat) (a : Int) (M : Nd) (lo hi : Nat) (A : Option Addr) (n c : Nat) (B : Option Addr) (m d : Nat), ev = .int .i64 0 ∧ av = .int .i64 a ∧ R a = (M, 0) ∧ M.lvl = (l : Int) ∧ l + vs.length ≤ 8 ∧ NB w nb M.lvl A n c B m d ∧ Held w lo hi A n c B m d M ∧
      (∀ k, lo ≤ k → k < hi → ¬ T k) ∧ (hi ≤ nb ∨ nb < lo) ∧ wb.heap.size < lo ∧ w0.heap.size ≤ lo ∧ F = (vs ++ (downN R k l a).1, (downN R k l a).2))

set_option maxRecDepth 100000 in
set_option maxHeartbeats 16000000 in
theorem cdown_any {w0 w : World} {p f : Nat} {cap : Array Value} {R : Int → Nd × Int} {Inv : List (Int × Nd) → (Nat → Prop) → World → Prop} (H : Src w0 p R) (V : Visit w0 f cap Inv) (B0 : Below w0.heap.size w0 w) (ht0 : Tab w0) (root : Int) (k : Kd) (T0 : Nat → Prop) (hI : Inv [] T0 w) :
    Calls Tryz.prog 38 #[.pointer (some ⟨p, 0, none⟩), .int .i64 root, .agg #[.int .i64 k.obj, .int .i64 k.kind, .int .i64 k.off], .func (.func f) #[] cap] w fun e w' => e = .returned (.int .i64 (downT R k root).2) ∧ ∃ T, Inv (downT R k root).1 T w' ∧ Below w0.heap.size w0 w' ∧ Turn T0 w w' := by
  obtain ⟨K0, bB⟩ := boxes1 w k
  have zw := B0.size
  have hT0 := V.in_ hI
  by_cases hr : root = 0
  · subst hr
    have e : downT R k 0 = ([], 0) := if_pos rfl
    rw [e]
    clear e
    go_enter Tryz.func38, Tryz.ntmps38
    go_wp2_with fail
    go_ret
    exact ⟨rfl, T0, V.keep hI (turn_below (S := fun _ => False) bB) (fun _ h => h.elim), B0.trans (bB.mono zw), turn_below bB⟩
  · have hr1 : (root == 0) = false := by simp [hr]
    have hr2 : decide (root = 0) = false := decide_eq_false hr
    have hF : downT R k root = downN R k (lvlN R root) root := if_neg hr
    obtain ⟨F, hFe⟩ : ∃ F, downT R k root = F := ⟨_, rfl⟩
    rw [hFe] at hF ⊢
    clear hFe
    have I1 := V.keep hI (turn_below (S := fun _ => False) bB) (fun _ h => h.elim)
    have z1 : (w.alloc (.cells #[.int .i64 k.obj, .int .i64 k.kind, .int .i64 k.off] 39)).heap.size = w.heap.size + 1 := by simp
    have Hn := Lib.hid (fun u hu tu => H.node u hu tu root)
    obtain ⟨M, E, hR⟩ : ∃ M E, R root = (M, E) := ⟨_, _, rfl⟩
    have HR := Lib.hid hR
    rw [hR] at Hn
    have HF := Lib.hid hF
    clear hF hR
    go_enter Tryz.func38, Tryz.ntmps38
    go_wp2_with fail
    generalize w.alloc (.cells #[.int .i64 k.obj, .int .i64 k.kind, .int .i64 k.off] 39) = w1 at K0 bB I1 z1 ⊢
    have B1 := B0.trans (bB.mono zw)
    refine (Hn.out w1 B1 (ht0.below B1 ht0.1)).mono ?_
    rintro e w2 ⟨A1, n1, c1, B1', m1, d1, rfl, hn1, hm1, hI1, hK1, b2⟩
    have hz2 := b2.size
    have Hd := held_of hn1 hm1 hI1 hK1
    have N3 : NB (w2.alloc (.cells #[.int .i64 0, .slice none 0 0, .slice none 0 0] 56)) w2.heap.size 0 none 0 0 none 0 0 := NB.new w2 _ _ _ _ _ _ _ _
    have b3 : Below w2.heap.size w2 (w2.alloc (.cells #[.int .i64 0, .slice none 0 0, .slice none 0 0] 56)) := (Below.refl _ _).alloc (Nat.le_refl _) _
    clear hI1 hK1
    go_wp2_with (first
      | (refine wp_store_nd rfl (.tmp 10) _ rfl w2.heap.size rfl M.lvl A1 n1 c1 B1' m1 d1 rfl N3 ?_; intro w4 N4 T4)
      | fail)
    have XX : Turn (fun _ => False) w1 w4 := ((turn_below (S := fun _ => False) b2).trans (turn_below (S := fun _ => False) b3) (fun _ h => .inl h)).trans T4 (fun x hx => .inr (by have : x = w2.heap.size := hx; omega))
    have X2 : Turn (fun _ => False) w2 w4 := (turn_below (S := fun _ => False) b3).trans T4 (fun x hx => .inr (by have : x = w2.heap.size := hx; omega))
    have I4 := V.keep I1 XX (fun _ h => h.elim)
    have B4 : Below w0.heap.size w0 w4 := B1.trans (XX.below (fun _ h => h.elim) B1.size)
    have K4 := K0.keep (XX.block _ K0.lt (fun h => h))
    have Hd4 := Hd.turn X2 (fun _ _ _ h => h)
    obtain ⟨nb, hnb⟩ : ∃ nb, w2.heap.size = nb := ⟨_, rfl⟩
    rw [hnb] at N4 Hd4 ⊢
    have D0 : DownAt w0 w T0 R k Inv F nb (.int .i64 root) (.int .i64 E) w4 [] T0 := by
      have hR := HR.out
      have hF := HF.out
      refine ⟨I4, B4, K4, ⟨zw, by omega⟩, ⟨_, _, _, _, _, _, _, N4⟩, (turn_below (S := T0) bB).trans XX (fun _ h => h.elim), fun k h => .inl h, ⟨fun h => by have := (hT0 _ h).2; omega, fun h => by have := (hT0 _ h).2; omega⟩, ?_⟩
      by_cases hE : E = 0
      · subst hE
        have hm := H.may root (by rw [hR])
        rw [hR] at hm
        have hm : M.may = true := hm
        have hl : 0 ≤ M.lvl ∧ M.lvl < 8 := by
          by_cases h0 : M.lvl = 0
          · omega
          · have := may_inner_kids hm h0; omega
        have hlv : M.lvl = (lvlN R root : Int) := by unfold lvlN; rw [hR]; exact (Int.toNat_of_nonneg hl.1).symm
        refine .inr ⟨lvlN R root, root, M, w1.heap.size, nb, A1, n1, c1, B1', m1, d1, rfl, rfl, hR, hlv, by simp; omega, N4, Hd4, fun k h1 h2 h => by have := (hT0 _ h).2; omega, .inl (Nat.le_refl _), by omega, by omega, by rw [hF]; rfl⟩
      · refine .inl ⟨E, hE, rfl, ?_⟩
        rw [hF, downN_err (by rw [hR]; exact hE), hR]
    clear I4 B4 K4 N4 Hd4 Hd N3 b3 b2 XX X2 T4 I1 K0 hnb HR HF Hn
    have hent := V.ent
    go_loopw [9, 11, 12, 13] (fun av ev _ _ wr => ∃ vs T, DownAt w0 w T0 R k Inv F nb av ev wr vs T) (fun _ ev _ _ wr => if intOf ev = 0 then lvIn wr nb + 1 else 0)
    case atStart => exact ⟨[], T0, D0⟩
    case round =>
      obtain ⟨vs, T, D⟩ := hrel
      obtain ⟨hinv, hlow, hkey, hkge, hnode, hold, hsub, hnoT, hat⟩ := D
      have hsz := hlow.size
      have hkl := hkey.lt
      clear D0
      rcases hat with ⟨E', hE', rfl, hF'⟩ | ⟨l, a, M', lo, hi, A, n, c, Bq, m, d, rfl, rfl, hRa, hlv, hlen, hN, hHd, hdis, hnbd, hkb, hlo, hF'⟩
      · have g1 : (E' == 0) = false := by simp [hE']
        have g2 : decide (E' = 0) = false := decide_eq_false hE'
        have HF := Lib.hid hF'
        clear hE' hF'
        go_wp2_with fail
        go_ret
        exact ⟨by rw [HF.out]; rfl, T, by rw [HF.out]; exact hinv, hlow, hold⟩
      · have hmay : M'.may = true := by have := H.may a (by rw [hRa]); rwa [hRa] at this
        have hNl := hN.lt
        have hNw := hN
        have hin := V.in_ hinv
        have p0 := hN.c0
        have p1 := hN.c1
        have p2 := hN.c2
        have Hcall := Lib.hid (V.call (a := a) hinv hHd hdis hlo (by omega))
        have HRa := Lib.hid hRa
        have Hlv := Lib.hid hlv
        have HF := Lib.hid hF'
        clear hF' hRa hlv hinv
        cases l with
        | zero =>
          have hF2 : F = (vs ++ [(a, M')], 0) := by rw [HF.out, downN_zero HRa.out Hlv.out]
          have g1 : (M'.lvl == 0) = true := by rw [Hlv.out]; rfl
          have g2 : decide (M'.lvl = 0) = true := decide_eq_true Hlv.out
          have HF2 := Lib.hid hF2
          clear hF2
          go_wp2_with fail
          refine Hcall.out.mono ?_
          rintro e w5 ⟨rfl, T', hI5, T5, hT'⟩
          have q0 := (hN.turned T5 hnoT.1).c0
          clear p0 p1 p2
          go_wp2_with fail
          go_ret
          exact ⟨by rw [HF2.out]; rfl, T', by rw [HF2.out]; exact hI5, hlow.trans (T5.below (fun x hx => (hin x hx).1) hsz), hold.trans T5 hsub⟩
        | succ l =>
          obtain ⟨-, hk1, hk8, -, -, hsk⟩ := may_inner_kids hmay (by rw [Hlv.out]; omega)
          have g1 : (M'.lvl == 0) = false := by rw [Hlv.out]; simp; omega
          have g2 : decide (M'.lvl = 0) = false := decide_eq_false (by rw [Hlv.out]; omega)
          have k0 := hkey.c0
          go_wp2_with fail
          refine Hcall.out.mono ?_
          rintro e w5 ⟨rfl, T', hI5, T5, hT'⟩
          have N5 := hN.turned T5 hnoT.1
          have K5 := hkey.keep (T5.block _ hkl hnoT.2)
          have Hd5 := hHd.turn T5 hdis
          have low5 := hlow.trans (T5.below (fun x hx => (hin x hx).1) hsz)
          have hin5 := V.in_ hI5
          have z5 := T5.size
          have old5 := hold.trans T5 hsub
          have sub5 : ∀ k, T' k → T0 k ∨ w.heap.size ≤ k := fun k h => by
            have hh := hold.size
            rcases hT' k h with h | h | h
            · exact hsub k h
            · exact .inr (by omega)
            · exact .inr (by omega)
          have hno5 : ¬ T' nb ∧ ¬ T' w.heap.size := ⟨fun h => by rcases hT' nb h with h | h | h; exact hnoT.1 h; omega; omega, fun h => by rcases hT' _ h with h | h | h; exact hnoT.2 h; omega; omega⟩
          clear p0 p1 p2 k0 hN hkey hHd hdis hnbd hT' T5 hlow
          have p0 := N5.c0
          have p1 := N5.c1
          have p2 := N5.c2
          have k0 := K5.c0
          have k1 := K5.c1
          have k2 := K5.c2
          obtain ⟨r5, s5⟩ := Hd5.rows
          obtain ⟨x, hx⟩ : ∃ x, M'.seek k = x := ⟨_, rfl⟩
          have hxl := hsk k
          rw [hx] at hxl
          have hml : M'.kids.length = m := Sls.len s5 |> fun h => by rw [List.length_map] at h; exact h
          obtain ⟨rr, hrr⟩ : ∃ rr, foundAt M'.keys k x = rr := ⟨_, rfl⟩
          have Hsk := Lib.hid (cseek_any M' (may_fit hmay) k x hx rr hrr A n c Bq m d w5 r5.itms s5 (by have := Hd5.2.1; omega) (by have := Hd5.2.2.1; omega))
          have Hx := Lib.hid hx
          clear hrr hx hsk
          go_wp2_with fail
          refine Hsk.out.mono ?_
          rintro e w6 ⟨rfl, b6⟩
          have N6 := N5.below b6 N5.lt
          have K6 := K5.below b6 K5.lt
          obtain ⟨r6, s6⟩ := (Hd5.below b6).rows
          have low6 := low5.trans (b6.mono low5.size)
          have z6 := b6.size
          clear p0 p1 p2 k0 k1 k2 r5 s5 r6
          have p0 := N6.c0
          have p1 := N6.c1
          have p2 := N6.c2
          obtain ⟨g, o, rfl, hg, -, -, -, y3⟩ := s6.cell (j := x) (by omega)
          obtain ⟨y, hy⟩ : ∃ y, (kidAt M'.kids x).a = y := ⟨_, rfl⟩
          rw [hy] at y3
          have e1 : (x : Int) < (m : Int) := by omega
          have e0 : (0 : Int) ≤ (x : Int) := by omega
          obtain ⟨_, hdm⟩ := Kidl.bounds s6
          have Hkid := Lib.hid (ckid_any H low6 (ht0.below low6 ht0.1) M'.lvl hk1 hk8 M'.kids A n c (some ⟨g, o, none⟩) m d s6 x (by omega) y hy)
          have Hy := Lib.hid hy
          have hml2 := Lib.hid hml
          clear hy hml s6
          go_wp2_with fail
          refine Hkid.out.mono ?_
          clear Hkid
          obtain ⟨M2, hM2⟩ : ∃ M2, kidN R M'.lvl y = M2 := ⟨_, rfl⟩
          obtain ⟨E2, hE2⟩ : ∃ E2, kidE R M'.lvl y = E2 := ⟨_, rfl⟩
          rw [hM2, hE2]
          have HM2 := Lib.hid hM2
          have HE2 := Lib.hid hE2
          clear hM2 hE2
          rintro e w7 ⟨A2, n2, c2, B2, m2, d2, rfl, hn2, hm2, hI7, hK7, b7⟩
          have Hd7 := held_of hn2 hm2 hI7 hK7
          have z7 := b7.size
          have N7 := N6.below b7 N6.lt
          have K7 := K6.below b7 K6.lt
          clear p0 p1 p2 hI7 hK7 y3
          go_wp2_with (first
            | (refine wp_store_nd rfl (.tmp 10) _ rfl nb rfl M2.lvl A2 n2 c2 B2 m2 d2 rfl N7 ?_; intro w8 N8 T8)
            | fail)
          have z8 := T8.size
          have N5l := N5.lt
          have X58 : Turn (fun g => g = nb) w5 w8 := ((turn_below (S := fun g => g = nb) b6).trans (turn_below (S := fun g => g = nb) b7) (fun _ h => .inl h)).trans T8 (fun _ h => .inl h)
          have I8 := V.keep hI5 X58 (fun k hk h => by have hk : k = nb := hk; rw [hk] at h; exact hno5.1 h)
          have Hd8 := Hd7.turn T8 (fun k h1 h2 h => by have h : k = nb := h; omega)
          have K8 := K7.keep (T8.block _ K7.lt (by show ¬ w.heap.size = nb; omega))
          have low8 : Below w0.heap.size w0 w8 := low5.trans (X58.below (fun k hk => by have : k = nb := hk; omega) low5.size)
          refine ⟨⟨vs ++ [(a, M')], T', I8, low8, K8, hkge, ⟨_, _, _, _, _, _, _, N8⟩, old5.trans X58 (fun k h => .inr (by have h : k = nb := h; omega)), sub5, hno5, ?_⟩, ?_⟩
          · have hF3 : F = ((vs ++ [(a, M')]) ++ (downN R k l y).1, (downN R k l y).2) := by
              rw [HF.out, downN_succ HRa.out Hlv.out, Hx.out, Hy.out, List.append_assoc]
              rfl
            by_cases h1 : (R y).2 = 0
            · have hE : kidE R M'.lvl y = if (R y).1.lvl ≠ M'.lvl - 1 then 5 else 0 := if_neg (by simpa using h1)
              have hM : kidN R M'.lvl y = if (R y).1.lvl ≠ M'.lvl - 1 then nodeZ else (R y).1 := if_neg (by simpa using h1)
              by_cases h2 : (R y).1.lvl = M'.lvl - 1
              · rw [if_neg (by simpa using h2)] at hE hM
                rw [HE2.out] at hE
                rw [HM2.out] at hM
                subst hE
                have hl2 : M2.lvl = (l : Int) := by rw [hM, h2, Hlv.out]; omega
                exact .inr ⟨l, y, M2, w6.heap.size, w7.heap.size, A2, n2, c2, B2, m2, d2, rfl, rfl, by rw [hM]; exact Prod.ext rfl h1, hl2, by rw [List.length_append, List.length_singleton]; omega, N8, Hd8, fun k h3 h4 h5 => by have := (hin5 k h5).2; omega, .inr (by omega), by omega, by have := low6.size; omega, hF3⟩
              · rw [if_pos h2] at hE
                rw [HE2.out] at hE
                subst hE
                refine .inl ⟨5, by omega, rfl, ?_⟩
                rw [hF3, downN_off h1 l (fun h => h2 (by rw [h, Hlv.out]; omega)), List.append_nil]
            · have hE : kidE R M'.lvl y = (R y).2 := if_pos h1
              rw [HE2.out] at hE
              refine .inl ⟨E2, by rw [hE]; exact h1, rfl, ?_⟩
              rw [hF3, downN_err h1, List.append_nil, hE]
          · have e5 : lvIn wr nb = l + 1 := by rw [lvIn_nb hNw, Hlv.out]; omega
            rw [e5]
            by_cases hE : E2 = 0
            · have e6 : lvIn w8 nb = l := by
                rw [lvIn_nb N8]
                have h1 := HE2.out
                rw [hE] at h1
                unfold kidE at h1
                have h2 := HM2.out
                unfold kidN at h2
                split at h1
                · rename_i h; exact absurd h1 h
                · rename_i h
                  rw [if_neg h] at h2
                  split at h1
                  · cases h1
                  · rename_i h3
                    rw [if_neg h3] at h2
                    have h3 : (R y).1.lvl = M'.lvl - 1 := by simpa using h3
                    rw [← h2, h3, Hlv.out]
                    omega
              rw [e6]
              simp [intOf, hE]
            · simp [intOf, hE]
end Go.Proofs.YtgedmodnkiijkaaGreatDoor
