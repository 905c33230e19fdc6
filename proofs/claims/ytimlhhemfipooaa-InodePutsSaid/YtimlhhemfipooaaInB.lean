/- Inode's take: fields' numbers taken off bytes into one block. -/
import Derived.Test.YtimlhhemfipooaaInA
namespace Go.Proofs.Ytimlhhemfipooaa
open Go Go.RowKit Go.Proofs

/-- The block that holds one row of cells. -/
def IB (w : World) (b : Nat) (r : List Value) : Prop := ∃ t, w.heap[b]? = some (.cells r.toArray t (0, 0))
section
variable {w w' : World} {b : Nat} {r : List Value}
theorem IB.new (w : World) (r : List Value) (t : TypeId) : IB (w.alloc (.cells r.toArray t)) w.heap.size r := ⟨t, heap_alloc_new w _⟩
theorem IB.keep (H : IB w b r) (h : w'.heap[b]? = w.heap[b]?) : IB w' b r := by
  obtain ⟨t, H⟩ := H
  exact ⟨t, h.trans H⟩
theorem IB.below (H : IB w b r) {B : Nat} (hb : Below B w w') (hB : b < B) : IB w' b r := H.keep (hb.block b hB)
theorem IB.lt (H : IB w b r) : b < w.heap.size := by
  obtain ⟨t, H⟩ := H
  exact (Array.getElem?_eq_some_iff.1 H).1
theorem IB.cell (H : IB w b r) (j : Nat) {v : Value} (hv : r[j]? = some v) : w.cell? ⟨b, j, none⟩ = some v := by
  obtain ⟨t, H⟩ := H
  rw [cell_of_row _ _ _ _ _ _ H]
  simpa using hv
theorem IB.range (H : IB w b r) : w.rangeAt b 0 r := fun j v hv => by
  rw [Nat.zero_add]
  exact H.cell j hv
theorem IB.fz (H : IB w b r) (j : Nat) : w.frozen? ⟨b, j, none⟩ = false := by
  obtain ⟨t, H⟩ := H
  unfold World.frozen?
  rw [H]
  simp
theorem IB.there (H : IB w b r) : w.there b 0 r.length := fun j hj => by
  rw [Nat.zero_add]
  exact ⟨by rw [H.cell j (List.getElem?_eq_getElem hj)]; rfl, H.fz j⟩
theorem IB.set (H : IB w b r) (j : Nat) (v : Value) : IB (w.setCell ⟨b, j, none⟩ v) b (r.set j v) := by
  obtain ⟨t, H⟩ := H
  refine ⟨t, (setCell_at v H).trans ?_⟩
  rw [List.setIfInBounds_toArray]
theorem ib_sets {b : Nat} : ∀ (vs : List Value) (k : Nat) {w : World} {r : List Value}, IB w b r → k + vs.length = r.length → IB (w.setCells b k vs) b (r.take k ++ vs)
  | [], k, w, r, H, hk => by simp at hk; rw [hk]; simpa [World.setCells] using H
  | v :: vs, k, w, r, H, hk => by
    have h1 := ib_sets vs (k + 1) (H.set k v) (by simp at hk ⊢; omega)
    have hl : k < r.length := by simp at hk; omega
    have e : (r.set k v).take (k + 1) ++ vs = r.take k ++ v :: vs := by
      rw [List.take_succ_eq_append_getElem (by simpa using hl), List.take_set_of_le (Nat.le_refl k)]
      simp
    rw [e] at h1
    exact h1
theorem IB.all (H : IB w b r) (vs : List Value) (h : vs.length = r.length) : IB (w.setCells b 0 vs) b vs := by
  have := ib_sets vs 0 H (by omega)
  simpa using this
end

/-- How many bytes the first k fields take. -/
def posF (fs : List Fl) : Nat → Nat
  | 0 => 0
  | k + 1 => posF fs k + (flAt fs k).wid.toNat
/-- The k-th number that bytes hold. -/
def rdI (fs : List Fl) (l : List UInt8) (k : Nat) : Int := numL ((l.drop (posF fs k)).take (flAt fs k).wid.toNat)
/-- The block behind k fields. -/
def setF (fs : List Fl) (x : Nat → Int) (r : List Value) : Nat → List Value
  | 0 => r
  | k + 1 => (setF fs x r k).set (flAt fs k).o (.int .i64 (x k))
/-- Whether bytes are nothing but fields that may be. -/
def tkF (fs : List Fl) (l : List UInt8) : Bool := decide (l.length = posF fs fs.length) && mayF fs (rdI fs l)
theorem posF_mono (fs : List Fl) : ∀ {a b : Nat}, a ≤ b → posF fs a ≤ posF fs b
  | a, 0, h => by obtain rfl : a = 0 := by omega
                  exact Nat.le_refl _
  | a, b + 1, h => by
    rcases Nat.lt_or_ge a (b + 1) with h1 | h1
    · exact Nat.le_trans (posF_mono fs (by omega)) (Nat.le_add_right _ _)
    · obtain rfl : a = b + 1 := by omega
      exact Nat.le_refl _

theorem own_turnI {w w' : World} {base n c : Nat} {e : TypeId} {A : Option Addr} {l : List UInt8} (h : Own w base e A n c l) (hk : ∀ g, base ≤ g → g < w.heap.size → w'.heap[g]? = w.heap[g]?) : Own w' base e A n c l := by
  refine ⟨h.1, ?_⟩
  rcases h.2 with hv | ⟨g, cap, cur, hv, h1, hg, r⟩
  · exact .inl hv
  · exact .inr ⟨g, cap, cur, hv, h1, (hk g h1 (Array.getElem?_eq_some_iff.1 hg).1).trans hg, r⟩
theorem setF_len (fs : List Fl) (x : Nat → Int) (r : List Value) : ∀ k, (setF fs x r k).length = r.length
  | 0 => rfl
  | k + 1 => by simp [setF, setF_len fs x r k]

set_option maxRecDepth 10000 in
set_option maxHeartbeats 4000000 in
theorem itake_any (fs : List Fl) (A : Option Addr) (n c : Nat) (bp : Nat) (r : List Value) (B : Option Addr) (m d : Nat) (l : List UInt8) (w : World) (hF : Flds w A n c fs) (hne : ∀ g o, A = some ⟨g, o, none⟩ → g ≠ bp)
    (hH : IB w bp r) (hs : Sl w B m d l) (hm : m ≤ 1000000) (hn : n ≤ 100) (hw : ∀ j, j < n → 1 ≤ (flAt fs j).wid ∧ (flAt fs j).wid ≤ 7) (ho : ∀ j, j < n → (flAt fs j).b = bp ∧ (flAt fs j).o < r.length)
    (hrd : l.length = posF fs n → ∀ j, j < n → (setF fs (rdI fs l) r n)[(flAt fs j).o]? = some (.int .i64 (rdI fs l j))) :
    Calls Try.prog 35 #[.slice B m d, .slice A n c] w fun e w' => e = .returned (.bool (tkF fs l)) ∧ (∃ r', IB w' bp r' ∧ (tkF fs l = true → r' = setF fs (rdI fs l) r n)) ∧ Turn (fun k => k = bp) w w' := by
  have Hlen := Lib.hid hF.len
  have Hl := Lib.hid hs.len
  have Hrd := Lib.hid hrd
  clear hrd
  obtain ⟨hc1, hc2⟩ := hF.bounds
  unfold maxLen at hc2
  go_enter Try.func35, Try.ntmps35
  go_wp2_with fail
  go_loopw [0, 10] (fun s i wr => ∃ (j : Nat) (B' : Option Addr) (m' d' : Nat), j ≤ n ∧ s = .slice B' m' d' ∧ i = .int .i64 (j : Int) ∧ Sl wr B' m' d' (l.drop (posF fs j)) ∧ posF fs j ≤ m ∧ IB wr bp (setF fs (rdI fs l) r j) ∧ Turn (fun k => k = bp) w wr) (fun _ i _ => n - (intOf i).toNat)
  case atStart => exact ⟨0, B, m, d, Nat.zero_le _, rfl, rfl, by simpa [posF] using hs, by simp [posF], hH, Turn.refl _ _⟩
  case round =>
    obtain ⟨j, B', m', d', hj, rfl, rfl, hsr, hp, H, hT⟩ := hrel
    have hm' : m' = m - posF fs j := by have := hsr.len; rw [List.length_drop, Hl.out] at this; omega
    have Hm' := Lib.hid hm'
    have hmm : m' ≤ 1000000 := by omega
    by_cases hlt : j < n
    · obtain ⟨g, o, hA, hg, c0, c1, c2, c3⟩ := (hF.turn hT hne).cell hlt
      have hgb := hne g o hA
      subst hA
      obtain ⟨hb, hoo⟩ := ho j hlt
      have hwj := hw j hlt
      have hpn : posF fs (j + 1) = posF fs j + (flAt fs j).wid.toNat := rfl
      have hset : setF fs (rdI fs l) r (j + 1) = (setF fs (rdI fs l) r j).set (flAt fs j).o (.int .i64 (rdI fs l j)) := rfl
      have hrj : rdI fs l j = (numL ((l.drop (posF fs j)).take (flAt fs j).wid.toNat) : Int) := rfl
      have hpl : posF fs (j + 1) ≤ posF fs n := posF_mono fs (by omega)
      obtain ⟨f, hf⟩ : ∃ f, flAt fs j = f := ⟨_, rfl⟩
      rw [hf] at c0 c1 c2 c3 hb hoo hwj hpn hset hrj
      rw [hb] at c0
      have Hf := Lib.hid hf
      have Hset := Lib.hid hset
      clear hf hb hset hm'
      go_wp2_with fail
      have bx : Below wr.heap.size wr (wr.alloc (.cells #[.pointer (some ⟨bp, f.o, none⟩), .int .i64 f.wid, .int .i64 f.lo, .int .i64 f.hi] 60)) := (Below.refl _ _).alloc (Nat.le_refl _) _
      have x0 : (wr.alloc (.cells #[.pointer (some ⟨bp, f.o, none⟩), .int .i64 f.wid, .int .i64 f.lo, .int .i64 f.hi] 60)).heap[wr.heap.size]? = some (.cells #[.pointer (some ⟨bp, f.o, none⟩), .int .i64 f.wid, .int .i64 f.lo, .int .i64 f.hi] 60 (0, 0)) := heap_alloc_new wr _
      have zx : wr.heap.size < (wr.alloc (.cells #[.pointer (some ⟨bp, f.o, none⟩), .int .i64 f.wid, .int .i64 f.lo, .int .i64 f.hi] 60)).heap.size := by simp
      generalize wr.alloc (.cells #[.pointer (some ⟨bp, f.o, none⟩), .int .i64 f.wid, .int .i64 f.lo, .int .i64 f.hi] 60) = wx at bx x0 zx ⊢
      have q0 : wx.cell? ⟨wr.heap.size, 0, none⟩ = some (.pointer (some ⟨bp, f.o, none⟩)) := by rw [cell_of_row _ _ _ _ _ _ x0]; rfl
      have q1 : wx.cell? ⟨wr.heap.size, 1, none⟩ = some (.int .i64 f.wid) := by rw [cell_of_row _ _ _ _ _ _ x0]; rfl
      have hlb := H.lt
      have H1 := H.below bx hlb
      have hsx := hsr.below bx
      have hTx : Turn (fun k => k = bp) w wx := hT.then (turn_below bx)
      have hnb : wr.heap.size ≠ bp := by omega
      clear c0 c1 c2 c3 x0 hsr H hT bx
      have hS : ∀ w' : World, Turn (fun k => k = bp) wx w' → w'.cell? ⟨wr.heap.size, 0, none⟩ = some (.pointer (some ⟨bp, f.o, none⟩)) ∧ w'.cell? ⟨wr.heap.size, 1, none⟩ = some (.int .i64 f.wid) ∧ Turn (fun k => k = bp) wx w' := fun w' T => ⟨(World.cell?_of_block (T.block wr.heap.size zx hnb)).trans q0, (World.cell?_of_block (T.block wr.heap.size zx hnb)).trans q1, T⟩
      have TD : Turn (fun k => k = bp) wx wx.drew := turn_below (Below.refl _ _).drew
      by_cases hsh : (m' : Int) < f.wid
      · have hno : tkF fs l = false := by
          unfold tkF
          rw [decide_eq_false (by rw [Hlen.out, Hl.out]; have := Hm'.out; omega), Bool.false_and]
        have HT := fun (w' : World) => take_short B' m' d' f.wid w' (by omega) (by omega) hsh
        have Hno := Lib.hid hno
        obtain ⟨v, hv⟩ : ∃ v, (setF fs (rdI fs l) r j)[f.o]? = some v := ⟨_, List.getElem?_eq_getElem (by rw [setF_len]; exact hoo)⟩
        clear hno hrj hpn hpl hp
        have q5 := H1.cell f.o hv
        have q6 := H1.fz f.o
        clear hv
        go_region_held3 (fun w' => w'.cell? ⟨wr.heap.size, 0, none⟩ = some (.pointer (some ⟨bp, f.o, none⟩)) ∧ w'.cell? ⟨wr.heap.size, 1, none⟩ = some (.int .i64 f.wid) ∧ Turn (fun k => k = bp) wx w')
          (first | assumption | exact hS _ TD | (go_split_ands; exact hS _ (Turn.then ‹Turn (fun k => k = bp) wx _› (turn_below ‹Below (World.heap _).size _ _›))) | (go_split_ands; exact hS _ (Turn.drew (turn_setCell _ rfl))) | exact hS _ (Turn.drew (turn_setCell _ rfl)))
          (first
            | (go_at_call 39; refine (HT _).mono ?_; rintro e w3 ⟨rfl, rfl⟩)
            | fail)
        go_wp2
        go_ret
        refine ⟨by rw [Hno.out]; rfl, ⟨_, H1.set f.o _, fun h => absurd h (by rw [Hno.out]; exact Bool.false_ne_true)⟩, hTx.then (TD.then (turn_setCell _ rfl))⟩
      · have HT := fun (w' : World) (h' : Sl w' B' m' d' (l.drop (posF fs j))) => take_yes B' m' d' (l.drop (posF fs j)) f.wid w' h' (by omega) (by omega) (by omega) (by omega)
        rw [List.drop_drop, ← hpn, ← hrj] at HT
        obtain ⟨v, hv⟩ : ∃ v, (setF fs (rdI fs l) r j)[f.o]? = some v := ⟨_, List.getElem?_eq_getElem (by rw [setF_len]; exact hoo)⟩
        have hp2 : posF fs (j + 1) ≤ m := by have := Hm'.out; omega
        have Hlm := Lib.hid (show (l.drop (posF fs (j + 1))).length = m - posF fs (j + 1) by rw [List.length_drop, Hl.out])
        generalize rdI fs l j = y at HT Hset
        clear hrj hpn hpl hp
        go_region_held3 (fun w' => w'.cell? ⟨wr.heap.size, 0, none⟩ = some (.pointer (some ⟨bp, f.o, none⟩)) ∧ w'.cell? ⟨wr.heap.size, 1, none⟩ = some (.int .i64 f.wid) ∧ Turn (fun k => k = bp) wx w')
          (first | assumption | exact hS _ TD | (go_split_ands; exact hS _ (Turn.then ‹Turn (fun k => k = bp) wx _› (turn_below ‹Below (World.heap _).size _ _›))) | (go_split_ands; exact hS _ (Turn.then ‹Turn (fun k => k = bp) wx _› (turn_setCell _ rfl))))
          (first
            | (go_at_call 39; refine (HT _ hsx.drew).mono ?_; rintro e w3 ⟨A3, n3, c3, rfl, hown3, hb3⟩; have hb4 : Below wx.heap.size wx w3 := (Below.refl _ wx).drew.trans hb3; have H3 := H1.below hb4 (by omega); have q5 := H3.cell f.o hv; have q6 := H3.fz f.o)
            | fail)
        clear q5 q6
        have T5 : Turn (fun k => k = bp) w3 (w3.setCell ⟨bp, f.o, none⟩ (.int .i64 y)) := turn_setCell _ rfl
        have hown5 : Sl (w3.setCell ⟨bp, f.o, none⟩ (.int .i64 y)) A3 n3 c3 (l.drop (posF fs (j + 1))) := (own_turnI hown3 fun g hg _ => Below.heap_setCell _ _ _ _ (by show g ≠ bp; have h1 : wx.drew.heap.size = wx.heap.size := rfl; have := H1.lt; omega)).sl
        have H5 := H3.set f.o (.int .i64 y)
        rw [← Hset.out] at H5
        go_wp2
        exact ⟨⟨j + 1, A3, n3, c3, by omega, rfl, rfl, hown5, hp2, H5, hTx.then ((turn_below hb4).then T5)⟩, by simp [intOf]; omega⟩
    · obtain rfl : j = n := by omega
      have hdec : tkF fs l = (decide (m' = 0) && mayF fs (rdI fs l)) := by
        unfold tkF
        rw [Hlen.out, Hl.out]
        congr 1
        exact decide_eq_decide.2 (by omega)
      have hFr := hF.turn hT hne
      clear hm'
      by_cases h0 : m' = 0
      · have hNr : Nums wr fs (rdI fs l) := fun q hq => by
          obtain ⟨e1, e2⟩ := ho q (by rw [← Hlen.out]; exact hq)
          rw [e1]
          exact ⟨H.lt, H.cell _ (Hrd.out (by rw [Hl.out]; have := Hm'.out; omega) q (by rw [← Hlen.out]; exact hq))⟩
        have Hm := imay_any fs (rdI fs l) A j c wr hFr hNr
        have hd2 : tkF fs l = mayF fs (rdI fs l) := by rw [hdec, decide_eq_true h0, Bool.true_and]
        have Hd2 := Lib.hid hd2
        subst h0
        clear hdec hd2 hNr
        go_wp2_with (go_at_call 40; refine Hm.mono ?_; rintro e w3 ⟨rfl, hb3⟩)
        go_ret
        refine ⟨by rw [Hd2.out]; rfl, ⟨_, H.below hb3 H.lt, fun _ => rfl⟩, hT.then (turn_below hb3)⟩
      · have hno : tkF fs l = false := by rw [hdec, decide_eq_false h0, Bool.false_and]
        have Hno := Lib.hid hno
        clear hdec hno
        go_wp2
        go_ret
        refine ⟨by rw [Hno.out]; rfl, ⟨_, H, fun h => absurd h (by rw [Hno.out]; exact Bool.false_ne_true)⟩, hT⟩
end Go.Proofs.Ytimlhhemfipooaa
