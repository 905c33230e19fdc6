/- The program's Open reads a block as P4.2 says, or refuses. -/
import Derived.Test.YtkkmnmiekmfjiaaDoorSealE
import Derived.Deep.RegionWith
namespace Go.Proofs.YtkkmnmiekmfjiaaDoor
open Go Go.RowKit Go.Proofs

theorem results_cell3 {fn : Func} {p a b : Tmp} {ty : TypeId} {ad : Addr} {v : Value} {P : Program} {w : World} {tmps : Array Value} (h : fn.results = #[.cell p ty, .tmp a, .tmp b]) (hp : tmps.getD p undef = .pointer (some ad)) (hl : (loadVar ty ad).run P w = .ok v w) :
    (results fn tmps).run P w = .ok (.tuple #[v, tmps.getD a undef, tmps.getD b undef]) w := by
  have e : (results fn tmps).run P w = ((asAddr (tmps.getD p undef)).run P w).andThen fun ad w₁ => ((loadVar ty ad).run P w₁).andThen fun v w₂ => .ok (.tuple #[v, tmps.getD a undef, tmps.getD b undef]) w₂ := by
    simp only [results, h]
    simp [Sem.run_bind, Result.andThen]
  rw [e, hp]
  simp [asAddr, hl]
theorem load_hd {w : World} {b : Nat} {h : Hd} (hr : w.rangeAt b 0 h.vs) : (loadVar 23 ⟨b, 0, none⟩).run Tryd.prog w = .ok h.v w :=
  run_loadVar_mid w b 0 23 h.vs _ hr Tryd.underlying23 rfl (by kernel_rfl)
theorem str_bs {w : World} {A : Option Addr} {n c : Nat} {l : List UInt8} (h : Sl w A n c l) : (convert 24 9 (.slice A n c)).run Tryd.prog w = .ok (.string ⟨l.toArray⟩) w :=
  run_conv_bs _ _ _ T22 Tryd.underlying5 Tryd.underlying9 h

/-- What a block's bytes must be. -/
def okB (l : List UInt8) : Bool := decide (l.length = 256 ∧ l.take 4 = sumB l ∧ (hdOf ((l.drop 4).take 11)).ok = true ∧ allZ ((l.drop 15).take 5) = true)
/-- P4.2's answer. -/
def opH (l : List UInt8) : Hd := if okB l = true then hdOf ((l.drop 4).take 11) else Hd.zero
def opB (l : List UInt8) : List UInt8 := if okB l = true then l.drop 20 else []
def opE (l : List UInt8) : Int := if okB l = true then 0 else 3

theorem wp_load_hr {ops : Array Oper} {rest : List Oper} {o : Oper} {a : Act} {w : World} {Q : Exit → Act → World → Prop} (hg : o.guard = none) (x : Operand) (hop : o.op = Op.load 23 x)
    (b : Nat) (hx : a.eval x = .pointer (some ⟨b, 0, none⟩)) (h : Hd) (H : w.rangeAt b 0 h.vs) (hK : wpList Tryd.prog ops Q rest (a.put o.dst h.v) w) : wpList Tryd.prog ops Q (o :: rest) a w :=
  wpList_load_mid hg _ x hop b 0 hx h.vs _ H Tryd.underlying23 rfl (by kernel_rfl) hK
theorem range_below {w w' : World} {b : Nat} {vs : List Value} (h : w.rangeAt b 0 vs) {B : Nat} (hb : Below B w w') (hB : b < B) : w'.rangeAt b 0 vs := fun j v hv => (hb.cell (p := ⟨b, 0 + j, none⟩) hB).trans (h j v hv)
theorem zrs_len (n : Nat) : (zrs n).length = n := List.length_replicate
theorem splice_all (L C : List UInt8) (h : L.length = C.length) : splice L 0 C = C := by
  unfold splice
  rw [List.take_zero, List.nil_append, List.drop_of_length_le (by omega), List.append_nil]
theorem after6 {w w5 w6 : World} {H : Hd} {o : Obj} (hr : w6.rangeAt w5.heap.size 0 H.vs) (hb : ∀ B, B ≤ w5.heap.size → Below B (w5.alloc o) w6) (HZ : HB w5 w.heap.size Hd.zero) (hB : Below w.heap.size w w5) (hz : w.heap.size < w5.heap.size) :
    w6.rangeAt w5.heap.size 0 H.vs ∧ Below w.heap.size w w6 ∧ HB w6 w.heap.size Hd.zero ∧ w5.heap.size < w6.heap.size := by
  have h1 : Below w5.heap.size w5 w6 := ((Below.refl _ _).alloc (Nat.le_refl _) o).trans (hb _ (Nat.le_refl _))
  have h2 := (hb _ (Nat.le_refl _)).size
  rw [World.size_alloc] at h2
  exact ⟨hr, hB.trans (h1.mono (by omega)), HZ.below h1 hz, by omega⟩
theorem cuts {w : World} {ad : Addr} {c : Nat} {l : List UInt8} (hs : Sl w (some ad) 256 c l) : Sl w (some (ad.add 15)) 5 (c - 15) ((l.drop 15).take 5) ∧ Sl w (some (ad.add 20)) 236 (c - 20) (l.drop 20) := by
  have hc := hs.cap
  have h1 := (hs.drop (k := 15) (by omega)).take (k := 5) (by omega)
  have h2 := hs.drop (k := 20) (by omega)
  rw [if_neg (by omega)] at h1 h2
  exact ⟨h1, h2⟩
/-- What Open answers. -/
def OpenSays (A : Option Addr) (n c : Nat) (l : List UInt8) (w : World) : Prop :=
    Calls Tryd.prog 11 #[.slice A n c] w fun e w' =>
      ∃ A' n' c', e = .returned (.tuple #[(opH l).v, .slice A' n' c', .int .i64 (opE l)]) ∧ Own w' w.heap.size 5 A' n' c' (opB l) ∧ Below w.heap.size w w'
theorem op_no {l : List UInt8} (h : okB l = false) : opH l = Hd.zero ∧ opB l = [] ∧ opE l = 3 := by
  unfold opH opB opE
  rw [h]
  exact ⟨rfl, rfl, rfl⟩
theorem op_yes {l : List UInt8} (h : okB l = true) : opH l = hdOf ((l.drop 4).take 11) ∧ opB l = l.drop 20 ∧ opE l = 0 := by
  unfold opH opB opE
  rw [h]
  exact ⟨rfl, rfl, rfl⟩

set_option maxHeartbeats 4000000 in
theorem open_eq (ad : Addr) (c : Nat) (l : List UInt8) (w : World) (hs : Sl w (some ad) 256 c l) (ht : Tab w) (heq : l.take 4 = sumB l) : OpenSays (some ad) 256 c l w := by
  unfold OpenSays
  have hlen := hs.len
  have hcap := hs.cap
  have hm := hs.max
  unfold maxLen at hm
  have HZ := HB.zero w 23
  have hb0 : Below w.heap.size w (w.alloc (.cells #[.int .i64 0, .int .i64 0, .int .i64 0, .int .i64 0, .int .i64 0] 23)) := (Below.refl _ _).alloc (Nat.le_refl _) _
  have hz0 : w.heap.size < (w.alloc (.cells #[.int .i64 0, .int .i64 0, .int .i64 0, .int .i64 0, .int .i64 0] 23)).heap.size := by simp
  obtain ⟨H, hH⟩ : ∃ H, hdOf ((l.drop 4).take 11) = H := ⟨_, rfl⟩
  have hS0 := congrArg (fun x : List UInt8 => (⟨x.toArray⟩ : ByteArray)) heq
  obtain ⟨S1, hS⟩ : ∃ S1, (⟨(sumB l).toArray⟩ : ByteArray) = S1 := ⟨_, rfl⟩
  have hS2 : (⟨(l.take 4).toArray⟩ : ByteArray) = S1 := hS0.trans hS
  clear hS0
  go_enter Tryd.func11, Tryd.ntmps11
  go_wp2
  generalize (w.alloc (.cells #[.int .i64 0, .int .i64 0, .int .i64 0, .int .i64 0, .int .i64 0] 23)) = w1 at HZ hb0 hz0 ⊢
  have hs1 := hs.below hb0
  have ht1 := ht.below hb0 ht.1
  have k1 := str_bs (hs1.take (k := 4) (by omega)).drew
  rw [hS2] at k1
  go_region_with (first
    | (go_at_call 17; refine (summed_any _ 256 c l _ hs1.drew (by omega) ht1).mono ?_; rintro e w3 ⟨A3, n3, c3, rfl, own3, hb3⟩; have hb3' : Below w1.heap.size w1 w3 := Below.trans (Below.refl _ w1).drew hb3; have k2 := str_bs ((hs1.below hb3').take (k := 4) (by omega)); have k3 := str_bs own3.sl; rw [hS2] at k2; rw [hS] at k3)
    | fail)
  all_goals
    have HZ3 := HZ.below hb3' hz0
    have hz3 := hb3'.size
    have hs3 := hs1.below hb3'
    have hB3 := hb0.trans (hb3'.mono hb0.size)
    have hs4 := (hs3.drop (k := 4) (by omega)).take (k := 11) (by omega)
    rw [if_neg (show ¬ c = 4 by omega)] at hs4
    clear k1 k2 k3 own3 hb3 hs1 HZ
    cases hok : H.ok
    · have hno : okB l = false := decide_eq_false (fun h => by have := h.2.2.1; rw [hH, hok] at this; cases this)
      go_wp2_with (first
        | (go_at_call 21; refine (unpacked_any _ (c - 4) _ _ hs4).mono ?_; rw [hH]; rintro e w5 ⟨rfl, hb5⟩; have HZ5 := HZ3.below hb5 (by omega); have hz5 := hb5.size)
        | (refine wp_store_hd rfl (.tmp 5) (.tmp 22) rfl w5.heap.size rfl H _ rfl (HB.zero w5 _) (by simp) ?_; intro w6 hr6 hb6 _; obtain ⟨hr6', hB6, HZ6, hz6⟩ := after6 hr6 hb6 HZ5 (hB3.trans (hb5.mono hB3.size)) (by omega))
        | (refine wp_load_hr rfl (.tmp 5) rfl w5.heap.size rfl H (by first | exact hr6' | assumption) ?_)
        | (go_at_call 15; refine (valid_any H _).mono ?_; rw [hok]; rintro e w7 ⟨rfl, hb7⟩; have HZ7 := HZ6.below hb7 (by omega); have hB7 := hB6.trans (hb7.mono hB6.size); have hr7 := range_below hr6' hb7 hz6; have hz7 := hb7.size; have hs7 := hs.below hB7; obtain ⟨hs15, hs20⟩ := cuts hs7)
        | (refine wp_store_hd rfl (.tmp 2) (.tmp 32) rfl w.heap.size rfl Hd.zero _ rfl HZ7 (by omega) ?_; intro wz hrz hbz Tz)
        | fail)
      refine bodyPost_ret (results_cell3 Tryd.results11 rfl (load_hd hrz)) rfl ?_
      obtain ⟨h1, h2, h3⟩ := op_no (l := l) hno
      rw [h1, h2, h3]
      exact ⟨_, _, _, rfl, own_nil _ _ _, hB7.trans (hbz _ (Nat.le_refl _))⟩
    · cases hzz : allZ ((l.drop 15).take 5)
      · have hno : okB l = false := decide_eq_false (fun h => by have := h.2.2.2; rw [hzz] at this; cases this)
        go_wp2_with (first
          | (go_at_call 21; refine (unpacked_any _ (c - 4) _ _ hs4).mono ?_; rw [hH]; rintro e w5 ⟨rfl, hb5⟩; have HZ5 := HZ3.below hb5 (by omega); have hz5 := hb5.size)
          | (refine wp_store_hd rfl (.tmp 5) (.tmp 22) rfl w5.heap.size rfl H _ rfl (HB.zero w5 _) (by simp) ?_; intro w6 hr6 hb6 _; obtain ⟨hr6', hB6, HZ6, hz6⟩ := after6 hr6 hb6 HZ5 (hB3.trans (hb5.mono hB3.size)) (by omega))
          | (refine wp_load_hr rfl (.tmp 5) rfl w5.heap.size rfl H (by first | exact hr6' | assumption) ?_)
          | (go_at_call 15; refine (valid_any H _).mono ?_; rw [hok]; rintro e w7 ⟨rfl, hb7⟩; have HZ7 := HZ6.below hb7 (by omega); have hB7 := hB6.trans (hb7.mono hB6.size); have hr7 := range_below hr6' hb7 hz6; have hz7 := hb7.size; have hs7 := hs.below hB7; obtain ⟨hs15, hs20⟩ := cuts hs7)
          | (go_at_call 22; refine (noughts_any _ 5 (c - 15) _ w7 hs15).mono ?_; rw [hzz]; rintro e w8 ⟨rfl, rfl⟩)
          | (refine wp_store_hd rfl (.tmp 2) (.tmp 32) rfl w.heap.size rfl Hd.zero _ rfl HZ7 (by omega) ?_; intro wz hrz hbz Tz)
          | fail)
        refine bodyPost_ret (results_cell3 Tryd.results11 rfl (load_hd hrz)) rfl ?_
        obtain ⟨h1, h2, h3⟩ := op_no (l := l) hno
        rw [h1, h2, h3]
        exact ⟨_, _, _, rfl, own_nil _ _ _, hB7.trans (hbz _ (Nat.le_refl _))⟩
      · have hyes : okB l = true := decide_eq_true ⟨hlen, heq, by rw [hH]; exact hok, hzz⟩
        go_wp2_with (first
          | (go_at_call 21; refine (unpacked_any _ (c - 4) _ _ hs4).mono ?_; rw [hH]; rintro e w5 ⟨rfl, hb5⟩; have HZ5 := HZ3.below hb5 (by omega); have hz5 := hb5.size)
          | (refine wp_store_hd rfl (.tmp 5) (.tmp 22) rfl w5.heap.size rfl H _ rfl (HB.zero w5 _) (by simp) ?_; intro w6 hr6 hb6 _; obtain ⟨hr6', hB6, HZ6, hz6⟩ := after6 hr6 hb6 HZ5 (hB3.trans (hb5.mono hB3.size)) (by omega))
          | (refine wp_load_hr rfl (.tmp 5) rfl w5.heap.size rfl H (by first | exact hr6' | assumption) ?_)
          | (go_at_call 15; refine (valid_any H _).mono ?_; rw [hok]; rintro e w7 ⟨rfl, hb7⟩; have HZ7 := HZ6.below hb7 (by omega); have hB7 := hB6.trans (hb7.mono hB6.size); have hr7 := range_below hr6' hb7 hz6; have hz7 := hb7.size; have hs7 := hs.below hB7; obtain ⟨hs15, hs20⟩ := cuts hs7)
          | (go_at_call 22; refine (noughts_any _ 5 (c - 15) _ w7 hs15).mono ?_; rw [hzz]; rintro e w8 ⟨rfl, rfl⟩)
          | (at_make; refine wp_make_r _ T22 rfl _ _ rfl _ _ 236 rfl rfl (by omega) ?_; intro w9 own9 hb9; have hs9 := Sl.below hs20 hb9)
          | ((with_reducible show wpList _ _ _ _ _ _); refine wp_copy_b T22 rfl (.tmp 34) (.tmp 36) rfl w7.heap.size w7.heap.size 236 _ own9 0 236 236 rfl _ 236 (c - 20) _ rfl hs9 (by omega) (by omega) ?_; intro w10 own10 hb10; have hb710 := hb9.trans hb10; have HZ10 := HZ7.below hb710 (by omega); have hr10 := range_below hr7 hb710 (by omega); have hz10 := hb710.size)
          | (refine wp_store_hd rfl (.tmp 2) (.tmp 38) rfl w.heap.size rfl H _ rfl HZ10 (by omega) ?_; intro wz hrz hbz Tz)
          | fail)
        refine bodyPost_ret (results_cell3 Tryd.results11 rfl (load_hd hrz)) rfl ?_
        obtain ⟨h1, h2, h3⟩ := op_yes (l := l) hyes
        rw [h1, h2, h3, hH]
        rw [splice_all _ _ (by rw [zrs_len, List.length_drop, hlen])] at own10
        exact ⟨_, _, _, rfl, (own10.turn fun g hg hl => Tz.block g hl (by show ¬ g = w.heap.size; omega)).less hB7.size, hB7.trans ((hb710.mono hB7.size).trans (hbz _ (Nat.le_refl _)))⟩
end Go.Proofs.YtkkmnmiekmfjiaaDoor
