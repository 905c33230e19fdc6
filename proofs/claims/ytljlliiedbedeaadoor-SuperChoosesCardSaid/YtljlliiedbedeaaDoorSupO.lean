/- Superblocks: the code's and the reference's Newer and Areas; the document's examples. -/
import Derived.Test.YtljlliiedbedeaaDoorSupM
namespace Go.Proofs.YtljlliiedbedeaaDoor
open Go Go.RowKit Go.Proofs

/-- P7.2's answer. -/
def snK (a b : List UInt8) : Nat := if srOk a 0 = false ∧ srOk b 1 = false then 2 else if (srS a 0).gen < (srS b 1).gen then 1 else 0
def snS (a b : List UInt8) : Sp := if snK a b = 2 then Sp.zero else if snK a b = 1 then srS b 1 else srS a 0
def snI (a b : List UInt8) : Int := if snK a b = 1 then 1 else 0
def snE (a b : List UInt8) : Int := if snK a b = 2 then 27 else 0
theorem sn_2 {a b : List UInt8} (h1 : srOk a 0 = false) (h2 : srOk b 1 = false) : snS a b = Sp.zero ∧ snI a b = 0 ∧ snE a b = 27 := by
  have : snK a b = 2 := if_pos ⟨h1, h2⟩
  unfold snS snI snE
  rw [this]
  exact ⟨rfl, rfl, rfl⟩
theorem sn_1 {a b : List UInt8} (h1 : ¬ (srOk a 0 = false ∧ srOk b 1 = false)) (h2 : (srS a 0).gen < (srS b 1).gen) : snS a b = srS b 1 ∧ snI a b = 1 ∧ snE a b = 0 := by
  have : snK a b = 1 := by unfold snK; rw [if_neg h1, if_pos h2]
  unfold snS snI snE
  rw [this]
  exact ⟨rfl, rfl, rfl⟩
theorem sn_0 {a b : List UInt8} (h1 : ¬ (srOk a 0 = false ∧ srOk b 1 = false)) (h2 : ¬ (srS a 0).gen < (srS b 1).gen) : snS a b = srS a 0 ∧ snI a b = 0 ∧ snE a b = 0 := by
  have : snK a b = 0 := by unfold snK; rw [if_neg h1, if_neg h2]
  unfold snS snI snE
  rw [this]
  exact ⟨rfl, rfl, rfl⟩
def SNewerSays (A : Option Addr) (n c : Nat) (a : List UInt8) (B : Option Addr) (m d : Nat) (b : List UInt8) (w : World) : Prop :=
    Calls Tryd.prog 17 #[.slice A n c, .slice B m d] w fun e w' => e = .returned (.tuple #[.agg (snS a b).vs.toArray, .int .i64 (snI a b), .int .i64 (snE a b)]) ∧ Below w.heap.size w w'

attribute [local go_sem ↓] ldS_shut ldA_shut alS_shut bdS_shut ldX_shut
set_option maxRecDepth 100000 in
set_option maxHeartbeats 4000000 in
theorem snewer_any (A : Option Addr) (n c : Nat) (a : List UInt8) (B : Option Addr) (m d : Nat) (b : List UInt8) (w : World) (ha : Sl w A n c a) (hb : Sl w B m d b) (ht : Tab w) : SNewerSays A n c a B m d b w := by
  unfold SNewerSays
  have hal := alS_run true
  have hbd := bdS_zero
  have Z1 := SB.new w Sp.zero 26
  have b1 : Below w.heap.size w (w.alloc (.cells Sp.zero.vs.toArray 26)) := (Below.refl _ _).alloc (Nat.le_refl _) _
  go_enter Tryd.func17, Tryd.ntmps17
  go_wp2_with fail
  generalize w.alloc (.cells Sp.zero.vs.toArray 26) = w1 at Z1 b1 ⊢
  refine Calls.mono (sread_any A n c a 0 w1 (ha.below b1) (ht.below b1 ht.1)) ?_
  rintro e w2 ⟨rfl, hb2⟩
  have Z2 := Z1.below hb2 Z1.lt
  have B2 := b1.trans (hb2.mono b1.size)
  have H2 := SB.new w2 Sp.zero 26
  have b2 : Below w2.heap.size w2 (w2.alloc (.cells Sp.zero.vs.toArray 26)) := (Below.refl _ _).alloc (Nat.le_refl _) _
  have ka := sr_gen (l := a) (slot := 0)
  have kb := sr_gen (l := b) (slot := 1)
  have K2 := fun h1 h2 => sn_2 (a := a) (b := b) h1 h2
  have K1 := fun h1 h2 => sn_1 (a := a) (b := b) h1 h2
  have K0 := fun h1 h2 => sn_0 (a := a) (b := b) h1 h2
  obtain ⟨SA, hSA⟩ : ∃ SA, srS a 0 = SA := ⟨_, rfl⟩
  obtain ⟨SC, hSC⟩ : ∃ SC, srS b 1 = SC := ⟨_, rfl⟩
  rw [hSA] at ka K1 K0 ⊢
  rw [hSC] at kb K1 K0
  clear hSA
  have KK := Lib.hid (And.intro K2 (And.intro K1 K0))
  have Ka := Lib.hid ka
  have Kb := Lib.hid kb
  clear K2 K1 K0 ka kb
  obtain ⟨ea, hea⟩ : ∃ ea, srE a 0 = ea := ⟨_, rfl⟩
  rw [hea]
  clear hea
  go_wp2_with (first
    | (refine wp_store_sp rfl _ _ rfl w2.heap.size rfl SA Sp.zero rfl H2 ?_; intro w3 H3 hb3 T3; have bb3 := b2.trans (hb3 _ (Nat.le_refl _)); have B3 := B2.trans (bb3.mono B2.size); have Z3 := Z2.below bb3 Z2.lt)
    | fail)
  refine Calls.mono (sread_any B m d b 1 w3 (hb.below B3) (ht.below B3 ht.1)) ?_
  rw [hSC]
  rintro e w4 ⟨rfl, hb4⟩
  have H4 := H3.below hb4 H3.lt
  have Z4 := Z3.below hb4 Z3.lt
  have B4 := B3.trans (hb4.mono B3.size)
  have H4b := SB.new w4 Sp.zero 26
  have b4 : Below w4.heap.size w4 (w4.alloc (.cells Sp.zero.vs.toArray 26)) := (Below.refl _ _).alloc (Nat.le_refl _) _
  obtain ⟨eb, heb⟩ : ∃ eb, srE b 1 = eb := ⟨_, rfl⟩
  rw [heb]
  clear heb hSC H2 b2 hb3 T3 bb3 B3 Z3 H3 hb4 Z2 B2 hb2 Z1 b1
  obtain ⟨fa, hfa⟩ : ∃ fa, SA.gen = fa := ⟨_, rfl⟩
  obtain ⟨fb, hfb⟩ : ∃ fb, SC.gen = fb := ⟨_, rfl⟩
  have Hfa := Lib.hid hfa
  have Hfb := Lib.hid hfb
  obtain ⟨bk, hbk⟩ : ∃ bk, w2.heap.size = bk := ⟨_, rfl⟩
  rw [hbk] at H4 ⊢
  have hww : w.heap.size < w4.heap.size := Z4.lt
  have hwk : bk < w4.heap.size := H4.lt
  rcases Ka.out with ka | ka
  · rcases Kb.out with kb | kb
    · have hK := KK.out.1 ka.2.2 kb.2.2
      have e1 : fa = 0 := by rw [← Hfa.out]; exact ka.1
      have e2 : fb = 0 := by rw [← Hfb.out]; exact kb.1
      subst e1 e2
      go_wp2_with (first
        | (refine wp_store_sp rfl _ _ rfl w4.heap.size rfl SC Sp.zero rfl H4b ?_; intro w5 H5 hb5 T5; have bb5 := b4.trans (hb5 _ (Nat.le_refl _)); have B5 := B4.trans (bb5.mono B4.size); have Z5 := Z4.below bb5 Z4.lt; have H6 := H4.below bb5 H4.lt; have g5 := H5.c0; have g6 := H6.c0; have l5 := H5.ld; have l6 := H6.ld; rw [hfb] at g5; rw [hfa] at g6)
        | (refine wp_store_sp rfl _ _ rfl w.heap.size rfl Sp.zero Sp.zero rfl Z5 ?_; intro w9 H9 hb9 T9)
        | fail)
      refine bodyPost_ret (results_cell3 Tryd.results17 rfl (load_sp H9)) rfl ?_
      rw [hK.1, hK.2.1, hK.2.2]
      exact ⟨rfl, B5.trans (hb9 _ (Nat.le_refl _))⟩
    · have e1 : fa = 0 := by rw [← Hfa.out]; exact ka.1
      have e2 : 1 ≤ fb := by rw [← Hfb.out]; exact kb.1
      have hK := KK.out.2.1 (by rw [ka.2.2, kb.2.2]; simp) (by rw [Hfa.out, Hfb.out]; omega)
      subst e1
      have e3 : ¬ fb = 0 := by omega
      have e4 : (0 : Int) < fb := by omega
      have e5 : (fb == 0) = false := by simpa using e3
      go_wp2_with (first
        | (refine wp_store_sp rfl _ _ rfl w4.heap.size rfl SC Sp.zero rfl H4b ?_; intro w5 H5 hb5 T5; have bb5 := b4.trans (hb5 _ (Nat.le_refl _)); have B5 := B4.trans (bb5.mono B4.size); have Z5 := Z4.below bb5 Z4.lt; have H6 := H4.below bb5 H4.lt; have g5 := H5.c0; have g6 := H6.c0; have l5 := H5.ld; have l6 := H6.ld; rw [hfb] at g5; rw [hfa] at g6)
        | (refine wp_store_sp rfl _ _ rfl w.heap.size rfl SC Sp.zero rfl Z5 ?_; intro w9 H9 hb9 T9)
        | fail)
      refine bodyPost_ret (results_cell3 Tryd.results17 rfl (load_sp H9)) rfl ?_
      rw [hK.1, hK.2.1, hK.2.2]
      exact ⟨rfl, B5.trans (hb9 _ (Nat.le_refl _))⟩
  · have e1 : 1 ≤ fa := by rw [← Hfa.out]; exact ka.1
    have e3 : ¬ fa = 0 := by omega
    have e5 : (fa == 0) = false := by simpa using e3
    by_cases hlt : fa < fb
    · have hK := KK.out.2.1 (by rw [ka.2.2]; simp) (by rw [Hfa.out, Hfb.out]; exact hlt)
      have e6 : decide (fa < fb) = true := decide_eq_true hlt
      go_wp2_with (first
        | (refine wp_store_sp rfl _ _ rfl w4.heap.size rfl SC Sp.zero rfl H4b ?_; intro w5 H5 hb5 T5; have bb5 := b4.trans (hb5 _ (Nat.le_refl _)); have B5 := B4.trans (bb5.mono B4.size); have Z5 := Z4.below bb5 Z4.lt; have H6 := H4.below bb5 H4.lt; have g5 := H5.c0; have g6 := H6.c0; have l5 := H5.ld; have l6 := H6.ld; rw [hfb] at g5; rw [hfa] at g6)
        | (refine wp_store_sp rfl _ _ rfl w.heap.size rfl SC Sp.zero rfl Z5 ?_; intro w9 H9 hb9 T9)
        | fail)
      refine bodyPost_ret (results_cell3 Tryd.results17 rfl (load_sp H9)) rfl ?_
      rw [hK.1, hK.2.1, hK.2.2]
      exact ⟨rfl, B5.trans (hb9 _ (Nat.le_refl _))⟩
    · have hK := KK.out.2.2 (by rw [ka.2.2]; simp) (by rw [Hfa.out, Hfb.out]; omega)
      have e6 : decide (fa < fb) = false := decide_eq_false hlt
      go_wp2_with (first
        | (refine wp_store_sp rfl _ _ rfl w4.heap.size rfl SC Sp.zero rfl H4b ?_; intro w5 H5 hb5 T5; have bb5 := b4.trans (hb5 _ (Nat.le_refl _)); have B5 := B4.trans (bb5.mono B4.size); have Z5 := Z4.below bb5 Z4.lt; have H6 := H4.below bb5 H4.lt; have g5 := H5.c0; have g6 := H6.c0; have l5 := H5.ld; have l6 := H6.ld; rw [hfb] at g5; rw [hfa] at g6)
        | (refine wp_store_sp rfl _ _ rfl w.heap.size rfl SA Sp.zero rfl Z5 ?_; intro w9 H9 hb9 T9)
        | fail)
      refine bodyPost_ret (results_cell3 Tryd.results17 rfl (load_sp H9)) rfl ?_
      rw [hK.1, hK.2.1, hK.2.2]
      exact ⟨rfl, B5.trans (hb9 _ (Nat.le_refl _))⟩
def SRefNewerSays (A : Option Addr) (n c : Nat) (a : List UInt8) (B : Option Addr) (m d : Nat) (b : List UInt8) (w : World) : Prop :=
    Calls Tryd.prog 18 #[.slice A n c, .slice B m d] w fun e w' => e = .returned (.tuple #[.agg (snS a b).vs.toArray, .int .i64 (snI a b), .int .i64 (snE a b)]) ∧ Below w.heap.size w w'

set_option maxRecDepth 100000 in
set_option maxHeartbeats 4000000 in
theorem srefnewer_any (A : Option Addr) (n c : Nat) (a : List UInt8) (B : Option Addr) (m d : Nat) (b : List UInt8) (w : World) (ha : Sl w A n c a) (hb : Sl w B m d b) : SRefNewerSays A n c a B m d b w := by
  unfold SRefNewerSays
  have hal := alS_run true
  have hbd := bdS_zero
  have Z1 := SB.new w Sp.zero 26
  have b1 : Below w.heap.size w (w.alloc (.cells Sp.zero.vs.toArray 26)) := (Below.refl _ _).alloc (Nat.le_refl _) _
  go_enter Tryd.func18, Tryd.ntmps18
  go_wp2_with fail
  generalize w.alloc (.cells Sp.zero.vs.toArray 26) = w1 at Z1 b1 ⊢
  refine Calls.mono (srefread_any A n c a 0 w1 (ha.below b1)) ?_
  rintro e w2 ⟨rfl, hb2⟩
  have Z2 := Z1.below hb2 Z1.lt
  have B2 := b1.trans (hb2.mono b1.size)
  have H2 := SB.new w2 Sp.zero 26
  have b2 : Below w2.heap.size w2 (w2.alloc (.cells Sp.zero.vs.toArray 26)) := (Below.refl _ _).alloc (Nat.le_refl _) _
  have ka := sr_gen (l := a) (slot := 0)
  have kb := sr_gen (l := b) (slot := 1)
  have K2 := fun h1 h2 => sn_2 (a := a) (b := b) h1 h2
  have K1 := fun h1 h2 => sn_1 (a := a) (b := b) h1 h2
  have K0 := fun h1 h2 => sn_0 (a := a) (b := b) h1 h2
  obtain ⟨SA, hSA⟩ : ∃ SA, srS a 0 = SA := ⟨_, rfl⟩
  obtain ⟨SC, hSC⟩ : ∃ SC, srS b 1 = SC := ⟨_, rfl⟩
  rw [hSA] at ka K1 K0 ⊢
  rw [hSC] at kb K1 K0
  clear hSA
  have KK := Lib.hid (And.intro K2 (And.intro K1 K0))
  have Ka := Lib.hid ka
  have Kb := Lib.hid kb
  clear K2 K1 K0 ka kb
  obtain ⟨ea, hea⟩ : ∃ ea, srE a 0 = ea := ⟨_, rfl⟩
  rw [hea]
  have Hea := Lib.hid hea
  clear hea
  go_wp2_with (first
    | (refine wp_store_sp rfl _ _ rfl w2.heap.size rfl SA Sp.zero rfl H2 ?_; intro w3 H3 hb3 T3; have bb3 := b2.trans (hb3 _ (Nat.le_refl _)); have B3 := B2.trans (bb3.mono B2.size); have Z3 := Z2.below bb3 Z2.lt)
    | fail)
  refine Calls.mono (srefread_any B m d b 1 w3 (hb.below B3)) ?_
  rw [hSC]
  rintro e w4 ⟨rfl, hb4⟩
  have H4 := H3.below hb4 H3.lt
  have Z4 := Z3.below hb4 Z3.lt
  have B4 := B3.trans (hb4.mono B3.size)
  have H4b := SB.new w4 Sp.zero 26
  have b4 : Below w4.heap.size w4 (w4.alloc (.cells Sp.zero.vs.toArray 26)) := (Below.refl _ _).alloc (Nat.le_refl _) _
  obtain ⟨eb, heb⟩ : ∃ eb, srE b 1 = eb := ⟨_, rfl⟩
  rw [heb]
  have Heb := Lib.hid heb
  clear heb hSC H2 b2 hb3 T3 bb3 B3 Z3 H3 hb4 Z2 B2 hb2 Z1 b1
  obtain ⟨fa, hfa⟩ : ∃ fa, SA.gen = fa := ⟨_, rfl⟩
  obtain ⟨fb, hfb⟩ : ∃ fb, SC.gen = fb := ⟨_, rfl⟩
  have Hfa := Lib.hid hfa
  have Hfb := Lib.hid hfb
  obtain ⟨bk, hbk⟩ : ∃ bk, w2.heap.size = bk := ⟨_, rfl⟩
  rw [hbk] at H4 ⊢
  have hww : w.heap.size < w4.heap.size := Z4.lt
  have hwk : bk < w4.heap.size := H4.lt
  rcases Ka.out with ka | ka
  · rcases Kb.out with kb | kb
    · have hK := KK.out.1 ka.2.2 kb.2.2
      have e1 : fa = 0 := by rw [← Hfa.out]; exact ka.1
      have e2 : fb = 0 := by rw [← Hfb.out]; exact kb.1
      obtain rfl : ea = 3 := by rw [← Hea.out]; exact ka.2.1
      obtain rfl : eb = 3 := by rw [← Heb.out]; exact kb.2.1
      subst e1 e2
      go_wp2_with (first
        | (refine wp_store_sp rfl _ _ rfl w4.heap.size rfl SC Sp.zero rfl H4b ?_; intro w5 H5 hb5 T5; have bb5 := b4.trans (hb5 _ (Nat.le_refl _)); have B5 := B4.trans (bb5.mono B4.size); have Z5 := Z4.below bb5 Z4.lt; have H6 := H4.below bb5 H4.lt; have g5 := H5.c0; have g6 := H6.c0; have l5 := H5.ld; have l6 := H6.ld; rw [hfb] at g5; rw [hfa] at g6)
        | (refine wp_store_sp rfl _ _ rfl w.heap.size rfl Sp.zero Sp.zero rfl Z5 ?_; intro w9 H9 hb9 T9)
        | fail)
      refine bodyPost_ret (results_cell3 Tryd.results18 rfl (load_sp H9)) rfl ?_
      rw [hK.1, hK.2.1, hK.2.2]
      exact ⟨rfl, B5.trans (hb9 _ (Nat.le_refl _))⟩
    · have e1 : fa = 0 := by rw [← Hfa.out]; exact ka.1
      have e2 : 1 ≤ fb := by rw [← Hfb.out]; exact kb.1
      have hK := KK.out.2.1 (by rw [ka.2.2, kb.2.2]; simp) (by rw [Hfa.out, Hfb.out]; omega)
      obtain rfl : ea = 3 := by rw [← Hea.out]; exact ka.2.1
      obtain rfl : eb = 0 := by rw [← Heb.out]; exact kb.2.1
      subst e1
      have e3 : ¬ fb = 0 := by omega
      have e4 : (0 : Int) < fb := by omega
      have e5 : (fb == 0) = false := by simpa using e3
      go_wp2_with (first
        | (refine wp_store_sp rfl _ _ rfl w4.heap.size rfl SC Sp.zero rfl H4b ?_; intro w5 H5 hb5 T5; have bb5 := b4.trans (hb5 _ (Nat.le_refl _)); have B5 := B4.trans (bb5.mono B4.size); have Z5 := Z4.below bb5 Z4.lt; have H6 := H4.below bb5 H4.lt; have g5 := H5.c0; have g6 := H6.c0; have l5 := H5.ld; have l6 := H6.ld; rw [hfb] at g5; rw [hfa] at g6)
        | (refine wp_store_sp rfl _ _ rfl w.heap.size rfl SC Sp.zero rfl Z5 ?_; intro w9 H9 hb9 T9)
        | fail)
      refine bodyPost_ret (results_cell3 Tryd.results18 rfl (load_sp H9)) rfl ?_
      rw [hK.1, hK.2.1, hK.2.2]
      exact ⟨rfl, B5.trans (hb9 _ (Nat.le_refl _))⟩
  · have e1 : 1 ≤ fa := by rw [← Hfa.out]; exact ka.1
    have e3 : ¬ fa = 0 := by omega
    have e5 : (fa == 0) = false := by simpa using e3
    obtain rfl : ea = 0 := by rw [← Hea.out]; exact ka.2.1
    rcases Kb.out with kb | kb
    · obtain rfl : eb = 3 := by rw [← Heb.out]; exact kb.2.1
      have e2 : fb = 0 := by rw [← Hfb.out]; exact kb.1
      have hlt : ¬ fa < fb := by omega
      have hK := KK.out.2.2 (by rw [ka.2.2]; simp) (by rw [Hfa.out, Hfb.out]; omega)
      have e6 : decide (fa < fb) = false := decide_eq_false hlt
      go_wp2_with (first
        | (refine wp_store_sp rfl _ _ rfl w4.heap.size rfl SC Sp.zero rfl H4b ?_; intro w5 H5 hb5 T5; have bb5 := b4.trans (hb5 _ (Nat.le_refl _)); have B5 := B4.trans (bb5.mono B4.size); have Z5 := Z4.below bb5 Z4.lt; have H6 := H4.below bb5 H4.lt; have g5 := H5.c0; have g6 := H6.c0; have l5 := H5.ld; have l6 := H6.ld; rw [hfb] at g5; rw [hfa] at g6)
        | (refine wp_store_sp rfl _ _ rfl w.heap.size rfl SA Sp.zero rfl Z5 ?_; intro w9 H9 hb9 T9)
        | fail)
      refine bodyPost_ret (results_cell3 Tryd.results18 rfl (load_sp H9)) rfl ?_
      rw [hK.1, hK.2.1, hK.2.2]
      exact ⟨rfl, B5.trans (hb9 _ (Nat.le_refl _))⟩
    · obtain rfl : eb = 0 := by rw [← Heb.out]; exact kb.2.1
      by_cases hlt : fa < fb
      · have hK := KK.out.2.1 (by rw [ka.2.2]; simp) (by rw [Hfa.out, Hfb.out]; exact hlt)
        have e6 : decide (fa < fb) = true := decide_eq_true hlt
        go_wp2_with (first
          | (refine wp_store_sp rfl _ _ rfl w4.heap.size rfl SC Sp.zero rfl H4b ?_; intro w5 H5 hb5 T5; have bb5 := b4.trans (hb5 _ (Nat.le_refl _)); have B5 := B4.trans (bb5.mono B4.size); have Z5 := Z4.below bb5 Z4.lt; have H6 := H4.below bb5 H4.lt; have g5 := H5.c0; have g6 := H6.c0; have l5 := H5.ld; have l6 := H6.ld; rw [hfb] at g5; rw [hfa] at g6)
          | (refine wp_store_sp rfl _ _ rfl w.heap.size rfl SC Sp.zero rfl Z5 ?_; intro w9 H9 hb9 T9)
          | fail)
        refine bodyPost_ret (results_cell3 Tryd.results18 rfl (load_sp H9)) rfl ?_
        rw [hK.1, hK.2.1, hK.2.2]
        exact ⟨rfl, B5.trans (hb9 _ (Nat.le_refl _))⟩
      · have hK := KK.out.2.2 (by rw [ka.2.2]; simp) (by rw [Hfa.out, Hfb.out]; omega)
        have e6 : decide (fa < fb) = false := decide_eq_false hlt
        go_wp2_with (first
          | (refine wp_store_sp rfl _ _ rfl w4.heap.size rfl SC Sp.zero rfl H4b ?_; intro w5 H5 hb5 T5; have bb5 := b4.trans (hb5 _ (Nat.le_refl _)); have B5 := B4.trans (bb5.mono B4.size); have Z5 := Z4.below bb5 Z4.lt; have H6 := H4.below bb5 H4.lt; have g5 := H5.c0; have g6 := H6.c0; have l5 := H5.ld; have l6 := H6.ld; rw [hfb] at g5; rw [hfa] at g6)
          | (refine wp_store_sp rfl _ _ rfl w.heap.size rfl SA Sp.zero rfl Z5 ?_; intro w9 H9 hb9 T9)
          | fail)
        refine bodyPost_ret (results_cell3 Tryd.results18 rfl (load_sp H9)) rfl ?_
        rw [hK.1, hK.2.1, hK.2.2]
        exact ⟨rfl, B5.trans (hb9 _ (Nat.le_refl _))⟩

/-! ### Areas -/
set_option maxHeartbeats 1000000 in
theorem sareas_any (n : Nat) (hn : n ≤ 100000) (k : Nat) (hk : (n + 117) / 118 = k) (w : World) :
    Calls Tryd.prog 19 #[.int .i64 (n : Int)] w fun e w' => e = .returned (.tuple #[.int .i64 (k : Int), .int .i64 (2 + 2 * (k : Int))]) ∧ w = w' := by
  have h1 : ((n : Int) + 118 - 1).tdiv 118 = (k : Int) := by
    rw [Int.tdiv_eq_ediv_of_nonneg (by omega)]
    omega
  have h2 : (k : Int) ≤ 1000 := by omega
  clear hk
  go_enter Tryd.func19, Tryd.ntmps19
  go_wp2
  go_ret2
  exact ⟨rfl, rfl⟩
set_option maxHeartbeats 1000000 in
theorem srefareas_any (n : Nat) (hn : n ≤ 100000) (k : Nat) (hk : (n + 117) / 118 = k) (w : World) :
    Calls Tryd.prog 20 #[.int .i64 (n : Int)] w fun e w' => e = .returned (.tuple #[.int .i64 (k : Int), .int .i64 (2 + 2 * (k : Int))]) ∧ w = w' := by
  have Hk := Lib.hid hk
  clear hk
  go_enter Tryd.func20, Tryd.ntmps20
  go_wp2_with fail
  go_loop [4] (fun i => ∃ q : Nat, q ≤ 1000 ∧ q * 118 ≤ n + 117 ∧ i = .int .i64 (q : Int)) (fun i => 1000 - (intOf i).toNat)
  case atStart => exact ⟨0, by omega, by omega, rfl⟩
  case round =>
    obtain ⟨q, hq, hq2, rfl⟩ := hrel
    by_cases hlt : q * 118 < n
    · have h1 : (q : Int) * 118 < (n : Int) := by omega
      go_wp2
      exact ⟨⟨q + 1, by omega, by omega, by go_num⟩, by simp [intOf]; omega⟩
    · have h1 : ¬ (q : Int) * 118 < (n : Int) := by omega
      have hqk : q = k := by have := Hk.out; omega
      subst hqk
      go_wp2
      go_ret2
      exact ⟨rfl, rfl⟩

/-! ### The document's examples -/
theorem sr_nil (t : Int) : srOk [] t = false := by
  have h : okB [] = false := decide_eq_false (fun h => by simp at h)
  unfold srOk
  rw [h, Bool.false_and]
set_option maxRecDepth 100000 in
set_option maxHeartbeats 4000000 in
theorem sshown_any (w : World) (ht : Tab w) : Calls Tryd.prog 10 #[] w fun e w' => e = .returned (.bool true) ∧ Below w.heap.size w w' := by
  have hal := alS_run true
  go_enter Tryd.func10, Tryd.ntmps10
  go_wp2_with fail
  refine (sareas_any 32 (by omega) 1 rfl w).mono ?_
  rintro e w1 ⟨rfl, rfl⟩
  go_wp2_with fail
  refine (sareas_any 512 (by omega) 5 rfl w).mono ?_
  rintro e w1 ⟨rfl, rfl⟩
  go_wp2_with fail
  refine Calls.mono (snewer_any none 0 0 [] none 0 0 [] w (sl_nil _) (sl_nil _) ht) ?_
  obtain ⟨h1, h2, h3⟩ := sn_2 (a := []) (b := []) (sr_nil 0) (sr_nil 1)
  rw [h1, h2, h3]
  rintro e w2 ⟨rfl, hb2⟩
  have H2 := SB.new w2 Sp.zero 26
  have b2 : Below w2.heap.size w2 (w2.alloc (.cells Sp.zero.vs.toArray 26)) := (Below.refl _ _).alloc (Nat.le_refl _) _
  go_wp2_with (first
    | (refine wp_store_sp rfl _ _ rfl w2.heap.size rfl Sp.zero Sp.zero rfl H2 ?_; intro w3 H3 hb3 T3; have bb3 := b2.trans (hb3 _ (Nat.le_refl _)))
    | fail)
  go_ret
  exact ⟨rfl, hb2.trans (bb3.mono hb2.size)⟩
end Go.Proofs.YtljlliiedbedeaaDoor
