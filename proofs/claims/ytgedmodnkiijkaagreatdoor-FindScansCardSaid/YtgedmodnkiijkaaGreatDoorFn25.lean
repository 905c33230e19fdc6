/- The code's pool: Mount. The code's pool: Count, Free, Super, PutBytes, Unref. The code's pool: PutBytes, Unref. The code's pool: block, Bytes. The code's pool: Format, of a drive with power. -/
import Derived.Test.YtgedmodnkiijkaaGreatDoorFn10
import Derived.Test.YtgedmodnkiijkaaGreatDoorFn13
import Derived.Test.YtgedmodnkiijkaaGreatDoorFn17
import Derived.Test.YtgedmodnkiijkaaGreatDoorFn24
import Derived.Test.YtgedmodnkiijkaaGreatDoorPoD
namespace Go.Proofs.YtgedmodnkiijkaaGreatDoor
open Go Go.RowKit Go.Proofs

/-- A pool's cells, as a list. -/
def poolV (d : Nat) (S : Sp) (x0 x1 x2 x3 : Value) (m : Nat) : List Value := .pointer (some ⟨d, 0, none⟩) :: (S.vs ++ [x0, x1, x2, x3, .map (some m)])
theorem poolV_len (d : Nat) (S : Sp) (x0 x1 x2 x3 : Value) (m : Nat) : (poolV d S x0 x1 x2 x3 m).length = 41 := by unfold poolV; rw [List.length_cons, List.length_append, S.vs_len]; rfl
theorem poolV_at (d : Nat) (S : Sp) (x0 x1 x2 x3 : Value) (m k : Nat) : (poolV d S x0 x1 x2 x3 m)[36 + k]? = [x0, x1, x2, x3, .map (some m)][k]? := by
  unfold poolV
  rw [show 36 + k = (35 + k) + 1 by omega, List.getElem?_cons_succ, List.getElem?_append_right (by rw [S.vs_len]; omega), S.vs_len, Nat.add_sub_cancel_left]
theorem poolV_ph (d : Nat) (S : Sp) (x0 x1 x2 x3 : Value) (m : Nat) : PH (poolV d S x0 x1 x2 x3 m).toArray d m S := by
  refine ⟨by rw [List.size_toArray, poolV_len], rfl, fun j x hx => ?_, ?_⟩
  · have hj := (List.getElem?_eq_some_iff.1 hx).1
    rw [List.getElem?_toArray, Nat.add_comm]
    unfold poolV
    rw [List.getElem?_cons_succ, List.getElem?_append_left hj]
    exact hx
  · rw [List.getElem?_toArray]
    exact poolV_at d S x0 x1 x2 x3 m 4
/-- A pool's making, and the load of counts, kept shut. -/
def bdP (parts : Array (Nat × Value)) : Sem Value := Instr.build 92 parts
theorem bdP_shut (parts : Array (Nat × Value)) : Instr.build 92 parts = bdP parts := rfl
def ldC (p : Value) : Sem Value := Instr.loadAt 89 p
theorem ldC_shut (p : Value) : Instr.loadAt 89 p = ldC p := rfl
set_option maxRecDepth 100000 in
theorem bdP_run (d : Nat) (S : Sp) (x0 x1 x2 x3 : Value) (m : Nat) (w : World) : (bdP #[(0, .pointer (some ⟨d, 0, none⟩)), (1, .agg S.vs.toArray), (2, .agg #[x0, x1, x2, x3]), (3, .map (some m))]).run Tryz.prog w = .ok (.agg (poolV d S x0 x1 x2 x3 m).toArray) w := by
  unfold poolV Sp.vs
  obtain ⟨a, b, c, d1, e, f, g, h, hl⟩ := eight_of S.len
  rw [hl]
  show (Instr.build 92 _).run Tryz.prog w = _
  kernel_rfl

theorem mtE_4 {f : Nat → List UInt8} {n : Nat} : mtE f true n = 4 := by unfold mtE; rw [if_pos rfl]
theorem mtE_27 {f : Nat → List UInt8} {n : Nat} (h : ¬ (snE (f 0) (f 1) = 0 ∧ (mtS f).sectors = (n : Int))) : mtE f false n = 27 := by unfold mtE; rw [if_neg (by decide), if_pos h]
theorem mtE_5 {f : Nat → List UInt8} {n : Nat} (h : snE (f 0) (f 1) = 0 ∧ (mtS f).sectors = (n : Int)) (h2 : ¬ ((∀ i, i < areaN n → cntOk (f (areaAt n (mtS f).gen + i)) (areaAt n (mtS f).gen + i) (mtS f).gen = true) ∧ loadE (n : Int) (mtB f n (mtS f).gen) = 0)) : mtE f false n = 5 := by unfold mtE; rw [if_neg (by decide), if_neg (fun h3 => h3 h), if_pos h2]
theorem mtE_0 {f : Nat → List UInt8} {n : Nat} (h : snE (f 0) (f 1) = 0 ∧ (mtS f).sectors = (n : Int)) (h2 : (∀ i, i < areaN n → cntOk (f (areaAt n (mtS f).gen + i)) (areaAt n (mtS f).gen + i) (mtS f).gen = true) ∧ loadE (n : Int) (mtB f n (mtS f).gen) = 0) : mtE f false n = 0 := by unfold mtE; rw [if_neg (by decide), if_neg (fun h3 => h3 h), if_neg (fun h3 => h3 h2)]
theorem sn_E (a b : List UInt8) : snE a b = 0 ∨ snE a b = 27 := by unfold snE; split; exact .inr rfl; exact .inl rfl

/-- What is mounted. -/
def Pl.mounted (f : Nat → List UInt8) (n : Nat) : Pl := ⟨mtS f, mtC f n (mtS f).gen, fun _ => none⟩
attribute [local go_sem ↓] ldS_shut alS_shut bdP_shut ldC_shut
set_option maxRecDepth 100000 in
set_option maxHeartbeats 8000000 in
theorem pmount_any {w : World} {d : Nat} {S0 : Nat → Prop} {D : DM} (L0 : Drv w d S0 D) (ht : Tab w) (hgn : (mtS D.newest).gen < 1099511627775) :
    Calls Tryz.prog 53 #[.pointer (some ⟨d, 0, none⟩)] w fun e w' =>
      ((mtE D.newest D.off D.n = 0 ∧ ∃ p, e = .returned (.tuple #[.pointer (some ⟨p, 0, none⟩), .int .i64 0]) ∧ (∀ T : Nat → Prop, (∀ k, w.heap.size ≤ k → T k) → Pool w' p d (fun k => w.heap.size ≤ k) T (Pl.mounted D.newest D.n)) ∧ w.heap.size ≤ p) ∨
        (mtE D.newest D.off D.n ≠ 0 ∧ e = .returned (.tuple #[.pointer none, .int .i64 (mtE D.newest D.off D.n)]))) ∧ Below w.heap.size w w' := by
  have hsec := L0.sectors
  unfold sectors at hsec
  have L := L0.tight
  have htl := ht.1
  obtain ⟨_, _, _, _, _, Ly⟩ := L
  have hon := on_any Ly
  have hal := alS_run
  have Hgn := Lib.hid hgn
  clear L0 hgn
  cases hoff : D.off
  · rw [hoff] at hon
    have L : Drv w d _ D := ⟨_, _, _, _, _, Ly⟩
    obtain ⟨x0, hx0⟩ : ∃ x, D.newest 0 = x := ⟨_, rfl⟩
    obtain ⟨x1, hx1⟩ : ∃ x, D.newest 1 = x := ⟨_, rfl⟩
    have hrd0 := fun w' (hb : Below w.heap.size w w') => read_any (Ly.keep fun k hk _ => hb.block k hk) 0
    have hrd1 := fun w' (hb : Below w.heap.size w w') => read_any (Ly.keep fun k hk _ => hb.block k hk) 1
    have r0 := readL_in hoff (s := 0) (by omega)
    have r1 := readL_in hoff (s := 1) (by omega)
    rw [hx0] at r0
    rw [hx1] at r1
    have r00 : D.readL 0 = x0 := r0.1
    have r01 : D.readE 0 = 0 := r0.2
    have r10 : D.readL 1 = x1 := r1.1
    have r11 : D.readE 1 = 0 := r1.2
    simp only [r00, r01] at hrd0
    simp only [r10, r11] at hrd1
    obtain ⟨S, hS⟩ : ∃ S, snS x0 x1 = S := ⟨_, rfl⟩
    have hmS : mtS D.newest = S := by unfold mtS; rw [hx0, hx1, hS]
    have hE : snE (D.newest 0) (D.newest 1) = snE x0 x1 := by rw [hx0, hx1]
    have HmS := Lib.hid hmS
    have HE := Lib.hid hE
    have HS := Lib.hid hS
    have Hrd0 := Lib.hid hrd0
    have Hrd1 := Lib.hid hrd1
    have Hoff := Lib.hid hoff
    clear hrd0 hrd1 r0 r1 r00 r01 r10 r11 hmS hE hS hx0 hx1 Ly hoff
    rcases sn_E x0 x1 with hE | hE
    · have hmay : S.may = true := by rw [← HS.out]; exact sn_may hE
      have hE0 := hE
      by_cases hsz : S.sectors = (D.n : Int)
      · have hOK : snE (D.newest 0) (D.newest 1) = 0 ∧ (mtS D.newest).sectors = (D.n : Int) := ⟨HE.out.trans hE, by rw [HmS.out]; exact hsz⟩
        have HOK := Lib.hid hOK
        have Hsz := Lib.hid hsz
        have Hmay := Lib.hid hmay
        have nbs : ((D.n : Int) != (D.n : Int)) = false := by simp
        clear hOK hmay hsz
        go_enter Tryz.func53, Tryz.ntmps53
        go_wp2_with (first
          | (go_at_call 89; refine hon.mono ?_; rintro e w1 ⟨rfl, rfl⟩)
          | (go_at_call 80; have hh := B2; refine (Hrd1.out w2 B2).mono ?_; rintro e w3 ⟨A3, n3, rfl, s3, _, b3, _⟩; have B3 := B2.trans (b3.mono B2.size))
          | (go_at_call 80; refine (Hrd0.out w (Below.refl _ _)).mono ?_; rintro e w2 ⟨A2, n2, rfl, s2, _, B2, _⟩)
          | (go_at_call 90; have hN := snewer_any A2 n2 n2 x0 A3 n3 n3 x1 w3 (s2.below b3) s3 (ht.below B3 htl); unfold SNewerSays at hN; rw [HS.out, hE0] at hN; refine hN.mono ?_; rintro e w4 ⟨rfl, b4⟩; have B4 := B3.trans (b4.mono B3.size))
          | (refine wp_store_sp rfl (.tmp 8) (.tmp 29) rfl w4.heap.size rfl S Sp.zero rfl (SB.new w4 Sp.zero _) ?_; intro w6 X6 hb6 T6)
          | fail)
        have b46 : Below w4.heap.size w4 w6 := ((Below.refl _ _).alloc (Nat.le_refl _) _).trans (hb6 _ (Nat.le_refl _))
        have B6 := B4.trans (b46.mono B4.size)
        have L6 := L.below B6
        obtain ⟨_, _, _, _, _, Ly6⟩ := L6
        have q1 := X6.c1
        rw [Hsz.out] at q1
        have zX : w4.heap.size < w6.heap.size := X6.lt
        have g1 : ∀ u : Grown w6, u.to.cell? ⟨w4.heap.size, 1, none⟩ = some (.int .i64 (D.n : Int)) := Grown.cell q1 zX
        have hsize := Lib.hid (fun u : Grown w6 => size_any (Ly6.keep fun k hk _ => u.ok.block k hk))
        refine wp_region_grown (by kernel_rfl) (by kernel_rfl) ?_
        repeat (go_big_quiet_step (first
          | (go_at_call 52; exact Calls.grown_same (hsize.out _))
          | fail))
        refine wpQuiet_nil ?_
        rintro _ ⟨u, rfl⟩
        have B7 := B6.trans (u.ok.mono B6.size)
        have X7 := X6.below u.ok zX
        have L7 := L.below B7
        have t7 := ht.below B7 htl
        have hl7 := X7.ld
        clear g1 hsize q1 Ly6
        go_wp2_with fail
        refine (pload_any L7 Hoff.out S Hmay.out Hsz.out t7).mono ?_
        rintro e w8 ⟨⟨hy, pc, rfl, C8, hpc⟩ | ⟨hn, E, hE5, rfl⟩, b8⟩
        · have H0 := Lib.hid (show mtE D.newest false D.n = 0 from mtE_0 HOK.out (by rw [HmS.out]; exact hy))
          have hres := ld_res hy.2
          have hzz := B7.size
          have B8 := B7.trans (b8.mono B7.size)
          have X8 := X7.below b8 X7.lt
          have zp : pc < w8.heap.size := C8.lt
          have z8 := b8.size
          have hC := C8
          obtain ⟨a0, ca0, a1, ca1, ty, cu, k1, ⟨k2, k3, k4, k5⟩, k6, k7, k8, k9, k10⟩ := C8
          obtain ⟨x0', hx0'⟩ : ∃ x : Value, Value.slice (some ⟨a0, 0, none⟩) (mtC D.newest D.n S.gen).n ca0 = x := ⟨_, rfl⟩
          obtain ⟨x1', hx1'⟩ : ∃ x : Value, Value.slice (some ⟨a1, 0, none⟩) (mtC D.newest D.n S.gen).n ca1 = x := ⟨_, rfl⟩
          obtain ⟨x2', hx2'⟩ : ∃ x : Value, Value.int .i64 (areaN (mtC D.newest D.n S.gen).n : Int) = x := ⟨_, rfl⟩
          obtain ⟨x3', hx3'⟩ : ∃ x : Value, Value.int .i64 ((mtC D.newest D.n S.gen).first : Int) = x := ⟨_, rfl⟩
          have hF : ∀ w', Below w8.heap.size w8 w' → (ldS (.pointer (some ⟨w4.heap.size, 0, none⟩))).run Tryz.prog w' = .ok (.agg S.vs.toArray) w' ∧ (ldC (.pointer (some ⟨pc, 0, none⟩))).run Tryz.prog w' = .ok (.agg #[x0', x1', x2', x3']) w' ∧ Below w8.heap.size w8 w' := fun w' hb => by
            refine ⟨(X8.below hb X8.lt).ld, ?_, hb⟩
            have r : w'.rangeAt pc 0 [x0', x1', x2', x3'] := fun j v hv => by
              rw [Nat.zero_add]
              refine cell_at ((hb.block pc zp).trans k1) ?_
              rw [hx0'] at k2
              rw [hx1'] at k3
              rw [hx2'] at k4
              rw [hx3'] at k5
              match j with
              | 0 => rw [k2]; exact hv
              | 1 => exact k3.trans hv
              | 2 => exact k4.trans hv
              | 3 => exact k5.trans hv
              | j + 4 => simp at hv
            exact run_loadAt_mid w' pc 0 89 _ _ r Tryz.underlying89 rfl (by kernel_rfl)
          have BD : Below w8.heap.size w8 w8.drew := (Below.refl _ _).drew
          have hmm := @run_makeMap Tryz.prog
          have hbd := fun m w' => bdP_run d S x0' x1' x2' x3' m w'
          go_wp2_with fail
          go_region_held3 (fun w' => (ldS (.pointer (some ⟨w4.heap.size, 0, none⟩))).run Tryz.prog w' = .ok (.agg S.vs.toArray) w' ∧ (ldC (.pointer (some ⟨pc, 0, none⟩))).run Tryz.prog w' = .ok (.agg #[x0', x1', x2', x3']) w' ∧ Below w8.heap.size w8 w')
            (first | assumption | exact hF _ BD | exact hF _ (BD.alloc (Nat.le_refl _) _) | exact hF _ ((((Below.refl _ _).alloc (Nat.le_refl _) _).alloc (by simp) _).drew))
            (first
              | fail)
          have B9 : Below w8.heap.size w8 ((w8.alloc (.map #[] 0)).alloc (.cells (poolV d S x0' x1' x2' x3' w8.heap.size).toArray 92)).drew := (((Below.refl _ _).alloc (Nat.le_refl _) _).alloc (by simp) _).drew
          have hmap : ((w8.alloc (.map #[] 0)).alloc (.cells (poolV d S x0' x1' x2' x3' w8.heap.size).toArray 92)).drew.heap[w8.heap.size]? = some (.map #[] 0) := by
            show ((w8.alloc (.map #[] 0)).alloc (.cells (poolV d S x0' x1' x2' x3' w8.heap.size).toArray 92)).heap[w8.heap.size]? = _
            rw [heap_alloc_old _ _ (by simp), heap_alloc_new]
          have hme : ((w8.alloc (.map #[] 0)).alloc (.cells (poolV d S x0' x1' x2' x3' w8.heap.size).toArray 92)).drew.heap[w8.heap.size + 1]? = some (.cells (poolV d S x0' x1' x2' x3' w8.heap.size).toArray 92 (0, 0)) := by
            show ((w8.alloc (.map #[] 0)).alloc (.cells (poolV d S x0' x1' x2' x3' w8.heap.size).toArray 92)).heap[w8.heap.size + 1]? = _
            have e : w8.heap.size + 1 = (w8.alloc (.map #[] 0)).heap.size := by simp
            rw [e, heap_alloc_new]
          generalize ((w8.alloc (.map #[] 0)).alloc (.cells (poolV d S x0' x1' x2' x3' w8.heap.size).toArray 92)).drew = w9 at B9 hmap hme ⊢
          go_wp2
          go_ret2
          rw [H0.out]
          have BB := B8.trans (B9.mono B8.size)
          refine ⟨.inl ⟨rfl, w8.heap.size + 1, rfl, fun T hT => ?_, by omega⟩, BB⟩
          have hCn : (mtC D.newest D.n S.gen).n = D.n := loadC_n _ _
          have C9 : CCo w9 (w8.heap.size + 1) 36 (fun k => w.heap.size ≤ k ∧ k < w8.heap.size) (mtC D.newest D.n S.gen) := by
            have hS := (hC.mono (S' := fun k => w.heap.size ≤ k) fun k hk => by omega).shrink
            refine CCo.around (p := pc) (o := 0) hS k1 hme (fun j hj => ?_) (fun k hk => by omega) fun k hk _ => B9.block k hk
            rw [List.getElem?_toArray, poolV_at]
            match j, hj with
            | 0, _ => exact hx0'.symm ▸ k2.symm
            | 1, _ => exact hx1'.symm ▸ k3.symm
            | 2, _ => exact hx2'.symm ▸ k4.symm
            | 3, _ => exact hx3'.symm ▸ k5.symm
          have hP : Pl.mounted D.newest D.n = ⟨S, mtC D.newest D.n S.gen, fun _ => none⟩ := by unfold Pl.mounted; rw [HmS.out]
          rw [hP]
          refine ⟨w8.heap.size, _, [], 0, fun _ => undef, _, ⟨hme, poolV_ph d S _ _ _ _ _, C9, hmap, ⟨fun e he => (by cases he), List.nodup_nil, List.nodup_nil, fun e he => (by cases he)⟩, fun a => ?_, fun e he => (by cases he), fun a b h => ?_, fun a b h => (by cases h), ⟨by omega, by omega, fun k hk => hk.1⟩, fun k hk => by omega, hT, ⟨hC.ok, hres, Hmay.out, by rw [hCn]; exact Hsz.out, by rw [← HmS.out]; exact Hgn.out, fun a b h => (by cases h)⟩, may_fine Hmay.out⟩⟩
          · unfold Pl.live; split <;> rfl
          · unfold Pl.live at h; split at h <;> cases h
        · have H5 := Lib.hid (show mtE D.newest false D.n = 5 from mtE_5 HOK.out (by rw [HmS.out]; exact hn))
          have nb : (E != 0) = true := by simpa using hE5
          clear hn hE5
          go_wp2
          go_ret2
          rw [H5.out]
          exact ⟨.inr ⟨by omega, rfl⟩, B7.trans (b8.mono B7.size)⟩
      · have HOK := Lib.hid (show mtE D.newest false D.n = 27 from mtE_27 (fun h => hsz (by rw [← HmS.out]; exact h.2)))
        have nbs : (S.sectors != (D.n : Int)) = true := by simpa using hsz
        clear hmay hsz
        go_enter Tryz.func53, Tryz.ntmps53
        go_wp2_with (first
          | (go_at_call 89; refine hon.mono ?_; rintro e w1 ⟨rfl, rfl⟩)
          | (go_at_call 80; have hh := B2; refine (Hrd1.out w2 B2).mono ?_; rintro e w3 ⟨A3, n3, rfl, s3, _, b3, _⟩; have B3 := B2.trans (b3.mono B2.size))
          | (go_at_call 80; refine (Hrd0.out w (Below.refl _ _)).mono ?_; rintro e w2 ⟨A2, n2, rfl, s2, _, B2, _⟩)
          | (go_at_call 90; have hN := snewer_any A2 n2 n2 x0 A3 n3 n3 x1 w3 (s2.below b3) s3 (ht.below B3 htl); unfold SNewerSays at hN; rw [HS.out, hE0] at hN; refine hN.mono ?_; rintro e w4 ⟨rfl, b4⟩; have B4 := B3.trans (b4.mono B3.size))
          | (refine wp_store_sp rfl (.tmp 8) (.tmp 29) rfl w4.heap.size rfl S Sp.zero rfl (SB.new w4 Sp.zero _) ?_; intro w6 X6 hb6 T6)
          | fail)
        have b46 : Below w4.heap.size w4 w6 := ((Below.refl _ _).alloc (Nat.le_refl _) _).trans (hb6 _ (Nat.le_refl _))
        have B6 := B4.trans (b46.mono B4.size)
        have L6 := L.below B6
        obtain ⟨_, _, _, _, _, Ly6⟩ := L6
        have zX : w4.heap.size < w6.heap.size := X6.lt
        have g1 : ∀ u : Grown w6, u.to.cell? ⟨w4.heap.size, 1, none⟩ = some (.int .i64 S.sectors) := Grown.cell X6.c1 zX
        have hsize := Lib.hid (fun u : Grown w6 => size_any (Ly6.keep fun k hk _ => u.ok.block k hk))
        refine wp_region_grown (by kernel_rfl) (by kernel_rfl) ?_
        repeat (go_big_quiet_step (first
          | (go_at_call 52; exact Calls.grown_same (hsize.out _))
          | fail))
        refine wpQuiet_nil ?_
        rintro _ ⟨u, rfl⟩
        have B7 := B6.trans (u.ok.mono B6.size)
        go_wp2
        go_ret2
        rw [HOK.out]
        exact ⟨.inr ⟨by omega, rfl⟩, B7⟩
    · have hE0 := hE
      have HOK := Lib.hid (show mtE D.newest false D.n = 27 from mtE_27 (fun h => by have := h.1; rw [HE.out, hE] at this; cases this))
      go_enter Tryz.func53, Tryz.ntmps53
      go_wp2_with (first
          | (go_at_call 89; refine hon.mono ?_; rintro e w1 ⟨rfl, rfl⟩)
          | (go_at_call 80; have hh := B2; refine (Hrd1.out w2 B2).mono ?_; rintro e w3 ⟨A3, n3, rfl, s3, _, b3, _⟩; have B3 := B2.trans (b3.mono B2.size))
          | (go_at_call 80; refine (Hrd0.out w (Below.refl _ _)).mono ?_; rintro e w2 ⟨A2, n2, rfl, s2, _, B2, _⟩)
          | (go_at_call 90; have hN := snewer_any A2 n2 n2 x0 A3 n3 n3 x1 w3 (s2.below b3) s3 (ht.below B3 htl); unfold SNewerSays at hN; rw [HS.out, hE0] at hN; refine hN.mono ?_; rintro e w4 ⟨rfl, b4⟩; have B4 := B3.trans (b4.mono B3.size))
          | (refine wp_store_sp rfl (.tmp 8) (.tmp 29) rfl w4.heap.size rfl S Sp.zero rfl (SB.new w4 Sp.zero _) ?_; intro w6 X6 hb6 T6)
          | fail)
      have b46 : Below w4.heap.size w4 w6 := ((Below.refl _ _).alloc (Nat.le_refl _) _).trans (hb6 _ (Nat.le_refl _))
      have B6 := B4.trans (b46.mono B4.size)
      go_quiet (fail)
      generalize hw7 : World.drewN w6 _ = w7
      have B7 : Below w.heap.size w w7 := by rw [← hw7]; exact ⟨B6.os, B6.tape, B6.output, B6.size, B6.block⟩
      clear hw7
      go_wp2
      go_ret2
      rw [HOK.out]
      exact ⟨.inr ⟨by omega, rfl⟩, B7⟩
  · rw [hoff] at hon
    have H4 := Lib.hid (show mtE D.newest true D.n = 4 from mtE_4)
    go_enter Tryz.func53, Tryz.ntmps53
    go_wp2_with (first
      | (go_at_call 89; refine hon.mono ?_; rintro e w1 ⟨rfl, rfl⟩)
      | fail)
    go_ret2
    rw [H4.out]
    exact ⟨.inr ⟨by omega, rfl⟩, Below.refl _ _⟩
end Go.Proofs.YtgedmodnkiijkaaGreatDoor

namespace Go.Proofs.YtgedmodnkiijkaaGreatDoor
open Go Go.RowKit Go.Proofs
open Go.ChangeMaps (setBlock)

section
variable {P : Program} {w : World} {t k e b clock : Nat} {l : List MapEntry}
/-- v, is := m[s] -/
theorem run_lookup2_ints (E : Ents l clock) (ht : P.underlying t = some (.map k e)) (hk : P.underlying k = some (.int .i64)) {z : Value} (hz : (zeroValue e).run P w = .ok z w) (hb : w.heap[b]? = some (.map l.toArray clock)) (s : Int) :
    (Instr.lookup t (.map (some b)) (.int .i64 s) true).run P w = .ok (.tuple #[(getE s l).getD z, .bool (getE s l).isSome]) w := by
  have hc := fun em => MapKept.run_checkKey (P := P) (w := w) hk (k := .int .i64 s) rfl em 9999
  rcases find_at s l 0 E.key with ⟨h1, h2, _⟩ | ⟨j, x, h1, _, _, h4, _⟩
  · have hf := MapKept.run_findKey (P := P) (w := w) hk h1
    simp [Instr.lookup, run_underlying ht, MapKept.run_getObj_map hb, hc, hf, hz, h2]
  · have hf := MapKept.run_findKey (P := P) (w := w) hk h1
    simp [Instr.lookup, run_underlying ht, MapKept.run_getObj_map hb, hc, hf, h4]
end
theorem sl_lt {w : World} {g n c : Nat} {x : List UInt8} (h : Sl w (some ⟨g, 0, none⟩) n c x) (hn : 0 < n) : g < w.heap.size := by
  obtain ⟨ad, e, hb, _⟩ := h.cell hn
  injection e with e
  subst e
  exact hb
section
variable {w w1 w2 : World} {p d m clock : Nat} {cur : Array Value} {l : List MapEntry} {v : Nat → Value} {Sc S T : Nat → Prop} {P P' : Pl}
/-- A block is put under its sector, the counts having turned. -/
theorem PL.store (L : PL w p d m cur l clock v Sc S T P) (t : Turn Sc w w1) (C1 : CCo w1 p 36 Sc P'.C) (b12 : Below w1.heap.size w1 w2) (hn : P'.C.n = P.C.n) (hS : P'.S = P.S) {a : Nat} (ha : a < P.C.n) {b : Bk} (hlive : ∀ c, P'.live c = if c = a then some b else P.live c)
    (hgood : ∀ c x, P'.L c = some x → x.good) (hok : P'.ok) {q : Nat} (hx : Sl w2 (some ⟨q, 0, none⟩) 256 256 (b.out a 0)) (hq : ¬ T q) :
    Pool (setBlock w2 m (.map (putE (a : Int) (.slice (some ⟨q, 0, none⟩) 256 256) clock l).toArray (if getE (a : Int) l = none then clock + 1 else clock))) p d S T P' ∧
      Turn S w (setBlock w2 m (.map (putE (a : Int) (.slice (some ⟨q, 0, none⟩) 256 256) clock l).toArray (if getE (a : Int) l = none then clock + 1 else clock))) := by
  have hm1 := t.block m L.mlt fun h => (L.ne m h).2 rfl
  have hml := L.mlt
  have hz1 := t.size
  have hz2 := b12.size
  have T2 : Turn S w w2 := (t.mono L.inS.2.2).then (turn_below b12)
  have T3 : Turn (fun k => k = m) w2 (setBlock w2 m (.map (putE (a : Int) (.slice (some ⟨q, 0, none⟩) 256 256) clock l).toArray (if getE (a : Int) l = none then clock + 1 else clock))) := turn_setBlock _ rfl
  have hat : (setBlock w2 m (.map (putE (a : Int) (.slice (some ⟨q, 0, none⟩) 256 256) clock l).toArray (if getE (a : Int) l = none then clock + 1 else clock))).heap[m]? = some (.map (putE (a : Int) (.slice (some ⟨q, 0, none⟩) 256 256) clock l).toArray (if getE (a : Int) l = none then clock + 1 else clock)) := setBlock_at (by omega)
  generalize setBlock w2 m (.map (putE (a : Int) (.slice (some ⟨q, 0, none⟩) 256 256) clock l).toArray (if getE (a : Int) l = none then clock + 1 else clock)) = w3 at T3 hat ⊢
  have hkeep : ∀ k, k < w.heap.size → k ≠ m → ¬ Sc k → w3.heap[k]? = w.heap[k]? := fun k hk hkm hks => (T3.block k (by omega) hkm).trans ((b12.block k (by omega)).trans (t.block k hk hks))
  have hp3 := hkeep p L.plt L.p_m (fun h => (L.ne p h).1 rfl)
  refine ⟨⟨m, cur, putE (a : Int) (.slice (some ⟨q, 0, none⟩) 256 256) clock l, (if getE (a : Int) l = none then clock + 1 else clock), upd v a (.slice (some ⟨q, 0, none⟩) 256 256), Sc, hp3.trans L.me, hS ▸ L.ph, ?_, hat, L.ents.put (a : Int) _, fun c => ?_, fun e he => ?_, fun c x h => ?_, hgood, L.inS, L.ne, L.sub, hok, hS ▸ L.fineS⟩, T2.trans T3 fun k hk => by rw [hk]; exact .inl L.inS.2.1⟩
  · have C2 := C1.below b12
    exact C2.keep (T3.block p (by have := L.plt; omega) L.p_m) fun k hk hs => T3.block k hk fun e => (L.ne k hs).2 e
  · rw [getE_put, hlive c]
    by_cases e : c = a
    · subst e
      rw [if_pos rfl, if_pos rfl, upd_same]
      rfl
    · rw [if_neg (by omega), if_neg e, upd_other _ _ e]
      exact L.look c
  · rw [hn]
    rcases mem_put he with h | ⟨h, _⟩
    · exact L.keys e h
    · exact ⟨a, ha, by unfold kI; rw [h]⟩
  · rw [hlive c] at h
    by_cases e : c = a
    · rw [if_pos e] at h
      injection h with h
      subst h e
      rw [upd_same]
      refine ⟨q, 256, rfl, ?_, hq⟩
      exact PL.keep.stay_slice hx T3.size fun hg => T3.block q hg fun e => hq (by rw [e]; exact L.sub m L.inS.2.1)
    · rw [if_neg e] at h
      rw [upd_other _ _ e]
      obtain ⟨g, c', ev, hs, hg⟩ := L.row c x h
      exact ⟨g, c', ev, PL.keep.stay_slice hs (by have := T3.size; omega) fun hgl => hkeep g hgl (fun e => hg (by rw [e]; exact L.sub m L.inS.2.1)) fun h => hg (L.sub g (L.inS.2.2 g h)), hg⟩
/-- A block is let go, the counts having turned. -/
theorem PL.drop (L : PL w p d m cur l clock v Sc S T P) (t : Turn Sc w w1) (C1 : CCo w1 p 36 Sc P'.C) (hn : P'.C.n = P.C.n) (hS : P'.S = P.S) {z : Int} (hlive : ∀ c : Nat, P'.live c = if (c : Int) = z then none else P.live c)
    (hgood : ∀ c x, P'.L c = some x → x.good) (hok : P'.ok) :
    Pool (setBlock w1 m (.map (delE z l).toArray clock)) p d S T P' ∧ Turn S w (setBlock w1 m (.map (delE z l).toArray clock)) := by
  have hml := L.mlt
  have hz1 := t.size
  have T3 : Turn (fun k => k = m) w1 (setBlock w1 m (.map (delE z l).toArray clock)) := turn_setBlock _ rfl
  have hat : (setBlock w1 m (.map (delE z l).toArray clock)).heap[m]? = some (.map (delE z l).toArray clock) := setBlock_at (by omega)
  generalize setBlock w1 m (.map (delE z l).toArray clock) = w3 at T3 hat ⊢
  have hkeep : ∀ k, k < w.heap.size → k ≠ m → ¬ Sc k → w3.heap[k]? = w.heap[k]? := fun k hk hkm hks => (T3.block k (by omega) hkm).trans (t.block k hk hks)
  have hp3 := hkeep p L.plt L.p_m (fun h => (L.ne p h).1 rfl)
  refine ⟨⟨m, cur, delE z l, clock, v, Sc, hp3.trans L.me, hS ▸ L.ph, ?_, hat, L.ents.del z, fun c => ?_, fun e he => ?_, fun c x h => ?_, hgood, L.inS, L.ne, L.sub, hok, hS ▸ L.fineS⟩, (t.mono L.inS.2.2).trans T3 fun k hk => by rw [hk]; exact .inl L.inS.2.1⟩
  · exact C1.keep (T3.block p (by have := L.plt; omega) L.p_m) fun k hk hs => T3.block k hk fun e => (L.ne k hs).2 e
  · rw [getE_del _ L.ents.one, hlive c]
    by_cases e : (c : Int) = z
    · rw [if_pos e, if_pos e]; rfl
    · rw [if_neg e, if_neg e]; exact L.look c
  · rw [hn]; exact L.keys e (mem_del he)
  · rw [hlive c] at h
    split at h
    · cases h
    · obtain ⟨g, c', ev, hs, hg⟩ := L.row c x h
      exact ⟨g, c', ev, PL.keep.stay_slice hs (by have := T3.size; omega) fun hgl => hkeep g hgl (fun e => hg (by rw [e]; exact L.sub m L.inS.2.1)) fun h => hg (L.sub g (L.inS.2.2 g h)), hg⟩
end
theorem live_lay {P : Pl} {a : Nat} (h : P.C.pick = some a) (b : Bk) (c : Nat) : (P.lay b).live c = if c = a then some b else P.live c := by
  unfold Pl.live
  by_cases hc : c < P.C.n
  · rw [lay_get h b c hc, lay_L h b c]
    by_cases e : c = a
    · rw [if_pos e, if_pos e, if_pos e, if_neg (by omega)]
    · rw [if_neg e, if_neg e, if_neg e]
  · have ha := (Ct.pick_in h).1
    have e : c ≠ a := by omega
    have z1 : P.C.get (c : Int) = 0 := by unfold Ct.get; rw [if_neg (by omega)]
    have z2 : (P.lay b).C.get (c : Int) = 0 := by unfold Ct.get; rw [lay_n, if_neg (by omega)]
    rw [z1, z2, if_neg e, if_pos rfl, if_pos rfl]

section
variable {w : World} {p d : Nat} {S T : Nat → Prop} {P : Pl}
set_option maxRecDepth 100000 in
set_option maxHeartbeats 1000000 in
theorem pcount_any (H : Pool w p d S T P) (a x : Int) (hx : P.C.get a = x) :
    Calls Tryz.prog 79 #[.pointer (some ⟨p, 0, none⟩), .int .i64 a] w fun e w' => e = .returned (.int .i64 x) ∧ w = w' := by
  obtain ⟨m, cur, l, clock, v, Sc, L⟩ := H
  have hc := cget_any L.ct a x hx
  go_enter Tryz.func79, Tryz.ntmps79
  go_wp2_with fail
  refine hc.mono ?_
  rintro e w1 ⟨rfl, rfl⟩
  go_wp2
  go_ret
  exact ⟨rfl, rfl⟩
end
theorem PL.ld {w : World} {p d m clock : Nat} {cur : Array Value} {l : List MapEntry} {v : Nat → Value} {Sc S T : Nat → Prop} {P : Pl} (L : PL w p d m cur l clock v Sc S T P) : (ldS (.pointer (some ⟨p, 1, none⟩))).run Tryz.prog w = .ok (.agg P.S.vs.toArray) w :=
  run_loadAt_mid w p 1 87 P.S.vs _ L.sup Tryz.underlying87 rfl (by rw [P.S.vs_len]; kernel_rfl)
section
attribute [local go_sem ↓] ldS_shut alS_shut
end
end Go.Proofs.YtgedmodnkiijkaaGreatDoor

namespace Go.Proofs.YtgedmodnkiijkaaGreatDoor
open Go Go.RowKit Go.Proofs
open Go.ChangeMaps (setBlock)

/-- PutBytes's answers, and what it leaves. -/
def Pl.may5 (k : Int) (n : Nat) : Bool := match mostK k with | some m => decide (n ≤ m) | none => false
def Pl.putE (P : Pl) (k : Int) (n : Nat) : Int := if (mostK k).isSome = true then if Pl.may5 k n = true then P.C.allocE else 7 else 1
def Pl.put (P : Pl) (k : Int) (l : List UInt8) : Pl := if Pl.may5 k l.length = true then P.lay (.bytes k l) else P
theorem lay_none {P : Pl} (h : P.C.pick = none) (b : Bk) : P.lay b = P := by unfold Pl.lay; rw [h]
theorem good_lay {P : Pl} {b : Bk} (hb : b.good) (h : ∀ c x, P.L c = some x → x.good) : ∀ c x, (P.lay b).L c = some x → x.good := fun c x hx => by
  cases hp : P.C.pick with
  | none => rw [lay_none hp] at hx; exact h c x hx
  | some a =>
    rw [lay_L hp] at hx
    split at hx
    · injection hx with hx; exact hx ▸ hb
    · exact h c x hx
end Go.Proofs.YtgedmodnkiijkaaGreatDoor

namespace Go.Proofs.YtgedmodnkiijkaaGreatDoor
open Go Go.RowKit Go.Proofs

section
variable {w : World} {p d : Nat} {S T : Nat → Prop} {P : Pl}
set_option maxRecDepth 100000 in
set_option maxHeartbeats 2000000 in
theorem pblock_0 (H : Pool w p d S T P) (a : Int) (h0 : P.C.get a = 0) :
    Calls Tryz.prog 46 #[.pointer (some ⟨p, 0, none⟩), .int .i64 a] w fun e w' => e = .returned (.tuple #[.slice none 0 0, .int .i64 0, .int .i64 1]) ∧ w = w' := by
  have hc := pcount_any H a 0 h0
  go_enter Tryz.func46, Tryz.ntmps46
  go_wp2_with (first
    | (go_at_call 79; refine hc.mono ?_; rintro e w1 ⟨rfl, rfl⟩)
    | fail)
  go_ret3
  exact ⟨rfl, rfl⟩
set_option maxRecDepth 100000 in
set_option maxHeartbeats 2000000 in
theorem pblock_new (H : Pool w p d S T P) (a : Nat) (b : Bk) (hb : P.live a = some b) :
    Calls Tryz.prog 46 #[.pointer (some ⟨p, 0, none⟩), .int .i64 (a : Int)] w fun e w' => ∃ A n c, e = .returned (.tuple #[.slice A n c, .int .i64 1, .int .i64 0]) ∧ Sl w' A n c (b.out a 0) ∧ Below w.heap.size w w' := by
  obtain ⟨x, hx⟩ : ∃ x, P.C.get (a : Int) = x := ⟨_, rfl⟩
  have hx0 : x ≠ 0 := fun h => by unfold Pl.live at hb; rw [if_pos (hx.trans h)] at hb; cases hb
  have hc := pcount_any H (a : Int) x hx
  have nb : (x == 0) = false := by simpa using hx0
  obtain ⟨m, cur, l, clock, v, Sc, L⟩ := H
  obtain ⟨g, c, hv, hs, _⟩ := L.row a b hb
  have q40 := L.c40
  have hlk := run_lookup2_ints L.ents Tryz.underlying90 Tryz.underlying3 (Tryz.zeroValue35 w) L.map (a : Int)
  rw [L.look a, hb, hv] at hlk
  replace hlk : (Instr.lookup 90 (.map (some m)) (.int .i64 (a : Int)) true).run Tryz.prog w = .ok (.tuple #[.slice (some ⟨g, 0, none⟩) 256 c, .bool true]) w := hlk
  clear hx hx0 hb
  go_enter Tryz.func46, Tryz.ntmps46
  go_wp2_with (first
    | (go_at_call 79; refine hc.mono ?_; rintro e w1 ⟨rfl, rfl⟩)
    | fail)
  go_ret3
  exact ⟨_, _, _, rfl, hs, Below.refl _ _⟩
set_option maxRecDepth 100000 in
set_option maxHeartbeats 2000000 in
theorem pblock_disk {S0 : Nat → Prop} {D : DM} (L0 : Drv w d S0 D) (H : Pool w p d S T P) (a : Nat) (h0 : P.C.get (a : Int) ≠ 0) (hb : P.live a = none) :
    Calls Tryz.prog 46 #[.pointer (some ⟨p, 0, none⟩), .int .i64 (a : Int)] w fun e w' => ∃ A n c, e = .returned (.tuple #[.slice A n c, .int .i64 5, .int .i64 (D.readE (a : Int))]) ∧ Sl w' A n c (D.readL (a : Int)) ∧ Below w.heap.size w w' := by
  obtain ⟨x, hx⟩ : ∃ x, P.C.get (a : Int) = x := ⟨_, rfl⟩
  rw [hx] at h0
  have hc := pcount_any H (a : Int) x hx
  have nb : (x == 0) = false := by simpa using h0
  obtain ⟨m, cur, l, clock, v, Sc, L⟩ := H
  have q40 := L.c40
  have q0 := L.c0
  have hlk := run_lookup2_ints L.ents Tryz.underlying90 Tryz.underlying3 (Tryz.zeroValue35 w) L.map (a : Int)
  rw [L.look a, hb] at hlk
  replace hlk : (Instr.lookup 90 (.map (some m)) (.int .i64 (a : Int)) true).run Tryz.prog w = .ok (.tuple #[.slice none 0 0, .bool false]) w := hlk
  obtain ⟨_, _, _, _, _, Ly⟩ := L0
  have hrd := read_any Ly (a : Int)
  clear hx h0 hb
  go_enter Tryz.func46, Tryz.ntmps46
  go_wp2_with (first
    | (go_at_call 79; refine hc.mono ?_; rintro e w1 ⟨rfl, rfl⟩)
    | (go_at_call 80; refine hrd.mono ?_; rintro e w2 ⟨A, n, rfl, s2, _, b2, _⟩)
    | fail)
  go_ret3
  exact ⟨_, _, _, rfl, s2, b2⟩
end
end Go.Proofs.YtgedmodnkiijkaaGreatDoor

namespace Go.Proofs.YtgedmodnkiijkaaGreatDoor
open Go Go.RowKit Go.Proofs

theorem fmt_set (n : Nat) : fmtL n = fmtA n ++ setL (Ct.zero n) (fmtS n) := by
  unfold fmtL fmtB fmtC setL cmtL
  rw [Ct.zero_n]
  show fmtA n ++ (wAt (areaAt n 1) (areaL (Ct.zero n) 1) ++ [.fl] ++ [.w 1 (swB (fmtS n) 1), .fl]) = fmtA n ++ (wAt (areaAt n 1) (areaL (Ct.zero n) 1) ++ .fl :: [.w 1 (swB (fmtS n) 1), .fl])
  rw [List.append_assoc]
  rfl
theorem bdS_two (g x : Int) (w : World) : (bdS #[(0, .int .i64 g), (1, .int .i64 x)]).run Tryz.prog w = .ok (.agg (sp0 g x 0).vs.toArray) w := by
  show (Instr.build 87 #[(0, .int .i64 g), (1, .int .i64 x)]).run Tryz.prog w = _; kernel_rfl
/-- Behind Format, or a crash: a drive below q, a pool from q on. -/
structure PoolOn (w0 w : World) (p d q : Nat) (S0 : Nat → Prop) (D : DM) (P : Pl) : Prop where
  turn : Turn S0 w0 w
  drv : Drv w d (fun k => (S0 k ∨ w0.heap.size ≤ k) ∧ k < q) D
  pool : ∀ T : Nat → Prop, (∀ k, q ≤ k → T k) → Pool w p d (fun k => q ≤ k) T P
  ge : w0.heap.size ≤ q ∧ q ≤ w.heap.size
attribute [local go_sem ↓] bdS_shut
set_option maxRecDepth 100000 in
set_option maxHeartbeats 8000000 in
theorem pformat_any {w : World} {d : Nat} {S0 : Nat → Prop} {D : DM} (L : Drv w d S0 D) (hfree : D.free) (hG : ¬ S0 1) (ht : Tab w) {m : Nat} (htm : D.tame m) (hm : m ≤ 700000) :
    Calls Tryz.prog 28 #[.pointer (some ⟨d, 0, none⟩)] w fun e w' => ∃ p q, e = .returned (.tuple #[.pointer (some ⟨p, 0, none⟩), .int .i64 0]) ∧ PoolOn w w' p d q S0 (D.runD (fmtL D.n)) (Pl.fresh D.n) := by
  have hsec := L.sectors
  unfold sectors at hsec
  obtain ⟨e0, hsnd, _⟩ := fmt_done hsec.1 hsec.2 rfl hfree
  obtain ⟨n, hn⟩ : ∃ n, D.n = n := ⟨_, rfl⟩
  rw [hn] at e0 hsnd hsec ⊢
  rw [fmt_set] at e0
  have hA0 : D.runE (fmtA n) = 0 := Classical.byContradiction fun h => h (by
    have := (run_stopped (l' := setL (Ct.zero n) (fmtS n)) h).1
    rw [this] at e0
    exact e0)
  have hB0 : (D.runD (fmtA n)).runE (setL (Ct.zero n) (fmtS n)) = 0 := by rw [runE_append, if_pos hA0] at e0; exact e0
  have hD2 : D.runD (fmtL n) = (D.runD (fmtA n)).runD (setL (Ct.zero n) (fmtS n)) := by rw [fmt_set, runD_append, if_pos hA0]
  have hbl := pblank_any L htm (by omega)
  rw [hn] at hbl
  have hb1 : D.runB (fmtA n) = true := decide_eq_true hA0
  rw [hb1] at hbl
  obtain ⟨D1, hD1⟩ : ∃ x, D.runD (fmtA n) = x := ⟨_, rfl⟩
  obtain ⟨D2, hD22⟩ : ∃ x, D.runD (fmtL n) = x := ⟨_, rfl⟩
  have hn1 : D1.n = n := by rw [← hD1, run_n]; exact hn
  have hn2 : D2.n = n := by rw [← hD22, run_n]; exact hn
  have ht1 : D1.tame (m + 3) := by rw [← hD1]; exact tame_run _ htm
  rw [hD1] at hbl hB0 hD2
  rw [hD22] at hsnd hD2 ⊢
  have hb2 : D1.runB (setL (Ct.zero n) (fmtS n)) = true := decide_eq_true hB0
  have hmt := sound_mounts hsnd
  rw [hn2] at hmt
  have hgn : (mtS D2.newest).gen < 1099511627775 := by rw [hmt.2.1]; show (1 : Int) < 1099511627775; omega
  have hP : Pl.mounted D2.newest n = Pl.fresh n := by
    unfold Pl.mounted Pl.fresh
    rw [hmt.2.1]
    have : mtC D2.newest n (fmtS n).gen = Ct.zero n := by
      have h := hmt.2.2
      have e : (Ct.zero n).commit = Ct.zero n := rfl
      rw [e] at h
      exact h
    rw [this]
  have hoff := hsnd.free.on
  have Hmt := Lib.hid hmt.1
  have Hbl := Lib.hid hbl
  have Hb2 := Lib.hid hb2
  have HD2 := Lib.hid hD2
  have HP := Lib.hid hP
  have Hgn := Lib.hid hgn
  have Hoff := Lib.hid hoff
  have Hn1 := Lib.hid hn1
  have Hn2 := Lib.hid hn2
  have HG := Lib.hid hG
  have hbd := bdS_two 1 (n : Int)
  have htl := ht.1
  clear hbl hb2 hD2 hP hgn hoff hn1 hn2 hmt hb1 hB0 hA0 e0 hsnd hG hn hD1 hD22
  go_enter Tryz.func28, Tryz.ntmps28
  go_wp2_with fail
  refine Hbl.out.mono ?_
  rintro e w1 ⟨rfl, L1⟩
  have t1 := ht.turned L1.turn HG.out
  have Ly := L1.drv.tight
  obtain ⟨_, _, _, _, _, Ly1⟩ := Ly
  have hsz := size_any Ly1
  rw [Hn1.out] at hsz
  have hSz := Lib.hid hsz
  clear hsz Ly1
  go_wp2_with (first
    | (go_at_call 52; refine hSz.out.mono ?_; rintro e w2 ⟨rfl, rfl⟩)
    | fail)
  refine (cnew_any n hsec.1 hsec.2 w1).mono ?_
  rintro e w2 ⟨pc, rfl, C2, hpc, b2⟩
  have Ly2 := L1.drv.tight.below b2
  have t2 := t1.below b2 t1.1
  have z1 := L1.turn.size
  have z2 := b2.size
  obtain ⟨_, _, _, _, _, Lz2⟩ := Ly2
  have hsz := size_any Lz2
  have Ly2 := L1.drv.tight.below b2
  rw [Hn1.out] at hsz
  have hSz2 := Lib.hid hsz
  clear hsz Lz2
  go_wp2_with (first
    | (go_at_call 52; refine hSz2.out.mono ?_; rintro e w3 ⟨rfl, rfl⟩)
    | fail)
  have hst := psettle_any Ly2 C2 (fun k hk => ⟨by have := hk.2; omega, fun h => by have := hk.2; omega⟩) (fun h => h.1.elim HG.out fun h2 => by omega) (fmtS n) (fmtS_may hsec.1 hsec.2) (may_fine (fmtS_may hsec.1 hsec.2)) (by rw [Ct.zero_n]; rfl) t2 ht1 (by omega)
  rw [Hb2.out, ← HD2.out] at hst
  refine hst.mono ?_
  rintro e w3 ⟨rfl, L3⟩
  clear hst
  have t3 := t2.turned L3.turn fun h => h.1.elim HG.out fun h2 => by omega
  have z3 := L3.turn.size
  go_wp2_with fail
  refine (pmount_any L3.drv t3 Hgn.out).mono ?_
  rw [Hoff.out, Hn2.out, HP.out, Hmt.out]
  rintro e w4 ⟨⟨_, p, rfl, hpool, hp⟩ | ⟨h, _⟩, b4⟩
  · go_wp2
    go_ret2
    refine ⟨p, w3.heap.size, rfl, ?_, ?_, hpool, by omega, b4.size⟩
    · have T2 : Turn S0 w w2 := L1.turn.trans (turn_below b2) fun k hk => .inl hk
      have T3 : Turn S0 w w3 := T2.trans L3.turn fun k hk => hk.1.elim .inl fun h => .inr h
      exact T3.trans (turn_below b4) fun k hk => .inl hk
    · exact ((L3.drv.mono (S' := fun k => (S0 k ∨ w.heap.size ≤ k) ∧ k < w3.heap.size) fun k hk h => ⟨h.elim (fun h => h.1) fun h => .inr (by omega), hk⟩).below b4)
  · exact absurd rfl h
end Go.Proofs.YtgedmodnkiijkaaGreatDoor
