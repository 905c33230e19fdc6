/- Laws of the pool: data is laid down, and told, by the law's own functions. -/
import Derived.Test.YtipejjgodnnkaaaGreatDoorLaw2
import Derived.Test.YtipejjgodnnkaaaGreatDoorPy25
namespace Go.Proofs.YtipejjgodnnkaaaGreatDoor
open Go Go.RowKit Go.Proofs

structure Lain (P P' : Pl) (an : List Nat) (ls : List (List UInt8)) : Prop where
  n : P'.C.n = P.C.n
  free : P'.C.free + an.length = P.C.free
  keep : ∀ (a : Nat) (b : Bk), P.live a = some b → P'.live a = some b
  has : ∀ (i a : Nat), an[i]? = some a → P'.live a = some (.bytes 5 (cut128 (nth ls i)))
theorem lain_zero (P : Pl) (ls : List (List UInt8)) : Lain P P [] ls := ⟨rfl, rfl, fun _ _ h => h, fun i a h => by simp at h⟩
theorem Lain.put {P P' : Pl} {an : List Nat} {ls : List (List UInt8)} (h : Lain P P' an ls) (hf : an.length < P.C.free) :
    ∃ a, P'.C.pick = some a ∧ a < P'.C.n ∧ Lain P (P'.lay (.bytes 5 (cut128 (nth ls an.length)))) (an ++ [a]) ls := by
  have hfr := h.free
  obtain ⟨a, hp⟩ := Ct.pick_some_free (C := P'.C) (by omega)
  obtain ⟨p1, p2, p3, p4, _⟩ := Ct.pick_in hp
  obtain ⟨x, hxx⟩ : ∃ x, cut128 (nth ls an.length) = x := ⟨_, rfl⟩
  rw [hxx]
  have hlv := live_lay hp (.bytes 5 x)
  have hnone : P'.live a = none := by
    unfold Pl.live
    rw [if_pos]
    unfold Ct.get
    rw [if_pos (by omega), Int.toNat_natCast]
    exact p3
  have hafree : (P'.lay (.bytes 5 x)).C.free + 1 = P'.C.free := by rw [lay_some hp]; exact Ct.alloc_free hp
  have hkeep : ∀ (c : Nat) (b : Bk), P'.live c = some b → (P'.lay (.bytes 5 x)).live c = some b := fun c b hc => by
    rw [hlv, if_neg]
    · exact hc
    · intro e
      rw [e, hnone] at hc
      cases hc
  refine ⟨a, hp, p1, (lay_n _).trans h.n, by rw [List.length_append, List.length_singleton]; omega, fun c b hc => hkeep c b (h.keep c b hc), fun i c hc => ?_⟩
  by_cases hi : i < an.length
  · rw [List.getElem?_append_left hi] at hc
    exact hkeep c _ (h.has i c hc)
  · have hil : i = an.length := by
      have := (List.getElem?_eq_some_iff.1 hc).1
      rw [List.length_append, List.length_singleton] at this
      omega
    subst hil
    rw [List.getElem?_append_right (Nat.le_refl _), Nat.sub_self] at hc
    obtain rfl : a = c := by simpa using hc
    rw [hlv, if_pos rfl, hxx]
section
variable {w w' w1 : World} {b base d p : Nat} {S0 S T S' T' : Nat → Prop} {D : DM} {P : Pl} {A A' : Option Addr} {n c c' v : Nat} {an : List Nat}
/-- Blocks that the law turns alone. -/
def OwnB (A : Option Addr) (S0 S T : Nat → Prop) : Prop := ∀ k, blockOf A = some k → T k ∧ ¬ S0 k ∧ ¬ S k
theorem SysAt.shrink (H : SysAt b w d p S0 S T' D P) (hT : ∀ k, T k → T' k) (h0 : ∀ k, S0 k → T k) (h1 : ∀ k, S k → T k) : SysAt b w d p S0 S T D P :=
  ⟨H.drv, H.pool.mono (fun k _ h => h) (fun k _ h => hT k h) h1, h0, H.apart, fun k hk => H.tight k (hT k hk)⟩
theorem arow_push (H : SysAt b w d p S0 S T D P) (hb : 1 < b) (t : Tab w) (R : ARow w base A n c an) (ho : OwnB A S0 S T) (hr : ARow w1 base A' (n + 1) c' (an ++ [v])) (X : Turn (fun k => blockOf A = some k) w w1) (hA : blockOf A' = blockOf A ∨ blockOf A' = some w.heap.size) :
    SysAt b w1 d p S0 S (grow T w w1) D P ∧ OwnB A' S0 S (grow T w w1) ∧ Tab w1 := by
  have hz := X.size
  have hST := H.subS
  have Q := (H.pool.mono (S' := S) (T' := grow T w w1) (fun k _ h => h) (fun k hk h => h.1.elim id fun h2 => by omega) (fun k h => ⟨.inl (hST k h), by have := (H.tight k (hST k h)).2; omega⟩)).other X (fun k hk => ⟨.inl (ho k hk).1, by have := (R.lt k hk).2; omega⟩) fun k hk => (ho k hk).2.2
  refine ⟨⟨H.drv.keep fun k hk hs => X.block k hk fun h => (ho k h).2.1 hs, Q, fun k hk => ⟨.inl (H.sub k hk), by have := (H.tight k (H.sub k hk)).2; omega⟩, H.apart, fun k hk => ⟨hk.1.elim (fun h => (H.tight k h).1) fun h => by have := H.base; omega, hk.2⟩⟩, fun k hk => ?_, t.turned X fun h => ?_⟩
  · have h1 := (hr.lt k hk).2
    rcases hA with h | h
    · obtain ⟨q1, q2, q3⟩ := ho k (h ▸ hk)
      exact ⟨⟨.inl q1, h1⟩, q2, q3⟩
    · rw [h] at hk
      injection hk with hk
      subst hk
      refine ⟨⟨.inr (Nat.le_refl _), h1⟩, fun h => ?_, fun h => ?_⟩
      · have := (H.tight _ (H.sub _ h)).2; omega
      · have := (H.tight _ (hST _ h)).2; omega
  · have := (H.tight _ (ho _ h).1).1
    omega
end
set_option maxRecDepth 100000 in
set_option maxHeartbeats 8000000 in
theorem plays_any {w0 w : World} {b d p : Nat} {S0 S T : Nat → Prop} {D : DM} {P : Pl} (A : Option Addr) (n c : Nat) (ls : List (List UInt8)) (hp0 : Parts w0 A n c ls) (B0 : Below w0.heap.size w0 w) (hb0 : w0.heap.size ≤ b) (H : SysAt b w d p S0 S T D P) (hb : 1 < b) (ht : Tab w) (hf6 : 6 ≤ P.C.free) :
    Calls Tryz.prog 33 #[.pointer (some ⟨p, 0, none⟩), .slice A n c] w fun e w' => ∃ (A' : Option Addr) (n' c' : Nat) (an : List Nat) (P' : Pl), e = .returned (.slice A' n' c') ∧ n' ≤ 6 ∧ n' ≤ n ∧ ARow w' w.heap.size A' n' c' an ∧ SysAt b w' d p S0 S T D P' ∧ Lain P P' an ls ∧ Turn S w w' ∧ Tab w' := by
  have hnc := hp0.2.1
  have hcm := hp0.2.2.1
  unfold maxLen at hcm
  have hST := H.subS
  have hok := H.sys.ok
  have hbase := H.base
  have b1 : Below w.heap.size w (w.alloc (.cells #[] 3)) := (Below.refl _ _).alloc (Nat.le_refl _) _
  have z1 : (w.alloc (.cells #[] 3)).heap.size = w.heap.size + 1 := by simp
  have H1 := H.more b1
  have R1 : ARow (w.alloc (.cells #[] 3)) w.heap.size (some ⟨w.heap.size, 0, none⟩) 0 0 [] := owns_lit0 w 3 1
  have O1 : OwnB (some ⟨w.heap.size, 0, none⟩) S0 S (grow T w (w.alloc (.cells #[] 3))) := fun k hk => by
    injection hk with hk
    have hk : w.heap.size = k := hk
    subst hk
    exact ⟨⟨.inr (Nat.le_refl _), by omega⟩, fun h => by have := (H.tight _ (H.sub _ h)).2; omega, fun h => by have := (H.tight _ (hST _ h)).2; omega⟩
  have hT1 : ∀ k, T k → grow T w (w.alloc (.cells #[] 3)) k := fun k hk => grow_old0 hk (by have := (H.tight k hk).2; omega)
  have t1 := ht.below b1 ht.1
  have X1 : Turn S w (w.alloc (.cells #[] 3)) := turn_below b1
  have L1 := lain_zero P ls
  go_enter Tryz.func33, Tryz.ntmps33
  go_wp2_with fail
  generalize grow T w (w.alloc (.cells #[] 3)) = T1 at H1 O1 hT1
  generalize w.alloc (.cells #[] 3) = w1 at H1 R1 t1 X1 ⊢
  clear b1 z1
  go_loopw [5, 6, 7, 8, 9] (fun rv iv _ _ _ wr => ∃ (i : Nat) (T' : Nat → Prop) (P' : Pl) (A' : Option Addr) (c' : Nat) (an : List Nat), i ≤ n ∧ i ≤ 6 ∧ iv = .int .i64 (i : Int) ∧ rv = .slice A' i c' ∧ ARow wr w.heap.size A' i c' an ∧ OwnB A' S0 S T' ∧ (∀ k, T k → T' k) ∧ SysAt b wr d p S0 S T' D P' ∧ Lain P P' an ls ∧ Turn S w wr ∧ Tab wr) (fun _ iv _ _ _ _ => 6 - (intOf iv).toNat)
  case atStart => exact ⟨0, T1, P, _, 0, [], Nat.zero_le _, by omega, rfl, rfl, R1, O1, hT1, H1, L1, X1, t1⟩
  case round =>
    clear H1 R1 O1 hT1 t1 X1 L1
    obtain ⟨i, T', P', A', c', an, hin, hi6, rfl, rfl, R, O, hT, H', L, X, t⟩ := hrel
    have hal := R.len
    have e0 : (0 : Int) ≤ (i : Int) := by omega
    by_cases hgo : i < n ∧ i < 6
    · obtain ⟨hlt, hlt2⟩ := hgo
      have BB : Below w0.heap.size w0 wr := B0.trans (X.below (fun k hk => by have := (H.tight k (hST k hk)).1; omega) B0.size)
      obtain ⟨ad, A1, n1, c1, eA, hbl, hcl, hsl⟩ := hp0.cell hlt
      subst eA
      have hcr := (BB.cell (p := ad.add i) (by rw [addr_block]; exact hbl)).trans hcl
      have hsr : Sl wr A1 n1 c1 (nth ls i) := ⟨hsl.1, hsl.2.1, hsl.2.2.1, fun i u hu => by
        obtain ⟨ad', e', h1, h2⟩ := hsl.2.2.2 i u hu
        exact ⟨ad', e', Nat.lt_of_lt_of_le h1 BB.size, (BB.cell (p := ad'.add i) (by rw [addr_block]; exact h1)).trans h2⟩⟩
      have hA1 : 0 < n1 → ∀ ad', A1 = some ad' → ¬ T' ad'.block := fun hn ad' e' h => by
        obtain ⟨ad2, e2, h1, _⟩ := hsl.cell hn
        rw [e'] at e2
        injection e2 with e2
        subst e2
        have := (H'.tight _ h).1
        omega
      obtain ⟨xl, hxl⟩ : ∃ z, cut128 (nth ls i) = z := ⟨_, rfl⟩
      have hxle : xl.length ≤ 128 := by rw [← hxl]; exact cut_len _
      obtain ⟨a, hpick, han, K2⟩ := L.put (by omega)
      rw [hal, hxl] at K2
      obtain ⟨p1, p2, p3⟩ := put_data hpick hxle
      have hput := fun (nb : Nat) (hsb : Sl wr A1 nb c1 xl) (hnb : nb ≤ n1) => at_put H' hb 5 A1 nb c1 xl hsb (fun h => hA1 (by omega)) t
      rw [p1, p2, p3] at hput
      obtain ⟨P2, hP2⟩ : ∃ Q, P'.lay (.bytes 5 xl) = Q := ⟨_, rfl⟩
      rw [hP2] at hput K2
      have Hput := Lib.hid hput
      have e1 : (i : Int) < (n : Int) := by omega
      have e2 : (i : Int) < 6 := by omega
      have hL : (nth ls i).length = n1 := hsl.len
      have hn1 : n1 ≤ c1 := hsl.cap
      have hc1 := hsl.max
      unfold maxLen at hc1
      have hh128 : 128 < n1 ∨ n1 ≤ 128 := by omega
      have hXl := Lib.hid hxl
      clear hput hcl hsl p1 p2 p3 hpick hP2 hxl
      rcases hh128 with h128 | h128
      · have d0 : (128 : Int) < (n1 : Int) := by omega
        have hsb : Sl wr A1 128 c1 xl := by rw [← hXl.out]; exact hsr.take (by omega)
        have hnb : 128 ≤ n1 := by omega
        go_wp2_with (first
          | (go_at_call 27; refine (Hput.out 128 hsb hnb).mono ?_; rintro e w7 ⟨rfl, H7, X7, t7⟩; have R7 := R.turned X7 (fun k hk => (O k hk).2.2); have b8 : Below w7.heap.size w7 (w7.alloc (.cells #[.int .i64 (a : Int)] 3)) := (Below.refl _ _).alloc (Nat.le_refl _) _)
          | (at_builtin; refine wp_append_int rfl _ _ rfl w.heap.size A' i c' an rfl (R7.below b8) (some ⟨w7.heap.size, 0, none⟩) 1 a rfl (lit1_int w7 (a : Int)) (by omega) (by have h1 := X.size; have h2 := b8.size; have h3 := X7.size; omega) ?_)
          | fail)
        intro A6 c6 w8 own8 X8 hA8
        have b8z := b8.size
        have H8 := H7.more b8
        have O8 : OwnB A' S0 S (grow T' w7 (w7.alloc (.cells #[.int .i64 (a : Int)] 3))) := fun k hk => ⟨grow_old0 (O k hk).1 (by have := (R7.lt k hk).2; omega), (O k hk).2⟩
        have t8 := t7.below b8 t7.1
        obtain ⟨H9, O9, t9⟩ := arow_push H8 hb t8 (R7.below b8) O8 own8 X8 (by rw [World.size_alloc]; exact hA8)
        have X9 : Turn S w w8 := ((X.trans X7 (fun k hk => .inl hk)).trans (turn_below (S := S) b8) (fun k hk => .inl hk)).trans X8 (fun k hk => .inr (R7.lt k hk).1)
        have hT9 : ∀ k, T k → grow (grow T' w7 (w7.alloc (.cells #[.int .i64 (a : Int)] 3))) (w7.alloc (.cells #[.int .i64 (a : Int)] 3)) w8 k := fun k hk => by
          have h1 := (H.tight k hk).2
          have h2 := X.size
          have h3 := X7.size
          have h4 := X8.size
          exact grow_old0 (grow_old0 (hT k hk) (by omega)) (by omega)
        clear hA8 H8 O8
        go_wp2
        exact ⟨⟨i + 1, _, P2, A6, c6, _, by omega, by omega, by go_num, rfl, own8, O9, hT9, H9, K2, X9, t9⟩, by simp [intOf]; omega⟩
      · have d0 : ¬ (128 : Int) < (n1 : Int) := by omega
        have hsb : Sl wr A1 n1 c1 xl := by rw [← hXl.out]; unfold cut128; rw [List.take_of_length_le (by rw [hL]; exact h128)]; exact hsr
        have hnb : n1 ≤ n1 := Nat.le_refl _
        go_wp2_with (first
          | (go_at_call 27; refine (Hput.out n1 hsb hnb).mono ?_; rintro e w7 ⟨rfl, H7, X7, t7⟩; have R7 := R.turned X7 (fun k hk => (O k hk).2.2); have b8 : Below w7.heap.size w7 (w7.alloc (.cells #[.int .i64 (a : Int)] 3)) := (Below.refl _ _).alloc (Nat.le_refl _) _)
          | (at_builtin; refine wp_append_int rfl _ _ rfl w.heap.size A' i c' an rfl (R7.below b8) (some ⟨w7.heap.size, 0, none⟩) 1 a rfl (lit1_int w7 (a : Int)) (by omega) (by have h1 := X.size; have h2 := b8.size; have h3 := X7.size; omega) ?_)
          | fail)
        intro A6 c6 w8 own8 X8 hA8
        have b8z := b8.size
        have H8 := H7.more b8
        have O8 : OwnB A' S0 S (grow T' w7 (w7.alloc (.cells #[.int .i64 (a : Int)] 3))) := fun k hk => ⟨grow_old0 (O k hk).1 (by have := (R7.lt k hk).2; omega), (O k hk).2⟩
        have t8 := t7.below b8 t7.1
        obtain ⟨H9, O9, t9⟩ := arow_push H8 hb t8 (R7.below b8) O8 own8 X8 (by rw [World.size_alloc]; exact hA8)
        have X9 : Turn S w w8 := ((X.trans X7 (fun k hk => .inl hk)).trans (turn_below (S := S) b8) (fun k hk => .inl hk)).trans X8 (fun k hk => .inr (R7.lt k hk).1)
        have hT9 : ∀ k, T k → grow (grow T' w7 (w7.alloc (.cells #[.int .i64 (a : Int)] 3))) (w7.alloc (.cells #[.int .i64 (a : Int)] 3)) w8 k := fun k hk => by
          have h1 := (H.tight k hk).2
          have h2 := X.size
          have h3 := X7.size
          have h4 := X8.size
          exact grow_old0 (grow_old0 (hT k hk) (by omega)) (by omega)
        clear hA8 H8 O8
        go_wp2
        exact ⟨⟨i + 1, _, P2, A6, c6, _, by omega, by omega, by go_num, rfl, own8, O9, hT9, H9, K2, X9, t9⟩, by simp [intOf]; omega⟩
    · have hfin : ¬ ((i : Int) < (n : Int) ∧ (i : Int) < 6) := fun h => hgo ⟨by omega, by omega⟩
      have HF := H'.shrink hT (fun k hk => H.sub k hk) hST
      clear hgo
      by_cases h1 : (i : Int) < (n : Int)
      all_goals (
        have h2 : ¬ ((i : Int) < (n : Int) ∧ (i : Int) < 6) := hfin
        first
          | (have h3 : ¬ (i : Int) < 6 := fun h => h2 ⟨h1, h⟩
             clear h2 hfin
             go_wp2_with fail)
          | (clear h2 hfin
             go_wp2_with fail)
        go_ret
        exact ⟨A', i, c', rfl, hi6, hin, an, R, P', HF, L, X, t⟩)
set_option maxRecDepth 100000 in
set_option maxHeartbeats 8000000 in
theorem phas_any {w0 w : World} {b base d p : Nat} {S0 S T : Nat → Prop} {D : DM} {P : Pl} (A : Option Addr) (n c : Nat) (ls : List (List UInt8)) (hp0 : Parts w0 A n c ls) (B0 : Below w0.heap.size w0 w) (H : SysAt b w d p S0 S T D P) (ht : Tab w) (A' : Option Addr) (n' c' : Nat) (an : List Nat) (R : ARow w base A' n' c' an) (hn : n' ≤ n) (hT : ∀ (i a : Nat), an[i]? = some a → P.live a = some (.bytes 5 (cut128 (nth ls i)))) :
    Calls Tryz.prog 36 #[.pointer (some ⟨p, 0, none⟩), .slice A' n' c', .slice A n c] w fun e w' => e = .returned (.bool true) ∧ Below w.heap.size w w' := by
  have hnc := hp0.2.1
  have hcm := hp0.2.2.1
  unfold maxLen at hcm
  have hok := H.sys.ok.c.1
  have hH := H.sys
  have hcap := R.cap
  go_enter Tryz.func36, Tryz.ntmps36
  go_wp2_with fail
  go_loopw [7, 8, 9, 10] (fun iv _ _ _ wr => ∃ (i : Nat), i ≤ n' ∧ iv = .int .i64 (i : Int) ∧ Below w.heap.size w wr ∧ Tab wr) (fun iv _ _ _ _ => n' - (intOf iv).toNat)
  case atStart => exact ⟨0, Nat.zero_le _, rfl, Below.refl _ _, ht⟩
  case round =>
    obtain ⟨i, him, rfl, B, t⟩ := hrel
    by_cases hlt : i < n'
    · obtain ⟨ad, a, eA, ha, hcell, hblk⟩ := R.cell hlt
      subst eA
      have hlv := hT i a ha
      have hget := live_get hlv
      have ha2 : a < P.C.n := by
        have := Ct.get_in hget.1
        omega
      obtain ⟨e1, e2⟩ := bytes_new D hlv (most := 128) rfl (cut_len _) (by omega)
      have hcellr := (B.cell (p := ad.add i) (by rw [addr_block]; exact hblk)).trans hcell
      have BB := B0.trans (B.mono B0.size)
      obtain ⟨ad2, A1, n1, c1, eA2, hbl, hcl, hsl⟩ := hp0.cell (by omega : i < n)
      subst eA2
      have hbl2 : ad2.block < wr.heap.size := Nat.lt_of_lt_of_le hbl BB.size
      have hcr := (BB.cell (p := ad2.add i) (by rw [addr_block]; exact hbl)).trans hcl
      have hsr : Sl wr A1 n1 c1 (nth ls i) := ⟨hsl.1, hsl.2.1, hsl.2.2.1, fun i u hu => by
        obtain ⟨ad', e', h1, h2⟩ := hsl.2.2.2 i u hu
        exact ⟨ad', e', Nat.lt_of_lt_of_le h1 BB.size, (BB.cell (p := ad'.add i) (by rw [addr_block]; exact h1)).trans h2⟩⟩
      have hby : Calls Tryz.prog 20 #[.pointer (some ⟨p, 0, none⟩), .int .i64 (a : Int), .int .i64 5] wr fun e w' => ∃ A n c, e = .returned (.tuple #[.slice A n c, .int .i64 0]) ∧ Sl w' A n c (cut128 (nth ls i)) ∧ Below wr.heap.size wr w' ∧ ∀ ad, A = some ad → wr.heap.size ≤ ad.block := by
        have hby := sys_bytes (hH.below B) t (a : Int) 5
        unfold BytesSays at hby
        rw [e1, e2] at hby
        exact hby
      have Hby := Lib.hid hby
      obtain ⟨xl, hxl⟩ : ∃ z, cut128 (nth ls i) = z := ⟨_, rfl⟩
      rw [hxl] at Hby
      have e0 : (i : Int) < (n' : Int) := by omega
      have e3 : (i : Int) < (n : Int) := by omega
      have e4 : (0 : Int) ≤ (i : Int) := by omega
      have hL : (nth ls i).length = n1 := hsl.len
      have hn1 : n1 ≤ c1 := hsl.cap
      have hc1 := hsl.max
      unfold maxLen at hc1
      have hh128 : 128 < n1 ∨ n1 ≤ 128 := by omega
      have hXl := Lib.hid hxl
      clear hby hcell hcl hsl e1 e2 hxl hlv hget ha2
      rcases hh128 with h128 | h128
      · have d0 : (128 : Int) < (n1 : Int) := by omega
        have hsb : Sl wr A1 128 c1 xl := by rw [← hXl.out]; exact hsr.take (by omega)
        go_wp2_with fail
        refine Hby.out.mono ?_
        rintro e w12 ⟨A9, n9, c9, rfl, s9, b12, _⟩
        have B12 := B.trans (b12.mono B.size)
        have t12 := t.below b12 t.1
        have k9 := str_bs s9
        have hcr12 := (b12.cell (p := ad2.add i) (by rw [addr_block]; exact hbl2)).trans hcr
        have kw := str_bs (hsb.below b12)
        go_wp2_with fail
        exact ⟨⟨i + 1, by omega, by go_num, B12, t12⟩, by simp [intOf]; omega⟩
      · have d0 : ¬ (128 : Int) < (n1 : Int) := by omega
        have hsb : Sl wr A1 n1 c1 xl := by rw [← hXl.out]; unfold cut128; rw [List.take_of_length_le (by rw [hL]; exact h128)]; exact hsr
        go_wp2_with fail
        refine Hby.out.mono ?_
        rintro e w12 ⟨A9, n9, c9, rfl, s9, b12, _⟩
        have B12 := B.trans (b12.mono B.size)
        have t12 := t.below b12 t.1
        have k9 := str_bs s9
        have hcr12 := (b12.cell (p := ad2.add i) (by rw [addr_block]; exact hbl2)).trans hcr
        have kw := str_bs (hsb.below b12)
        go_wp2_with fail
        exact ⟨⟨i + 1, by omega, by go_num, B12, t12⟩, by simp [intOf]; omega⟩
    · have e0 : ¬ (i : Int) < (n' : Int) := by omega
      go_wp2_with fail
      go_ret
      exact ⟨rfl, B⟩
end Go.Proofs.YtipejjgodnnkaaaGreatDoor
