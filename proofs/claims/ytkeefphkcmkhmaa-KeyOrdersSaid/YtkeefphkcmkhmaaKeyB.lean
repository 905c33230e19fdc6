/- Keys: Put, the code's and the reference's. -/
import Derived.Test.YtkeefphkcmkhmaaKeyA
import Derived.Test.YtkeefphkcmkhmaaTurn
import Derived.Deep.RegionHeld3
namespace Go.Proofs.Ytkeefphkcmkhmaa
open Go Go.RowKit Go.Proofs

theorem pin (l : List UInt8) (x n : Int) (h1 : 1 ≤ n) (h2 : n ≤ 8) : putS l x n = l ++ dig x n.toNat := if_pos ⟨h1, h2⟩
theorem KB.lt {w : World} {b : Nat} {k : Kd} (H : KB w b k) : b < w.heap.size := by
  obtain ⟨t, H⟩ := H
  exact lt_of_heap H
theorem KB.there {w : World} {b : Nat} {k : Kd} (H : KB w b k) : w.there b 0 3 := fun j hj => by
  obtain ⟨t, H⟩ := H
  refine ⟨?_, by unfold World.frozen?; rw [H]; simp⟩
  rw [cell_of_row _ _ _ _ _ _ H, Nat.zero_add, Array.getElem?_eq_getElem (by simpa using hj)]; rfl
theorem KB.stored {w : World} {b : Nat} {k : Kd} (H : KB w b k) (k2 : Kd) : KB (w.setCells b 0 k2.vs) b k2 := by
  obtain ⟨t, H⟩ := H
  exact ⟨t, setCell_at _ (setCell_at _ (setCell_at _ H))⟩
theorem KB.keep {w w' : World} {b : Nat} {k : Kd} (H : KB w b k) (h : w'.heap[b]? = w.heap[b]?) : KB w' b k := by
  obtain ⟨t, H⟩ := H
  exact ⟨t, h.trans H⟩
theorem KB.fz {w : World} {b : Nat} {k : Kd} (H : KB w b k) (i : Nat) : w.frozen? ⟨b, i, none⟩ = false := by
  obtain ⟨t, H⟩ := H
  unfold World.frozen?
  rw [H]
  simp
theorem KB.set0 {w : World} {b : Nat} {k : Kd} (H : KB w b k) (x : Int) : KB (w.setCell ⟨b, 0, none⟩ (.int .i64 x)) b ⟨x, k.kind, k.off⟩ := by
  obtain ⟨t, H⟩ := H
  exact ⟨t, setCell_at _ H⟩
theorem KB.set1 {w : World} {b : Nat} {k : Kd} (H : KB w b k) (x : Int) : KB (w.setCell ⟨b, 1, none⟩ (.int .i64 x)) b ⟨k.obj, x, k.off⟩ := by
  obtain ⟨t, H⟩ := H
  exact ⟨t, setCell_at _ H⟩
theorem KB.set2 {w : World} {b : Nat} {k : Kd} (H : KB w b k) (x : Int) : KB (w.setCell ⟨b, 2, none⟩ (.int .i64 x)) b ⟨k.obj, k.kind, x⟩ := by
  obtain ⟨t, H⟩ := H
  exact ⟨t, setCell_at _ H⟩
theorem wp_load_kd {ops : Array Oper} {rest : List Oper} {o : Oper} {a : Act} {w : World} {Q : Exit → Act → World → Prop} (hg : o.guard = none) (x : Operand) (hop : o.op = Op.load 23 x)
    (b : Nat) (hx : a.eval x = .pointer (some ⟨b, 0, none⟩)) (k : Kd) (H : KB w b k) (hK : wpList Try.prog ops Q rest (a.put o.dst k.v) w) : wpList Try.prog ops Q (o :: rest) a w :=
  wpList_load_mid hg _ x hop b 0 hx k.vs _ H.range Try.underlying23 rfl (by kernel_rfl) hK
theorem wp_store_kd {ops : Array Oper} {rest : List Oper} {o : Oper} {a : Act} {w : World} {Q : Exit → Act → World → Prop} (hg : o.guard = none) (x y : Operand) (hop : o.op = Op.store 23 x y)
    (b : Nat) (hx : a.eval x = .pointer (some ⟨b, 0, none⟩)) (k k0 : Kd) (hy : a.eval y = k.v) (H : KB w b k0)
    (hK : ∀ w', KB w' b k → Turn (fun g => g = b) w w' → wpList Try.prog ops Q rest (a.put o.dst undef) w') : wpList Try.prog ops Q (o :: rest) a w :=
  wpList_store_mid hg _ x y hop b 0 k.vs.toArray hx hy H.there (by kernel_rfl) (by simp [Kd.vs, Value.oneCell'])
    (hK _ (H.stored k) (turn_setCells (S := fun g => g = b) rfl k.vs 0 w))
theorem Own.keep {w w' : World} {base n c : Nat} {e : TypeId} {A : Option Addr} {l : List UInt8} (h : Own w base e A n c l) (hk : ∀ g, base ≤ g → g < w.heap.size → w'.heap[g]? = w.heap[g]?) : Own w' base e A n c l := by
  refine ⟨h.1, ?_⟩
  rcases h.2 with hv | ⟨g, cap, cur, hv, h1, hg, r⟩
  · exact .inl hv
  · exact .inr ⟨g, cap, cur, hv, h1, (hk g h1 (Array.getElem?_eq_some_iff.1 hg).1).trans hg, r⟩
theorem own_none (w : World) (base : Nat) (e : TypeId) : Own w base e none 0 0 [] := ⟨by simp, .inl ⟨rfl, rfl⟩⟩
theorem Turn.belowOne {b : Nat} {w w' : World} (h : Turn (fun g => g = b) w w') (hb : b < w.heap.size) : Below b w w' := h.below (fun x hx => by omega) (by omega)
/-- What is laid behind bytes: the nine bytes of a key. -/
theorem three_puts (l : List UInt8) (k : Kd) : l ++ dig k.obj (4 : Int).toNat ++ dig k.kind (1 : Int).toNat ++ dig k.off (4 : Int).toNat = l ++ k.bytes := by
  unfold Kd.bytes
  rw [List.append_assoc, List.append_assoc]
  rfl

theorem putin_any (A : Option Addr) (k c : Nat) (l : List UInt8) (x n : Int) (w : World) (h : Sl w A k c l) (hk : k ≤ 17592186044416) (h1 : 1 ≤ n) (h2 : n ≤ 8) :
    Calls Try.prog 25 #[.slice A k c, .int .i64 x, .int .i64 n] w fun e w' => ∃ A' n' c', e = .returned (.slice A' n' c') ∧ Own w' w.heap.size 5 A' n' c' (l ++ dig x n.toNat) ∧ n' ≤ k + 8 ∧ Below w.heap.size w w' := by
  have h := put_any A k c l x n w h hk
  rw [pin _ _ n h1 h2] at h
  refine h.mono ?_
  rintro e w' ⟨A', n', c', rfl, own, hb⟩
  refine ⟨A', n', c', rfl, own, ?_, hb⟩
  have h3 := own.len
  rw [List.length_append, dig_len, (show l.length = k from (by assumption : Sl w A k c l).len)] at h3
  omega

theorem refputin_any (A : Option Addr) (k c : Nat) (l : List UInt8) (x n : Int) (w : World) (h : Sl w A k c l) (hk : k ≤ 17592186044416) (h1 : 1 ≤ n) (h2 : n ≤ 8) :
    Calls Try.prog 26 #[.slice A k c, .int .i64 x, .int .i64 n] w fun e w' => ∃ A' n' c', e = .returned (.slice A' n' c') ∧ Own w' w.heap.size 5 A' n' c' (l ++ dig x n.toNat) ∧ n' ≤ k + 8 ∧ Below w.heap.size w w' := by
  have h := refput_any A k c l x n w h hk
  rw [pin _ _ n h1 h2] at h
  refine h.mono ?_
  rintro e w' ⟨A', n', c', rfl, own, hb⟩
  refine ⟨A', n', c', rfl, own, ?_, hb⟩
  have h3 := own.len
  rw [List.length_append, dig_len, (show l.length = k from (by assumption : Sl w A k c l).len)] at h3
  omega

set_option maxHeartbeats 1000000 in
theorem kput_any (A : Option Addr) (n c : Nat) (l : List UInt8) (k : Kd) (w : World) (h : Sl w A n c l) (hn : n ≤ 4398046511104) :
    Calls Try.prog 16 #[.slice A n c, .agg #[.int .i64 k.obj, .int .i64 k.kind, .int .i64 k.off]] w fun e w' => ∃ A' n' c', e = .returned (.slice A' n' c') ∧ Own w' w.heap.size 5 A' n' c' (l ++ k.bytes) ∧ Below w.heap.size w w' := by
  have hlen := Lib.hid h.len
  go_enter Try.func16, Try.ntmps16
  go_wp2_with fail
  have K1 := KB.new w k.obj k.kind k.off 23
  have h1 := h.alloc (.cells #[.int .i64 k.obj, .int .i64 k.kind, .int .i64 k.off] 23)
  have b1 : Below w.heap.size w (w.alloc (.cells #[.int .i64 k.obj, .int .i64 k.kind, .int .i64 k.off] 23)) := (Below.refl _ _).alloc (Nat.le_refl _) _
  generalize w.alloc (.cells #[.int .i64 k.obj, .int .i64 k.kind, .int .i64 k.off] 23) = w1 at K1 h1 b1 ⊢
  have z1 := K1.lt
  refine (putin_any A n c l k.obj 4 w1 h1 (by omega) (by omega) (by omega)).mono ?_
  rintro e w2 ⟨A2, n2, c2, rfl, own2, hn2, hb2⟩
  have K2 := K1.below hb2 z1
  have z2 := K2.lt
  have q1 := K2.c1
  go_wp2_with fail
  refine (putin_any A2 n2 c2 _ k.kind 1 w2 own2.sl (by omega) (by omega) (by omega)).mono ?_
  rintro e w3 ⟨A3, n3, c3, rfl, own3, hn3, hb3⟩
  have K3 := K2.below hb3 z2
  have z3 := K3.lt
  have q2 := K3.c2
  clear q1
  go_wp2_with fail
  refine (putin_any A3 n3 c3 _ k.off 4 w3 own3.sl (by omega) (by omega) (by omega)).mono ?_
  rw [three_puts]
  rintro e w4 ⟨A4, n4, c4, rfl, own4, _, hb4⟩
  have s2 := hb2.size
  have s3 := hb3.size
  have hB3 := b1.trans ((hb2.trans (hb3.mono s2)).mono b1.size)
  have h9 : w.heap.size ≤ w3.heap.size := hB3.size
  have hB4 := hB3.trans (hb4.mono h9)
  have o5 := own4.less h9
  go_wp2
  go_ret
  exact ⟨A4, n4, c4, rfl, o5, hB4⟩

set_option maxHeartbeats 2000000 in
theorem refkput_any (A : Option Addr) (n c : Nat) (l : List UInt8) (k : Kd) (w : World) (h : Sl w A n c l) (hn : n ≤ 4398046511104) :
    Calls Try.prog 17 #[.slice A n c, .agg #[.int .i64 k.obj, .int .i64 k.kind, .int .i64 k.off]] w fun e w' => ∃ A' n' c', e = .returned (.slice A' n' c') ∧ Own w' w.heap.size 5 A' n' c' (l ++ k.bytes) ∧ Below w.heap.size w w' := by
  have hlen := Lib.hid h.len
  go_enter Try.func17, Try.ntmps17
  go_wp2_with fail
  have K1 := KB.new w k.obj k.kind k.off 23
  have h1 := h.alloc (.cells #[.int .i64 k.obj, .int .i64 k.kind, .int .i64 k.off] 23)
  have b1 : Below w.heap.size w (w.alloc (.cells #[.int .i64 k.obj, .int .i64 k.kind, .int .i64 k.off] 23)) := (Below.refl _ _).alloc (Nat.le_refl _) _
  generalize w.alloc (.cells #[.int .i64 k.obj, .int .i64 k.kind, .int .i64 k.off] 23) = w1 at K1 h1 b1 ⊢
  have z1 := K1.lt
  have s1 := b1.size
  have hS : ∀ w' : World, Below (w.heap.size + 1) w1 w' → w'.cell? ⟨w.heap.size, 0, none⟩ = some (.int .i64 k.obj) ∧ w'.cell? ⟨w.heap.size, 1, none⟩ = some (.int .i64 k.kind) ∧ w'.cell? ⟨w.heap.size, 2, none⟩ = some (.int .i64 k.off) ∧ Below (w.heap.size + 1) w1 w' :=
    fun w' hb => ⟨(K1.below hb (by omega)).c0, (K1.below hb (by omega)).c1, (K1.below hb (by omega)).c2, hb⟩
  have h0 : n ≤ 17592186044416 := by omega
  have h14 : (1 : Int) ≤ 4 := by omega
  have h48 : (4 : Int) ≤ 8 := by omega
  have h11 : (1 : Int) ≤ 1 := by omega
  have h18 : (1 : Int) ≤ 8 := by omega
  have s1' : w.heap.size + 1 ≤ w1.drew.heap.size := z1
  have BD : Below (w.heap.size + 1) w1 w1.drew := (Below.refl _ w1).drew
  go_region_held3 (fun w' => w'.cell? ⟨w.heap.size, 0, none⟩ = some (.int .i64 k.obj) ∧ w'.cell? ⟨w.heap.size, 1, none⟩ = some (.int .i64 k.kind) ∧ w'.cell? ⟨w.heap.size, 2, none⟩ = some (.int .i64 k.off) ∧ Below (w.heap.size + 1) w1 w')
    (first | assumption | exact hS _ BD | exact hS _ ‹Below (w.heap.size + 1) w1 _›)
    (first
      | (go_at_call 26; refine (refputin_any A3 n3 c3 _ k.off 4 _ own3.sl h3 h14 h48).mono ?_; rintro e w4 ⟨A4, n4, c4, rfl, own4, hn4, hb4⟩; have bb4 : Below (w.heap.size + 1) w1 w4 := bb3.trans (hb4.mono (Nat.le_trans s1' bb3.size)))
      | (go_at_call 26; refine (refputin_any A2 n2 c2 _ k.kind 1 _ own2.sl h2 h11 h18).mono ?_; rintro e w3 ⟨A3, n3, c3, rfl, own3, hn3, hb3⟩; have bb3 : Below (w.heap.size + 1) w1 w3 := bb2.trans (hb3.mono (Nat.le_trans s1' bb2.size)); have h3 : n3 ≤ 17592186044416 := Nat.le_trans hn3 (by omega))
      | (go_at_call 26; refine (refputin_any A n c l k.obj 4 _ h1.drew h0 h14 h48).mono ?_; rintro e w2 ⟨A2, n2, c2, rfl, own2, hn2, hb2⟩; have bb2 : Below (w.heap.size + 1) w1 w2 := BD.trans (hb2.mono s1'); have h2 : n2 ≤ 17592186044416 := Nat.le_trans hn2 (by omega))
      | fail)
  all_goals
    rw [three_puts] at own4
    have h9 : w.heap.size ≤ w3.heap.size := by have := bb3.size; omega
    have hB4 := b1.trans (bb4.mono (Nat.le_succ w.heap.size))
    have o5 := own4.less h9
    go_wp2
    go_ret
    exact ⟨A4, n4, c4, rfl, o5, hB4⟩

end Go.Proofs.Ytkeefphkcmkhmaa
