/- Inodes: structs compared with themselves; the laws' few and shown; how an inode, an entry and a chunk come in. -/
import Derived.Test.YtimlhhemfipooaaInJ
import Derived.Test.YtimlhhemfipooaaLaw
import Derived.Laws.StructEq
import Derived.Deep.Fields
import Derived.WideShapes
namespace Go.Proofs.Ytimlhhemfipooaa
open Go Go.RowKit Go.Proofs Go.ChangeShapes Go.WideShapes Go.ChangeAt Go.Deep

theorem grd_ino (o : BinOp) (ho : o = .eql ∨ o = .neq) (x y : Operand) (xs ys : Array Value) (w : World) : (eqGuard o 23 x y (.agg xs) (.agg ys)).run Try.prog w = .ok () w := by
  rcases ho with rfl | rfl
  · exact run_eqGuard_agg w .eql 23 x y xs ys (by kernel_rfl)
  · exact run_eqGuard_agg w .neq 23 x y xs ys (by kernel_rfl)
theorem grd_ent (o : BinOp) (ho : o = .eql ∨ o = .neq) (x y : Operand) (xs ys : Array Value) (w : World) : (eqGuard o 25 x y (.agg xs) (.agg ys)).run Try.prog w = .ok () w := by
  rcases ho with rfl | rfl
  · exact run_eqGuard_agg w .eql 25 x y xs ys (by kernel_rfl)
  · exact run_eqGuard_agg w .neq 25 x y xs ys (by kernel_rfl)
theorem grd_key (x y : Operand) (xs ys : Array Value) (w : World) : (eqGuard .eql 45 x y (.agg xs) (.agg ys)).run Try.prog w = .ok () w := run_eqGuard_agg w .eql 45 x y xs ys (by kernel_rfl)
theorem eq_ino (x y z : Int) (w : World) : (binOp .eql 23 (.agg #[.int .i64 x, .int .i64 y, .int .i64 z]) (.agg #[.int .i64 x, .int .i64 y, .int .i64 z])).run Try.prog w = .ok (.bool true) w := by
  rw [run_eql_struct, run_equalIn_agg w 9999 23 _ _ (by kernel_rfl) (by kernel_rfl)]
  unfold Program.fieldsOf
  rw [Try.underlying23]
  simp [go_sem, Try.underlying3]
theorem eq_key (x y z : Int) (w : World) : (binOp .eql 45 (.agg #[.int .i64 x, .int .i64 y, .int .i64 z]) (.agg #[.int .i64 x, .int .i64 y, .int .i64 z])).run Try.prog w = .ok (.bool true) w := by
  rw [run_eql_struct, run_equalIn_agg w 9999 45 _ _ (by kernel_rfl) (by kernel_rfl)]
  unfold Program.fieldsOf
  rw [Try.underlying45]
  simp [go_sem, Try.underlying3]
theorem eq_ent (s : ByteArray) (y z : Int) (w : World) : (binOp .eql 25 (.agg #[.string s, .int .i64 y, .int .i64 z]) (.agg #[.string s, .int .i64 y, .int .i64 z])).run Try.prog w = .ok (.bool true) w := by
  rw [run_eql_struct, run_equalIn_agg w 9999 25 _ _ (by kernel_rfl) (by kernel_rfl)]
  unfold Program.fieldsOf
  rw [Try.underlying25]
  simp [go_sem, Try.underlying3, Try.underlying9]
theorem ne_ino (x y z : Int) (w : World) : (binOp .neq 23 (.agg #[.int .i64 x, .int .i64 y, .int .i64 z]) (.agg #[.int .i64 x, .int .i64 y, .int .i64 z])).run Try.prog w = .ok (.bool false) w := by
  rw [run_neq_struct, run_equalIn_agg w 9999 23 _ _ (by kernel_rfl) (by kernel_rfl)]
  unfold Program.fieldsOf
  rw [Try.underlying23]
  simp [go_sem, Try.underlying3]
theorem ne_ent (s : ByteArray) (y z : Int) (w : World) : (binOp .neq 25 (.agg #[.string s, .int .i64 y, .int .i64 z]) (.agg #[.string s, .int .i64 y, .int .i64 z])).run Try.prog w = .ok (.bool false) w := by
  rw [run_neq_struct, run_equalIn_agg w 9999 25 _ _ (by kernel_rfl) (by kernel_rfl)]
  unfold Program.fieldsOf
  rw [Try.underlying25]
  simp [go_sem, Try.underlying3, Try.underlying9]

theorem few_any (A : Option Addr) (n c : Nat) (l : List UInt8) (w : World) (h : Sl w A n c l) :
    Calls Try.prog 9 #[.slice A n c] w fun e w' => ∃ m, m ≤ 300 ∧ m ≤ n ∧ e = .returned (.slice A m c) ∧ w = w' := by
  have hcap := h.cap
  have hm := h.max
  unfold maxLen at hm
  by_cases hn : 300 < n
  · have hi : (300 : Int) ≤ (c : Int) := by omega
    have hn' : (300 : Int) < (n : Int) := by omega
    go_enter Try.func9, Try.ntmps9
    go_wp2
    go_ret
    exact ⟨300, Nat.le_refl _, by omega, rfl, rfl⟩
  · go_enter Try.func9, Try.ntmps9
    go_wp2
    go_ret
    exact ⟨n, by omega, Nat.le_refl _, rfl, rfl⟩

theorem boxes13 (w : World) (r s u : List Value) (t1 t2 t3 : TypeId) : IB (((w.alloc (.cells r.toArray t1)).alloc (.cells s.toArray t2)).alloc (.cells u.toArray t3)) w.heap.size r ∧ IB (((w.alloc (.cells r.toArray t1)).alloc (.cells s.toArray t2)).alloc (.cells u.toArray t3)) (w.heap.size + 1) s ∧
    IB (((w.alloc (.cells r.toArray t1)).alloc (.cells s.toArray t2)).alloc (.cells u.toArray t3)) (w.heap.size + 1 + 1) u ∧ Below w.heap.size w (((w.alloc (.cells r.toArray t1)).alloc (.cells s.toArray t2)).alloc (.cells u.toArray t3)) := by
  obtain ⟨h1, h2, h3, h4⟩ := two_new w r s t1 t2
  have b : Below ((w.alloc (.cells r.toArray t1)).alloc (.cells s.toArray t2)).heap.size ((w.alloc (.cells r.toArray t1)).alloc (.cells s.toArray t2)) (((w.alloc (.cells r.toArray t1)).alloc (.cells s.toArray t2)).alloc (.cells u.toArray t3)) := blA
  have h5 := IB.new ((w.alloc (.cells r.toArray t1)).alloc (.cells s.toArray t2)) u t3
  rw [h4] at h5
  exact ⟨h1.below b h1.lt, h2.below b h2.lt, h5, btr h3 b⟩
theorem ex1 : inoPE ⟨1, 2, 258⟩ = 0 ∧ inoPB ⟨1, 2, 258⟩ = [1, 0, 2, 0, 0, 1, 2] := by decide
theorem ex2 : entPE ⟨⟨#[97]⟩, 5, 2⟩ = 0 ∧ entPB ⟨⟨#[97]⟩, 5, 2⟩ = [1, 97, 0, 0, 0, 5, 2] := by decide
theorem ex3 : extPE [] 258 = 0 ∧ extPB [] 258 = [1, 1, 2] := by decide
set_option maxRecDepth 10000 in
set_option maxHeartbeats 2000000 in
theorem shown_any (w : World) : Calls Try.prog 8 #[] w fun e w' => e = .returned (.bool true) ∧ Below w.heap.size w w' := by
  go_enter Try.func8, Try.ntmps8
  go_wp2_with fail
  refine (iPut_any ⟨1, 2, 258⟩ w).mono ?_
  rw [ex1.1, ex1.2]
  rintro e w1 ⟨A1, n1, c1, rfl, s1, hb1⟩
  go_wp2_with fail
  refine (iPutEntry_any ⟨⟨#[97]⟩, 5, 2⟩ w1).mono ?_
  rw [ex2.1, ex2.2]
  rintro e w2 ⟨A2, n2, c2, rfl, s2, hb2⟩
  go_wp2_with fail
  refine (iPutExtent_says none 0 0 [] 258 w2 (sl_nil _) (by omega)).mono ?_
  rw [ex3.1, ex3.2]
  rintro e w3 ⟨A3, n3, c3, rfl, s3, hb3⟩
  have k1 := iconv ((s1.below hb2).below hb3)
  have k2 := iconv (s2.below hb3)
  have k3 := iconv s3
  go_wp2
  go_ret
  exact ⟨rfl, btr (btr hb1 hb2) hb3⟩

section
variable {H : Type} {enc : TypeId × Value → H} {W : World}
theorem int_here {m : Nat} {c : Value} {y : DataW H × List MemPlace} (h : DataW.trod enc Try.prog W 0 (fun _ => true) true m 3 [c] = some y) : ∃ z, c = .int .i64 z := by
  obtain ⟨z, hcs, _, _⟩ := DataW.trod_int Try.underlying3 h
  exact ⟨z, by simpa using hcs⟩
theorem open_ino {r : Reach} {b0 : Nat} {v : Value} {d : DataW H} {ps : List MemPlace} (hv : Value.okWide Try.prog W r b0 23 v) (h : DataW.Trod enc Try.prog W 0 (fun _ => true) true 23 v d ps) :
    ∃ x y z, v = .agg #[.int .i64 x, .int .i64 y, .int .i64 z] := by
  obtain ⟨cs, rfl, hsz⟩ := okWide_struct Try.underlying23 hv
  obtain ⟨f, hf⟩ := h
  obtain ⟨xs, m, _, _, hl, hxl, hff⟩ := DataW.trod_struct Try.underlying23 hf
  have hcs : (Value.agg cs).cells.toList = cs.toList := rfl
  rw [hcs] at hl hff
  have hl3 : cs.toList.length = 3 := by rw [hl]; kernel_rfl
  have k1 : Try.prog.cellsOf 3 = 1 := by kernel_rfl
  obtain ⟨v0, v1, v2, hR⟩ : ∃ v0 v1 v2, cs.toList = [v0, v1, v2] := by
    match cs.toList, hl3 with
    | [a, b, c], _ => exact ⟨a, b, c, rfl⟩
  have g0 : DataW.trod enc Try.prog W 0 (fun _ => true) true m 3 (List.take (Try.prog.cellsOf 3) (List.drop 0 cs.toList)) = xs[0]? := hff 0 _ rfl
  have g1 : DataW.trod enc Try.prog W 0 (fun _ => true) true m 3 (List.take (Try.prog.cellsOf 3) (List.drop 1 cs.toList)) = xs[1]? := hff 1 _ rfl
  have g2 : DataW.trod enc Try.prog W 0 (fun _ => true) true m 3 (List.take (Try.prog.cellsOf 3) (List.drop 2 cs.toList)) = xs[2]? := hff 2 _ rfl
  have hx : xs.length = 3 := hxl
  rw [k1, hR, List.getElem?_eq_getElem (by omega)] at g0 g1 g2
  obtain ⟨z0, e0⟩ := int_here (by simpa using g0)
  obtain ⟨z1, e1⟩ := int_here (by simpa using g1)
  obtain ⟨z2, e2⟩ := int_here (by simpa using g2)
  refine ⟨z0, z1, z2, ?_⟩
  rw [e0, e1, e2] at hR
  exact congrArg Value.agg (by rw [← hR])
theorem open_ent {r : Reach} {b0 : Nat} {v : Value} {d : DataW H} {ps : List MemPlace} (hv : Value.okWide Try.prog W r b0 25 v) (h : DataW.Trod enc Try.prog W 0 (fun _ => true) true 25 v d ps) :
    ∃ s y z, v = .agg #[.string s, .int .i64 y, .int .i64 z] := by
  obtain ⟨cs, rfl, hsz⟩ := okWide_struct Try.underlying25 hv
  obtain ⟨f, hf⟩ := h
  obtain ⟨xs, m, _, _, hl, hxl, hff⟩ := DataW.trod_struct Try.underlying25 hf
  have hcs : (Value.agg cs).cells.toList = cs.toList := rfl
  rw [hcs] at hl hff
  have hl3 : cs.toList.length = 3 := by rw [hl]; kernel_rfl
  have k1 : Try.prog.cellsOf 3 = 1 := by kernel_rfl
  have ks : Try.prog.cellsOf 9 = 1 := by kernel_rfl
  obtain ⟨v0, v1, v2, hR⟩ : ∃ v0 v1 v2, cs.toList = [v0, v1, v2] := by
    match cs.toList, hl3 with
    | [a, b, c], _ => exact ⟨a, b, c, rfl⟩
  have g0 : DataW.trod enc Try.prog W 0 (fun _ => true) true m 9 (List.take (Try.prog.cellsOf 9) (List.drop 0 cs.toList)) = xs[0]? := hff 0 _ rfl
  have g1 : DataW.trod enc Try.prog W 0 (fun _ => true) true m 3 (List.take (Try.prog.cellsOf 3) (List.drop 1 cs.toList)) = xs[1]? := hff 1 _ rfl
  have g2 : DataW.trod enc Try.prog W 0 (fun _ => true) true m 3 (List.take (Try.prog.cellsOf 3) (List.drop 2 cs.toList)) = xs[2]? := hff 2 _ rfl
  have hx : xs.length = 3 := hxl
  rw [k1, hR, List.getElem?_eq_getElem (by omega)] at g1 g2
  rw [ks, hR, List.getElem?_eq_getElem (by omega)] at g0
  obtain ⟨s, e0, _, _⟩ := DataW.trod_string Try.underlying9 g0
  have e0 : v0 = .string s := by simpa using e0
  obtain ⟨z1, e1⟩ := int_here (by simpa using g1)
  obtain ⟨z2, e2⟩ := int_here (by simpa using g2)
  refine ⟨s, z1, z2, ?_⟩
  rw [e0, e1, e2] at hR
  exact congrArg Value.agg (by rw [← hR])
theorem ibytes_trod {fuel : Nat} {v : Value} {y : DataW H × List MemPlace} (hf : DataW.trod enc Try.prog W 0 (fun _ => true) true fuel 26 [v] = some y) : ∃ A n c l, v = .slice A n c ∧ Sl W A n c l := by
  have hv : ∃ a len cap, v = .slice a len cap := by
    rcases Deep.open_slice T22.sl hf with ⟨hcs, _⟩ | ⟨a, len, cap, m, f, D, Pl, hcs, _⟩
    · exact ⟨_, _, _, by simpa using hcs⟩
    · exact ⟨_, _, _, by simpa using hcs⟩
  obtain ⟨a, len, cap, rfl⟩ := hv
  exact open_bytes (d := y.1) (ps := y.2) T22 Try.underlying5 ⟨_, _, _, rfl⟩ ⟨fuel, hf⟩
theorem open_ext {r : Reach} {b0 : Nat} {v : Value} {d : DataW H} {ps : List MemPlace} (hv : Value.okWide Try.prog W r b0 28 v) (h : DataW.Trod enc Try.prog W 0 (fun _ => true) true 28 v d ps) :
    ∃ A n c l a, v = .agg #[.slice A n c, .int .i64 a] ∧ Sl W A n c l := by
  obtain ⟨cs, rfl, hsz⟩ := okWide_struct Try.underlying28 hv
  obtain ⟨f, hf⟩ := h
  obtain ⟨xs, m, _, _, hl, hxl, hff⟩ := DataW.trod_struct Try.underlying28 hf
  have hcs : (Value.agg cs).cells.toList = cs.toList := rfl
  rw [hcs] at hl hff
  have hl3 : cs.toList.length = 2 := by rw [hl]; kernel_rfl
  have k1 : Try.prog.cellsOf 3 = 1 := by kernel_rfl
  have ks : Try.prog.cellsOf 26 = 1 := by kernel_rfl
  obtain ⟨v0, v1, hR⟩ : ∃ v0 v1, cs.toList = [v0, v1] := by
    match cs.toList, hl3 with
    | [a, b], _ => exact ⟨a, b, rfl⟩
  have g0 : DataW.trod enc Try.prog W 0 (fun _ => true) true m 26 (List.take (Try.prog.cellsOf 26) (List.drop 0 cs.toList)) = xs[0]? := hff 0 _ rfl
  have g1 : DataW.trod enc Try.prog W 0 (fun _ => true) true m 3 (List.take (Try.prog.cellsOf 3) (List.drop 1 cs.toList)) = xs[1]? := hff 1 _ rfl
  have hx : xs.length = 2 := hxl
  rw [k1, hR, List.getElem?_eq_getElem (by omega)] at g1
  rw [ks, hR, List.getElem?_eq_getElem (by omega)] at g0
  obtain ⟨z1, e1⟩ := int_here (by simpa using g1)
  obtain ⟨A, n, c, l, e0, hs⟩ := ibytes_trod (v := v0) (by simpa using g0)
  refine ⟨A, n, c, l, z1, ?_, hs⟩
  rw [e0, e1] at hR
  exact congrArg Value.agg (by rw [← hR])
end
end Go.Proofs.Ytimlhhemfipooaa
