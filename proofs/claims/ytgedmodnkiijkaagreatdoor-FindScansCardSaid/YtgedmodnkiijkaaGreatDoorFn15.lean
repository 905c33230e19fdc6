/- Superblocks: the code's mayVol, named and May. Superblocks: what a subvolume, a superblock is written as; the code's putVol. Superblocks: the code's May. -/
import Derived.Test.YtgedmodnkiijkaaGreatDoorFn13
import Derived.Test.YtgedmodnkiijkaaGreatDoorFn14
import Derived.BigQuiet
namespace Go.Proofs.YtgedmodnkiijkaaGreatDoor
open Go Go.RowKit Go.Proofs

/-- Whether a subvolume may be, of a disk of n sectors; whether one of them has a name. -/
def Vl.ok (v : Vl) (n : Int) : Bool := labL v.name && (decide (0 ≤ v.root ∧ v.root ≤ n - 1) && decide (2 ≤ v.next ∧ v.next ≤ 2147483647))
def namedL (l : List Vl) (s : ByteArray) : Bool := l.any fun u => u.name.toList == s.toList
def Sp.ok1 (S : Sp) (i : Nat) : Bool := (S.at_ i).same Vl.zero || ((S.at_ i).ok S.sectors && !namedL (S.vols.take i) (S.at_ i).name)
def Sp.hd (S : Sp) : Bool := decide (1 ≤ S.gen ∧ S.gen ≤ 1099511627775 ∧ 32 ≤ S.sectors ∧ S.sectors ≤ 2048 ∧ 0 ≤ S.log ∧ S.log ≤ S.sectors - 1)
/-- Whether a superblock may be. -/
def Sp.may (S : Sp) : Bool := S.hd && (List.range 8).all S.ok1
/-- Its names' sizes are numbers. -/
def Sp.fine (S : Sp) : Prop := ∀ k, k < 8 → (S.at_ k).name.size ≤ maxLen
theorem may_no {S : Sp} {j : Nat} (hj : j < 8) (h : S.ok1 j = false) : S.may = false := by
  have : (List.range 8).all S.ok1 = false := by
    rw [List.all_eq_false]
    exact ⟨j, List.mem_range.2 hj, by rw [h]; simp⟩
  unfold Sp.may
  rw [this, Bool.and_false]
theorem may_yes {S : Sp} (h0 : S.hd = true) (h : ∀ j, j < 8 → S.ok1 j = true) : S.may = true := by
  have : (List.range 8).all S.ok1 = true := by
    rw [List.all_eq_true]
    exact fun j hj => h j (List.mem_range.1 hj)
  unfold Sp.may
  rw [this, h0]
  rfl
theorem may_hd {S : Sp} (h : S.hd = false) : S.may = false := by unfold Sp.may; rw [h, Bool.false_and]

set_option maxHeartbeats 2000000 in
theorem smayvol_any (v : Vl) (n : Int) (h1 : 32 ≤ n) (h2 : n ≤ 2048) (r : Bool) (hr : v.ok n = r) (hm : v.name.size ≤ maxLen) (w : World) :
    Calls Tryz.prog 59 #[.agg #[.string v.name, .bool v.ro, .int .i64 v.root, .int .i64 v.next], .int .i64 n] w fun e w' => e = .returned (.bool r) ∧ Below w.heap.size w w' := by
  subst hr
  obtain ⟨a, ha⟩ : ∃ a, labL v.name = a := ⟨_, rfl⟩
  obtain ⟨b, hb⟩ : ∃ b, decide (0 ≤ v.root ∧ v.root ≤ n - 1) = b := ⟨_, rfl⟩
  obtain ⟨c, hc⟩ : ∃ c, decide (2 ≤ v.next ∧ v.next ≤ 2147483647) = c := ⟨_, rfl⟩
  have hok := Lib.hid (show v.ok n = (a && (b && c)) by unfold Vl.ok; rw [ha, hb, hc])
  go_enter Tryz.func59, Tryz.ntmps59
  cases a
  · go_wp2_with (first
      | (go_at_call 102; refine (slabel_any v.name false ha _ hm).mono ?_; rintro e w2 ⟨rfl, rfl⟩)
      | fail)
    go_ret
    exact ⟨by rw [hok.out]; rfl, (Below.refl _ _).alloc (Nat.le_refl _) _⟩
  · cases b
    · go_wp2_with (first
        | (go_at_call 102; refine (slabel_any v.name true ha _ hm).mono ?_; rintro e w2 ⟨rfl, rfl⟩)
        | (go_at_call 58; refine (swithin_any v.root 0 (n - 1) false hb _).mono ?_; rintro e w2 ⟨rfl, rfl⟩)
        | fail)
      go_ret
      exact ⟨by rw [hok.out]; rfl, (Below.refl _ _).alloc (Nat.le_refl _) _⟩
    · go_wp2_with (first
        | (go_at_call 102; refine (slabel_any v.name true ha _ hm).mono ?_; rintro e w2 ⟨rfl, rfl⟩)
        | fail)
      refine (swithin_any v.root 0 (n - 1) true hb _).mono ?_
      rintro e w2 ⟨rfl, rfl⟩
      go_wp2_with fail
      refine (swithin_any v.next 2 2147483647 c hc _).mono ?_
      rintro e w2 ⟨rfl, rfl⟩
      go_wp2
      go_ret
      exact ⟨by rw [hok.out]; rfl, (Below.refl _ _).alloc (Nat.le_refl _) _⟩

/-- The j-th of some subvolumes; kept shut. -/
def vlAt (l : List Vl) (j : Nat) : Vl := l.getD j Vl.zero
theorem vlAt_get {l : List Vl} {j : Nat} (h : j < l.length) : l[j]? = some (vlAt l j) := by simp [vlAt, List.getD, h]
/-- A slice of subvolumes. -/
def Vols (w : World) (A : Option Addr) (n c : Nat) (l : List Vl) : Prop := Sls w 4 A n c (l.map Vl.vs)
theorem Vols.len {w : World} {A : Option Addr} {n c : Nat} {l : List Vl} (h : Vols w A n c l) : l.length = n := by simpa using Sls.len h
theorem Vols.cell {w : World} {A : Option Addr} {n c : Nat} {l : List Vl} (h : Vols w A n c l) {j : Nat} (hj : j < n) : ∃ g o, A = some ⟨g, o, none⟩ ∧ g < w.heap.size ∧ w.cell? ⟨g, o + j * 4, none⟩ = some (.string (vlAt l j).name) ∧ w.cell? ⟨g, o + j * 4 + 1, none⟩ = some (.bool (vlAt l j).ro) ∧
    w.cell? ⟨g, o + j * 4 + 2, none⟩ = some (.int .i64 (vlAt l j).root) ∧ w.cell? ⟨g, o + j * 4 + 3, none⟩ = some (.int .i64 (vlAt l j).next) := by
  have hl := h.len
  obtain ⟨g, o, rfl, hg, _, hc⟩ := h.2.2.2 j (vlAt l j).vs (by rw [List.getElem?_map, vlAt_get (by omega)]; rfl)
  exact ⟨g, o, rfl, hg, hc 0 _ rfl, hc 1 _ rfl, hc 2 _ rfl, hc 3 _ rfl⟩
theorem named_yes {l : List Vl} {s : ByteArray} {j : Nat} (hj : j < l.length) (h : ((vlAt l j).name.toList == s.toList) = true) : namedL l s = true := by
  unfold namedL
  rw [List.any_eq_true]
  exact ⟨_, List.mem_of_getElem? (vlAt_get hj), h⟩
theorem named_no {l : List Vl} {s : ByteArray} (h : ∀ j, j < l.length → ((vlAt l j).name.toList == s.toList) = false) : namedL l s = false := by
  unfold namedL
  rw [List.any_eq_false]
  intro u hu
  obtain ⟨j, hj, rfl⟩ := List.getElem_of_mem hu
  have := h j hj
  have e := vlAt_get hj
  rw [List.getElem?_eq_getElem hj] at e
  injection e with e
  rw [← e] at this
  rw [this]
  simp
set_option maxHeartbeats 2000000 in
theorem snamed_any (l : List Vl) (s : ByteArray) (r : Bool) (hr : namedL l s = r) (A : Option Addr) (n c : Nat) (w : World) (h : Vols w A n c l) (_hn : n ≤ 100000) :
    Calls Tryz.prog 60 #[.slice A n c, .string s] w fun e w' => e = .returned (.bool r) ∧ Below w.heap.size w w' := by
  subst hr
  have Hlen := Lib.hid h.len
  have hb1 := Sls.cap h
  have hb2 := Sls.max h
  unfold maxLen at hb2
  go_enter Tryz.func60, Tryz.ntmps60
  go_wp2_with fail
  go_loopw [9] (fun i wr => ∃ j : Nat, j ≤ n ∧ i = .int .i64 (j : Int) ∧ (∀ q, q < j → ((vlAt l q).name.toList == s.toList) = false) ∧ Below w.heap.size w wr) (fun i _ => n - (intOf i).toNat)
  case atStart => exact ⟨0, Nat.zero_le _, rfl, fun q hq => by omega, Below.refl _ _⟩
  case round =>
    obtain ⟨j, hj, rfl, hall, hB⟩ := hrel
    by_cases hlt : j < n
    · have hr : Vols wr A n c l := Sls.below h hB
      obtain ⟨g, o, hA, hg, c0, c1, c2, c3⟩ := hr.cell hlt
      subst hA
      obtain ⟨x, hx⟩ : ∃ x, vlAt l j = x := ⟨_, rfl⟩
      rw [hx] at c0 c1 c2 c3
      have Hx := Lib.hid hx
      clear hx
      have hj0 : (0 : Int) ≤ (j : Int) := by omega
      have bx : Below wr.heap.size wr (wr.alloc (.cells #[.string x.name, .bool x.ro, .int .i64 x.root, .int .i64 x.next] 84)) := (Below.refl _ _).alloc (Nat.le_refl _) _
      cases hq : x.name.toList == s.toList
      · go_wp2
        refine ⟨⟨j + 1, by omega, by go_num, fun q hq2 => ?_, hB.trans (bx.mono hB.size)⟩, by simp [intOf]; omega⟩
        by_cases hqj : q = j
        · rw [hqj, Hx.out]; exact hq
        · exact hall q (by omega)
      · go_wp2
        go_ret
        exact ⟨by rw [named_yes (j := j) (by rw [Hlen.out]; exact hlt) (by rw [Hx.out]; exact hq)]; rfl, hB.trans (bx.mono hB.size)⟩
    · have hjn : j = n := by omega
      have hno := Lib.hid (named_no (l := l) (s := s) (by rw [Hlen.out, ← hjn]; exact hall))
      go_wp2
      go_ret
      exact ⟨by rw [hno.out]; rfl, hB⟩
end Go.Proofs.YtgedmodnkiijkaaGreatDoor

namespace Go.Proofs.YtgedmodnkiijkaaGreatDoor
open Go Go.RowKit Go.Proofs

/-- A name, padded; a subvolume's eighteen bytes; a superblock's body behind k of them. -/
def padL (s : ByteArray) : List UInt8 := s.data.toList ++ List.replicate (10 - s.size) 0
def volB (v : Vl) : List UInt8 := dig (v.name.size : Int) 1 ++ (padL v.name ++ (dig (dgt v.ro) 1 ++ (dig v.root 2 ++ dig v.next 4)))
def bodyTo (S : Sp) (k : Nat) : List UInt8 := dig S.sectors 2 ++ (dig S.log 2 ++ (S.vols.take k).flatMap volB)
theorem padL_len (s : ByteArray) (h : s.size ≤ 10) : (padL s).length = 10 := by unfold padL; simp; omega
theorem volB_len (v : Vl) (h : v.name.size ≤ 10) : (volB v).length = 18 := by unfold volB; simp [padL_len _ h, dig_len]
theorem bodyTo_zero (S : Sp) : bodyTo S 0 = dig S.sectors 2 ++ dig S.log 2 := by unfold bodyTo; simp
theorem bodyTo_next (S : Sp) {k : Nat} (hk : k < 8) : bodyTo S (k + 1) = bodyTo S k ++ volB (S.at_ k) := by
  unfold bodyTo
  have h := S.get hk
  have hl : k < S.vols.length := by rw [S.len]; exact hk
  rw [List.getElem?_eq_getElem hl] at h
  rw [List.take_succ_eq_append_getElem hl, List.flatMap_append, Option.some.inj h]
  simp
theorem bodyTo_len (S : Sp) (k : Nat) (hk : k ≤ 8) (h : ∀ j, j < 8 → (S.at_ j).name.size ≤ 10) : (bodyTo S k).length = 4 + 18 * k := by
  induction k with
  | zero => rw [bodyTo_zero]; simp [dig_len]
  | succ k ih => rw [bodyTo_next S (by omega), List.length_append, ih (by omega), volB_len _ (h k (by omega))]; omega
/-- The numbers' way, for widths that are served. -/
theorem putin_s (A : Option Addr) (k c : Nat) (l : List UInt8) (x n : Int) (w : World) (h : Sl w A k c l) (hk : k ≤ 17592186044416) (h1 : 1 ≤ n) (h2 : n ≤ 8) :
    Calls Tryz.prog 110 #[.slice A k c, .int .i64 x, .int .i64 n] w fun e w' => ∃ A' n' c', e = .returned (.slice A' n' c') ∧ Own w' w.heap.size 5 A' n' c' (l ++ dig x n.toNat) ∧ (n' ≤ k + n.toNat ∧ k + n.toNat ≤ n') ∧ Below w.heap.size w w' := by
  refine (put_any A k c l x n w h hk).mono ?_
  rw [put_in l x n h1 h2]
  rintro e w' ⟨A', n', c', rfl, own, hb⟩
  have := own.len
  rw [List.length_append, dig_len, h.len] at this
  exact ⟨A', n', c', rfl, own, ⟨by omega, by omega⟩, hb⟩

section
variable {P : Program} {w : World}
theorem run_copy_str (dT sT ty elem : TypeId) (g n : Nat) (l : List UInt8) (tt : TypeId) (str : ByteArray) (hu : P.underlying dT = some (.slice elem)) (hs : (P.info? elem).map (·.size) = some 1)
    (hg : w.heap[g]? = some (.cells (l.map bv).toArray tt (0, 0))) (hn : l.length = n) (hle : str.size ≤ n) :
    (Builtin.copy_ #[dT, sT] ty #[.slice (some ⟨g, 0, none⟩) n n, .string str]).run P w = .ok (goInt str.size) (w.setRow g ((splice l 0 str.data.toList).map bv).toArray) := by
  have hlen : (str.data.toList.map bv).length = str.size := by simp
  have hst := run_storeCells_at P g 0 tt (str.data.toList.map bv) 0 (l.map bv).toArray w hg (by rw [hlen]; simp; omega) (bv_one _)
  have hm : Nat.min str.size n = str.size := Nat.min_eq_left hle
  have he : (Array.map (fun b : UInt8 => Value.int .u8 (b.toNat : Int)) (str.extract 0 str.size).data).toList = str.data.toList.map bv := by
    have : str.extract 0 str.size = str := by ext1; simp
    rw [this]
    simp [bv]
  have e2 : ((l.map bv).toArray.toList.take (0 + 0) ++ str.data.toList.map bv ++ (l.map bv).toArray.toList.drop (0 + 0 + (str.data.toList.map bv).length)) = (splice l 0 str.data.toList).map bv := by
    unfold splice
    simp
  rw [e2] at hst
  cases hq : P.info? elem with
  | none => simp [hq] at hs
  | some i =>
    simp only [Builtin.copy_, Builtin.lenOf, Builtin.firstCells, sizeOf, typeInfo]
    simp only [List.getElem?_toArray, List.getElem?_cons_zero, List.getElem?_cons_succ, Sem.run_bind]
    simp [run_underlying hu, hq, hm]
    have e3 : List.take str.size (List.map (fun b : UInt8 => Value.int .u8 (b.toNat : Int)) str.data.toList) = str.data.toList.map bv := by
      rw [List.take_of_length_le (by simp)]
      rfl
    rw [e3, hst]
    rfl
/-- copy(b[:], s), s a string that fits, in a region that draws. -/
theorem step_copy_s {ops : Array Oper} {o : Oper} {a : Act} {K : Act → World → Prop} {Q : Exit → Act → World → Prop} {E : Prop} (hgd : o.guard = none) (d s : Operand) (dT sT elem : TypeId)
    (ho : o.op = .call { callee := .builtin .copy, args := #[d, s], argTypes := #[dT, sT] }) (hu : P.underlying dT = some (.slice elem)) (hs : (P.info? elem).map (·.size) = some 1)
    (base g n : Nat) (l : List UInt8) (tt : TypeId) (hown : Own w base tt (some ⟨g, 0, none⟩) n n l) (str : ByteArray) (hd : a.eval d = .slice (some ⟨g, 0, none⟩) n n) (hx : a.eval s = .string str) (hle : str.size ≤ n)
    (hK : ∀ w', Own w' base tt (some ⟨g, 0, none⟩) n n (splice l 0 str.data.toList) → Below g w w' → K (a.put o.dst (goInt str.size)) w') : if Region.wanted o (yielded ops a.tmps) = true then Oper.wp P o a w K Q else E := by
  rw [if_pos (by simp [Region.wanted, hgd])]
  obtain ⟨hb, hg, hm⟩ := hown.whole
  have hl := hown.len
  have hrun := run_copy_str (P := P) dT sT o.type elem g n l tt str hu hs hg hl hle
  have h2 : Own (w.setRow g ((splice l 0 str.data.toList).map bv).toArray) base tt (some ⟨g, 0, none⟩) n n (splice l 0 str.data.toList) :=
    Own.of_whole hb (setRow_heap w g _ _ tt _ hg) (by rw [length_splice _ _ _ (by simp; omega), hl]) hm
  have h3 : Below g w (w.setRow g ((splice l 0 str.data.toList).map bv).toArray) := below_setRow (Below.refl _ _) (Nat.le_refl _) _
  unfold Oper.wp execOp
  simp only [ho, resolve, invoke, builtin, Sem.run_bind, Sem.run_pure, Result.andThen_ok, List.map_toArray, List.map_cons, List.map_nil, hd, hx, hrun]
  exact hK _ h2 h3
/-- append onto the call's own row, in a region that draws. -/
theorem stepx_append_b {t e : TypeId} (T : ByteT P t e) {ops : Array Oper} {o : Oper} {a : Act} {K : Act → World → Prop} {Q : Exit → Act → World → Prop} {E : Prop} (hgd : o.guard = none) (s x : Operand)
    (ho : o.op = .call { callee := .builtin .append, args := #[s, x], argTypes := #[t, t] })
    (base : Nat) (A : Option Addr) (n c : Nat) (l : List UInt8) (hs : a.eval s = .slice A n c) (hown : Own w base e A n c l)
    (B : Option Addr) (m d : Nat) (l2 : List UInt8) (hx : a.eval x = .slice B m d) (hr : Sl w B m d l2) (hnm : n + m ≤ 140737488355328) (hbase : base ≤ w.heap.size)
    (h : ∀ A' c' w', Own w' base e A' (n + m) c' (l ++ l2) → Below base w w' → K (a.put o.dst (.slice A' (n + m) c')) w') :
    if Region.wanted o (yielded ops a.tmps) = true then Oper.wp P o a w K Q else E := by
  rw [if_pos (by simp [Region.wanted, hgd])]
  obtain ⟨A', c', w', hrun, h2, h3, _⟩ := run_append_sl (P := P) w T o.type base A n c l hown B m d l2 hr hnm hbase
  unfold Oper.wp execOp
  simp only [ho, resolve, invoke, builtin, Sem.run_bind, Sem.run_pure, Result.andThen_ok, List.map_toArray, List.map_cons, List.map_nil, hs, hx, hrun]
  exact h A' c' w' h2 h3
end
theorem sl_name (b : Nat) (w : World) : (Instr.sliceAt 226 (.pointer (some ⟨b, 0, none⟩)) none none none).run Tryz.prog w = .ok (.slice (some ⟨b, 0, none⟩) 10 10) w := by
  have hl : Tryz.prog.arrayLen 226 = 10 := by kernel_rfl
  have hs : (sizeOf (Tryz.prog.elem 226)).run Tryz.prog w = .ok 1 w := by kernel_rfl
  rw [run_sliceAt_array_all w 226 _ (by kernel_rfl), hs, hl]
  simp [slicedAt, Result.andThen, Addr.add_mid]
theorem pad_splice (s : ByteArray) (_h : s.size ≤ 10) : splice (List.replicate 10 0) 0 s.data.toList = padL s := by
  have e : splice (List.replicate 10 (0 : UInt8)) 0 s.data.toList = s.data.toList ++ (List.replicate 10 (0 : UInt8)).drop s.data.toList.length := by unfold splice; rw [List.take_zero, List.nil_append, Nat.zero_add]
  rw [e, List.drop_replicate]
  rfl

set_option maxRecDepth 100000 in
set_option maxHeartbeats 4000000 in
theorem putvol_any (v : Vl) (hv : v.name.size ≤ 10) (A : Option Addr) (n c : Nat) (l : List UInt8) (w : World) (hs : Sl w A n c l) (hn : n ≤ 100000) :
    Calls Tryz.prog 134 #[.slice A n c, .agg #[.string v.name, .bool v.ro, .int .i64 v.root, .int .i64 v.next]] w fun e w' =>
      ∃ A' n' c', e = .returned (.slice A' n' c') ∧ Own w' w.heap.size 5 A' n' c' (l ++ volB v) ∧ n' = n + 18 ∧ Below w.heap.size w w' := by
  have hlen := Lib.hid hs.len
  go_enter Tryz.func134, Tryz.ntmps134
  go_wp2_with fail
  generalize hw1 : w.alloc (.cells #[.string v.name, .bool v.ro, .int .i64 v.root, .int .i64 v.next] 84) = w1
  have V1 : VB w1 w.heap.size v := by rw [← hw1]; exact VB.new w v _
  have b1 : Below w.heap.size w w1 := by rw [← hw1]; exact (Below.refl _ _).alloc (Nat.le_refl _) _
  have z1 : w1.heap.size = w.heap.size + 1 := by rw [← hw1]; simp
  rw [← z1]
  clear hw1
  have o2 : Own (w1.alloc (.cells ((List.replicate 10 (0 : UInt8)).map bv).toArray 226)) w1.heap.size 226 (some ⟨w1.heap.size, 0, none⟩) 10 10 (List.replicate 10 0) :=
    Own.of_whole (Nat.le_refl _) (heap_alloc_new w1 _) (by simp) (by unfold maxLen; omega)
  have b2 : Below w1.heap.size w1 (w1.alloc (.cells ((List.replicate 10 (0 : UInt8)).map bv).toArray 226)) := (Below.refl _ _).alloc (Nat.le_refl _) _
  rw [show ((List.replicate 10 (0 : UInt8)).map bv).toArray = #[.int .u8 0, .int .u8 0, .int .u8 0, .int .u8 0, .int .u8 0, .int .u8 0, .int .u8 0, .int .u8 0, .int .u8 0, .int .u8 0] from rfl] at o2 b2
  generalize w1.alloc (.cells #[.int .u8 0, .int .u8 0, .int .u8 0, .int .u8 0, .int .u8 0, .int .u8 0, .int .u8 0, .int .u8 0, .int .u8 0, .int .u8 0] 226) = w2 at o2 b2 ⊢
  have V2 := V1.below b2 V1.lt
  have z2 : w1.heap.size ≤ w2.heap.size := b2.size
  have hlt2 : w1.heap.size < w2.heap.size := (o2.block _ rfl).2
  have B2 : Below w.heap.size w w2 := b1.trans (b2.mono (by omega))
  obtain ⟨bn, hbn⟩ : ∃ bn, w1.heap.size = bn := ⟨_, rfl⟩
  have hsn := fun w' => sl_name bn w'
  rw [hbn] at o2 hlt2 ⊢
  have hbv : w.heap.size < bn := by omega
  have q2 := V2.c0
  obtain ⟨ps, hps⟩ : ∃ ps, splice (List.replicate 10 (0 : UInt8)) 0 v.name.data.toList = ps := ⟨_, rfl⟩
  have hps2 := Lib.hid (hps.symm.trans (pad_splice v.name hv))
  have hS : ∀ w' : World, Below bn w2 w' → w'.cell? ⟨w.heap.size, 0, none⟩ = some (.string v.name) ∧ Below bn w2 w' := fun w' hb => ⟨(hb.cell (p := ⟨w.heap.size, 0, none⟩) hbv).trans q2, hb⟩
  have BD : Below bn w2 w2.drew := (Below.refl _ _).drew
  go_region_held3 (fun w' => w'.cell? ⟨w.heap.size, 0, none⟩ = some (.string v.name) ∧ Below bn w2 w')
    (first | assumption | exact hS _ BD | exact hS _ bb3)
    (first
      | (refine step_copy_s rfl (.tmp 6) (.tmp 8) 35 9 5 rfl Tryz.underlying35 (by kernel_rfl) bn bn 10 (List.replicate 10 0) 226 (by first | exact o2 | exact o2.drew) v.name rfl rfl hv ?_; intro w3 own3 hb3; rw [hps] at own3; have bb3 : Below bn w2 w3 := (by first | exact BD.trans hb3 | exact hb3))
      | fail)
  have B3 : Below w.heap.size w w3 := B2.trans (bb3.mono (by omega))
  have V3 := V2.below bb3 hbv
  have hs3 := hs.below B3
  have z3 := (own3.block _ rfl).2
  rw [hps2.out] at own3
  clear hS BD o2 hs q2 V2 V1 b1 b2 B2 bb3 hb3 hps
  go_wp2_with fail
  have q3 := V3.c0
  have hS : ∀ w' : World, Below w3.heap.size w3 w' → w'.cell? ⟨w.heap.size, 0, none⟩ = some (.string v.name) ∧ Below w3.heap.size w3 w' := fun w' hb => ⟨(hb.cell (p := ⟨w.heap.size, 0, none⟩) V3.lt).trans q3, hb⟩
  have BD : Below w3.heap.size w3 w3.drew := (Below.refl _ _).drew
  have z4 : w3.heap.size ≤ w3.drew.heap.size := Nat.le_refl _
  have p1 : (1 : Int) ≤ 1 := by omega
  have p2 : (1 : Int) ≤ 8 := by omega
  have p3 : n ≤ 17592186044416 := by omega
  have own3s := own3.sl
  go_region_held3 (fun w' => w'.cell? ⟨w.heap.size, 0, none⟩ = some (.string v.name) ∧ Below w3.heap.size w3 w')
    (first | assumption | exact hS _ BD | exact hS _ bb5 | exact hS _ bb6)
    (first
      | ((refine stepx_append_b T22 rfl (.tmp 14) (.tmp 15) rfl w3.heap.size A5 n5 c5 _ rfl own5 (some ⟨bn, 0, none⟩) 10 10 (padL v.name) rfl (own3s.below bb5) p5 bb5.size ?_); intro A6 c6 w6 own6 hb6; have bb6 : Below w3.heap.size w3 w6 := bb5.trans hb6)
      | (go_at_call 110; refine (putin_s A n c _ (v.name.size : Int) 1 _ hs3.drew p3 p1 p2).mono ?_; rintro e w5 ⟨A5, n5, c5, rfl, own5', hn5, hb5⟩; have own5 : Own w5 w3.heap.size 5 A5 n5 c5 _ := own5'; have bb5 : Below w3.heap.size w3 w5 := BD.trans (hb5.mono z4); have p5 : n5 + 10 ≤ 140737488355328 := by omega)
      | fail)
  all_goals
    have V6 := V3.below bb6 V3.lt
    have B6 := B3.trans (bb6.mono B3.size)
    have own6 := own6.less B3.size
    clear hS BD own5 own5' hb5 hb6 bb5 bb6 own3 own3s hs3 V3 B3 hsn p5 z4 hps2 z1 hbn hlt2 hbv z2 z3 q3
    have q6 := V6.c1
    go_wp2_with fail
    refine (sdigit_any v.ro _).mono ?_
    rintro e w7 ⟨rfl, rfl⟩
    go_wp2_with fail
    refine (putin_s A6 (n5 + 10) c6 _ (dgt v.ro) 1 _ own6.sl (by omega) (by omega) (by omega)).mono ?_
    rintro e w7 ⟨A7, n7, c7, rfl, own7, hn7, hb7⟩
    have V7 := V6.below hb7 V6.lt
    have B7 := B6.trans (hb7.mono B6.size)
    have q7 := V7.c2
    clear q6
    go_wp2_with fail
    refine (putin_s A7 n7 c7 _ v.root 2 _ own7.sl (by omega) (by omega) (by omega)).mono ?_
    rintro e w8 ⟨A8, n8, c8, rfl, own8, hn8, hb8⟩
    have V8 := V7.below hb8 V7.lt
    have B8 := B7.trans (hb8.mono B7.size)
    have q8 := V8.c3
    clear q7
    go_wp2_with fail
    refine (putin_s A8 n8 c8 _ v.next 4 _ own8.sl (by omega) (by omega) (by omega)).mono ?_
    rintro e w9 ⟨A9, n9, c9, rfl, own9, hn9, hb9⟩
    have B9 := B8.trans (hb9.mono B8.size)
    go_wp2
    go_ret
    refine ⟨A9, n9, c9, rfl, ?_, by omega, B9⟩
    have e9 : l ++ dig (v.name.size : Int) (1 : Int).toNat ++ padL v.name ++ dig (dgt v.ro) (1 : Int).toNat ++ dig v.root (2 : Int).toNat ++ dig v.next (4 : Int).toNat = l ++ volB v := by
      unfold volB
      simp only [List.append_assoc]
      rfl
    rw [e9] at own9
    exact own9.less B8.size
end Go.Proofs.YtgedmodnkiijkaaGreatDoor

namespace Go.Proofs.YtgedmodnkiijkaaGreatDoor
open Go Go.RowKit Go.Proofs

theorem grd_vl (op : BinOp) (x y : Operand) (xs ys : Array Value) (w : World) : (eqGuard op 84 x y (.agg xs) (.agg ys)).run Tryz.prog w = .ok () w :=
  run_eqGuard_agg w op 84 x y xs ys (by kernel_rfl)
theorem neq_v0 (x : Vl) (r : Bool) (h : x.same Vl.zero = r) (w : World) : (binOp .neq 84 (.agg #[.string x.name, .bool x.ro, .int .i64 x.root, .int .i64 x.next]) (.agg #[.string ⟨#[]⟩, .bool false, .int .i64 0, .int .i64 0])).run Tryz.prog w = .ok (.bool (!r)) w := neq_vl x Vl.zero r h w
theorem SB.volsl {w : World} {b : Nat} {S : Sp} (H : SB w b S) {k : Nat} (hk : k ≤ 8) : Vols w (some ⟨b, 3, none⟩) k 8 (S.vols.take k) := by
  have := H.sls.take hk
  unfold Vols
  rwa [List.map_take]

theorem sl_va (b k : Nat) (hk : k ≤ 8) (w : World) : (Instr.sliceAt 85 (.pointer (some ⟨b, 3, none⟩)) none (some (.int .i64 (k : Int))) none).run Tryz.prog w = .ok (.slice (some ⟨b, 3, none⟩) k 8) w := by
  have hl : Tryz.prog.arrayLen 85 = 8 := by kernel_rfl
  have hs : (sizeOf (Tryz.prog.elem 85)).run Tryz.prog w = .ok 4 w := by kernel_rfl
  rw [run_sliceAt_array_h w 85 _ (by kernel_rfl) .i64 _ (by omega) (by rw [hl]; omega), hs, hl]
  simp [slicedAt, Result.andThen, Addr.add_mid]

set_option maxRecDepth 100000 in
set_option maxHeartbeats 4000000 in
theorem smay_any (S : Sp) (r : Bool) (hr : S.may = r) (hf : S.fine) (w : World) :
    Calls Tryz.prog 34 #[.agg S.vs.toArray] w fun e w' => e = .returned (.bool r) ∧ Below w.heap.size w w' := by
  subst hr
  have H1 := SB.new w S 87
  have b1 : Below w.heap.size w (w.alloc (.cells S.vs.toArray 87)) := (Below.refl _ _).alloc (Nat.le_refl _) _
  have q0 := H1.c0
  have q1 := H1.c1
  have q2 := H1.c2
  go_enter Tryz.func34, Tryz.ntmps34
  go_wp2_with fail
  generalize w.alloc (.cells S.vs.toArray 87) = w1 at H1 b1 q0 q1 q2 ⊢
  by_cases hg : 1 ≤ S.gen ∧ S.gen ≤ 1099511627775
  · refine (swithin_any S.gen 1 1099511627775 true (decide_eq_true hg) _).mono ?_
    rintro e w2 ⟨rfl, rfl⟩
    go_wp2_with fail
    by_cases hs : 32 ≤ S.sectors ∧ S.sectors ≤ 2048
    · refine (swithin_any S.sectors 32 2048 true (decide_eq_true hs) _).mono ?_
      rintro e w2 ⟨rfl, rfl⟩
      go_wp2_with fail
      by_cases hl : 0 ≤ S.log ∧ S.log ≤ S.sectors - 1
      · refine (swithin_any S.log 0 (S.sectors - 1) true (decide_eq_true hl) _).mono ?_
        rintro e w2 ⟨rfl, rfl⟩
        have hhd : S.hd = true := decide_eq_true (by omega)
        have Hyes := Lib.hid (fun h => may_yes (S := S) hhd h)
        go_wp2_with (first
          | (refine wp_load_va rfl (.tmp 24) rfl w.heap.size rfl S H1 ?_)
          | fail)
        go_loopw [26] (fun i wr => ∃ k : Nat, k ≤ 8 ∧ i = .int .i64 (k : Int) ∧ (∀ j < k, S.ok1 j = true) ∧ Below w1.heap.size w1 wr) (fun i _ => 8 - (intOf i).toNat)
        case atStart => exact ⟨0, by omega, rfl, fun j hj => by omega, Below.refl _ _⟩
        case round =>
          obtain ⟨k, hk, rfl, hall, hB⟩ := hrel
          by_cases hlt : k < 8
          · have hix := ix_vl S hlt
            have hk0 : (0 : Int) ≤ (k : Int) := by omega
            obtain ⟨x, hx⟩ : ∃ x, S.at_ k = x := ⟨_, rfl⟩
            have hsz := hf k hlt
            rw [hx] at hix hsz
            have hok1 := Lib.hid (show S.ok1 k = (x.same Vl.zero || (x.ok S.sectors && !namedL (S.vols.take k) x.name)) by unfold Sp.ok1; rw [hx])
            clear hx
            have Hr := H1.below hB H1.lt
            go_wp2_with fail
            have bx : Below wr.heap.size wr (wr.alloc (.cells #[.string x.name, .bool x.ro, .int .i64 x.root, .int .i64 x.next] 84)) := (Below.refl _ _).alloc (Nat.le_refl _) _
            have x0 : (wr.alloc (.cells #[.string x.name, .bool x.ro, .int .i64 x.root, .int .i64 x.next] 84)).heap[wr.heap.size]? = some (.cells #[.string x.name, .bool x.ro, .int .i64 x.root, .int .i64 x.next] 84 (0, 0)) := heap_alloc_new wr _
            have zx : wr.heap.size < (wr.alloc (.cells #[.string x.name, .bool x.ro, .int .i64 x.root, .int .i64 x.next] 84)).heap.size := by simp
            generalize wr.alloc (.cells #[.string x.name, .bool x.ro, .int .i64 x.root, .int .i64 x.next] 84) = wx at bx x0 zx ⊢
            have Hx := Hr.below bx Hr.lt
            have q0 : ∀ u : Grown wx, u.to.cell? ⟨wr.heap.size, 0, none⟩ = some (.string x.name) := Grown.cell (by rw [cell_of_row _ _ _ _ _ _ x0]; rfl) zx
            have q1 : ∀ u : Grown wx, u.to.cell? ⟨wr.heap.size, 1, none⟩ = some (.bool x.ro) := Grown.cell (by rw [cell_of_row _ _ _ _ _ _ x0]; rfl) zx
            have q2 : ∀ u : Grown wx, u.to.cell? ⟨wr.heap.size, 2, none⟩ = some (.int .i64 x.root) := Grown.cell (by rw [cell_of_row _ _ _ _ _ _ x0]; rfl) zx
            have q3 : ∀ u : Grown wx, u.to.cell? ⟨wr.heap.size, 3, none⟩ = some (.int .i64 x.next) := Grown.cell (by rw [cell_of_row _ _ _ _ _ _ x0]; rfl) zx
            have q4 : ∀ u : Grown wx, u.to.cell? ⟨w.heap.size, 1, none⟩ = some (.int .i64 S.sectors) := Grown.cell Hx.c1 Hx.lt
            have hBx := hB.trans (bx.mono hB.size)
            have hG := grd_vl
            have hsv := sl_va w.heap.size k (by omega)
            clear x0 hix
            obtain ⟨z, hz⟩ : ∃ z, x.same Vl.zero = z := ⟨_, rfl⟩
            have hneq := neq_v0 x z hz
            cases z
            · obtain ⟨m, hmv⟩ : ∃ m, x.ok S.sectors = m := ⟨_, rfl⟩
              cases m
              · have hno := Lib.hid (may_no (S := S) hlt (by rw [hok1.out, hz, hmv]; rfl))
                refine wp_region_grown (by kernel_rfl) (by kernel_rfl) ?_
                repeat (go_big_quiet_step (first
                  | (go_at_call 59; exact Calls.grown (smayvol_any x S.sectors hs.1 hs.2 false hmv hsz _))
                  | fail))
                refine wpQuiet_nil ?_
                rintro _ ⟨u, rfl⟩
                have hBu := hBx.trans (u.ok.mono hBx.size)
                go_wp2
                go_ret
                exact ⟨by rw [hno.out]; rfl, b1.trans (hBu.mono b1.size)⟩
              · obtain ⟨nm, hnm⟩ : ∃ nm, namedL (S.vols.take k) x.name = nm := ⟨_, rfl⟩
                cases nm
                · have HZ := Lib.hid (show (x.same Vl.zero || (x.ok S.sectors && !namedL (S.vols.take k) x.name)) = true by rw [hmv, hnm]; simp)
                  refine wp_region_grown (by kernel_rfl) (by kernel_rfl) ?_
                  repeat (go_big_quiet_step (first
                    | (go_at_call 59; exact Calls.grown (smayvol_any x S.sectors hs.1 hs.2 true hmv hsz _))
                    | (go_at_call 60; exact Calls.grown (snamed_any (S.vols.take k) x.name false hnm _ k 8 _ ((Hx.below (Grown.ok _) Hx.lt).volsl (by omega)) (by omega)))
                    | fail))
                  refine wpQuiet_nil ?_
                  rintro _ ⟨u, rfl⟩
                  have hBu := hBx.trans (u.ok.mono hBx.size)
                  go_wp2
                  refine ⟨⟨k + 1, by omega, by go_num, fun j hj => ?_, hBu⟩, by simp [intOf]; omega⟩
                  by_cases hjk : j = k
                  · rw [hjk, hok1.out, HZ.out]
                  · exact hall j (by omega)
                · have hno := Lib.hid (may_no (S := S) hlt (by rw [hok1.out, hz, hmv, hnm]; rfl))
                  refine wp_region_grown (by kernel_rfl) (by kernel_rfl) ?_
                  repeat (go_big_quiet_step (first
                    | (go_at_call 59; exact Calls.grown (smayvol_any x S.sectors hs.1 hs.2 true hmv hsz _))
                    | (go_at_call 60; exact Calls.grown (snamed_any (S.vols.take k) x.name true hnm _ k 8 _ ((Hx.below (Grown.ok _) Hx.lt).volsl (by omega)) (by omega)))
                    | fail))
                  refine wpQuiet_nil ?_
                  rintro _ ⟨u, rfl⟩
                  have hBu := hBx.trans (u.ok.mono hBx.size)
                  go_wp2
                  go_ret
                  exact ⟨by rw [hno.out]; rfl, b1.trans (hBu.mono b1.size)⟩
            · have HZ := Lib.hid (show (x.same Vl.zero || (x.ok S.sectors && !namedL (S.vols.take k) x.name)) = true by rw [hz]; rfl)
              refine wp_region_grown (by kernel_rfl) (by kernel_rfl) ?_
              repeat (go_big_quiet_step (first
                | fail))
              refine wpQuiet_nil ?_
              rintro _ ⟨u, rfl⟩
              have hBu := hBx.trans (u.ok.mono hBx.size)
              go_wp2
              refine ⟨⟨k + 1, by omega, by go_num, fun j hj => ?_, hBu⟩, by simp [intOf]; omega⟩
              by_cases hjk : j = k
              · rw [hjk, hok1.out, HZ.out]
              · exact hall j (by omega)
          · have hk8 : k = 8 := by omega
            have hyes := Lib.hid (Hyes.out (by rw [← hk8]; exact hall))
            go_wp2
            go_ret
            exact ⟨by rw [hyes.out]; rfl, b1.trans (hB.mono b1.size)⟩
      · refine (swithin_any S.log 0 (S.sectors - 1) false (decide_eq_false hl) _).mono ?_
        rintro e w2 ⟨rfl, rfl⟩
        have Hno := Lib.hid (may_hd (S := S) (decide_eq_false (by omega)))
        go_wp2
        go_ret
        exact ⟨by rw [Hno.out]; rfl, b1⟩
    · refine (swithin_any S.sectors 32 2048 false (decide_eq_false hs) _).mono ?_
      rintro e w2 ⟨rfl, rfl⟩
      have Hno := Lib.hid (may_hd (S := S) (decide_eq_false (by omega)))
      go_wp2
      go_ret
      exact ⟨by rw [Hno.out]; rfl, b1⟩
  · refine (swithin_any S.gen 1 1099511627775 false (decide_eq_false hg) _).mono ?_
    rintro e w2 ⟨rfl, rfl⟩
    have Hno := Lib.hid (may_hd (S := S) (decide_eq_false (by omega)))
    go_wp2
    go_ret
    exact ⟨by rw [Hno.out]; rfl, b1⟩
end Go.Proofs.YtgedmodnkiijkaaGreatDoor
