/- Inode's Put and Take, of inodes; its keys. -/
import Derived.Test.YtimlhhemfipooaaInC
import Derived.Test.YtimlhhemfipooaaKeyPl
namespace Go.Proofs.Ytimlhhemfipooaa
open Go Go.RowKit Go.Proofs

/-- An inode as plain data. -/
structure Ino where
  kind : Int
  links : Int
  size : Int
def Ino.x (i : Ino) : Nat → Int
  | 0 => i.kind
  | 1 => i.links
  | _ => i.size
def Ino.may (i : Ino) : Bool := decide ((1 ≤ i.kind ∧ i.kind ≤ 2) ∧ (0 ≤ i.links ∧ i.links ≤ 65535) ∧ 0 ≤ i.size ∧ i.size ≤ 2147483647)
def Ino.bytes (i : Ino) : List UInt8 := dig i.kind 1 ++ (dig i.links 2 ++ dig i.size 4)
def Ino.vs (i : Ino) : List Value := [.int .i64 i.kind, .int .i64 i.links, .int .i64 i.size]
/-- What bytes say, and whether they are an inode's. -/
def inoOf (l : List UInt8) : Ino := ⟨numL (l.take 1), numL ((l.drop 1).take 2), numL ((l.drop 3).take 4)⟩
def inoOk (l : List UInt8) : Bool := decide (l.length = 7) && (inoOf l).may

theorem mayF3 (a b c : Fl) (x : Nat → Int) : mayF [a, b, c] x = (inF a (x 0) && (inF b (x 1) && inF c (x 2))) := by
  simp [mayF, List.range, List.range.loop, flAt]
theorem mayF2 (a b : Fl) (x : Nat → Int) : mayF [a, b] x = (inF a (x 0) && inF b (x 1)) := by
  simp [mayF, List.range, List.range.loop, flAt]
theorem mayF1 (a : Fl) (x : Nat → Int) : mayF [a] x = inF a (x 0) := by
  simp [mayF, List.range, List.range.loop, flAt]
theorem ino_may (b : Nat) (i : Ino) (x : Nat → Int) (h0 : x 0 = i.kind) (h1 : x 1 = i.links) (h2 : x 2 = i.size) : mayF (inoFs b) x = i.may := by
  unfold inoFs
  rw [mayF3, h0, h1, h2]
  unfold inF Ino.may
  simp only [Bool.decide_and]
theorem ino_wid (b j : Nat) (hj : j < 3) : 1 ≤ (flAt (inoFs b) j).wid ∧ (flAt (inoFs b) j).wid ≤ 7 := by
  match j, hj with
  | 0, _ => simp [flAt, inoFs]
  | 1, _ => simp [flAt, inoFs]
  | 2, _ => simp [flAt, inoFs]
theorem ino_off (b j : Nat) (r : List Value) (hr : r.length = 3) (hj : j < 3) : (flAt (inoFs b) j).b = b ∧ (flAt (inoFs b) j).o < r.length := by
  rw [hr]
  match j, hj with
  | 0, _ => simp [flAt, inoFs]
  | 1, _ => simp [flAt, inoFs]
  | 2, _ => simp [flAt, inoFs]
theorem ino_rd (b : Nat) (l : List UInt8) : rdI (inoFs b) l 0 = (inoOf l).kind ∧ rdI (inoFs b) l 1 = (inoOf l).links ∧ rdI (inoFs b) l 2 = (inoOf l).size := ⟨rfl, rfl, rfl⟩
theorem ino_tk (b : Nat) (l : List UInt8) : tkF (inoFs b) l = inoOk l := by
  unfold tkF inoOk
  rw [ino_may b (inoOf l) _ rfl rfl rfl]
  rfl
theorem ino_set (b : Nat) (l : List UInt8) (r : List Value) (hr : r.length = 3) : setF (inoFs b) (rdI (inoFs b) l) r 3 = (inoOf l).vs := by
  match r, hr with
  | [_, _, _], _ => rfl
theorem ino_rdset (b : Nat) (l : List UInt8) (r : List Value) (hr : r.length = 3) (j : Nat) (hj : j < 3) : (setF (inoFs b) (rdI (inoFs b) l) r 3)[(flAt (inoFs b) j).o]? = some (.int .i64 (rdI (inoFs b) l j)) := by
  rw [ino_set b l r hr]
  match j, hj with
  | 0, _ => rfl
  | 1, _ => rfl
  | 2, _ => rfl
theorem ino_put (b : Nat) (i : Ino) : putF (inoFs b) i.x [] 3 = i.bytes := by
  simp [putF, inoFs, flAt, Ino.x, Ino.bytes]
theorem ino_nums {w : World} {b : Nat} {i : Ino} (H : IB w b i.vs) : Nums w (inoFs b) i.x := fun j hj => by
  match j, hj with
  | 0, _ => exact ⟨H.lt, H.cell 0 rfl⟩
  | 1, _ => exact ⟨H.lt, H.cell 1 rfl⟩
  | 2, _ => exact ⟨H.lt, H.cell 2 rfl⟩

theorem wp_store_ib {P : Program} {ops : Array Oper} {rest : List Oper} {o : Oper} {a : Act} {w : World} {Q : Exit → Act → World → Prop} (hg : o.guard = none) (ty : TypeId) (x y : Operand) (hop : o.op = Op.store ty x y)
    (b : Nat) (hx : a.eval x = .pointer (some ⟨b, 0, none⟩)) (vs : List Value) (hy : a.eval y = .agg vs.toArray) {r : List Value} (H : IB w b r) (hl : vs.length = r.length) (hi : (P.info? ty).map (·.size) = some vs.length) (h1 : vs.all (·.oneCell') = true)
    (hK : ∀ w', IB w' b vs → Turn (fun g => g = b) w w' → wpList P ops Q rest (a.put o.dst undef) w') : wpList P ops Q (o :: rest) a w :=
  wpList_store_mid hg _ x y hop b 0 vs.toArray hx hy (by have := H.there; simpa [hl] using this) (by simpa using hi) (all_oneCell_toArray (fun v hv => (List.all_eq_true.1 h1) v hv)) (hK _ (H.all vs hl) (turn_setCells (S := fun g => g = b) rfl _ 0 w))
theorem wp_load_ib {P : Program} {ops : Array Oper} {rest : List Oper} {o : Oper} {a : Act} {w : World} {Q : Exit → Act → World → Prop} (hg : o.guard = none) (ty : TypeId) (x : Operand) (hop : o.op = Op.load ty x)
    (b : Nat) (hx : a.eval x = .pointer (some ⟨b, 0, none⟩)) (vs : List Value) (H : IB w b vs) {d : TypeDesc} (hu : P.underlying ty = some d) (hd : d.isRow = true) (hi : (P.info? ty).map (·.size) = some vs.length)
    (hK : wpList P ops Q rest (a.put o.dst (.agg vs.toArray)) w) : wpList P ops Q (o :: rest) a w :=
  wpList_load_mid hg ty x hop b 0 hx vs d H.range hu hd hi hK
theorem res_i2 {fn : Func} {p a : Tmp} {ty : TypeId} {ad : Addr} {v : Value} {P : Program} {w : World} {tmps : Array Value} (h : fn.results = #[.cell p ty, .tmp a]) (hp : tmps.getD p undef = .pointer (some ad)) (hl : (loadVar ty ad).run P w = .ok v w) :
    (results fn tmps).run P w = .ok (.tuple #[v, tmps.getD a undef]) w := by
  have e : (results fn tmps).run P w = ((asAddr (tmps.getD p undef)).run P w).andThen fun ad w₁ => ((loadVar ty ad).run P w₁).andThen fun v w₂ => .ok (.tuple #[v, tmps.getD a undef]) w₂ := by
    simp only [results, h]
    simp [Sem.run_bind, Result.andThen]
  rw [e, hp]
  simp [asAddr, hl]
theorem load_ino {w : World} {b : Nat} {i : Ino} (H : IB w b i.vs) : (loadVar 23 ⟨b, 0, none⟩).run Try.prog w = .ok (.agg #[.int .i64 i.kind, .int .i64 i.links, .int .i64 i.size]) w :=
  run_loadVar_mid w b 0 23 _ _ H.range Try.underlying23 rfl (by kernel_rfl)
theorem load_key {w : World} {b : Nat} {x y z : Int} (H : IB w b [.int .i64 x, .int .i64 y, .int .i64 z]) : (loadVar 45 ⟨b, 0, none⟩).run Try.prog w = .ok (.agg #[.int .i64 x, .int .i64 y, .int .i64 z]) w :=
  run_loadVar_mid w b 0 45 _ _ H.range Try.underlying45 rfl (by kernel_rfl)

set_option maxHeartbeats 1000000 in
theorem iPut_no (i : Ino) (h : i.may = false) (w : World) :
    Calls Try.prog 10 #[.agg #[.int .i64 i.kind, .int .i64 i.links, .int .i64 i.size]] w fun e w' => e = .returned (.tuple #[.slice none 0 0, .int .i64 1]) ∧ Below w.heap.size w w' := by
  have H1 : IB (w.alloc (.cells i.vs.toArray 23)) w.heap.size i.vs := IB.new w _ _
  have b1 : Below w.heap.size w (w.alloc (.cells i.vs.toArray 23)) := blA
  unfold Ino.vs at b1
  go_enter Try.func10, Try.ntmps10
  go_wp2_with (first
    | (go_at_call 27; refine (inoFs_any w.heap.size _).mono ?_; rintro e w2 ⟨g, rfl, hF, hg, hb2⟩)
    | (go_at_call 26; refine (iput_no (inoFs w.heap.size) i.x _ _ _ _ _ _ w2 hF (ino_nums (H1.below hb2 H1.lt)) (by rw [ino_may _ i _ rfl rfl rfl]; exact h)).mono ?_; rintro e w3 ⟨rfl, hb3⟩))
  go_ret2
  exact ⟨rfl, b1.trans ((hb2.mono b1.size).trans (hb3.mono (Nat.le_trans b1.size hb2.size)))⟩
set_option maxHeartbeats 1000000 in
theorem iPut_yes (i : Ino) (h : i.may = true) (w : World) :
    Calls Try.prog 10 #[.agg #[.int .i64 i.kind, .int .i64 i.links, .int .i64 i.size]] w fun e w' => ∃ A n c, e = .returned (.tuple #[.slice A n c, .int .i64 0]) ∧ Sl w' A n c i.bytes ∧ Below w.heap.size w w' := by
  have H1 : IB (w.alloc (.cells i.vs.toArray 23)) w.heap.size i.vs := IB.new w _ _
  have b1 : Below w.heap.size w (w.alloc (.cells i.vs.toArray 23)) := blA
  unfold Ino.vs at b1
  go_enter Try.func10, Try.ntmps10
  go_wp2_with (first
    | (go_at_call 27; refine (inoFs_any w.heap.size _).mono ?_; rintro e w2 ⟨g, rfl, hF, hg, hb2⟩)
    | (go_at_call 26; refine (iput_yes (inoFs w.heap.size) i.x _ _ _ none 0 0 [] w2 hF (ino_nums (H1.below hb2 H1.lt)) (by rw [ino_may _ i _ rfl rfl rfl]; exact h) (sl_nil _) (by omega) (by omega) (ino_wid _)).mono ?_; rw [ino_put]; rintro e w3 ⟨A3, n3, c3, rfl, hs3, hb3⟩))
  go_ret2
  exact ⟨A3, n3, c3, rfl, hs3, b1.trans ((hb2.mono b1.size).trans (hb3.mono (Nat.le_trans b1.size hb2.size)))⟩

/-- A header of what Take makes: its result's block, and the inode's. -/
theorem two_new (w : World) (r s : List Value) (t u : TypeId) : IB ((w.alloc (.cells r.toArray t)).alloc (.cells s.toArray u)) w.heap.size r ∧ IB ((w.alloc (.cells r.toArray t)).alloc (.cells s.toArray u)) (w.heap.size + 1) s ∧
    Below w.heap.size w ((w.alloc (.cells r.toArray t)).alloc (.cells s.toArray u)) ∧ ((w.alloc (.cells r.toArray t)).alloc (.cells s.toArray u)).heap.size = w.heap.size + 2 := by
  have h2 := IB.new (w.alloc (.cells r.toArray t)) s u
  rw [World.size_alloc] at h2
  exact ⟨(IB.new w r t).below ((Below.refl _ _).alloc (Nat.le_refl _) _) (by simp), h2, blA.trans ((Below.refl _ _).alloc (by simp) _), by simp⟩
def Ino.zero : Ino := ⟨0, 0, 0⟩
set_option maxRecDepth 10000 in
set_option maxHeartbeats 2000000 in
theorem iTake_no (B : Option Addr) (m d : Nat) (l : List UInt8) (h : inoOk l = false) (w : World) (hs : Sl w B m d l) (hm : m ≤ 1000000) :
    Calls Try.prog 16 #[.slice B m d] w fun e w' => e = .returned (.tuple #[.agg #[.int .i64 0, .int .i64 0, .int .i64 0], .int .i64 3]) ∧ Below w.heap.size w w' := by
  obtain ⟨R1, H1, b1, z1⟩ := two_new w Ino.zero.vs Ino.zero.vs 23 23
  go_enter Try.func16, Try.ntmps16
  go_wp2_with fail
  change Calls _ _ _ ((w.alloc (.cells Ino.zero.vs.toArray 23)).alloc (.cells Ino.zero.vs.toArray 23)) _
  generalize (w.alloc (.cells Ino.zero.vs.toArray 23)).alloc (.cells Ino.zero.vs.toArray 23) = w1 at R1 H1 b1 z1 ⊢
  have s1 := hs.below b1
  refine (inoFs_any (w.heap.size + 1) w1).mono ?_
  rintro e w2 ⟨g, rfl, hF, hg, hb2⟩
  have R2 := R1.below hb2 (by omega)
  have H2 := H1.below hb2 (by omega)
  have s2 := s1.below hb2
  have B2 := b1.trans (hb2.mono b1.size)
  have HT := itake_any (inoFs (w.heap.size + 1)) (some ⟨g, 0, none⟩) 3 3 (w.heap.size + 1) _ B m d l w2 hF (fun g' o e => by injection e with e; injection e with e1; omega) H2 s2 hm (by omega) (ino_wid _) (fun j hj => ino_off _ j _ rfl hj) (fun _ j hj => ino_rdset _ l _ rfl j hj)
  rw [ino_tk, h] at HT
  go_wp2_with (first
    | (go_at_call 35; refine HT.mono ?_; rintro e w3 ⟨rfl, -, T3⟩; have R3 := R2.keep (T3.block _ R2.lt (by show ¬ (w.heap.size = w.heap.size + 1); omega)))
    | (refine wp_store_ib rfl _ _ _ rfl w.heap.size rfl Ino.zero.vs rfl R3 rfl (by kernel_rfl) rfl ?_; intro w4 R4 T4))
  refine bodyPost_ret (res_i2 Try.results16 rfl (load_ino R4)) rfl ⟨rfl, ?_⟩
  exact B2.trans (((T3.below (B := w.heap.size) (fun x hx => by omega) B2.size).trans (T4.below (fun x hx => by omega) (Nat.le_trans B2.size T3.size))))
set_option maxRecDepth 10000 in
set_option maxHeartbeats 2000000 in
theorem iTake_yes (B : Option Addr) (m d : Nat) (l : List UInt8) (h : inoOk l = true) (w : World) (hs : Sl w B m d l) (hm : m ≤ 1000000) :
    Calls Try.prog 16 #[.slice B m d] w fun e w' => e = .returned (.tuple #[.agg #[.int .i64 (inoOf l).kind, .int .i64 (inoOf l).links, .int .i64 (inoOf l).size], .int .i64 0]) ∧ Below w.heap.size w w' := by
  obtain ⟨i, hi⟩ : ∃ i, inoOf l = i := ⟨_, rfl⟩
  rw [hi]
  have Hi := Lib.hid hi
  clear hi
  obtain ⟨R1, H1, b1, z1⟩ := two_new w Ino.zero.vs Ino.zero.vs 23 23
  go_enter Try.func16, Try.ntmps16
  go_wp2_with fail
  change Calls _ _ _ ((w.alloc (.cells Ino.zero.vs.toArray 23)).alloc (.cells Ino.zero.vs.toArray 23)) _
  generalize (w.alloc (.cells Ino.zero.vs.toArray 23)).alloc (.cells Ino.zero.vs.toArray 23) = w1 at R1 H1 b1 z1 ⊢
  have s1 := hs.below b1
  refine (inoFs_any (w.heap.size + 1) w1).mono ?_
  rintro e w2 ⟨g, rfl, hF, hg, hb2⟩
  have R2 := R1.below hb2 (by omega)
  have H2 := H1.below hb2 (by omega)
  have s2 := s1.below hb2
  have B2 := b1.trans (hb2.mono b1.size)
  have HT := itake_any (inoFs (w.heap.size + 1)) (some ⟨g, 0, none⟩) 3 3 (w.heap.size + 1) _ B m d l w2 hF (fun g' o e => by injection e with e; injection e with e1; omega) H2 s2 hm (by omega) (ino_wid _) (fun j hj => ino_off _ j _ rfl hj) (fun _ j hj => ino_rdset _ l _ rfl j hj)
  rw [ino_tk, h, ino_set _ _ _ rfl, Hi.out] at HT
  go_wp2_with (first
    | (go_at_call 35; refine HT.mono ?_; rintro e w3 ⟨rfl, ⟨r', H3', hr'⟩, T3⟩; obtain rfl := hr' trivial; have R3 := R2.keep (T3.block _ R2.lt (by show ¬ (w.heap.size = w.heap.size + 1); omega)))
    | (refine wp_load_ib rfl _ _ rfl (w.heap.size + 1) rfl i.vs H3' Try.underlying23 rfl (by kernel_rfl) ?_)
    | (refine wp_store_ib rfl _ _ _ rfl w.heap.size rfl i.vs rfl R3 rfl (by kernel_rfl) rfl ?_; intro w4 R4 T4))
  refine bodyPost_ret (res_i2 Try.results16 rfl (load_ino R4)) rfl ⟨rfl, ?_⟩
  exact B2.trans (((T3.below (B := w.heap.size) (fun x hx => by omega) B2.size).trans (T4.below (fun x hx => by omega) (Nat.le_trans B2.size T3.size))))

theorem iKey_any (x : Int) (w : World) : Calls Try.prog 22 #[.int .i64 x] w fun e w' => e = .returned (.agg #[.int .i64 x, .int .i64 1, .int .i64 0]) ∧ Below w.heap.size w w' := by
  go_enter Try.func22, Try.ntmps22
  go_wp2
  exact bodyPost_ret (res_i1 Try.results22 rfl (load_key (IB.new w _ _))) rfl ⟨rfl, blA⟩
theorem iEntryKey_any (x y : Int) (w : World) : Calls Try.prog 23 #[.int .i64 x, .int .i64 y] w fun e w' => e = .returned (.agg #[.int .i64 x, .int .i64 2, .int .i64 y]) ∧ Below w.heap.size w w' := by
  go_enter Try.func23, Try.ntmps23
  go_wp2
  exact bodyPost_ret (res_i1 Try.results23 rfl (load_key (IB.new w _ _))) rfl ⟨rfl, blA⟩
theorem iDataKey_any (x y : Int) (w : World) : Calls Try.prog 24 #[.int .i64 x, .int .i64 y] w fun e w' => e = .returned (.agg #[.int .i64 x, .int .i64 3, .int .i64 y]) ∧ Below w.heap.size w w' := by
  go_enter Try.func24, Try.ntmps24
  go_wp2
  exact bodyPost_ret (res_i1 Try.results24 rfl (load_key (IB.new w _ _))) rfl ⟨rfl, blA⟩
theorem iOrphanKey_any (x : Int) (w : World) : Calls Try.prog 25 #[.int .i64 x] w fun e w' => e = .returned (.agg #[.int .i64 0, .int .i64 4, .int .i64 x]) ∧ Below w.heap.size w w' := by
  go_enter Try.func25, Try.ntmps25
  go_wp2
  exact bodyPost_ret (res_i1 Try.results25 rfl (load_key (IB.new w _ _))) rfl ⟨rfl, blA⟩
end Go.Proofs.Ytimlhhemfipooaa
