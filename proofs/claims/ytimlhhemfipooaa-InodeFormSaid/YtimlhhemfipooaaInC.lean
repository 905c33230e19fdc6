/- Inode's rows of fields: of an inode, of an entry, of a chunk's address. -/
import Derived.Test.YtimlhhemfipooaaInB
namespace Go.Proofs.Ytimlhhemfipooaa
open Go Go.RowKit Go.Proofs

def kindFl (b o : Nat) : Fl := ⟨b, o, 1, 1, 2⟩
def inoFs (b : Nat) : List Fl := [⟨b, 0, 1, 1, 2⟩, ⟨b, 1, 2, 0, 65535⟩, ⟨b, 2, 4, 0, 2147483647⟩]
def entFs (b : Nat) : List Fl := [⟨b, 1, 4, 1, 2147483647⟩, ⟨b, 2, 1, 1, 2⟩]
def addrFl (b o : Nat) : Fl := ⟨b, o, 2, 1, 2047⟩
def addrFs (b : Nat) : List Fl := [⟨b, 1, 2, 1, 2047⟩]

theorem load_fl {w : World} {b : Nat} {f : Fl} (H : IB w b f.vs) : (loadVar 60 ⟨b, 0, none⟩).run Try.prog w = .ok (.agg f.vs.toArray) w :=
  run_loadVar_mid w b 0 60 _ _ H.range Try.underlying60 rfl (by kernel_rfl)
theorem res_i1 {fn : Func} {p : Tmp} {ty : TypeId} {ad : Addr} {v : Value} {P : Program} {w : World} {tmps : Array Value} (h : fn.results = #[.cell p ty]) (hp : tmps.getD p undef = .pointer (some ad)) (hl : (loadVar ty ad).run P w = .ok v w) :
    (results fn tmps).run P w = .ok v w := by
  have e : (results fn tmps).run P w = ((asAddr (tmps.getD p undef)).run P w).andThen fun a w₁ => (loadVar ty a).run P w₁ := by
    simp only [results, h]
    simp [Sem.run_bind, Result.andThen]
    try rfl
  rw [e, hp]
  simp [asAddr, hl]

theorem flds_new (w : World) (t : TypeId) (cs : Array Value) (fs : List Fl) (n : Nat) (hc : cs = (fs.map Fl.vs).flatten.toArray) (hn : fs.length = n) (hm : n ≤ 100) : Flds (w.alloc (.cells cs t)) (some ⟨w.heap.size, 0, none⟩) n n fs := by
  have h4 : ∀ x ∈ fs.map Fl.vs, x.length = 4 := fun x hx => by
    obtain ⟨f, _, rfl⟩ := List.mem_map.1 hx
    rfl
  refine ⟨by simpa using hn, Nat.le_refl _, by unfold maxLen; omega, fun j x hx => ⟨w.heap.size, 0, rfl, by simp, h4 x (List.mem_of_getElem? hx), fun i v hv => ?_⟩⟩
  have h5 := fl_get h4 j x hx i v hv
  rw [cell_of_row _ _ _ _ _ _ (heap_alloc_new w _), hc, Nat.zero_add]
  simpa using h5
theorem alB {w w' : World} (u : Grown w) (o : Obj) (h : w' = u.to.alloc o) : Below w.heap.size w w' := by
  subst h
  exact u.ok.trans ((Below.refl _ _).alloc u.ok.size _)

set_option maxHeartbeats 1000000 in
theorem kindField_any (b o : Nat) (w : World) :
    Calls Try.prog 42 #[.pointer (some ⟨b, o, none⟩)] w fun e w' => e = .returned (.agg #[.pointer (some ⟨b, o, none⟩), .int .i64 1, .int .i64 1, .int .i64 2]) ∧ Below w.heap.size w w' := by
  go_enter Try.func42, Try.ntmps42
  go_wp2
  exact bodyPost_ret (res_i1 Try.results42 rfl (load_fl (f := ⟨b, o, 1, 1, 2⟩) (IB.new w _ _))) rfl ⟨rfl, blA⟩
set_option maxHeartbeats 1000000 in
theorem addrField_any (b o : Nat) (w : World) :
    Calls Try.prog 33 #[.pointer (some ⟨b, o, none⟩)] w fun e w' => e = .returned (.agg #[.pointer (some ⟨b, o, none⟩), .int .i64 2, .int .i64 1, .int .i64 2047]) ∧ Below w.heap.size w w' := by
  go_enter Try.func33, Try.ntmps33
  go_wp2
  exact bodyPost_ret (res_i1 Try.results33 rfl (load_fl (f := ⟨b, o, 2, 1, 2047⟩) (IB.new w _ _))) rfl ⟨rfl, blA⟩
set_option maxHeartbeats 1000000 in
theorem inoFs_any (b : Nat) (w : World) :
    Calls Try.prog 27 #[.pointer (some ⟨b, 0, none⟩)] w fun e w' => ∃ g, e = .returned (.slice (some ⟨g, 0, none⟩) 3 3) ∧ Flds w' (some ⟨g, 0, none⟩) 3 3 (inoFs b) ∧ w.heap.size ≤ g ∧ Below w.heap.size w w' := by
  go_enter Try.func27, Try.ntmps27
  go_wp2_with fail
  refine wp_region_tail 12 (by kernel_rfl) (by kernel_rfl) ?_
  simp only [List.take_succ_cons, List.take_zero, List.drop_succ_cons, List.drop_zero]
  repeat (go_big_quiet_step (first | (go_at_call 42; exact Calls.grown (kindField_any b 0 _)) | fail))
  refine wpQuiet_nil ?_
  rintro _ ⟨u, rfl⟩
  go_wp2_with fail
  go_ret
  exact ⟨u.to.heap.size, rfl, flds_new u.to _ _ (inoFs b) 3 rfl rfl (by omega), u.ok.size, alB u _ rfl⟩
set_option maxHeartbeats 1000000 in
theorem entFs_any (b : Nat) (w : World) :
    Calls Try.prog 31 #[.pointer (some ⟨b, 0, none⟩)] w fun e w' => ∃ g, e = .returned (.slice (some ⟨g, 0, none⟩) 2 2) ∧ Flds w' (some ⟨g, 0, none⟩) 2 2 (entFs b) ∧ w.heap.size ≤ g ∧ Below w.heap.size w w' := by
  go_enter Try.func31, Try.ntmps31
  go_wp2_with fail
  refine wp_region_tail 8 (by kernel_rfl) (by kernel_rfl) ?_
  simp only [List.take_succ_cons, List.take_zero, List.drop_succ_cons, List.drop_zero]
  repeat (go_big_quiet_step (first | (go_at_call 42; exact Calls.grown (kindField_any b 2 _)) | fail))
  refine wpQuiet_nil ?_
  rintro _ ⟨u, rfl⟩
  go_wp2_with fail
  go_ret
  exact ⟨u.to.heap.size, rfl, flds_new u.to _ _ (entFs b) 2 rfl rfl (by omega), u.ok.size, alB u _ rfl⟩

theorem imayName_any (s : ByteArray) (r : Bool) (h : decide (1 ≤ s.size ∧ s.size ≤ 20) = r) (w : World) :
    Calls Try.prog 29 #[.string s] w fun e w' => e = .returned (.bool r) ∧ w = w' := by
  go_enter Try.func29, Try.ntmps29
  go_wp2_with (go_at_call 43; refine (iwithin_any (s.size : Int) 1 20 r (by rw [← h]; exact decide_eq_decide.2 (by omega)) w).mono ?_; rintro e w1 ⟨rfl, rfl⟩)
  go_ret
  exact ⟨rfl, rfl⟩
theorem imayInline_any (A : Option Addr) (n c : Nat) (r : Bool) (h : decide (1 ≤ n ∧ n ≤ 24) = r) (w : World) :
    Calls Try.prog 34 #[.slice A n c] w fun e w' => e = .returned (.bool r) ∧ w = w' := by
  go_enter Try.func34, Try.ntmps34
  go_wp2_with (go_at_call 43; refine (iwithin_any (n : Int) 1 24 r (by rw [← h]; exact decide_eq_decide.2 (by omega)) w).mono ?_; rintro e w1 ⟨rfl, rfl⟩)
  go_ret
  exact ⟨rfl, rfl⟩
end Go.Proofs.Ytimlhhemfipooaa
