/- The laws' few of layer 6; the reference's Same. -/
import Derived.Test.YtmebdjafnefneaaDoorPkNA
import Derived.Deep.RegionHeld3
import Derived.Deep.QuietTactic
import Derived.BigQuiet
namespace Go.Proofs.YtmebdjafnefneaaDoor
open Go Go.RowKit Go.Proofs

theorem NB.range {w : World} {b : Nat} {l : Int} {A B : Option Addr} {n c m d : Nat} (H : NB w b l A n c B m d) : w.rangeAt b 0 [.int .i64 l, .slice A n c, .slice B m d] := fun j v hv => by
  obtain ⟨t, H⟩ := H
  rw [cell_of_row _ _ _ _ _ _ H, Nat.zero_add]
  simpa using hv
theorem load_nd {w : World} {b : Nat} {l : Int} {A B : Option Addr} {n c m d : Nat} (H : NB w b l A n c B m d) : (loadVar 25 ⟨b, 0, none⟩).run Tryd.prog w = .ok (.agg #[.int .i64 l, .slice A n c, .slice B m d]) w :=
  run_loadVar_mid w b 0 25 _ _ H.range Tryd.underlying25 rfl (by kernel_rfl)
theorem NB.new2 (w : World) (o : Obj) (l : Int) (A : Option Addr) (n c : Nat) (B : Option Addr) (m d : Nat) (t : TypeId) : NB ((w.alloc o).alloc (.cells #[.int .i64 l, .slice A n c, .slice B m d] t)) (w.heap.size + 1) l A n c B m d := by
  have := NB.new (w.alloc o) l A n c B m d t
  rwa [World.size_alloc] at this
/-- At most 20 of each. -/
def Nd.few (N : Nd) : Nd := ⟨N.lvl, N.items.take 20, N.kids.take 20⟩
set_option maxHeartbeats 4000000 in
theorem nfew_any (N : Nd) (A : Option Addr) (n c : Nat) (B : Option Addr) (m d : Nat) (w : World) (hI : Itms w A n c N.items) (hK : Kidl w B m d N.kids) :
    Calls Tryd.prog 10 #[.agg #[.int .i64 N.lvl, .slice A n c, .slice B m d]] w fun e w' => ∃ n' m', e = .returned (.agg #[.int .i64 N.lvl, .slice A n' c, .slice B m' d]) ∧ n' ≤ 20 ∧ m' ≤ 20 ∧ Itms w' A n' c N.few.items ∧ Kidl w' B m' d N.few.kids ∧ Below w.heap.size w w' := by
  obtain ⟨hc1, hc2⟩ := hI.bounds
  obtain ⟨hd1, hd2⟩ := hK.bounds
  unfold maxLen at hc2 hd2
  have HlI := Lib.hid hI.len
  have HlK := Lib.hid hK.len
  have hB : ∀ o1 o2, Below w.heap.size w ((w.alloc o1).alloc o2) := fun o1 o2 => ((Below.refl _ _).alloc (Nat.le_refl _) o1).alloc (by simp) o2
  have hI20 : 20 < n → Itms w A 20 c N.few.items := fun h => hI.take (by omega)
  have hI0 : ¬ 20 < n → Itms w A n c N.few.items := fun h => by
    show Itms w A n c (N.items.take 20)
    rw [List.take_of_length_le (by rw [HlI.out]; omega)]
    exact hI
  have hK20 : 20 < m → Kidl w B 20 d N.few.kids := fun h => hK.take (by omega)
  have hK0 : ¬ 20 < m → Kidl w B m d N.few.kids := fun h => by
    show Kidl w B m d (N.kids.take 20)
    rw [List.take_of_length_le (by rw [HlK.out]; omega)]
    exact hK
  by_cases h1 : 20 < n
  · have h1' : (20 : Int) < (n : Int) := by omega
    have i1 : (20 : Int) ≤ (c : Int) := by omega
    by_cases h2 : 20 < m
    · have h2' : (20 : Int) < (m : Int) := by omega
      have i2 : (20 : Int) ≤ (d : Int) := by omega
      go_enter Tryd.func10, Tryd.ntmps10
      go_wp2
      refine bodyPost_ret (res_c1 Tryd.results10 rfl (load_nd (NB.new2 w _ N.lvl A 20 c B 20 d _))) rfl ?_
      exact ⟨20, 20, rfl, by omega, by omega, (hI20 h1).below (hB _ _), (hK20 h2).below (hB _ _), hB _ _⟩
    · have h2' : ¬ (20 : Int) < (m : Int) := by omega
      go_enter Tryd.func10, Tryd.ntmps10
      go_wp2
      refine bodyPost_ret (res_c1 Tryd.results10 rfl (load_nd (NB.new2 w _ N.lvl A 20 c B m d _))) rfl ?_
      exact ⟨20, m, rfl, by omega, by omega, (hI20 h1).below (hB _ _), (hK0 h2).below (hB _ _), hB _ _⟩
  · have h1' : ¬ (20 : Int) < (n : Int) := by omega
    by_cases h2 : 20 < m
    · have h2' : (20 : Int) < (m : Int) := by omega
      have i2 : (20 : Int) ≤ (d : Int) := by omega
      go_enter Tryd.func10, Tryd.ntmps10
      go_wp2
      refine bodyPost_ret (res_c1 Tryd.results10 rfl (load_nd (NB.new2 w _ N.lvl A n c B 20 d _))) rfl ?_
      exact ⟨n, 20, rfl, by omega, by omega, (hI0 h1).below (hB _ _), (hK20 h2).below (hB _ _), hB _ _⟩
    · have h2' : ¬ (20 : Int) < (m : Int) := by omega
      go_enter Tryd.func10, Tryd.ntmps10
      go_wp2
      refine bodyPost_ret (res_c1 Tryd.results10 rfl (load_nd (NB.new2 w _ N.lvl A n c B m d _))) rfl ?_
      exact ⟨n, m, rfl, by omega, by omega, (hI0 h1).below (hB _ _), (hK0 h2).below (hB _ _), hB _ _⟩
end Go.Proofs.YtmebdjafnefneaaDoor
