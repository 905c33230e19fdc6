/- The program's Open, the other ways; Check. -/
import Derived.Test.YtkkmnmiekmfjiaaDoorSealF
namespace Go.Proofs.YtkkmnmiekmfjiaaDoor
open Go Go.RowKit Go.Proofs

set_option maxHeartbeats 4000000 in
theorem open_ne (ad : Addr) (c : Nat) (l : List UInt8) (w : World) (hs : Sl w (some ad) 256 c l) (ht : Tab w) (heq : ¬ l.take 4 = sumB l) : OpenSays (some ad) 256 c l w := by
  unfold OpenSays
  have hlen := hs.len
  have hcap := hs.cap
  have hm := hs.max
  unfold maxLen at hm
  have HZ := HB.zero w 23
  have hb0 : Below w.heap.size w (w.alloc (.cells #[.int .i64 0, .int .i64 0, .int .i64 0, .int .i64 0, .int .i64 0] 23)) := (Below.refl _ _).alloc (Nat.le_refl _) _
  have hz0 : w.heap.size < (w.alloc (.cells #[.int .i64 0, .int .i64 0, .int .i64 0, .int .i64 0, .int .i64 0] 23)).heap.size := by simp
  have hno : okB l = false := decide_eq_false (fun h => heq h.2.1)
  have h1 : opH l = Hd.zero := by unfold opH; rw [if_neg (by rw [hno]; simp)]
  have h2 : opB l = [] := by unfold opB; rw [if_neg (by rw [hno]; simp)]
  have h3 : opE l = 3 := by unfold opE; rw [if_neg (by rw [hno]; simp)]
  rw [h1, h2, h3]
  have hsne : ¬ ((⟨(l.take 4).toArray⟩ : ByteArray) = ⟨(sumB l).toArray⟩) := fun h => heq (by injection h with h; simpa using h)
  have hsb : ((⟨(l.take 4).toArray⟩ : ByteArray).toList == (⟨(sumB l).toArray⟩ : ByteArray).toList) = false := by rw [ByteArray.toList_eq, ByteArray.toList_eq]; simpa using heq
  generalize hS : (⟨(sumB l).toArray⟩ : ByteArray) = S1 at hsne hsb
  generalize hS2 : (⟨(l.take 4).toArray⟩ : ByteArray) = S2 at hsne hsb
  go_enter Tryd.func11, Tryd.ntmps11
  go_wp2
  generalize (w.alloc (.cells #[.int .i64 0, .int .i64 0, .int .i64 0, .int .i64 0, .int .i64 0] 23)) = w1 at HZ hb0 hz0 ⊢
  have hs1 := hs.below hb0
  have ht1 := ht.below hb0 ht.1
  have k1 := str_bs (hs1.take (k := 4) (by omega)).drew
  rw [hS2] at k1
  go_region_with (first
    | (go_at_call 17; refine (summed_any _ 256 c l _ hs1.drew (by omega) ht1).mono ?_; rintro e w3 ⟨A3, n3, c3, rfl, own3, hb3⟩; have hb3' : Below w1.heap.size w1 w3 := Below.trans (Below.refl _ w1).drew hb3; have k2 := str_bs ((hs1.below hb3').take (k := 4) (by omega)); have k3 := str_bs own3.sl; rw [hS2] at k2; rw [hS] at k3)
    | fail)
  all_goals
    have HZ3 := HZ.below hb3' hz0
    have hz3 := hb3'.size
    go_wp2_with (first
      | (refine wp_store_hd rfl (.tmp 2) (.tmp 19) rfl w.heap.size rfl Hd.zero _ rfl (by exact HZ3) (by show w.heap.size < w3.heap.size; omega) ?_; intro w4 hr4 hb4 _)
      | fail)
    refine bodyPost_ret (results_cell3 Tryd.results11 rfl (load_hd hr4)) rfl ?_
    exact ⟨_, _, _, rfl, own_nil _ _ _, hb0.trans ((hb3'.mono (by omega)).trans (hb4 _ (Nat.le_refl _)))⟩

set_option maxHeartbeats 2000000 in
theorem open_any (A : Option Addr) (n c : Nat) (l : List UInt8) (w : World) (hs : Sl w A n c l) (ht : Tab w) : OpenSays A n c l w := by
  have hlen := hs.len
  by_cases hn : n = 256
  · subst hn
    obtain ⟨ad, rfl, _⟩ := hs.cell (k := 0) (by omega)
    by_cases heq : l.take 4 = sumB l
    · exact open_eq ad c l w hs ht heq
    · exact open_ne ad c l w hs ht heq
  · unfold OpenSays
    have hno : okB l = false := decide_eq_false (fun h => hn (by omega))
    have h1 : opH l = Hd.zero := by unfold opH; rw [if_neg (by rw [hno]; simp)]
    have h2 : opB l = [] := by unfold opB; rw [if_neg (by rw [hno]; simp)]
    have h3 : opE l = 3 := by unfold opE; rw [if_neg (by rw [hno]; simp)]
    rw [h1, h2, h3]
    have hn' : ¬ (n : Int) = 256 := by omega
    have hdn : decide ((n : Int) = 256) = false := decide_eq_false hn'
    have HZ := HB.zero w 23
    have hb0 : Below w.heap.size w (w.alloc (.cells #[.int .i64 0, .int .i64 0, .int .i64 0, .int .i64 0, .int .i64 0] 23)) := (Below.refl _ _).alloc (Nat.le_refl _) _
    have hz0 : w.heap.size < (w.alloc (.cells #[.int .i64 0, .int .i64 0, .int .i64 0, .int .i64 0, .int .i64 0] 23)).heap.size := by simp
    go_enter Tryd.func11, Tryd.ntmps11
    go_wp2
    generalize (w.alloc (.cells #[.int .i64 0, .int .i64 0, .int .i64 0, .int .i64 0, .int .i64 0] 23)) = w1 at HZ hb0 hz0 ⊢
    go_quiet (fail)
    go_wp2_with (first
      | (refine wp_store_hd rfl (.tmp 2) (.tmp 19) rfl w.heap.size rfl Hd.zero _ rfl (by exact HZ) (by exact hz0) ?_; intro w4 hr4 hb4 _)
      | fail)
    refine bodyPost_ret (results_cell3 Tryd.results11 rfl (load_hd hr4)) rfl ?_
    exact ⟨_, _, _, rfl, own_nil _ _ _, (below_drewN hb0 _).trans (hb4 _ (Nat.le_refl _))⟩
end Go.Proofs.YtkkmnmiekmfjiaaDoor
