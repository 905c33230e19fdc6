/- A node cut to twenty of each reads so from the start; what reads as the document says. -/
import Derived.Test.YtmebdjafnefneaaDoorNodeZ
import Derived.Test.YtmebdjafnefneaaDoorNodeI
namespace Go.Proofs.YtmebdjafnefneaaDoor
open Go Go.RowKit Go.Proofs

theorem fewI {w w4 : World} {A : Option Addr} {n c n1 : Nat} {N : Nd} (hI : Itms w A n c N.items) (h4 : Itms w4 A n1 c N.few.items) : Itms w A n1 c N.few.items := by
  have h1 := h4.len
  have h2 := hI.len
  have h1 : (N.items.take 20).length = n1 := h1
  rw [List.length_take] at h1
  have := hI.take (k := n1) (by omega)
  have e : N.items.take n1 = N.items.take 20 := by
    by_cases h : 20 ≤ N.items.length
    · rw [show n1 = 20 by omega]
    · rw [List.take_of_length_le (by omega), List.take_of_length_le (by omega)]
  rw [e] at this
  exact this
theorem fewK {w w4 : World} {B : Option Addr} {n c n1 : Nat} {N : Nd} (hI : Kidl w B n c N.kids) (h4 : Kidl w4 B n1 c N.few.kids) : Kidl w B n1 c N.few.kids := by
  have h1 := h4.len
  have h2 := hI.len
  have h1 : (N.kids.take 20).length = n1 := h1
  rw [List.length_take] at h1
  have := hI.take (k := n1) (by omega)
  have e : N.kids.take n1 = N.kids.take 20 := by
    by_cases h : 20 ≤ N.kids.length
    · rw [show n1 = 20 by omega]
    · rw [List.take_of_length_le (by omega), List.take_of_length_le (by omega)]
  rw [e] at this
  exact this
theorem cread_says (A : Option Addr) (k c : Nat) (b : List UInt8) (addr : Int) (w : World) (hs : Sl w A k c b) (ht : Tab w) :
    Calls Tryd.prog 15 #[.slice A k c, .int .i64 addr] w fun e w' => ReadSays b addr w e w' := by
  refine (cread_any A k c b addr w hs ht).mono ?_
  intro e w' h
  unfold CReadSays at h
  rw [cread_read] at h
  exact h
theorem refnmay_says (N : Nd) (r : Bool) (hr : N.may = r) (A : Option Addr) (n c : Nat) (B : Option Addr) (m d : Nat) (w : World) (hI : Itms w A n c N.items) (hK : Kidl w B m d N.kids) (hn : n ≤ 1000) (hm : m ≤ 1000) :
    Calls Tryd.prog 12 #[.agg #[.int .i64 N.lvl, .slice A n c, .slice B m d]] w fun e w' => e = .returned (.bool r) ∧ Below w.heap.size w w' := by
  subst hr
  exact refnmay_any N A n c B m d w hI hK hn hm
theorem refleast_says (N : Nd) (z : Kd) (hz : N.least = z) (A : Option Addr) (n c : Nat) (B : Option Addr) (m d : Nat) (w : World) (hI : Itms w A n c N.items) (hK : Kidl w B m d N.kids) (hn : n ≤ 1000) (hm : m ≤ 1000) :
    Calls Tryd.prog 23 #[.agg #[.int .i64 N.lvl, .slice A n c, .slice B m d]] w fun e w' => e = .returned (.agg #[.int .i64 z.obj, .int .i64 z.kind, .int .i64 z.off]) ∧ Below w.heap.size w w' := by
  subst hz
  exact refleast_any N A n c B m d w hI hK hn hm
end Go.Proofs.YtmebdjafnefneaaDoor
