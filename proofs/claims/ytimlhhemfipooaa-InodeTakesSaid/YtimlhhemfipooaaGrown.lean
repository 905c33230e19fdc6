/- A region that draws its order, whose operations read and whose callees hand back plain values and leave what was there: walked once, in the worlds that grow out of the one at its head. -/
import Derived.Test.YtimlhhemfipooaaLaw
import Derived.Deep.QuietTactic
import Derived.BigQuiet
namespace Go.Proofs.Ytimlhhemfipooaa
open Go Go.RowKit Go.Proofs

/-- A world that has all that w had. -/
structure Grown (w : World) where
  to : World
  ok : Below w.heap.size w to
instance grownThere (w : World) : Nonempty (Grown w) := ⟨⟨w, Below.refl _ w⟩⟩
theorem Grown.cell {w : World} {a : Addr} {v : Value} (h : w.cell? a = some v) (ha : a.block < w.heap.size) (u : Grown w) : u.to.cell? a = some v := (u.ok.cell ha).trans h
theorem wp_region_grown {P : Program} {id : Nat} {Q : Exit → Act → World → Prop} {a : Act} {w : World} {l : List Oper} (hm : P.follows .mixedOrders = true) (hB : Region.lexB .any l.toArray = true)
    (h : wpQuiet P l.toArray (fun w' => ∃ u : Grown w, w' = u.to) (fun a' => ∀ w', (∃ u : Grown w, w' = u.to) → Q .normal a' w') l a) : (Code.region id l.toArray true).wp P Q a w :=
  wp_region_quiet (C := fun w' => ∃ u : Grown w, w' = u.to) hm hB ⟨⟨_, (Below.refl _ w).drew⟩, rfl⟩ (by rw [List.toList_toArray]; exact h)
/-- A callee's contract, in a world that has grown. -/
theorem Calls.grown {P : Program} {f : FuncId} {args : Array Value} {w : World} {u : Grown w} {v : Value}
    (h : Calls P f args u.to fun e w' => e = .returned v ∧ Below u.to.heap.size u.to w') : Calls P f args u.to fun e w'' => e = .returned v ∧ ∃ u' : Grown w, w'' = u'.to :=
  h.mono fun _ w' ⟨he, hb⟩ => ⟨he, ⟨w', u.ok.trans (hb.mono u.ok.size)⟩, rfl⟩
theorem Calls.grown_same {P : Program} {f : FuncId} {args : Array Value} {w : World} {u : Grown w} {v : Value}
    (h : Calls P f args u.to fun e w' => e = .returned v ∧ u.to = w') : Calls P f args u.to fun e w'' => e = .returned v ∧ ∃ u' : Grown w, w'' = u'.to :=
  h.mono fun _ _ ⟨he, hw⟩ => ⟨he, u, hw.symm⟩
end Go.Proofs.Ytimlhhemfipooaa
