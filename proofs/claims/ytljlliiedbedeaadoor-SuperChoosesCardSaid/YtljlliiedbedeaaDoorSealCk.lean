/- What Check answers, as plain data. -/
import Derived.Test.YtljlliiedbedeaaDoorPkS
namespace Go.Proofs.YtljlliiedbedeaaDoor
open Go Go.RowKit Go.Proofs

/-- P4.2's answer of Check. -/
def ckOk (l : List UInt8) (k a : Int) : Bool := okB l && decide ((opH l).kind = k ∧ (opH l).addr = a)
def ckH (l : List UInt8) (k a : Int) : Hd := if ckOk l k a = true then opH l else Hd.zero
def ckB (l : List UInt8) (k a : Int) : List UInt8 := if ckOk l k a = true then l.drop 20 else []
def ckE (l : List UInt8) (k a : Int) : Int := if ckOk l k a = true then 0 else 3
theorem ck_no {l : List UInt8} {k a : Int} (h : ckOk l k a = false) : ckH l k a = Hd.zero ∧ ckB l k a = [] ∧ ckE l k a = 3 := by
  unfold ckH ckB ckE
  rw [h]
  exact ⟨rfl, rfl, rfl⟩
theorem ck_yes {l : List UInt8} {k a : Int} (h : ckOk l k a = true) : ckH l k a = opH l ∧ ckB l k a = l.drop 20 ∧ ckE l k a = 0 := by
  unfold ckH ckB ckE
  rw [h]
  exact ⟨rfl, rfl, rfl⟩
end Go.Proofs.YtljlliiedbedeaaDoor
