/- Crash: each sector with cached writes is settled as what is kept tells, from the first on. -/
import Derived.Test.YtnnbaihfboacoaaGreatDoorEt10
namespace Go.Proofs.YtnnbaihfboacoaaGreatDoor
open Go Go.RowKit Go.Proofs
open Go.ChangeMaps (setBlock)
section
variable {w w':World}{A:Option Addr}{n c:Nat}{zs:List Int}{S:Nat->Prop}
theorem qs6 (w:World):Ints w none 0 0 []:=⟨⟨rfl,Nat.le_refl _,Nat.zero_le _,λj u b=>by simp at b⟩,λz d=>by simp at d⟩
end
