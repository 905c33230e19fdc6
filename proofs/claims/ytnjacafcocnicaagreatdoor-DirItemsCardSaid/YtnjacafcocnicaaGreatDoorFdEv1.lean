/- Rows of items, as plain data: put, row, scan. -/
import Derived.Test.YtnjacafcocnicaaGreatDoorDv10
namespace Go.Proofs.YtnjacafcocnicaaGreatDoor
open Go Go.RowKit Go.Proofs
theorem qpo {l:List Qc}(h:∀x∈l,x.k.may=true):within ⟨0,0,0⟩ ⟨2147483647,255,2147483647⟩ l=l:=by
 unfold within;rw[List.filter_eq_self];intro x m;have h1:=AK (h x m);have e:x.k.less ⟨0,0,0⟩=false:=by
  unfold Kd.less;dsimp only;split
  ·split
   ·exact AH (by omega)
   ·exact AH (by omega)
  ·exact AH (by omega)
 have f:(⟨2147483647,255,2147483647⟩:Kd).less x.k=false:=by
  unfold Kd.less;dsimp only;split
  ·split
   ·exact AH (by omega)
   ·exact AH (by omega)
  ·exact AH (by omega)
 rw[e,f];rfl
