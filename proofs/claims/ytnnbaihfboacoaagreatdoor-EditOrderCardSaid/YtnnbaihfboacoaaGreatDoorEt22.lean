/- The code's pool: Node -/
import Derived.Test.YtnnbaihfboacoaaGreatDoorEt21
namespace Go.Proofs.YtnnbaihfboacoaaGreatDoor
open Go Go.RowKit Go.Proofs
theorem qhv {w:World}{f:Addr}{p:Array Value}{t:TypeId}{v:Value}(h:w.1[f.block]?=some (.cells p t (0,0)))(e:w.cell? f=some v):p[f.off]?=some v:=by
 unfold World.cell? at e;rw[h] at e;dsimp only at e;split at e
 ·cases e
 ·exact e
section
variable {w w':World}{b n c m d:Nat}{l:Int}{A B:Option Addr}
end
def Ry (R R':Int->Nd × Int):Prop:=∀a,(R a).2=0->R' a=R a\/(R' a).2=5
