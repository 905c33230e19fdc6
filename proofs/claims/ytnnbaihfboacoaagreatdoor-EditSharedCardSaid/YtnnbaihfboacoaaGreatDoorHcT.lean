/- The laws of trees: a root is held once more; two trees. -/
import Derived.Test.YtnnbaihfboacoaaGreatDoorEu41
namespace Go.Proofs.YtnnbaihfboacoaaGreatDoor
open Go Go.RowKit Go.Proofs
section
variable {b:Nat}{w w':World}{d p:Nat}{U:Nat->Prop}{D:DM}{P P':Pl}{H H0:List Int}{m:Nat}{g:Int}{root one:Int}{its its1:List Qc}
variable {U':Nat->Prop}{D':DM}{row row':List Qc}{r z:Int}{A A6:Option Addr}{n c n6 c6:Nat}
theorem J8.went (h:J8 U w A6 n6 c6 its)(N:Qa8 b w w' d p U U' D D' P P' H0 row row' r A n c m g z):J8 U' w' A6 n6 c6 its:=by
 have h2:=h.commit N.turn;have B:∀k,U' k->grow U w w' k:=λk y=>⟨N.sub k y,(N.ed.low k y).2⟩
 exact⟨h2.row.mono λV v E u g f e=>E u g f (B g e),λu g f e=>h2.blk u g f (B g e)⟩
end
