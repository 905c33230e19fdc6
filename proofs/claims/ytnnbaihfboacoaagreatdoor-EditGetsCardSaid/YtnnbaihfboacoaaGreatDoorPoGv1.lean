/- The code's pool: Count, Free, Super, PutBytes, Unref. -/
import Derived.Test.YtnnbaihfboacoaaGreatDoorEt19
namespace Go.Proofs.YtnnbaihfboacoaaGreatDoor
open Go Go.RowKit Go.Proofs
open Go.ChangeMaps (setBlock)
section
variable {P:Program}{w:World}{t k e b clock:Nat}{l:List MapEntry}
end
theorem Qce {w:World}{g n c:Nat}{x:List UInt8}(h:Sl w (some ⟨g,0,none⟩) n c x)(hn:0<n):g<w.1.size:=by
 obtain⟨u,e,f,_⟩:=h.cell hn;injection e with e;subst e;exact f
section
variable {w w1 w2:World}{p d m clock:Nat}{cur:Array Value}{l:List MapEntry}{v:Nat->Value}{Sc S T:Nat->Prop}{P P':Pl}
end
section
variable {w:World}{p d:Nat}{S T:Nat->Prop}{P:Pl}
end
theorem PL.ld {w:World}{p d m clock:Nat}{cur:Array Value}{l:List MapEntry}{v:Nat->Value}{Sc S T:Nat->Prop}{P:Pl}(L:PL w p d m cur l clock v Sc S T P):(ldS (.pointer (some ⟨p,1,none⟩))).run Tryz.prog w=.ok (.agg P.S.vs.toArray) w:=
 run_loadAt_mid w p 1 98 P.S.vs _ L.sup Tryz.underlying98 rfl (by rw[P.S.Zj];kernel_rfl)
section
attribute [local go_sem ↓] q1n q3f
end
