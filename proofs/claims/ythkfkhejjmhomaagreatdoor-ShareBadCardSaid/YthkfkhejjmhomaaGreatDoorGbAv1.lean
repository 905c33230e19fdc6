/- Rows of nodes with their addresses. -/
import Derived.Test.YthkfkhejjmhomaaGreatDoorEs4
import Derived.Test.YthkfkhejjmhomaaGreatDoorEs10
namespace Go.Proofs.YthkfkhejjmhomaaGreatDoor
open Go Go.RowKit Go.Proofs
theorem TAn:Aa Tryz.prog 141 218 4 64 (.agg #[.int .i64 0,.int .i64 0,.slice none 0 0,.slice none 0 0]):=⟨Tryz.underlying141,by kernel_rfl,rfl,by omega⟩
theorem qvk (a l:Int)(A:Option Addr)(n c:Nat)(B:Option Addr)(m d:Nat):∀y∈[Fv a l A n c B m d],∀u∈y,u.oneCell'=true:=by
 intro y e u b;obtain rfl:y=Fv a l A n c B m d:=by simpa using e
 simp[Fv] at b;rcases b with rfl|rfl|rfl|rfl<;>rfl
theorem qy7 (w:World)(a l:Int)(A:Option Addr)(n c:Nat)(B:Option Addr)(m d:Nat):Js (w.alloc (.cells #[.int .i64 a,.int .i64 l,.slice A n c,.slice B m d] 218)) 4 (some ⟨w.1.size,0,none⟩) 1 1 [Fv a l A n c B m d]:=(q1q w 218 4 (Fv a l A n c B m d) _ rfl rfl).Kt (by omega)
section
variable {Q Q':World->Prop}{w w':World}{base n c:Nat}{A:Option Addr}{Ns:List (Int × Nd)}
theorem qo1 (Q:World->Prop)(w:World):Xt Q (w.alloc (.cells #[] 218)) w.1.size (some ⟨w.1.size,0,none⟩) 0 0 []:=⟨[],q3r w _ 4,rfl,λj r x b=>by simp at b⟩
theorem Xt.below (h:Xt Q w base A n c Ns)(hb:Below w.1.size w w'):Xt Q w' base A n c Ns:=by
 obtain⟨b,h1,h2,d⟩:=h;exact⟨b,h1.below hb,h2,d⟩
theorem Xt.anl (h:Xt Q w base A n c Ns):Nw Q w A n c Ns:=by
 obtain⟨b,h1,h2,d⟩:=h;exact⟨b,h1.Kt (by omega),h2,d⟩
theorem Nw.below (h:Nw Q w A n c Ns)(hb:Below w.1.size w w'):Nw Q w' A n c Ns:=by
 obtain⟨b,h1,h2,d⟩:=h;exact⟨b,h1.below hb,h2,d⟩
def Gt (Ns:List (Int × Nd))(j:Nat):Int × Nd:=Ns.getD j (0,⟨0,[],[]⟩)
theorem qlj {j:Nat}(h:j<Ns.length):Ns[j]?=some (Gt Ns j):=by simp[Gt,List.getD,h]
theorem Nw.get (h:Nw Q w A n c Ns){j:Nat}(hj:j<n):∃g o m d c1 p b u,A=some ⟨g,o,none⟩/\g<w.1.size/\w.rangeAt g (o+j*4) (Fv (Gt Ns j).1 (Gt Ns j).2.lvl m d c1 p b u)/\d<=1000/\b<=1000/\∀w',Q w'->Jd w' m d c1 (Gt Ns j).2.items/\Zp w' p b u (Gt Ns j).2.kids:=by
 have I:=h.len;obtain⟨f,h1,h2,D⟩:=h;have B:f[j]?=some (f[j]'(by omega)):=List.getElem?_eq_getElem (by omega);obtain⟨m,d,c1,p,b,u,e,F,G,H⟩:=D j _ _ B (qlj (by omega));obtain⟨g,o,rfl,E,_,y⟩:=h1.2.2.2 j _ B;rw[e] at y;exact⟨g,o,m,d,c1,p,b,u,rfl,E,y,F,G,H⟩
end
