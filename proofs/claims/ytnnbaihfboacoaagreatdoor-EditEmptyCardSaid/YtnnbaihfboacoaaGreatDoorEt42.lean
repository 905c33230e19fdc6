/- How arrays of ints, slices of pairs and slices of ints that come in are opened -/
import Derived.Test.YtnnbaihfboacoaaGreatDoorDrvFv1
import Derived.Test.YtnnbaihfboacoaaGreatDoorEt13
import Derived.Test.YtnnbaihfboacoaaGreatDoorEt41
namespace Go.Proofs.YtnnbaihfboacoaaGreatDoor
open Go Go.RowKit Go.Proofs
section
open Go.ChangeShapes Go.WideShapes Go.ChangeAt
section
variable {H:Type}{enc:TypeId × Value->H}{P:Program}{W:World}
theorem qh0 {t e:TypeId}{v:Value}{d:DataW H}{ps:List MemPlace}(M:P.underlying t=some (.slice e))(G:P.underlying e=some (.int .i64))(y:P.cellsOf e=1)
  (O:∃a len cap,v=.slice a len cap) (h:DataW.Trod enc P W 0 (λ_=>true) true t v d ps):∃A n c B,v=.slice A n c/\Ints W A n c B:=by
 obtain⟨fuel,I⟩:=h;obtain⟨a0,f,E,rfl⟩:=O;rcases open_ints M G y I with⟨b,_⟩|⟨a,len,cap,B,b,_,K,hm,R,_,m,Q⟩
 ·simp[Value.cells] at b;obtain⟨rfl,rfl,rfl⟩:=b;exact⟨_,_,_,[],rfl,qs6 W⟩
 ·simp[Value.cells] at b;obtain⟨rfl,rfl,rfl⟩:=b;rw[if_pos rfl] at R;refine⟨_,_,_,B.take f,rfl,⟨?_,K,hm,λj u F=>?_⟩,λz D=>bounds_i64 (Q z (List.mem_of_mem_take D))⟩
  ·simp;omega
  ·have J:j<f:=by have:=(List.getElem?_eq_some_iff.1 F).1;simp at this;omega
   have p:j<B.length:=by omega
   have y:=m j p;refine⟨a,rfl,?_,?_⟩
   ·have:=World.block_lt_of_cell? W (a.add j) y;rwa [q0n] at this
   ·rw[y,<-F];rw[List.getElem?_map,List.getElem?_take_of_lt J,List.getElem?_eq_getElem p];simp[List.getD,p]
end
section
variable {w w':World}{A:Option Addr}{n c:Nat}{ps:List (Int × Int)}
end
end
section
open Go.ChangeShapes Go.WideShapes Go.ChangeAt Go.Deep
section
variable {H:Type}{enc:TypeId × Value->H}{P:Program}{W:World}
theorem qh1 {A:Option Addr}{n c:Nat}{zs:List Int}(h:Ints W A n c zs):Rt W A n c zs:=by
 obtain⟨⟨h1,h2,E,d⟩,_⟩:=h;refine⟨by rw[List.length_map] at h1 ⊢;exact h1,h2,E,λj x m=>?_⟩;rw[List.getElem?_map] at m;obtain⟨z,p,rfl⟩:=Option.map_eq_some_iff.1 m;obtain⟨y,rfl,F,e⟩:=d j (.int .i64 z) (by rw[List.getElem?_map,p];rfl);have I:0<zs.length:=by have:=(List.getElem?_eq_some_iff.1 p).1;omega
 obtain⟨B,D,_,b⟩:=d 0 (.int .i64 zs[0]) (by rw[List.getElem?_map,List.getElem?_eq_getElem I];rfl);obtain rfl:=Option.some.inj D;obtain⟨g,o,u⟩:=y;obtain rfl:u=none:=q7o (show W.cell? ⟨g,o,u⟩=some _ by simpa [Addr.add] using b);refine⟨g,o,rfl,F,rfl,λi v f=>?_⟩;have G:i=0:=by
  have:=(List.getElem?_eq_some_iff.1 f).1;simp[iv] at this;exact this
 subst G;obtain rfl:Value.int .i64 z=v:=by simpa [iv] using f
 rw[Addr.add_mid] at e;rw[Nat.mul_one,Nat.add_zero];exact e
end
section
variable {H:Type}{enc:TypeId × Value->H}{W:World}
end
end
