/- A node as plain data; how one that comes in is opened -/
import Derived.Test.YtnnbaihfboacoaaGreatDoorEt2
namespace Go.Proofs.YtnnbaihfboacoaaGreatDoor
open Go Go.RowKit Go.Proofs
set_option maxRecDepth 100000
section
open Go.ChangeShapes Go.WideShapes Go.ChangeAt Go.Deep
section
variable {w w':World}{n c:Nat}{A:Option Addr}
end
section
variable {H:Type}{enc:TypeId × Value->H}{P:Program}{W:World}
theorem qqy {t:TypeId}{m e:Field}(I:P.underlying t=some (.struct #[m,e]))(B:P.cellsOf t=4)(K:m.offset=0)(G:e.offset=3)(c0:P.cellsOf m.type=3)(c1:P.cellsOf e.type=1){fuel:Nat}{D:List Value}{y:DataW H × List MemPlace}
  (M:DataW.trod enc P W 0 (λ_=>true) true fuel t D=some y):∃v0 u p v3 n T Q,D=[v0,u,p,v3]/\DataW.trod enc P W 0 (λ_=>true) true n m.type [v0,u,p]=some T/\DataW.trod enc P W 0 (λ_=>true) true n e.type [v3]=some Q:=by
 obtain⟨R,O,J,U,b,d,f⟩:=DataW.trod_struct I M;rw[B] at b;match D,b with
 |[v0,u,p,v3],_=>
  have E:=f 0 m rfl;have F:=f 1 e rfl;have d:R.length=2:=d;rw[K,c0,List.getElem?_eq_getElem (by omega)] at E;rw[G,c1,List.getElem?_eq_getElem (by omega)] at F;exact⟨v0,u,p,v3,O,_,_,rfl,E,F⟩
theorem qqz {G t I:TypeId}{E u U k1 k2:Field}(D:P.underlying G=some (.slice t))(M:P.underlying t=some (.struct #[E,u]))(p:P.cellsOf t=4)(X:E.offset=0)(J:u.offset=3)(c1:P.cellsOf u.type=1)
  (K:Qbr P E.type U k1 k2) (T:Y0 P u.type I) (he:P.underlying I=some (.int .u8)) {fuel:Nat} {v:Value} {y:DataW H × List MemPlace}
  (Z:DataW.trod enc P W 0 (λ_=>true) true fuel G [v]=some y):∃A n c R,v=.slice A n c/\Zl W A n c R:=by
 obtain⟨A,n,c,b,rfl,Q,hr⟩:=qjq (by omega:0<4) D p Z;have key:∀r∈b,∃x:Qc,Ru W r x:=λr hm=>by
  obtain⟨f,y,h⟩:=hr r hm;obtain⟨v0,v1,v2,v3,n',y0,y1,rfl,g0,g1⟩:=qqy M p X J K.cells c1 h;obtain⟨k,e⟩:=qjr K.st K.one K.cells K.h0 K.h1 K.h2 g0;obtain⟨B,m,d,l,rfl,Y⟩:=qca T he g1;unfold kvs at e;injection e with O e;injection e with e1 e;injection e with e2 _;exact⟨⟨k,l⟩,B,m,d,by rw[O,e1,e2],Y⟩
 classical
 let F:List Value->Qc:=λr=>if h:r∈b then (key r h).choose else ⟨⟨0,0,0⟩,[]⟩
 refine⟨A,n,c,b.map F,rfl,b,Q,by simp,λj r x h1 h2=>?_⟩;rw[List.getElem?_map,h1] at h2;obtain rfl:F r=x:=by simpa using h2
 have hm:=List.mem_of_getElem? h1;have hF:F r=(key r hm).choose:=dif_pos hm;rw[hF];exact (key r hm).choose_spec
end
end
section
open Go.ChangeShapes Go.WideShapes Go.ChangeAt Go.Deep
theorem qkw {H:Type}{enc:TypeId × Value->H}{W:World}{v:Value}{d:DataW H}{ps:List MemPlace}(b:∃a len cap,v=.slice a len cap)(h:DataW.Trod enc Tryz.prog W 0 (λ_=>true) true 26 v d ps):∃A n c l,v=.slice A n c/\Zl W A n c l:=by
 obtain⟨a,len,cap,rfl⟩:=b;obtain⟨p,f,m,K⟩:=Qb2;obtain⟨fuel,e⟩:=h;exact qqz Tryz.underlying26 Tryz.underlying68 (by kernel_rfl) rfl rfl (by kernel_rfl) K Gy Tryz.underlying5 e
end
