/- Laws of the pool: bytes that are turned. -/
import Derived.Test.YtipejjgodnnkaaaGreatDoorPm39
namespace Go.Proofs.YtipejjgodnnkaaaGreatDoor
open Go Go.RowKit Go.Proofs
def ib (x:List UInt8)(j:Nat):Nat:=if x[j]?=some 255 then 1 else 0
def c255 (x:List UInt8):Nat:=ib x 10+ib x 11+ib x 12+ib x 13+ib x 14
theorem qn9 (x:List UInt8)(j:Nat):ib x j≤1:=by unfold ib;split<;>omega
theorem q1y {x:List UInt8}{a m j:Nat}(h:j≠a):ib (turnB a m x) j=ib x j:=by
 unfold ib turnB
 rw[List.getElem?_set_ne (fun e=>h e.symm)]
theorem qee (a m:Nat)(x:List UInt8):c255 (turnB a m x)≤c255 x+1:=by
 unfold c255
 have b0:=qn9 (turnB a m x) 10
 have b1:=qn9 (turnB a m x) 11
 have b2:=qn9 (turnB a m x) 12
 have b3:=qn9 (turnB a m x) 13
 have b4:=qn9 (turnB a m x) 14
 by_cases e0:10=a
 ·subst e0
  rw[q1y (j:=11) (by omega),q1y (j:=12) (by omega),q1y (j:=13) (by omega),q1y (j:=14) (by omega)]
  omega
 ·rw[q1y (j:=10) e0]
  by_cases e1:11=a
  ·subst e1
   rw[q1y (j:=12) (by omega),q1y (j:=13) (by omega),q1y (j:=14) (by omega)]
   omega
  ·rw[q1y (j:=11) e1]
   by_cases e2:12=a
   ·subst e2
    rw[q1y (j:=13) (by omega),q1y (j:=14) (by omega)]
    omega
   ·rw[q1y (j:=12) e2]
    by_cases e3:13=a
    ·subst e3
     rw[q1y (j:=14) (by omega)]
     omega
    ·rw[q1y (j:=13) e3]
     omega
theorem q9j {x:List UInt8}{i:Nat}:ib x (10+i)=if (x.drop 10)[i]?=some 255 then 1 else 0:=by
 unfold ib
 rw[List.getElem?_drop]
theorem q9k (x:List UInt8):(genN x<255→c255 x=0)∧(c255 x≤4→genN x<1099511627775):=by
 unfold c255
 have e0:ib x 10=if (x.drop 10)[0]?=some 255 then 1 else 0:=q9j (i:=0)
 have e1:ib x 11=if (x.drop 10)[1]?=some 255 then 1 else 0:=q9j (i:=1)
 have e2:ib x 12=if (x.drop 10)[2]?=some 255 then 1 else 0:=q9j (i:=2)
 have e3:ib x 13=if (x.drop 10)[3]?=some 255 then 1 else 0:=q9j (i:=3)
 have e4:ib x 14=if (x.drop 10)[4]?=some 255 then 1 else 0:=q9j (i:=4)
 unfold genN gN
 generalize x.drop 10=y at e0 e1 e2 e3 e4 ⊢
 have key:∀a:UInt8,(if some a=some 255 then 1 else 0:Nat)=if a.toNat=255 then 1 else 0:=fun a=>by
  by_cases h:a=255
  ·subst h;rfl
  ·have:¬a.toNat=255:=fun e=>h (UInt8.toNat_inj.1 (by rw[e];rfl))
   rw[if_neg this,if_neg (fun e=>h (Option.some.inj e))]
 have n0:(if (none:Option UInt8)=some 255 then 1 else 0:Nat)=0:=rfl
 match y,e0,e1,e2,e3,e4 with
 |[],e0,e1,e2,e3,e4=>
  simp only[List.getElem?_nil,n0] at e0 e1 e2 e3 e4
  refine⟨fun _=>by omega,fun _=>by simp[numL]⟩
 |[a],e0,e1,e2,e3,e4=>
  have ha:=a.toNat_lt
  simp only[List.getElem?_cons_zero,List.getElem?_cons_succ,List.getElem?_nil,n0,key] at e0 e1 e2 e3 e4
  have hn:numL (List.take 5 [a])=a.toNat:=by simp[numL]
  rw[hn]
  refine⟨fun _=>by split at e0<;>omega,fun _=>by omega⟩
 |[a,b],e0,e1,e2,e3,e4=>
  have ha:=a.toNat_lt
  have hb:=b.toNat_lt
  simp only[List.getElem?_cons_zero,List.getElem?_cons_succ,List.getElem?_nil,n0,key] at e0 e1 e2 e3 e4
  have hn:numL (List.take 5 [a,b])=256*a.toNat+b.toNat:=by simp[numL]
  rw[hn]
  refine⟨fun _=>by split at e0<;>split at e1<;>omega,fun _=>by omega⟩
 |[a,b,c],e0,e1,e2,e3,e4=>
  have ha:=a.toNat_lt
  have hb:=b.toNat_lt
  have hc:=c.toNat_lt
  simp only[List.getElem?_cons_zero,List.getElem?_cons_succ,List.getElem?_nil,n0,key] at e0 e1 e2 e3 e4
  have hn:numL (List.take 5 [a,b,c])=256*(256*a.toNat+b.toNat)+c.toNat:=by simp[numL]
  rw[hn]
  refine⟨fun _=>by split at e0<;>split at e1<;>split at e2<;>omega,fun _=>by omega⟩
 |[a,b,c,d],e0,e1,e2,e3,e4=>
  have ha:=a.toNat_lt
  have hb:=b.toNat_lt
  have hc:=c.toNat_lt
  have hd:=d.toNat_lt
  simp only[List.getElem?_cons_zero,List.getElem?_cons_succ,List.getElem?_nil,n0,key] at e0 e1 e2 e3 e4
  have hn:numL (List.take 5 [a,b,c,d])=256*(256*(256*a.toNat+b.toNat)+c.toNat)+d.toNat:=by simp[numL]
  rw[hn]
  refine⟨fun _=>by split at e0<;>split at e1<;>split at e2<;>split at e3<;>omega,fun _=>by omega⟩
 |a::b::c::d::e::r,e0,e1,e2,e3,e4=>
  have ha:=a.toNat_lt
  have hb:=b.toNat_lt
  have hc:=c.toNat_lt
  have hd:=d.toNat_lt
  have he:=e.toNat_lt
  simp only[List.getElem?_cons_zero,List.getElem?_cons_succ,key] at e0 e1 e2 e3 e4
  have hn:numL (List.take 5 (a::b::c::d::e::r))=256*(256*(256*(256*a.toNat+b.toNat)+c.toNat)+d.toNat)+e.toNat:=by simp[numL]
  rw[hn]
  refine⟨fun _=>by split at e0<;>split at e1<;>split at e2<;>split at e3<;>split at e4<;>omega,fun _=>by split at e0<;>split at e1<;>split at e2<;>split at e3<;>split at e4<;>omega⟩
def capQ (m:Nat):Nat→List UInt8→Prop:=fun s x=>s<2→c255 x≤m
theorem qjk {D:DM}{B:Nat}(h:D.all2 (lowQ B))(hB:B<255):D.all2 (capQ 0):=
 q7s h fun s x hx h2=>by have h3:=hx h2;have:=(q9k x).1 (by omega);omega
theorem qpo {D:DM}{m:Nat}(h:D.all2 (capQ m))(s at_ t:Int):(D.corrupt s at_ t).all2 (capQ (m+1)):=by
 unfold DM.corrupt
 split
 ·intro k
  refine⟨fun h2=>?_,fun x hx h2=>?_⟩
  ·show c255 (upd D.dur s.toNat (turnB at_.toNat t.toNat (D.dur s.toNat)) k)≤m+1
   by_cases e:k=s.toNat
   ·subst e
    rw[q0a]
    exact Nat.le_trans (qee _ _ _) (Nat.succ_le_succ ((h _).1 h2))
   ·rw[q05 _ _ e]
    exact Nat.le_succ_of_le ((h _).1 h2)
  ·have hx:x∈upd D.cac s.toNat ((D.cac s.toNat).map (turnB at_.toNat t.toNat)) k:=hx
   by_cases e:k=s.toNat
   ·subst e
    rw[q0a] at hx
    obtain⟨z,hz,rfl⟩:=List.mem_map.1 hx
    exact Nat.le_trans (qee _ _ _) (Nat.succ_le_succ ((h _).2 z hz h2))
   ·rw[q05 _ _ e] at hx
    exact Nat.le_succ_of_le ((h _).2 x hx h2)
 ·exact q7s h fun s x hx h2=>Nat.le_succ_of_le (hx h2)
theorem qtu {D:DM}{m:Nat}(h:D.all2 (capQ m))(hm:m≤4):(mtS D.newest).gen<1099511627775:=by
 have h0:=(q9k (D.newest 0)).2 (Nat.le_trans (q3f h 0 (by omega)) hm)
 have h1:=(q9k (D.newest 1)).2 (Nat.le_trans (q3f h 1 (by omega)) hm)
 unfold mtS
 rcases qm9 (D.newest 0) (D.newest 1) with e|e<;>omega
theorem qna (D:DM)(s at_ t:Int):(D.corrupt s at_ t).n=D.n:=by unfold DM.corrupt;split<;>rfl
theorem qef {D:DM}{B:Nat}(h:∀k,(D.cac k).length≤B)(s at_ t:Int)(k:Nat):((D.corrupt s at_ t).cac k).length≤B:=by
 unfold DM.corrupt
 split
 ·show (upd D.cac s.toNat ((D.cac s.toNat).map (turnB at_.toNat t.toNat)) k).length≤B
  by_cases e:k=s.toNat
  ·subst e;rw[q0a,List.length_map];exact h _
  ·rw[q05 _ _ e];exact h k
 ·exact h k
section
variable {b:Nat}{w:World}{d p:Nat}{S0 S T:Nat→Prop}{D:DM}{P:Pl}
theorem qjl (H:SysAt b w d p S0 S T D P)(s at_ t:Int)(hcl:∀k,(D.cac k).length≤1000000) :
  Calls Tryz.prog 17 #[.pointer (some ⟨d,0,none⟩),.int .i64 s,.int .i64 at_,.int .i64 t] w fun e w'=>(∃r,e=.returned (.int .i64 r))∧SysAt b w' d p S0 S T (D.corrupt s at_ t) P∧Turn S0 w w':=by
 refine (qep H.drv s at_ t hcl).mono ?_
 rintro e w' ⟨rfl,L,X⟩
 have hz:=X.size
 exact⟨⟨_,rfl⟩,⟨L,H.pool.other X H.sub H.apart,H.sub,H.apart,fun k hk=>⟨(H.tight k hk).1,by have:=(H.tight k hk).2;omega⟩⟩,X⟩
end
theorem rcorrupt_ex {w:World}{rp:Nat}{S:Nat→Prop}{D:DM}(L0:RDrv w rp S D)(s at_ m:Int)(hcl:∀k,(D.cac k).length≤1000000) :
  Calls Tryz.prog 18 #[.pointer (some ⟨rp,0,none⟩),.int .i64 s,.int .i64 at_,.int .i64 m] w fun e w'=>(∃r,e=.returned (.int .i64 r))∧RDrv w' rp S (D.corrupt s at_ m)∧Turn S w w':=
 (qd5 L0 s at_ m hcl).mono fun _ _ h=>⟨⟨_,h.1⟩,h.2⟩
end Go.Proofs.YtipejjgodnnkaaaGreatDoor
