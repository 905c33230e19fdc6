/- Laws of the pool: a row of calls, and of triples, as they come in. -/
import Derived.Test.YtipejjgodnnkaaaGreatDoorPm40
namespace Go.Proofs.YtipejjgodnnkaaaGreatDoor
open Go Go.RowKit Go.Proofs
set_option maxRecDepth 100000
open Go.ChangeShapes Go.WideShapes Go.ChangeAt Go.Deep
def OpL (w:World)(A:Option Addr)(n c:Nat)(os:List OpV):Prop:=Sls w 12 A n c (os.map OpV.vs)∧∀o∈os,o.here w
def Trips (w:World)(A:Option Addr)(n c:Nat)(ts:List (Int × Int × Int)):Prop:=Sls w 3 A n c (ts.map fun t=>[.int .i64 t.1,.int .i64 t.2.1,.int .i64 t.2.2])∧∀t∈ts,i64 t.1∧i64 t.2.1∧i64 t.2.2
section
variable {H:Type}{enc:TypeId × Value→H}{W:World}
theorem qn4 {α:Type}:∀{l:List α},l.length=12→∃a b c d e f g h i j k m,l=[a,b,c,d,e,f,g,h,i,j,k,m]
 |[a,b,c,d,e,f,g,h,i,j,k,m],_=>⟨a,b,c,d,e,f,g,h,i,j,k,m,rfl⟩
theorem qc1 {m:Nat}{c:Value}{y:DataW H × List MemPlace}(h:DataW.trod enc Tryz.prog W 0 (fun _=>true) true m 3 [c]=some y):∃z,c=.int .i64 z∧i64 z:=qgn Tryz.underlying3 h
theorem qjf {fuel:Nat}{v:Value}{y:DataW H × List MemPlace}(hf:DataW.trod enc Tryz.prog W 0 (fun _=>true) true fuel 33 [v]=some y):∃A n c zs,v=.slice A n c∧Ints W A n c zs:=by
 rcases open_ints Tryz.underlying33 Tryz.underlying3 (by kernel_rfl) hf with⟨hcs,_⟩|⟨a,len,cap,zs,hcs,_,hl,hm,hz,_,hcell,hw⟩
 ·obtain rfl:v=.slice none 0 0:=by simpa using hcs
  exact⟨_,_,_,[],rfl,qnq W⟩
 ·obtain rfl:v=.slice (some a) len cap:=by simpa using hcs
  rw[if_pos rfl] at hz
  refine⟨_,_,_,zs.take len,rfl,⟨?_,hl,hm,fun j u hu=>?_⟩,fun z hz'=>bounds_i64 (hw z (List.mem_of_mem_take hz'))⟩
  ·simp;omega
  ·have hj:j<len:=by have:=(List.getElem?_eq_some_iff.1 hu).1;simp at this;omega
   have hj2:j<zs.length:=by omega
   have hc:=hcell j hj2
   refine⟨a,rfl,?_,?_⟩
   ·have:=World.block_lt_of_cell? W (a.add j) hc
    rwa [q0n] at this
   ·rw[hc,←hu]
    rw[List.getElem?_map,List.getElem?_take_of_lt hj,List.getElem?_eq_getElem hj2]
    simp[List.getD,hj2]
theorem qjg {fuel:Nat}{v0 v1 v2:Value}{y:DataW H × List MemPlace}(hf:DataW.trod enc Tryz.prog W 0 (fun _=>true) true fuel 29 [v0,v1,v2]=some y) :
  ∃(N:Nd) (A:Option Addr) (n c:Nat) (B:Option Addr) (m e:Nat),[v0,v1,v2]=[.int .i64 N.lvl,.slice A n c,.slice B m e]∧Itms W A n c N.items∧Kidl W B m e N.kids:=by
 obtain⟨f0,f1,f2,K⟩:=keyT
 obtain⟨xs,m,_,_,hl,hxl,hff⟩:=DataW.trod_struct Tryz.underlying29 hf
 have k1:Tryz.prog.cellsOf 3=1:=by kernel_rfl
 have k2:Tryz.prog.cellsOf 26=1:=by kernel_rfl
 have k3:Tryz.prog.cellsOf 27=1:=by kernel_rfl
 have g0:DataW.trod enc Tryz.prog W 0 (fun _=>true) true m 3 (List.take (Tryz.prog.cellsOf 3) (List.drop 0 [v0,v1,v2]))=xs[0]?:=hff 0 _ rfl
 have g1:DataW.trod enc Tryz.prog W 0 (fun _=>true) true m 26 (List.take (Tryz.prog.cellsOf 26) (List.drop 1 [v0,v1,v2]))=xs[1]?:=hff 1 _ rfl
 have g2:DataW.trod enc Tryz.prog W 0 (fun _=>true) true m 27 (List.take (Tryz.prog.cellsOf 27) (List.drop 2 [v0,v1,v2]))=xs[2]?:=hff 2 _ rfl
 have hx:xs.length=3:=hxl
 rw[k1,List.getElem?_eq_getElem (by omega)] at g0
 rw[k2,List.getElem?_eq_getElem (by omega)] at g1
 rw[k3,List.getElem?_eq_getElem (by omega)] at g2
 obtain⟨z,rfl⟩:=qc0 (by simpa using g0)
 obtain⟨A,n,c,its,rfl,hits⟩:=qmo Tryz.underlying26 Tryz.underlying142 (by kernel_rfl) rfl rfl (by kernel_rfl) K T22 Tryz.underlying5 (by simpa using g1)
 obtain⟨B,m',e',ks,rfl,hks⟩:=qmp Tryz.underlying27 Tryz.underlying144 (by kernel_rfl) rfl rfl (by kernel_rfl) K Tryz.underlying3 (by simpa using g2)
 exact⟨⟨z,its,ks⟩,A,n,c,B,m',e',rfl,hits,hks⟩
theorem qsl {fuel:Nat}{cs:List Value}{y:DataW H × List MemPlace}(hf:DataW.trod enc Tryz.prog W 0 (fun _=>true) true fuel 35 cs=some y):∃o:OpV,cs=o.vs∧o.here W:=by
 obtain⟨xs,m,_,_,hl,hxl,hff⟩:=DataW.trod_struct Tryz.underlying35 hf
 have hl12:cs.length=12:=by rw[hl];kernel_rfl
 obtain⟨v0,v1,v2,v3,v4,v5,v6,v7,v8,v9,v10,v11,rfl⟩:=qn4 hl12
 have k1:Tryz.prog.cellsOf 3=1:=by kernel_rfl
 have kN:Tryz.prog.cellsOf 29=3:=by kernel_rfl
 have kB:Tryz.prog.cellsOf 30=1:=by kernel_rfl
 have kV:Tryz.prog.cellsOf 32=4:=by kernel_rfl
 have kI:Tryz.prog.cellsOf 33=1:=by kernel_rfl
 obtain⟨L,hL⟩:∃L,[v0,v1,v2,v3,v4,v5,v6,v7,v8,v9,v10,v11]=L:=⟨_,rfl⟩
 rw[hL] at hff
 have g0:DataW.trod enc Tryz.prog W 0 (fun _=>true) true m 3 (List.take (Tryz.prog.cellsOf 3) (List.drop 0 L))=xs[0]?:=hff 0 _ rfl
 have g1:DataW.trod enc Tryz.prog W 0 (fun _=>true) true m 3 (List.take (Tryz.prog.cellsOf 3) (List.drop 1 L))=xs[1]?:=hff 1 _ rfl
 have g2:DataW.trod enc Tryz.prog W 0 (fun _=>true) true m 3 (List.take (Tryz.prog.cellsOf 3) (List.drop 2 L))=xs[2]?:=hff 2 _ rfl
 have g3:DataW.trod enc Tryz.prog W 0 (fun _=>true) true m 29 (List.take (Tryz.prog.cellsOf 29) (List.drop 3 L))=xs[3]?:=hff 3 _ rfl
 have g4:DataW.trod enc Tryz.prog W 0 (fun _=>true) true m 30 (List.take (Tryz.prog.cellsOf 30) (List.drop 6 L))=xs[4]?:=hff 4 _ rfl
 have g5:DataW.trod enc Tryz.prog W 0 (fun _=>true) true m 32 (List.take (Tryz.prog.cellsOf 32) (List.drop 7 L))=xs[5]?:=hff 5 _ rfl
 have g6:DataW.trod enc Tryz.prog W 0 (fun _=>true) true m 33 (List.take (Tryz.prog.cellsOf 33) (List.drop 11 L))=xs[6]?:=hff 6 _ rfl
 have hx:xs.length=7:=hxl
 rw[k1,←hL,List.getElem?_eq_getElem (by omega)] at g0 g1 g2
 rw[kN,←hL,List.getElem?_eq_getElem (by omega)] at g3
 rw[kB,←hL,List.getElem?_eq_getElem (by omega)] at g4
 rw[kV,←hL,List.getElem?_eq_getElem (by omega)] at g5
 rw[kI,←hL,List.getElem?_eq_getElem (by omega)] at g6
 obtain⟨K,rfl,iK⟩:=qc1 (by simpa using g0)
 obtain⟨A,rfl,iA⟩:=qc1 (by simpa using g1)
 obtain⟨V,rfl,iV⟩:=qc1 (by simpa using g2)
 obtain⟨N,ia,i,ic,ka,k,kc,eN,hits,hks⟩:=qjg (by simpa using g3)
 obtain⟨ba,b,bc,B,rfl,hB⟩:=qal T22 Tryz.underlying5 (by simpa using g4)
 obtain⟨vl,eV,hV⟩:=qph (by simpa using g5)
 obtain⟨pa,p,pc,keep,rfl,hke⟩:=qjf (by simpa using g6)
 injection eN with e3 eN
 injection eN with e4 eN
 injection eN with e5 _
 unfold Vl.vs at eV
 injection eV with e7 eV
 injection eV with e8 eV
 injection eV with e9 eV
 injection eV with e10 _
 exact⟨⟨K,A,V,N,ia,i,ic,ka,k,kc,B,ba,b,bc,vl,keep,pa,p,pc⟩,by rw[e3,e4,e5,e7,e8,e9,e10];rfl,⟨iK,iA,iV,hits,hks,hB,hV,hke⟩⟩
theorem qn5 {P:Program}{n:Nat}{t e:TypeId}(ht:P.underlying t=some (.array n e))(he:P.underlying e=some (.int .i64))(hc:P.cellsOf e=1)(hct:P.cellsOf t=n){sp:Nat→Bool}{f:Nat}{cs:List Value}{x:DataW H × List MemPlace}
  (h:DataW.trod enc P W 0 sp true f t cs=some x):∃zs:List Int,cs=zs.map (Value.int .i64)∧zs.length=n∧∀z∈zs,i64 z:=by
 obtain⟨xs,m,_,_,hl,hxl,hi⟩:=DataW.trod_array ht h
 have hlen:cs.length=n:=hl.trans hct
 have key:∀i (hi':i<cs.length),∃z,cs[i]=.int .i64 z∧i64 z:=fun i hi'=>by
  have h1:=hi i (by omega)
  have h2:xs[i]?=some (xs[i]'(by omega)):=List.getElem?_eq_getElem (by omega)
  rw[hc,Nat.mul_one,h2,List.drop_eq_getElem_cons hi'] at h1
  exact qgn he h1
 refine⟨cs.map fun v=>match v with|.int _ z=>z|_=>0,?_,by simpa using hlen,fun z hz=>?_⟩
 ·apply List.ext_getElem
  ·simp
  ·intro i h1 h2
   obtain⟨z,hz,_⟩:=key i h1
   simp[hz]
 ·obtain⟨v,hv,rfl⟩:=List.mem_map.1 hz
  obtain⟨i,hi',rfl⟩:=List.getElem_of_mem hv
  obtain⟨z,hz,hb⟩:=key i hi'
  rw[hz];exact hb
theorem qn6 {α:Type}{raw:List (List Value)}{Q:α→Prop}{f:α→List Value}(h:∀r∈raw,∃x,r=f x∧Q x):∃xs:List α,raw=xs.map f∧∀x∈xs,Q x:=by
 induction raw with
 |nil=>exact⟨[],rfl,fun x hx=>by cases hx⟩
 |cons r l ih=>
  obtain⟨x,hx,hq⟩:=h r (List.mem_cons_self ..)
  obtain⟨xs,h1,h2⟩:=ih fun r hr=>h r (List.mem_cons_of_mem _ hr)
  exact⟨x::xs,by rw[List.map_cons,←hx,←h1],fun y hy=>by
   rcases List.mem_cons.1 hy with rfl|hy
   ·exact hq
   ·exact h2 y hy⟩
theorem qjh {v:Value}{d:DataW H}{ps:List MemPlace}(hv:∃a len cap,v=.slice a len cap)(h:DataW.Trod enc Tryz.prog W 0 (fun _=>true) true 22 v d ps):∃A n c os,v=.slice A n c∧OpL W A n c os:=by
 obtain⟨a,len,cap,rfl⟩:=hv
 obtain⟨fuel,hf⟩:=h
 obtain⟨A,n,c,raw,e,hs,hr⟩:=q7u (s:=12) (by omega) Tryz.underlying22 (by kernel_rfl) hf
 obtain⟨os,rfl,ho⟩:=qn6 (f:=OpV.vs) (Q:=fun o=>o.here W) fun r hm=>by
  obtain⟨f,y,hy⟩:=hr r hm
  exact qsl hy
 exact⟨A,n,c,os,e,hs,ho⟩
theorem qji {v:Value}{d:DataW H}{ps:List MemPlace}(hv:∃a len cap,v=.slice a len cap)(h:DataW.Trod enc Tryz.prog W 0 (fun _=>true) true 45 v d ps):∃A n c ts,v=.slice A n c∧Trips W A n c ts:=by
 obtain⟨a,len,cap,rfl⟩:=hv
 obtain⟨fuel,hf⟩:=h
 obtain⟨A,n,c,raw,e,hs,hr⟩:=q7u (s:=3) (by omega) Tryz.underlying45 (by kernel_rfl) hf
 obtain⟨ts,rfl,ho⟩:=qn6 (f:=fun t:Int × Int × Int=>[.int .i64 t.1,.int .i64 t.2.1,.int .i64 t.2.2]) (Q:=fun t=>i64 t.1∧i64 t.2.1∧i64 t.2.2) fun r hm=>by
  obtain⟨f,y,hy⟩:=hr r hm
  obtain⟨zs,rfl,hl,hb⟩:=qn5 Tryz.underlying49 Tryz.underlying3 (by kernel_rfl) (by kernel_rfl) hy
  match zs,hl with
  |[z1,z2,z3],_=>exact⟨(z1,z2,z3),rfl,hb z1 (by simp),hb z2 (by simp),hb z3 (by simp)⟩
 exact⟨A,n,c,ts,e,hs,ho⟩
end
theorem qn7 (w:World)(g o n c j:Nat)(hj:j<n):(Instr.indexAt 22 (.slice (some ⟨g,o,none⟩) n c) (.int .i64 (j:Int))).run Tryz.prog w=.ok (.pointer (some ⟨g,o+j*12,none⟩)) w:=by
 have ha:(⟨g,o,none⟩:Addr).add (j*12)=⟨g,o+j*12,none⟩:=Addr.add_mid g o (j*12)
 simp[Instr.indexAt,asIntOf,run_underlying Tryz.underlying22,Tryz.sizeOf35,hj,ha]
theorem qfx (w:World)(g o n c j:Nat)(hj:j<n):(Instr.indexAt 45 (.slice (some ⟨g,o,none⟩) n c) (.int .i64 (j:Int))).run Tryz.prog w=.ok (.pointer (some ⟨g,o+j*3,none⟩)) w:=by
 have ha:(⟨g,o,none⟩:Addr).add (j*3)=⟨g,o+j*3,none⟩:=Addr.add_mid g o (j*3)
 simp[Instr.indexAt,asIntOf,run_underlying Tryz.underlying45,Tryz.sizeOf49,hj,ha]
theorem OpV.here.below {o:OpV}{w w':World}(h:o.here w)(hb:Below w.heap.size w w'):o.here w':=
 ⟨h.iK,h.iA,h.iV,h.items.below hb,Kidl.below h.kids hb,h.bytes.below hb,h.name,(Holds.below h.keeps.1 hb).more hb.size,h.keeps.2⟩
theorem qjj {ops:Array Oper}{rest:List Oper}{o:Oper}{a:Act}{w:World}{Q:Exit→Act→World→Prop}(hg:o.guard=none)(x:Operand)(hop:o.op=Op.load 49 x)
  (b j:Nat) (hx:a.eval x=.pointer (some ⟨b,j,none⟩)) (vs:List Value) (hl:vs.length=3) (hr:w.rangeAt b j vs) (hK:wpList Tryz.prog ops Q rest (a.put o.dst (.agg vs.toArray)) w):wpList Tryz.prog ops Q (o::rest) a w:=
 wpList_load_mid hg _ x hop b j hx vs _ hr Tryz.underlying49 rfl (by rw[hl];kernel_rfl) hK
theorem qn8 (o:OpV):o.few.i≤20∧o.few.k≤20∧o.few.b≤300:=⟨Nat.min_le_right _ _,Nat.min_le_right _ _,Nat.min_le_right _ _⟩
theorem qfy {ops:Array Oper}{rest:List Oper}{o:Oper}{a:Act}{w:World}{Q:Exit→Act→World→Prop}(hg:o.guard=none)(x z:Operand)(hop:o.op=Op.store 49 x z)
  (b:Nat) (hx:a.eval x=.pointer (some ⟨b,0,none⟩)) (vs vs0:List Value) (hl:vs.length=3) (h1:∀x∈vs,x.oneCell'=true) (hl0:vs0.length=3) (H:OB w b vs0) (hy:a.eval z=.agg vs.toArray)
  (hK:∀w',OB w' b vs→Turn (fun k=>k=b) w w'→wpList Tryz.prog ops Q rest (a.put o.dst undef) w'):wpList Tryz.prog ops Q (o::rest) a w:=by
 obtain⟨t,h2⟩:=H
 have ht:w.there b 0 vs.toArray.size:=fun j hj=>by
  rw[List.size_toArray,hl] at hj
  refine⟨?_,by unfold World.frozen?;rw[h2];simp⟩
  rw[Nat.zero_add,cell_of_row _ _ _ _ _ _ h2,List.getElem?_toArray,List.getElem?_eq_getElem (by omega)]
  rfl
 refine wpList_store_mid hg _ x z hop b 0 vs.toArray hx hy ht (by rw[List.size_toArray,hl];kernel_rfl) (all_oneCell_toArray h1) ?_
 have e:=q0h b t vs 0 w vs0 h2 (by omega)
 rw[q24 vs0 vs (by omega)] at e
 exact hK _ ⟨t,e⟩ (q0d (S:=fun k=>k=b) rfl vs 0 w)
theorem OpL.get {w:World}{A:Option Addr}{n c:Nat}{os:List OpV}(h:OpL w A n c os){j:Nat}(hj:j<n):∃g o x,A=some ⟨g,o,none⟩∧g<w.heap.size∧x.here w∧w.rangeAt g (o+j*12) (OpV.vs x):=by
 have hl:os.length=n:=by have:=h.1.len;simpa using this
 obtain⟨g,o,e,hg,_,hr⟩:=h.1.at_ hj
 have hx:os[j]?=some (os[j]'(by omega)):=List.getElem?_eq_getElem _
 rw[List.getD_eq_getElem?_getD,List.getElem?_map,hx] at hr
 exact⟨g,o,_,e,hg,h.2 _ (List.mem_of_getElem? hx),hr⟩
theorem Trips.get {w:World}{A:Option Addr}{n c:Nat}{ts:List (Int × Int × Int)}(h:Trips w A n c ts){j:Nat}(hj:j<n):∃g o x y z,A=some ⟨g,o,none⟩∧g<w.heap.size∧i64 x∧i64 y∧i64 z∧w.rangeAt g (o+j*3) [.int .i64 x,.int .i64 y,.int .i64 z]:=by
 have hl:ts.length=n:=by have:=h.1.len;simpa using this
 obtain⟨g,o,e,hg,_,hr⟩:=h.1.at_ hj
 have hx:ts[j]?=some (ts[j]'(by omega)):=List.getElem?_eq_getElem _
 rw[List.getD_eq_getElem?_getD,List.getElem?_map,hx] at hr
 obtain⟨b1,b2,b3⟩:=h.2 _ (List.mem_of_getElem? hx)
 exact⟨g,o,_,_,_,e,hg,b1,b2,b3,hr⟩
end Go.Proofs.YtipejjgodnnkaaaGreatDoor
