/- A sector full of a byte; the newest write of a sector; Read -/
import Derived.Test.YtipejjgodnnkaaaGreatDoorPm12
import Derived.Deep.RegionHeld3
import Derived.Great.BuildSlice
import Derived.BigRegion
namespace Go.Proofs.YtipejjgodnnkaaaGreatDoor
open Go Go.RowKit Go.Proofs
set_option maxHeartbeats 2000000
set_option maxRecDepth 100000
def lowB (c:Int):UInt8:=UInt8.ofNat (c % 256).toNat
def fill (c:Int):List UInt8:=List.replicate 256 (lowB c)
def zeros (n:Nat):List UInt8:=List.replicate n 0
theorem q56 {fn:Func}{p:Tmp}{ty:TypeId}(h:fn.results=#[.cell p ty])(tmps:Array Value)(P:Program)(w:World) :
  (results fn tmps).run P w=((asAddr (tmps.getD p undef)).run P w).andThen fun a w₁=>(loadVar ty a).run P w₁:=by
 simp only[results,h]
 simp[Sem.run_bind,Result.andThen]
def DM.newest (D:DM)(s:Nat):List UInt8:=(D.cac s).getLastD (D.dur s)
theorem q4b {α:Type}:∀(l:List α) (a:α),l≠[]→l.getLastD a∈l
 |[],a,h=>absurd rfl h
 |[x],a,_=>by simp
 |x::y::r,a,_=>by
  rw[List.getLastD_cons,List.getLastD_cons]
  have:=q4b (y::r) x (by simp)
  rw[List.getLastD_cons] at this
  exact List.mem_cons_of_mem _ this
theorem Lay.newest_len {w:World}{bp bd bm clock:Nat}{l:List MapEntry}{v:Nat→Value}{S:Nat→Prop}{D:DM}(L:Lay w bp bd bm l clock v S D)(s:Nat):(D.newest s).length=256:=by
 unfold DM.newest
 rcases hc:D.cac s with _|⟨a,r⟩
 ·exact L.dl s
 ·exact L.cl s _ (by rw[hc];exact q4b _ _ (by simp))
theorem Lay.lookup {w:World}{bp bd bm clock:Nat}{l:List MapEntry}{v:Nat→Value}{S:Nat→Prop}{D:DM}(L:Lay w bp bd bm l clock v S D)(s:Nat) :
  (Instr.lookup 127 (.map (some bm)) (.int .i64 s) false).run Tryz.prog w=.ok (v s) w:=by
 have h:=q47 (P:=Tryz.prog) (w:=w) L.ents Tryz.underlying127 Tryz.underlying3 (z:=.slice none 0 0) (by kernel_rfl) L.map s
 rw[h,L.look s]
 split
 ·rename_i hc;rw[L.nil s hc];rfl
 ·rfl
theorem UB:Tryz.prog.underlying 125=some (.array 256 5):=Tryz.underlying125
theorem SBk:(Tryz.prog.info? 125).map (·.size)=some 256:=by kernel_rfl
theorem ZB (w:World):(zeroValue 125).run Tryz.prog w=.ok (.agg (Array.replicate 256 (.int .u8 0))) w:=by
 have h:=TB
 obtain⟨i,hi,hz0,_⟩:=info_parts h
 simp[zeroValue,typeInfo,hi,hz0]
def varB (w:World):World:=w.alloc (.cells (Array.replicate 256 (.int .u8 0)) 125)
theorem q82 (w:World):(varB w).heap.size=w.heap.size+1:=by simp[varB]
theorem q4v (w:World):(varB w).there w.heap.size 0 256:=fun j hj=>by
 have hb:(varB w).heap[w.heap.size]?=some (.cells (Array.replicate 256 (.int .u8 0)) 125 (0,0)):=heap_alloc_new w _
 refine⟨?_,by simp[World.frozen?,hb]⟩
 rw[cell_of_row _ _ _ _ _ _ hb,Nat.zero_add,Array.getElem?_replicate,if_pos hj];rfl
theorem q9q (w:World):Below w.heap.size w (varB w):=blA
theorem qcc (w:World)(l:List UInt8)(hl:l.length=256):Below w.heap.size w ((varB w).setCells w.heap.size 0 (bvs l))∧((varB w).setCells w.heap.size 0 (bvs l)).rangeAt w.heap.size 0 (bvs l):=by
 refine⟨(q9q w).trans ((q0d (S:=fun k=>k=w.heap.size) rfl (bvs l) 0 (varB w)).below (fun x hx=>by omega) (by rw[q82];omega)),World.rangeAt_setCells_same _ _ _ _ ?_⟩
 rw[q16,hl];exact q4v w
theorem qen {ops:Array Oper}{rest:List Oper}{o:Oper}{a:Act}{w:World}{Q:Exit→Act→World→Prop}(hg:o.guard=none)(hop:o.op=Op.alloc 125)
  (hK:wpList Tryz.prog ops Q rest (a.put o.dst (.pointer (some ⟨w.heap.size,0,none⟩))) (varB w)):wpList Tryz.prog ops Q (o::rest) a w:=
 wpList_plain hg fun K hK'=>by
  have hrun:(Instr.alloc 125 true (.tuple #[])).run Tryz.prog w=.ok (.pointer (some ⟨w.heap.size,0,none⟩)) (varB w):=by
   have zb:=ZB
   first
    |(simp[Instr.alloc,newVar,newRow,Value.cells,varB, *];done)
    |(simp[Instr.alloc,newVar,newRow,Value.cells,varB];refine congrArg (fun x=>w.alloc (.cells x 125)) ?_;kernel_rfl)
  unfold Oper.wp execOp
  simp only[hop,Sem.run_bind,Sem.run_pure,Result.andThen_ok,hrun]
  exact hK' _ _ hK
theorem q1u (w:World)(g n c i:Nat)(hi:i<n):(Instr.indexAt 126 (.slice (some ⟨g,0,none⟩) n c) (.int .i64 (i:Int))).run Tryz.prog w=.ok (.pointer (some ⟨g,i*256,none⟩)) w:=by
 have hz:(sizeOf 125).run Tryz.prog w=.ok 256 w:=by
  obtain⟨z,hz,_,hs,_⟩:=info_parts TB
  simp[sizeOf,typeInfo,hz,hs]
 have ha:(⟨g,0,none⟩:Addr).add (i*256)=⟨g,i*256,none⟩:=by rw[Addr.add_lit,Nat.zero_add]
 simp[Instr.indexAt,asIntOf,run_underlying Tryz.underlying126,hi,ha]
theorem q75 {ops:Array Oper}{rest:List Oper}{o:Oper}{a:Act}{w:World}{Q:Exit→Act→World→Prop}(hg:o.guard=none)(x y:Operand)(hop:o.op=Op.indexAddr 126 x y)
  (g n c i:Nat) (hx:a.eval x=.slice (some ⟨g,0,none⟩) n c) (z:Int) (hy:a.eval y=.int .i64 z) (hz:z=(i:Int)) (hi:i<n)
  (hK:wpList Tryz.prog ops Q rest (a.put o.dst (.pointer (some ⟨g,i*256,none⟩))) w):wpList Tryz.prog ops Q (o::rest) a w:=
 wpList_plain hg fun K hK'=>by
  subst hz
  unfold Oper.wp execOp
  simp only[hop,hx,hy,Sem.run_bind,Sem.run_pure,Result.andThen_ok,q1u w g n c i hi]
  exact hK' _ _ hK
theorem q83 {ops:Array Oper}{rest:List Oper}{o:Oper}{a:Act}{w:World}{Q:Exit→Act→World→Prop}(hg:o.guard=none)(x:Operand)(hop:o.op=Op.load 125 x)
  (b p:Nat) (hx:a.eval x=.pointer (some ⟨b,p,none⟩)) (l:List UInt8) (hl:l.length=256) (hc:w.rangeAt b p (bvs l))
  (hK:wpList Tryz.prog ops Q rest (a.put o.dst (.agg (bvs l).toArray)) w):wpList Tryz.prog ops Q (o::rest) a w:=
 wpList_load_mid hg _ x hop b p hx (bvs l) _ hc UB rfl (by rw[SBk,q16,hl]) hK
theorem q4c {ops:Array Oper}{rest:List Oper}{o:Oper}{a:Act}{w:World}{Q:Exit→Act→World→Prop}(hg:o.guard=none)(x y:Operand)(hop:o.op=Op.store 125 x y)
  (b p:Nat) (hx:a.eval x=.pointer (some ⟨b,p,none⟩)) (l:List UInt8) (hy:a.eval y=.agg (bvs l).toArray) (hl:l.length=256) (ht:w.there b p 256)
  (hK:wpList Tryz.prog ops Q rest (a.put o.dst undef) (w.setCells b p (bvs l))):wpList Tryz.prog ops Q (o::rest) a w:=
 wpList_store_mid hg _ x y hop b p (bvs l).toArray hx hy (by rw[List.size_toArray,q16,hl];exact ht) (by rw[SBk,List.size_toArray,q16,hl]) (all_oneCell_toArray (qfr l)) hK
theorem qhv {w:World}{bp bd bm clock:Nat}{l:List MapEntry}{v:Nat→Value}{S:Nat→Prop}{D:DM}(L:Lay w bp bd bm l clock v S D)(s:Nat)(hs:s<D.n) :
  Calls Tryz.prog 150 #[.pointer (some ⟨bp,0,none⟩),.int .i64 s] w fun e w'=>e=.returned (.agg (bvs (D.newest s)).toArray)∧Below w.heap.size w w':=by
 have LV:Lay (varB w) bp bd bm l clock v S D:=L.keep fun k hk _=>(q9q w).block k hk
 have c0:=LV.c0
 have c1:=LV.c1
 have hlk:=LV.lookup s
 have hlen:=L.newest_len s
 obtain⟨hb,hr⟩:=qcc w (D.newest s) hlen
 have hbl:(bvs (D.newest s)).length=256:=by rw[q16,hlen]
 rcases hc:D.cac s with _|⟨x,r⟩
 ·have hn:=L.nil s hc
  have hd:=LV.dur s hs
  have e1:D.newest s=D.dur s:=by unfold DM.newest;rw[hc];rfl
  rw[e1] at hlen hb hr hbl ⊢
  rw[hn] at hlk
  go_enter Tryz.func150,Tryz.ntmps150
  go_wp2_with (first
   |(refine qen (by rfl) (by rfl) ?_)
   |(refine q75 rfl _ _ rfl bd D.n D.cap s rfl _ rfl rfl hs ?_)
   |(refine q83 (by rfl) _ (by rfl) bd (s*256) (by rfl) (D.dur s) hlen hd ?_)
   |(refine q4c (by rfl) _ _ (by rfl) w.heap.size 0 (by rfl) (D.dur s) (by rfl) hlen (q4v w) ?_))
  (try simp only[Exit.inBlock,Exit.then])
  refine bodyPost_ret (v:=.agg (bvs (D.dur s)).toArray) ?_ rfl ⟨rfl,hb⟩
  refine (q56 Tryz.results150 _ _ _).trans ?_
  simp only[go_sem]
  have:=run_loadVar_mid (P:=Tryz.prog) _ _ _ 125 _ _ hr UB rfl (by rw[SBk,hbl])
  exact this
 ·obtain⟨g,c,hv,hnc,hcm⟩:=q4o (L.row s) (by rw[hc];simp)
  have hg:(v s).ownBlock=some g:=by rw[hv];rfl
  have hrow:=LV.row s
  rw[hv] at hrow hlk
  have hk:(D.cac s).length-1<(D.cac s).length:=by rw[hc];simp
  have e1:(D.cac s)[(D.cac s).length-1]=D.newest s:=by
   unfold DM.newest
   rw[←List.getLast_eq_getElem (by rw[hc];simp),List.getLastD_eq_getLast?,List.getLast?_eq_some_getLast (by rw[hc];simp)];rfl
  have hd:=q70 hrow (L.cl s) rfl ((D.cac s).length-1) hk
  rw[e1] at hd
  have hk0:0<(D.cac s).length:=by omega
  have hmax:(D.cac s).length≤9223372036854775807:=by unfold maxLen at hcm;omega
  clear hc e1
  generalize (D.cac s).length=k at *
  go_enter Tryz.func150,Tryz.ntmps150
  go_wp2_with (first
   |(refine qen (by rfl) (by rfl) ?_)
   |(refine q75 (by rfl) _ _ (by rfl) g k c (k-1) (by rfl) _ (by rfl) (by first|rfl|omega) hk ?_)
   |(refine q83 (by rfl) _ (by rfl) g ((k-1)*256) (by rfl) (D.newest s) hlen hd ?_)
   |(refine q4c (by rfl) _ _ (by rfl) w.heap.size 0 (by rfl) (D.newest s) (by rfl) hlen (q4v w) ?_))
  (try simp only[Exit.inBlock,Exit.then])
  refine bodyPost_ret (v:=.agg (bvs (D.newest s)).toArray) ?_ rfl ⟨rfl,hb⟩
  refine (q56 Tryz.results150 _ _ _).trans ?_
  simp only[go_sem]
  have:=run_loadVar_mid (P:=Tryz.prog) _ _ _ 125 _ _ hr UB rfl (by rw[SBk,hbl])
  exact this
def DM.readE (D:DM)(s:Int):Int:=if D.off then 4 else if 0≤s∧s<(D.n:Int) then 0 else 1
def DM.readL (D:DM)(s:Int):List UInt8:=if D.off then [] else if 0≤s∧s<(D.n:Int) then D.newest s.toNat else []
theorem q7k {w:World}{bp bd bm clock:Nat}{l:List MapEntry}{v:Nat→Value}{S:Nat→Prop}{D:DM}(L:Lay w bp bd bm l clock v S D)(s:Int) :
  Calls Tryz.prog 93 #[.pointer (some ⟨bp,0,none⟩),.int .i64 s] w fun e w'=>∃A n,e=.returned (.tuple #[.slice A n n,.int .i64 (D.readE s)])∧Sl w' A n n (D.readL s)∧n≤256∧Below w.heap.size w w'∧∀ad,A=some ad→w.heap.size≤ad.block∧ad.block<w'.heap.size:=by
 have c2:=L.c2
 unfold DM.readE DM.readL
 cases hoff:D.off with
 |true=>
  rw[hoff] at c2
  go_enter Tryz.func93,Tryz.ntmps93
  go_wp2
  go_ret2
  exact⟨none,0,rfl,q0k w,by omega,Below.refl _ _,fun ad h=>by cases h⟩
 |false=>
  rw[hoff] at c2
  by_cases hs:0≤s∧s<(D.n:Int)
  ·obtain⟨k,rfl⟩:=Int.eq_ofNat_of_zero_le hs.1
   have hk:k<D.n:=by omega
   have hlen:=L.newest_len k
   have hbl:(bvs (D.newest k)).length=256:=by rw[q16,hlen]
   have H1:=q6i L (k:Int)
   rw[show decide (0≤(k:Int)∧(k:Int)<(D.n:Int))=true by simpa using hs] at H1
   rw[if_pos hs,if_pos hs,Int.toNat_natCast]
   simp only[Bool.false_eq_true,if_false]
   go_enter Tryz.func93,Tryz.ntmps93
   go_wp2_with fail
   refine H1.mono ?_
   rintro e w1 ⟨rfl,rfl⟩
   go_wp2_with fail
   refine (qhv L k hk).mono ?_
   rintro e w1 ⟨rfl,hb1⟩
   obtain⟨hb,hr⟩:=qcc w1 (D.newest k) hlen
   go_wp2_with (first
    |(refine qen (by rfl) (by rfl) ?_)
    |(refine q4c (by rfl) _ _ (by rfl) w1.heap.size 0 (by rfl) (D.newest k) (by rfl) hlen (q4v w1) ?_))
   go_ret2
   refine⟨some ⟨w1.heap.size,0,none⟩,256,rfl,?_,by omega,hb1.trans (hb.mono hb1.size),fun ad h=>by cases h;exact⟨hb1.size,by rw[q3t,q82];simp⟩⟩
   have:=qbu hr (by rw[q3t,q82];omega) (c:=256) (by omega) (by unfold maxLen;omega)
   rw[hlen] at this;exact this
  ·have H1:=q6i L s
   rw[show decide (0≤s∧s<(D.n:Int))=false by simpa using hs] at H1
   rw[if_neg hs,if_neg hs]
   simp only[Bool.false_eq_true,if_false]
   go_enter Tryz.func93,Tryz.ntmps93
   go_wp2_with fail
   refine H1.mono ?_
   rintro e w1 ⟨rfl,rfl⟩
   go_wp2_with fail
   go_ret2
   exact⟨none,0,rfl,q0k w,by omega,Below.refl _ _,fun ad h=>by cases h⟩
section
open Go.ChangeMaps (setBlock)
def DM.settle (D:DM)(s i:Nat):DM:={ D with dur:=if i=0 then D.dur else upd D.dur s ((D.cac s).getD (i-1) []),cac:=upd D.cac s [] }
theorem Lay.drew {w:World}{bp bd bm clock:Nat}{l:List MapEntry}{v:Nat→Value}{S:Nat→Prop}{D:DM}(L:Lay w bp bd bm l clock v S D):Lay w.drew bp bd bm l clock v S D:=L.keep fun _ _ _=>rfl
theorem Lay.run_delete {w:World}{bp bd bm clock:Nat}{l:List MapEntry}{v:Nat→Value}{S:Nat→Prop}{D:DM}(L:Lay w bp bd bm l clock v S D)(s:Nat)(ty:TypeId) :
  (Builtin.delete_ #[127,3] ty #[.map (some bm),.int .i64 s]).run Tryz.prog w=.ok (.tuple #[]) (setBlock w bm (.map (delE s l).toArray clock)):=
 q48 (P:=Tryz.prog) (w:=w) L.ents Tryz.underlying127 Tryz.underlying3 L.map s _ ty
theorem qhw {w:World}{bp bd bm clock:Nat}{l:List MapEntry}{v:Nat→Value}{S:Nat→Prop}{D:DM}(L:Lay w bp bd bm l clock v S D)(s:Nat)(hs:s<D.n)(i:Nat)(hi:i≤(D.cac s).length) :
  Calls Tryz.prog 91 #[.pointer (some ⟨bp,0,none⟩),.int .i64 s,.int .i64 i] w fun e w'=>e=.returned (.tuple #[])∧Lay w' bp bd bm (delE s l) clock (upd v s (.slice none 0 0)) S (D.settle s i)∧Turn (fun k=>k=bd∨k=bm) w w':=by
 by_cases h0:i=0
 ·subst h0
  have c1:=L.c1
  have hdel:=L.run_delete s
  have LF:=L.forget s hs
  go_enter Tryz.func91,Tryz.ntmps91
  go_wp2
  go_end0
  exact⟨rfl,LF,q0o _ (.inr rfl)⟩
 ·obtain⟨g,c,hv,hnc,hcm⟩:=q4o (L.row s) (by omega)
  have hg:(v s).ownBlock=some g:=by rw[hv];rfl
  have hk:i-1<(D.cac s).length:=by omega
  have e0:(D.cac s).getD (i-1) []=(D.cac s)[i-1]:=by rw[List.getD_eq_getElem?_getD,List.getElem?_eq_getElem hk];rfl
  have hlen:((D.cac s)[i-1]).length=256:=L.cl s _ (List.getElem_mem hk)
  have Ed:D.settle s i={ { D with dur:=upd D.dur s (D.cac s)[i-1] } with cac:=upd D.cac s [] }:=by unfold DM.settle;rw[if_neg h0,e0]
  rw[Ed]
  have hrow:=L.row s
  rw[hv] at hrow
  have hd:=q70 hrow (L.cl s) rfl (i-1) hk
  clear Ed e0 hrow
  generalize (D.cac s)[i-1]=x at hd hlen ⊢
  have hbl:(bvs x).length=256:=by rw[q16,hlen]
  have LD:=L.drew
  have c0:=LD.c0
  have c1:=LD.c1
  have hlk:=LD.lookup s
  rw[hv] at hlk
  have ht:=LD.durw s hs
  have hd:w.drew.rangeAt g ((i-1)*256) (bvs x):=hd
  have LS:=LD.store s hs x hlen
  have c0':=LS.c0
  have c1':=LS.c1
  have hlk':=LS.lookup s
  rw[hv] at hlk'
  have ht':=LS.durw s hs
  have hd':(w.drew.setCells bd (s*256) (bvs x)).rangeAt g ((i-1)*256) (bvs x):=World.rangeAt_setCells_apart hd _ _ _ (.inl (L.ne.2 s g hg).2)
  have hdel:=LS.run_delete s
  have LF:=LS.forget s hs
  have hu:=UB
  have hin:(Tryz.prog.info? 125).map (·.size)=some (bvs x).length:=by rw[hbl];exact SBk
  have h1:=qfr x
  have hx1:∀w':World,(Instr.indexAt 126 (.slice (some ⟨g,0,none⟩) (D.cac s).length c) (.int .i64 ((i:Int)-1))).run Tryz.prog w'=.ok (.pointer (some ⟨g,(i-1)*256,none⟩)) w':=fun w'=>by
   have:=q1u w' g (D.cac s).length c (i-1) hk
   rw[show ((i-1:Nat):Int)=(i:Int)-1 by omega] at this
   exact this
  have hx2:∀w':World,(Instr.indexAt 126 (.slice (some ⟨bd,0,none⟩) D.n D.cap) (.int .i64 (s:Int))).run Tryz.prog w'=.ok (.pointer (some ⟨bd,s*256,none⟩)) w':=fun w'=>q1u w' bd D.n D.cap s hs
  have hi63:i≤9223372036854775807:=by unfold maxLen at hcm;omega
  have hw:IntKind.i64.wrap ((i:Int)-1)=(i:Int)-1:=IntWalk.i64_in _ (by omega)
  go_enter Tryz.func91,Tryz.ntmps91
  go_wp2_with fail
  go_region_held3 (fun w'=>w'.cell? ⟨bp,0,none⟩=some (.slice (some ⟨bd,0,none⟩) D.n D.cap)∧w'.cell? ⟨bp,1,none⟩=some (.map (some bm))∧(Instr.lookup 127 (.map (some bm)) (.int .i64 s) false).run Tryz.prog w'=.ok (.slice (some ⟨g,0,none⟩) (D.cac s).length c) w'∧
   w'.rangeAt g ((i-1)*256) (bvs x)∧w'.there bd (s*256) 256) (first|exact⟨c0,c1,hlk,hd,ht⟩|exact⟨c0',c1',hlk',hd',ht'⟩) (fail)
  go_wp2
  go_end0
  exact⟨rfl,LF,((Turn.refl _ w).drew.then (q0d (.inl rfl) _ _ _)).then (q0o _ (.inr rfl))⟩
end
section
open Go.ChangeMaps (setBlock)
def oneB (w:World)(l:List UInt8):World:=w.alloc (.cells (bvs l).toArray 125)
theorem qb0 (w:World)(l:List UInt8)(hl:l.length=256):(Instr.buildSlice 126 1 #[(0,.agg (bvs l).toArray)]).run Tryz.prog w=.ok (.slice (some ⟨w.heap.size,0,none⟩) 1 1) (oneB w l):=by
 obtain⟨i,hi,hz0,hz1,hz2⟩:=info_parts TB
 refine run_buildSlice w _ _ 1 _ (bvs l).toArray i _ Tryz.underlying126 hi hz0 (by rw[hz1];omega) (by rw[hz1];omega) ?_
 have hs:(Value.agg (bvs l).toArray).cells.size=256:=by show (bvs l).toArray.size=256;rw[List.size_toArray,q16,hl]
 have h:=Great.fill_whole (s:=256) (by omega) [.agg (bvs l).toArray] ((Array.range (1*256)).map ((Value.agg (Array.replicate 256 (Value.int .u8 0))).cells[· % (Value.agg (Array.replicate 256 (Value.int .u8 0))).cells.size]!)) (by intro v hv;rw[List.mem_singleton.1 hv];exact hs) (by rw[Array.size_map,Array.size_range];rfl)
 rw[hz1]
 refine Eq.trans ?_ (h.trans ?_)
 ·simp only[List.zipIdx_cons,List.zipIdx_nil,List.map_cons,List.map_nil]
 ·simp[Value.cells]
theorem qcd (w:World)(g o c:Nat):(Instr.arrayAt 125 (.slice (some ⟨g,o,none⟩) 256 c)).run Tryz.prog w=.ok (.pointer (some ⟨g,o,none⟩)) w:=by
 simp[Instr.arrayAt,run_underlying UB]
theorem Lay.apart {w:World}{bp bd bm clock:Nat}{l:List MapEntry}{v:Nat→Value}{S:Nat→Prop}{D:DM}(L:Lay w bp bd bm l clock v S D){g o:Nat}{x:List UInt8}(hx:0<x.length)(h:w.rangeAt g o (bvs x)):g≠bp:=fun e=>by
 subst e
 have hc:=h 0 (bv x[0]) (by simp[bvs,hx])
 rw[cell_of_row w g (o+0) _ _ _ L.me,Nat.add_zero] at hc
 rcases o with _|_|_|_|_|_|o<;>simp[bv] at hc
theorem Lay.run_update {w:World}{bm clock:Nat}{l:List MapEntry}(hb:w.heap[bm]?=some (.map l.toArray clock))(E:Ents l clock)(s:Nat)(x:Value) :
  (Instr.mapUpdate 127 (.map (some bm)) (.int .i64 s) x).run Tryz.prog w=.ok () (setBlock w bm (.map (putE s x clock l).toArray (if getE s l=none then clock+1 else clock))):=
 q1r (P:=Tryz.prog) (w:=w) E Tryz.underlying127 Tryz.underlying3 hb s x
theorem Lay.append {w:World}{bp bd bm clock:Nat}{l:List MapEntry}{v:Nat→Value}{S:Nat→Prop}{D:DM}(L:Lay w bp bd bm l clock v S D)(s:Nat)(hs:s<D.n)(x:List UInt8)(hx:x.length=256)(hcl:(D.cac s).length≤1000000)(ty:TypeId) :
  ∃v1 w1,(Builtin.append_ #[126,126] ty #[v s,.slice (some ⟨w.heap.size,0,none⟩) 1 1]).run Tryz.prog (oneB w x)=.ok v1 w1∧w1.heap[bm]?=some (.map l.toArray clock)∧w1.cell? ⟨bp,1,none⟩=some (.map (some bm))∧
   Lay (setBlock w1 bm (.map (putE s v1 clock l).toArray (if getE s l=none then clock+1 else clock))) bp bd bm (putE s v1 clock l) (if getE s l=none then clock+1 else clock) (upd v s v1) (fun k=>S k∨w.heap.size≤k) { D with cac:=upd D.cac s (D.cac s++[x]) }∧
   Turn S w (setBlock w1 bm (.map (putE s v1 clock l).toArray (if getE s l=none then clock+1 else clock)))∧Turn S w w1:=by
 obtain⟨i,hi,hz0,hz1,hz2⟩:=info_parts TB
 have La:Lay (oneB w x) bp bd bm l clock v S D:=L.keep fun k hk _=>heap_alloc_old w _ hk
 have hsz:(oneB w x).heap.size=w.heap.size+1:=by simp[oneB]
 obtain⟨v1,w1,hrun,hown,hgrow,hnil,hat⟩:=run_append_own_at (P:=Tryz.prog) (oneB w x) 0 126 ty 125 i _ 256 256 Tryz.underlying126 hi hz0 hz1 hz2 (by simp[Value.cells]) (by omega) (v s) _ _ (La.row s)
  ⟨w.heap.size,0,none⟩ 1 1 (bvs x) (by rw[q16,hx]) (fun j u hu=>by unfold oneB;rw[q46];simpa using hu) (qfr x) (by unfold maxLen;omega) (by omega) (Nat.zero_le _)
 have hlt:∀z g,(v z).ownBlock=some g→g<w.heap.size:=fun z g hg=>by obtain⟨c,t,h⟩:=L.rowblock hg;exact q01 h
 have bm1:=q01 L.map
 have old:∀k,k<w.heap.size→some k≠(v s).ownBlock→w1.heap[k]?=w.heap[k]?:=fun k hk hn=>(hgrow.block k (by omega) hn).trans (heap_alloc_old w _ hk)
 have hm1:w1.heap[bm]?=some (.map l.toArray clock):=(old bm bm1 fun e=>L.row_bm e.symm rfl).trans L.map
 have hp1:w1.heap[bp]?=w.heap[bp]?:=old bp (q01 L.me) fun e=>(L.ne.2 s bp e.symm).1 rfl
 have hnb:∀g,v1.ownBlock=some g→g≠bm:=fun g hg e=>by
  rcases hown.2 with⟨hv,_⟩|⟨g',cap,cur,hv,_,h3,_⟩
  ·rw[hv] at hg;cases hg
  ·rw[hv] at hg;cases hg;rw[show g'=bm from e,hm1] at h3;cases h3
 have hT:=q0o (w:=w1) (S:=fun k=>k=bm) (b:=bm) (.map (putE s v1 clock l).toArray (if getE s l=none then clock+1 else clock)) rfl
 refine⟨v1,w1,hrun,hm1,(World.cell?_of_block (a:=⟨bp,1,none⟩) hp1).trans L.c1,?_,?_,⟨hgrow.os,hgrow.tape,hgrow.output,by have:=hgrow.size;omega,fun k hk hn=>old k hk fun e=>hn (L.inS.2.2.2 s k e.symm)⟩⟩
 ·refine L.setCac s hs v1 (D.cac s++[x]) ?_ (fun k _ h=>.inl h) (fun k hk hn hr=>(hT.block k (by have:=hgrow.size;omega) hn).trans (old k hk hr)) (q21 (q01 hm1)) (L.ents.put s v1) (fun z=>?_) (fun e he=>?_) ?_ (fun h=>by simp at h) ?_
  ·intro y hy
   rcases List.mem_append.1 hy with h|h
   ·exact L.cl s y h
   ·rw[List.mem_singleton.1 h];exact hx
  ·rw[qau]
   by_cases h:z=s
   ·subst h;simp
   ·rw[if_neg (by omega),if_neg h]
  ·rcases q7z he with h|⟨h,_⟩
   ·exact .inl h
   ·right;unfold kI;rw[h]
  ·rw[List.length_append,qml]
   exact q1j hown fun g hg=>hT.block g (by
    rcases hown.2 with⟨hv,_⟩|⟨g',cap,cur,hv,_,h3,_⟩
    ·rw[hv] at hg;cases hg
    ·rw[hv] at hg;cases hg;exact q01 h3) (hnb g hg)
  ·rcases hat with h|h
   ·exact .inr (.inl h)
   ·exact .inr (.inr ⟨_,h,by omega,.inr (by omega)⟩)
 ·refine⟨hgrow.os,hgrow.tape,hgrow.output,by rw[qbt];have:=hgrow.size;omega,fun k hk hn=>?_⟩
  rw[hT.block k (by have:=hgrow.size;omega) (fun e=>hn (e▸L.inS.2.2.1))]
  exact old k hk fun e=>hn (L.inS.2.2.2 s k e.symm)
def DM.bad (D:DM)(s:Int)(x:List UInt8):Bool:=decide (¬(0≤s∧s<(D.n:Int))∨x.length≠256)
def DM.writeE (D:DM)(s:Int)(x:List UInt8):Int:=if D.bad s x then 1 else D.err
def DM.writeD (D:DM)(s:Int)(x:List UInt8):DM:=if D.bad s x then D else if D.stop then D.stepD else { D.stepD with cac:=upd D.cac s.toNat (D.cac s.toNat++[x]) }
def litB (n:Nat)(parts:Array (Nat × Value)):Sem Value:=Instr.buildSlice 126 n parts
theorem qjt (n:Nat)(parts:Array (Nat × Value)):Instr.buildSlice 126 n parts=litB n parts:=rfl
def ldB (p:Value):Sem Value:=Instr.loadAt 125 p
theorem qno (p:Value):Instr.loadAt 125 p=ldB p:=rfl
def apB (ts:Array TypeId)(ty:TypeId)(args:Array Value):Sem Value:=Builtin.append_ ts ty args
theorem qnp (ts:Array TypeId)(ty:TypeId)(args:Array Value):Builtin.append_ ts ty args=apB ts ty args:=rfl
attribute [local go_sem ↓] qjt qno qnp
theorem qju {w:World}{bp:Nat}{S:Nat→Prop}{D:DM}(L0:Drv w bp S D)(s:Int)(A:Option Addr)(n c:Nat)(x:List UInt8)(h:Sl w A n c x)(hst:D.steps≤1000000000)(hcl:∀k,(D.cac k).length≤1000000) :
  Calls Tryz.prog 37 #[.pointer (some ⟨bp,0,none⟩),.int .i64 s,.slice A n c] w fun e w'=>e=.returned (.int .i64 (D.writeE s x))∧Drv w' bp (fun k=>S k∨w.heap.size≤k) (D.writeD s x)∧Turn S w w':=by
 obtain⟨bd,bm,l,clock,v,L⟩:=L0
 have up:∀{w':World} {l' clock' v' D'},Lay w' bp bd bm l' clock' v' S D'→Drv w' bp (fun k=>S k∨w.heap.size≤k) D':=fun L'=>⟨bd,bm,_,_,_,L'.mono fun _ _ h=>.inl h⟩
 have hn:=h.len
 have hsp:∀k,k=bp→S k:=fun k e=>e▸L.inS.1
 by_cases hs:0≤s∧s<(D.n:Int)
 ·have H1:=q6i L s
  rw[show decide (0≤s∧s<(D.n:Int))=true by simpa using hs] at H1
  by_cases hx:x.length=256
  ·have hbad:D.bad s x=false:=by simp[DM.bad,hs,hx]
   unfold DM.writeE DM.writeD
   rw[hbad]
   simp only[Bool.false_eq_true,if_false]
   obtain⟨k,rfl⟩:=Int.eq_ofNat_of_zero_le hs.1
   have hk:k<D.n:=by omega
   rw[Int.toNat_natCast]
   obtain rfl:n=256:=by omega
   obtain⟨g,o,rfl,hgl,hr⟩:=qhk h (by omega)
   have hap:=L.apart (by omega) hr
   have H2:=qga L hst
   unfold DM.err at H2 ⊢
   cases hstop:D.stop with
   |true=>
    rw[hstop] at H2
    go_enter Tryz.func37,Tryz.ntmps37
    go_wp2_with fail
    refine H1.mono ?_
    rintro e w1 ⟨rfl,rfl⟩
    go_wp2_with fail
    refine H2.mono ?_
    rintro e w1 ⟨rfl,L1,T1⟩
    go_wp2_with fail
    go_ret
    exact⟨rfl,up L1,T1.mono hsp⟩
   |false=>
    rw[hstop] at H2
    go_enter Tryz.func37,Tryz.ntmps37
    go_wp2_with fail
    refine H1.mono ?_
    rintro e w1 ⟨rfl,rfl⟩
    go_wp2_with fail
    refine H2.mono ?_
    rintro e w1 ⟨rfl,L1,T1⟩
    have hr1:w1.drew.rangeAt g o (bvs x):=q22 hr (T1.block g hgl hap)
    have LD:=L1.drew
    have La:Lay (oneB w1.drew x) bp bd bm l clock v S D.stepD:=LD.keep fun k hk _=>heap_alloc_old w1.drew _ hk
    obtain⟨v1,w2,happ,hm2,hc2,L2,T2,T2b⟩:=LD.append k hk x hx (hcl k) 126
    have hupd:=Lay.run_update hm2 L1.ents k v1
    generalize (if getE (k:Int) l=none then clock+1 else clock)=ck at L2 T2 hupd
    have c1:=LD.c1
    have c1a:=La.c1
    have c1b:=L2.c1
    have hlk:=LD.lookup k
    have hlka:=La.lookup k
    have hbs:(litB 1 #[(0,.agg (bvs x).toArray)]).run Tryz.prog w1.drew=.ok (.slice (some ⟨w1.heap.size,0,none⟩) 1 1) (oneB w1.drew x):=qb0 w1.drew x hx
    have har:=qcd
    have hld:(ldB (.pointer (some ⟨g,o,none⟩))).run Tryz.prog w1.drew=.ok (.agg (bvs x).toArray) w1.drew:=run_loadAt_mid (P:=Tryz.prog) w1.drew g o 125 (bvs x) _ hr1 UB rfl (by rw[SBk,q16,hx])
    have happ:(apB #[126,126] 126 #[v k,.slice (some ⟨w1.heap.size,0,none⟩) 1 1]).run Tryz.prog (oneB w1.drew x)=.ok v1 w2:=happ
    go_wp2_with fail
    go_region
    all_goals (go_wp2;go_ret;exact⟨rfl,⟨bd,bm,_,_,_,L2.mono fun z _ hz=>hz.imp id fun hz=>by have:=T1.size;simp at hz;omega⟩,((T1.mono hsp).drew).then T2⟩)
  ·have hbad:D.bad s x=true:=by simp[DM.bad,hx]
   unfold DM.writeE DM.writeD
   rw[hbad]
   have hn2:¬(n:Int)=256:=by omega
   go_enter Tryz.func37,Tryz.ntmps37
   go_wp2_with fail
   refine H1.mono ?_
   rintro e w1 ⟨rfl,rfl⟩
   go_wp2_with fail
   go_ret
   exact⟨rfl,up L,Turn.refl _ _⟩
 ·have H1:=q6i L s
  rw[show decide (0≤s∧s<(D.n:Int))=false by simpa using hs] at H1
  have hbad:D.bad s x=true:=by simp[DM.bad,hs]
  unfold DM.writeE DM.writeD
  rw[hbad]
  go_enter Tryz.func37,Tryz.ntmps37
  go_wp2_with fail
  refine H1.mono ?_
  rintro e w1 ⟨rfl,rfl⟩
  go_wp2_with fail
  go_ret
  exact⟨rfl,up L,Turn.refl _ _⟩
end
section
open Go.ChangeMaps (setBlock)
def DM.mk0 (n:Nat):DM:=⟨n,fun _=>zeros 256,fun _=>[],false,false,0,0,n⟩
theorem qgb (n:Nat){j:Nat}(h:j<n):(bvs (zeros n))[j]?=some (.int .u8 0):=by
 unfold bvs zeros
 rw[List.getElem?_map,List.getElem?_replicate,if_pos h];rfl
theorem qqo (n j:Nat)(h:j<n):(madeCells (Value.agg (Array.replicate 256 (.int .u8 0))).cells n).toList[j]?=some (.int .u8 0):=by
 unfold madeCells
 rw[Array.toList_map,List.getElem?_map,Array.toList_range,List.getElem?_range h]
 show some ((Array.replicate 256 (Value.int .u8 0))[j % (Array.replicate 256 (Value.int .u8 0)).size]!)=_
 have hlt:j % 256<256:=Nat.mod_lt _ (by omega)
 rw[Array.size_replicate,getElem!_pos _ _ (by rw[Array.size_replicate];exact hlt),Array.getElem_replicate]
theorem qqp {w1 w':World}{bd bm bp n:Nat}(hn:sectors n)(hown:w1.ownsRow 0 125 256 (.slice (some ⟨bd,0,none⟩) n n) n (madeCells (Value.agg (Array.replicate 256 (.int .u8 0))).cells (n*256)).toList)
  (h1:w'.heap[bd]?=w1.heap[bd]?) (h2:w'.heap[bm]?=some (.map #[] 0)) (h3:w'.heap[bp]?=some (.cells #[.slice (some ⟨bd,0,none⟩) n n,.map (some bm),.bool false,.bool false,.int .i64 0,.int .i64 0] 129 (0,0)))
  (hne:bp≠bd) (S:Nat→Prop) (hS:S bp∧S bd∧S bm):Lay w' bp bd bm [] 0 (fun _=>.slice none 0 0) S (DM.mk0 n):=by
 have hown':w'.ownsRow 0 125 256 (.slice (some ⟨bd,0,none⟩) n n) n (madeCells (Value.agg (Array.replicate 256 (.int .u8 0))).cells (n*256)).toList:=q1j hown fun g hg=>by cases hg;exact h1
 have hc:∀s,s<n→∀j,j<256→w'.cell? ⟨bd,s*256+j,none⟩=some (.int .u8 0):=fun s hs j hj=>by
  rw[World.ownsRow.cellAt hown' _ (by omega),qqo _ _ (by omega)]
 refine⟨h3,fun s hs j v hv=>?_,fun s hs j hj=>⟨by rw[hc s hs j hj];rfl,World.ownsRow.frozenAt hown' _⟩,h2,qnk,fun s=>?_,fun e he=>(by simp at he),fun s=>World.ownsRow_nil _ _ _ _,fun _ _=>rfl,fun s=>List.length_replicate,fun s=>by simp[Secs,DM.mk0],fun _ _=>rfl,
  ⟨hS.1,hS.2.1,hS.2.2,fun s g hg=>by cases hg⟩,⟨hne,fun s g hg=>by cases hg⟩,fun s s' g hg=>(by cases hg),hn,by simp[DM.mk0]⟩
 ·have hj:j<256:=by
   have h0:=(List.getElem?_eq_some_iff.1 hv).1
   rw[q16,show (DM.mk0 n).dur s=zeros 256 from rfl,show (zeros 256).length=256 from List.length_replicate] at h0
   exact h0
  have h0:(bvs (zeros 256))[j]?=some v:=hv
  rw[qgb 256 hj] at h0
  rw[hc s hs j hj,h0]
 ·simp[DM.mk0,getE]
theorem qjv (n:Nat)(hn:sectors n)(w:World) :
  Calls Tryz.prog 25 #[.int .i64 n] w fun e w'=>∃bp,e=.returned (.tuple #[.pointer (some ⟨bp,0,none⟩),.int .i64 0])∧Drv w' bp (fun k=>w.heap.size≤k) (DM.mk0 n)∧Below w.heap.size w w':=by
 obtain⟨i,hi,hz0,hz1,hz2⟩:=info_parts TB
 have hmm:=@run_makeMap Tryz.prog
 have h1:32≤n:=hn.1
 have h2:n≤2048:=hn.2
 go_enter Tryz.func25,Tryz.ntmps25
 go_wp2_with (at_make;refine wpList_make_full w (by rfl) _ _ _ (by rfl) 0 125 i _ 256 Tryz.underlying126 hi hz0 hz1 .i64 .i64 n n n (by rfl) (by rfl) rfl rfl (by rw[hz2];omega) (by unfold maxLen;omega) (Nat.zero_le _) ?_)
 intro w1 hown hgrow
 go_wp2_with fail
 go_ret2
 have hs1:=hgrow.size
 have hbd:w.heap.size<w1.heap.size:=by
  have h:=World.ownsRow.lt hown w.heap.size rfl
  exact h.2
 have hb:Below w.heap.size w ((w1.alloc (.map #[] 0)).alloc (.cells #[.slice (some ⟨w.heap.size,0,none⟩) n n,.map (some w1.heap.size),.bool false,.bool false,.int .i64 0,.int .i64 0] 129)):=
  (((Below.refl _ _).grown hgrow (Nat.le_refl _) (by simp)).alloc hs1 _).alloc (by simp;omega) _
 refine⟨_,rfl,⟨w.heap.size,w1.heap.size,_,_,_,qqp hn hown ?_ ?_ ?_ (by omega) _ ⟨by omega,by omega,by omega⟩⟩,hb⟩
 ·rw[heap_alloc_old _ _ (by simp;omega),heap_alloc_old _ _ hbd]
 ·rw[heap_alloc_old _ _ (by simp),heap_alloc_new]
 ·have e:w1.heap.size+1=(w1.alloc (.map #[] 0)).heap.size:=by simp
  rw[e,heap_alloc_new]
end
end Go.Proofs.YtipejjgodnnkaaaGreatDoor
