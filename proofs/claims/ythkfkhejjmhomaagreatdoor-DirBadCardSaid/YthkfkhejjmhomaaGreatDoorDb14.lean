/- A sector full of a byte; the newest write of a sector; Read -/
import Derived.Test.YthkfkhejjmhomaaGreatDoorDb3
import Derived.Deep.RegionHeld3
import Derived.Great.BuildSlice
import Derived.BigRegion
namespace Go.Proofs.YthkfkhejjmhomaaGreatDoor
open Go Go.RowKit Go.Proofs
set_option maxHeartbeats 2000000
set_option maxRecDepth 100000
def zeros (n:Nat):List UInt8:=List.replicate n 0
theorem q5j {e:Func}{p:Tmp}{ty:TypeId}(h:e.results=#[.cell p ty])(d:Array Value)(P:Program)(w:World) :
  (results e d).run P w=((asAddr (d.getD p undef)).run P w).andThen λa f=>(loadVar ty a).run P f:=by
 simp only[results,h];simp[Sem.run_bind,Result.andThen]
def DM.newest (D:DM)(s:Nat):List UInt8:=(D.Zm s).getLastD (D.Xc s)
theorem q88 {α:Type}:∀(l:List α) (a:α),l≠[]->l.getLastD a∈l
 |[],a,h=>absurd rfl h
 |[x],a,_=>by simp
 |x::y::r,a,_=>by
  rw[List.getLastD_cons,List.getLastD_cons];have:=q88 (y::r) x (by simp);rw[List.getLastD_cons] at this;exact List.mem_cons_of_mem _ this
theorem Lay.Bz {w:World}{bp bd bm clock:Nat}{l:List MapEntry}{v:Nat->Value}{S:Nat->Prop}{D:DM}(L:Lay w bp bd bm l clock v S D)(s:Nat):(D.newest s).length=256:=by
 unfold DM.newest;rcases hc:D.Zm s with _|⟨a,r⟩
 ·exact L.dl s
 ·exact L.cl s _ (by rw[hc];exact q88 _ _ (by simp))
theorem Lay.lookup {w:World}{bp bd bm clock:Nat}{l:List MapEntry}{v:Nat->Value}{S:Nat->Prop}{D:DM}(L:Lay w bp bd bm l clock v S D)(s:Nat) :
  (Instr.lookup 150 (.map (some bm)) (.int .i64 s) false).run Tryz.prog w=.ok (v s) w:=by
 have h:=q9b (P:=Tryz.prog) (w:=w) L.ents Tryz.underlying150 Tryz.underlying3 (z:=.slice none 0 0) (by kernel_rfl) L.map s;rw[h,L.look s];split
 ·rename_i d;rw[L.nil s d];rfl
 ·rfl
theorem UB:Tryz.prog.underlying 289=some (.array 256 5):=Tryz.underlying289
theorem SBk:(Tryz.prog.info? 289).map (·.size)=some 256:=by kernel_rfl
theorem ZB (w:World):(zeroValue 289).run Tryz.prog w=.ok (.agg (Array.replicate 256 (.int .u8 0))) w:=by
 have h:=TB;obtain⟨i,hi,d,_⟩:=info_parts h;simp[zeroValue,typeInfo,hi,d]
def Ag (w:World):World:=w.alloc (.cells (Array.replicate 256 (.int .u8 0)) 289)
theorem q9h (w:World):(Ag w).1.size=w.1.size+1:=by simp[Ag]
theorem q4t (w:World):(Ag w).there w.1.size 0 256:=λj e=>by
 have d:(Ag w).1[w.1.size]?=some (.cells (Array.replicate 256 (.int .u8 0)) 289 (0,0)):=heap_alloc_new w _;refine⟨?_,by simp[World.frozen?,d]⟩;rw[cell_of_row _ _ _ _ _ _ d,Nat.zero_add,Array.getElem?_replicate,if_pos e];rfl
theorem qbi (w:World):Below w.1.size w (Ag w):=Qk
theorem qep (w:World)(l:List UInt8)(d:l.length=256):Below w.1.size w ((Ag w).setCells w.1.size 0 (Yq l))/\((Ag w).setCells w.1.size 0 (Yq l)).rangeAt w.1.size 0 (Yq l):=by
 refine⟨(qbi w).trans ((Vb (S:=λk=>k=w.1.size) rfl (Yq l) 0 (Ag w)).below (λx e=>by omega) (by rw[q9h];omega)),World.rangeAt_setCells_same _ _ _ _ ?_⟩;rw[Ij,d];exact q4t w
theorem qh4 {f:Array Oper}{d:List Oper}{o:Oper}{a:Act}{w:World}{Q:Exit->Act->World->Prop}(y:o.guard=none)(p:o.op=Op.alloc 289)
  (u:wpList Tryz.prog f Q d (a.put o.dst (.pointer (some ⟨w.1.size,0,none⟩))) (Ag w)):wpList Tryz.prog f Q (o::d) a w:=
 wpList_plain y λK m=>by
  have e:(Instr.alloc 289 true (.tuple #[])).run Tryz.prog w=.ok (.pointer (some ⟨w.1.size,0,none⟩)) (Ag w):=by
   have A:=ZB;first
    |(simp[Instr.alloc,newVar,newRow,Value.cells,Ag, *];done)
    |(simp[Instr.alloc,newVar,newRow,Value.cells,Ag];refine congrArg (λx=>w.alloc (.cells x 289)) ?_;kernel_rfl)
  unfold Oper.wp execOp;simp only[p,Sem.run_bind,Sem.run_pure,Result.andThen_ok,e];exact m _ _ u
theorem q3l (w:World)(g n c i:Nat)(hi:i<n):(Instr.indexAt 149 (.slice (some ⟨g,0,none⟩) n c) (.int .i64 (i:Int))).run Tryz.prog w=.ok (.pointer (some ⟨g,i*256,none⟩)) w:=by
 have d:(sizeOf 289).run Tryz.prog w=.ok 256 w:=by
  obtain⟨z,d,_,f,_⟩:=info_parts TB;simp[sizeOf,typeInfo,d,f]
 have e:(⟨g,0,none⟩:Addr).add (i*256)=⟨g,i*256,none⟩:=by rw[Addr.add_lit,Nat.zero_add]
 simp[Instr.indexAt,asIntOf,run_underlying Tryz.underlying149,hi,e]
theorem q89 {e:Array Oper}{d:List Oper}{o:Oper}{a:Act}{w:World}{Q:Exit->Act->World->Prop}(u:o.guard=none)(x y:Operand)(m:o.op=Op.indexAddr 149 x y)
  (g n c i:Nat) (A:a.eval x=.slice (some ⟨g,0,none⟩) n c) (z:Int) (B:a.eval y=.int .i64 z) (D:z=(i:Int)) (hi:i<n)
  (p:wpList Tryz.prog e Q d (a.put o.dst (.pointer (some ⟨g,i*256,none⟩))) w):wpList Tryz.prog e Q (o::d) a w:=
 wpList_plain u λK f=>by
  subst D;unfold Oper.wp execOp;simp only[m,A,B,Sem.run_bind,Sem.run_pure,Result.andThen_ok,q3l w g n c i hi];exact f _ _ p
theorem q9i {e:Array Oper}{d:List Oper}{o:Oper}{a:Act}{w:World}{Q:Exit->Act->World->Prop}(y:o.guard=none)(x:Operand)(f:o.op=Op.load 289 x)
  (b p:Nat) (B:a.eval x=.pointer (some ⟨b,p,none⟩)) (l:List UInt8) (A:l.length=256) (u:w.rangeAt b p (Yq l))
  (m:wpList Tryz.prog e Q d (a.put o.dst (.agg (Yq l).toArray)) w):wpList Tryz.prog e Q (o::d) a w:=
 wpList_load_mid y _ x f b p B (Yq l) _ u UB rfl (by rw[SBk,Ij,A]) m
theorem q48 {e:Array Oper}{d:List Oper}{o:Oper}{a:Act}{w:World}{Q:Exit->Act->World->Prop}(A:o.guard=none)(x y:Operand)(f:o.op=Op.store 289 x y)
  (b p:Nat) (D:a.eval x=.pointer (some ⟨b,p,none⟩)) (l:List UInt8) (E:a.eval y=.agg (Yq l).toArray) (m:l.length=256) (B:w.there b p 256)
  (u:wpList Tryz.prog e Q d (a.put o.dst undef) (w.setCells b p (Yq l))):wpList Tryz.prog e Q (o::d) a w:=
 wpList_store_mid A _ x y f b p (Yq l).toArray D E (by rw[List.size_toArray,Ij,m];exact B) (by rw[SBk,List.size_toArray,Ij,m]) (all_oneCell_toArray (qho l)) u
theorem qlb {w:World}{E y I clock:Nat}{l:List MapEntry}{v:Nat->Value}{S:Nat->Prop}{D:DM}(L:Lay w E y I l clock v S D)(s:Nat)(K:s<D.n) :
  Calls Tryz.prog 209 #[.pointer (some ⟨E,0,none⟩),.int .i64 s] w λe R=>e=.returned (.agg (Yq (D.newest s)).toArray)/\Below w.1.size w R:=by
 have p:Lay (Ag w) E y I l clock v S D:=L.keep λk B _=>(qbi w).block k B
 have c0:=p.c0;have c1:=p.c1;have u:=p.lookup s;have d:=L.Bz s;obtain⟨F,H⟩:=qep w (D.newest s) d;have m:(Yq (D.newest s)).length=256:=by rw[Ij,d]
 rcases hc:D.Zm s with _|⟨x,r⟩
 ·have hn:=L.nil s hc;have hd:=p.Xc s K;have A:D.newest s=D.Xc s:=by unfold DM.newest;rw[hc];rfl
  rw[A] at d F H m ⊢;rw[hn] at u;go_enter Tryz.func209,Tryz.ntmps209
  go_wp2_with (first
   |(refine qh4 (by rfl) (by rfl) ?_)
   |(refine q89 rfl _ _ rfl y D.n D.cap s rfl _ rfl rfl K ?_)
   |(refine q9i (by rfl) _ (by rfl) y (s*256) (by rfl) (D.Xc s) d hd ?_)
   |(refine q48 (by rfl) _ _ (by rfl) w.1.size 0 (by rfl) (D.Xc s) (by rfl) d (q4t w) ?_))
  (try simp only[Exit.inBlock,Exit.then])
  refine bodyPost_ret (v:=.agg (Yq (D.Xc s)).toArray) ?_ rfl ⟨rfl,F⟩;refine (q5j Tryz.results209 _ _ _).trans ?_;simp only[go_sem];have:=run_loadVar_mid (P:=Tryz.prog) _ _ _ 289 _ _ H UB rfl (by rw[SBk,m]);exact this
 ·obtain⟨g,c,M,Q,G⟩:=qaa (L.row s) (by rw[hc];simp);have T:(v s).ownBlock=some g:=by rw[M];rfl
  have f:=p.row s;rw[M] at f u;have B:(D.Zm s).length-1<(D.Zm s).length:=by rw[hc];simp
  have A:(D.Zm s)[(D.Zm s).length-1]=D.newest s:=by
   unfold DM.newest;rw[<-List.getLast_eq_getElem (by rw[hc];simp),List.getLastD_eq_getLast?,List.getLast?_eq_some_getLast (by rw[hc];simp)];rfl
  have hd:=qbz f (L.cl s) rfl ((D.Zm s).length-1) B;rw[A] at hd;have O:0<(D.Zm s).length:=by omega
  have J:(D.Zm s).length<=9223372036854775807:=by unfold maxLen at G;omega
  clear hc A;generalize (D.Zm s).length=k at *;go_enter Tryz.func209,Tryz.ntmps209
  go_wp2_with (first
   |(refine qh4 (by rfl) (by rfl) ?_)
   |(refine q89 (by rfl) _ _ (by rfl) g k c (k-1) (by rfl) _ (by rfl) (by first|rfl|omega) B ?_)
   |(refine q9i (by rfl) _ (by rfl) g ((k-1)*256) (by rfl) (D.newest s) d hd ?_)
   |(refine q48 (by rfl) _ _ (by rfl) w.1.size 0 (by rfl) (D.newest s) (by rfl) d (q4t w) ?_))
  (try simp only[Exit.inBlock,Exit.then])
  refine bodyPost_ret (v:=.agg (Yq (D.newest s)).toArray) ?_ rfl ⟨rfl,F⟩;refine (q5j Tryz.results209 _ _ _).trans ?_;simp only[go_sem];have:=run_loadVar_mid (P:=Tryz.prog) _ _ _ 289 _ _ H UB rfl (by rw[SBk,m]);exact this
def DM.Ye (D:DM)(s:Int):Int:=if D.off then 4 else if 0<=s/\s<(D.n:Int) then 0 else 1
def DM.Yp (D:DM)(s:Int):List UInt8:=if D.off then [] else if 0<=s/\s<(D.n:Int) then D.newest s.toNat else []
theorem q8t {w:World}{F G H clock:Nat}{l:List MapEntry}{v:Nat->Value}{S:Nat->Prop}{D:DM}(L:Lay w F G H l clock v S D)(s:Int) :
  Calls Tryz.prog 138 #[.pointer (some ⟨F,0,none⟩),.int .i64 s] w λe E=>∃A n,e=.returned (.tuple #[.slice A n n,.int .i64 (D.Ye s)])/\Sl E A n n (D.Yp s)/\n<=256/\Below w.1.size w E/\∀u,A=some u->w.1.size<=u.block/\u.block<E.1.size:=by
 have c2:=L.c2;unfold DM.Ye DM.Yp
 cases f:D.off with
 |true=>
  rw[f] at c2;go_enter Tryz.func138,Tryz.ntmps138
  go_wp2;go_ret2;exact⟨none,0,rfl,Ik w,by omega,Below.refl _ _,λu h=>by cases h⟩
 |false=>
  rw[f] at c2;by_cases p:0<=s/\s<(D.n:Int)
  ·obtain⟨k,rfl⟩:=Int.eq_ofNat_of_zero_le p.1;have K:k<D.n:=by omega
   have d:=L.Bz k;have J:(Yq (D.newest k)).length=256:=by rw[Ij,d]
   have B:=qds L (k:Int);rw[show decide (0<=(k:Int)/\(k:Int)<(D.n:Int))=true by simpa using p] at B;rw[if_pos p,if_pos p,Int.toNat_natCast];simp only[Bool.false_eq_true,if_false];go_enter Tryz.func138,Tryz.ntmps138
   go_wp2_with fail
   refine B.mono ?_;rintro e y ⟨rfl,rfl⟩;go_wp2_with fail
   refine (qlb L k K).mono ?_;rintro e y ⟨rfl,m⟩;obtain⟨I,M⟩:=qep y (D.newest k) d;go_wp2_with (first
    |(refine qh4 (by rfl) (by rfl) ?_)
    |(refine q48 (by rfl) _ _ (by rfl) y.1.size 0 (by rfl) (D.newest k) (by rfl) d (q4t y) ?_))
   go_ret2;refine⟨some ⟨y.1.size,0,none⟩,256,rfl,?_,by omega,m.trans (I.mono m.size),λu h=>by cases h;exact⟨m.size,by rw[q3v,q9h];simp⟩⟩;have:=qu2 M (by rw[q3v,q9h];omega) (c:=256) (by omega) (by unfold maxLen;omega);rw[d] at this;exact this
  ·have B:=qds L s;rw[show decide (0<=s/\s<(D.n:Int))=false by simpa using p] at B;rw[if_neg p,if_neg p];simp only[Bool.false_eq_true,if_false];go_enter Tryz.func138,Tryz.ntmps138
   go_wp2_with fail
   refine B.mono ?_;rintro e y ⟨rfl,rfl⟩;go_wp2_with fail
   go_ret2;exact⟨none,0,rfl,Ik w,by omega,Below.refl _ _,λu h=>by cases h⟩
section
open Go.ChangeMaps (setBlock)
def DM.settle (D:DM)(s i:Nat):DM:={ D with Xc:=if i=0 then D.Xc else upd D.Xc s ((D.Zm s).getD (i-1) []),Zm:=upd D.Zm s [] }
theorem Lay.drew {w:World}{bp bd bm clock:Nat}{l:List MapEntry}{v:Nat->Value}{S:Nat->Prop}{D:DM}(L:Lay w bp bd bm l clock v S D):Lay w.drew bp bd bm l clock v S D:=L.keep λ_ _ _=>rfl
theorem Lay.Cm {w:World}{bp bd bm clock:Nat}{l:List MapEntry}{v:Nat->Value}{S:Nat->Prop}{D:DM}(L:Lay w bp bd bm l clock v S D)(s:Nat)(ty:TypeId) :
  (Builtin.delete_ #[150,3] ty #[.map (some bm),.int .i64 s]).run Tryz.prog w=.ok (.tuple #[]) (setBlock w bm (.map (Xp s l).toArray clock)):=
 q47 (P:=Tryz.prog) (w:=w) L.ents Tryz.underlying150 Tryz.underlying3 L.map s _ ty
theorem qlc {w:World}{F p E clock:Nat}{l:List MapEntry}{v:Nat->Value}{S:Nat->Prop}{D:DM}(L:Lay w F p E l clock v S D)(s:Nat)(A:s<D.n)(i:Nat)(hi:i<=(D.Zm s).length) :
  Calls Tryz.prog 207 #[.pointer (some ⟨F,0,none⟩),.int .i64 s,.int .i64 i] w λe d=>e=.returned (.tuple #[])/\Lay d F p E (Xp s l) clock (upd v s (.slice none 0 0)) S (D.settle s i)/\Turn (λk=>k=p\/k=E) w d:=by
 by_cases h0:i=0
 ·subst h0;have c1:=L.c1;have G:=L.Cm s;have K:=L.forget s A;go_enter Tryz.func207,Tryz.ntmps207
  go_wp2;go_end0
  exact⟨rfl,K,q0t _ (.inr rfl)⟩
 ·obtain⟨g,c,J,Z,Q⟩:=qaa (L.row s) (by omega);have X:(v s).ownBlock=some g:=by rw[J];rfl
  have I:i-1<(D.Zm s).length:=by omega
  have U:(D.Zm s).getD (i-1) []=(D.Zm s)[i-1]:=by rw[List.getD_eq_getElem?_getD,List.getElem?_eq_getElem I];rfl
  have f:((D.Zm s)[i-1]).length=256:=L.cl s _ (List.getElem_mem I);have Ed:D.settle s i={ { D with Xc:=upd D.Xc s (D.Zm s)[i-1] } with Zm:=upd D.Zm s [] }:=by unfold DM.settle;rw[if_neg h0,U]
  rw[Ed];have m:=L.row s;rw[J] at m;have hd:=qbz m (L.cl s) rfl (i-1) I;clear Ed U m;generalize (D.Zm s)[i-1]=x at hd f ⊢;have P:(Yq x).length=256:=by rw[Ij,f]
  have B:=L.drew;have c0:=B.c0;have c1:=B.c1;have H:=B.lookup s;rw[J] at H;have ht:=B.Em s A;have hd:w.drew.rangeAt g ((i-1)*256) (Yq x):=hd;have y:=B.store s A x f;have M:=y.c0;have O:=y.c1;have u:=y.lookup s;rw[J] at u;have T:=y.Em s A;have R:(w.drew.setCells p (s*256) (Yq x)).rangeAt g ((i-1)*256) (Yq x):=World.rangeAt_setCells_apart hd _ _ _ (.inl (L.ne.2 s g X).2);have G:=y.Cm s;have K:=y.forget s A;have hu:=UB;have Y:(Tryz.prog.info? 289).map (·.size)=some (Yq x).length:=by rw[P];exact SBk
  have h1:=qho x;have a1:∀d:World,(Instr.indexAt 149 (.slice (some ⟨g,0,none⟩) (D.Zm s).length c) (.int .i64 ((i:Int)-1))).run Tryz.prog d=.ok (.pointer (some ⟨g,(i-1)*256,none⟩)) d:=λd=>by
   have:=q3l d g (D.Zm s).length c (i-1) I;rw[show ((i-1:Nat):Int)=(i:Int)-1 by omega] at this;exact this
  have a2:∀d:World,(Instr.indexAt 149 (.slice (some ⟨p,0,none⟩) D.n D.cap) (.int .i64 (s:Int))).run Tryz.prog d=.ok (.pointer (some ⟨p,s*256,none⟩)) d:=λd=>q3l d p D.n D.cap s A
  have W:i<=9223372036854775807:=by unfold maxLen at Q;omega
  have hw:IntKind.i64.wrap ((i:Int)-1)=(i:Int)-1:=IntWalk.i64_in _ (by omega);go_enter Tryz.func207,Tryz.ntmps207
  go_wp2_with fail
  go_region_held3 (λd=>d.cell? ⟨F,0,none⟩=some (.slice (some ⟨p,0,none⟩) D.n D.cap)/\d.cell? ⟨F,1,none⟩=some (.map (some E))/\(Instr.lookup 150 (.map (some E)) (.int .i64 s) false).run Tryz.prog d=.ok (.slice (some ⟨g,0,none⟩) (D.Zm s).length c) d/\
   d.rangeAt g ((i-1)*256) (Yq x)/\d.there p (s*256) 256) (first|exact⟨c0,c1,H,hd,ht⟩|exact⟨M,O,u,R,T⟩) (fail)
  go_wp2;go_end0
  exact⟨rfl,K,((Turn.refl _ w).drew.then (Vb (.inl rfl) _ _ _)).then (q0t _ (.inr rfl))⟩
end
section
open Go.ChangeMaps (setBlock)
def Dx (w:World)(l:List UInt8):World:=w.alloc (.cells (Yq l).toArray 289)
theorem qd5 (w:World)(l:List UInt8)(f:l.length=256):(Instr.buildSlice 149 1 #[(0,.agg (Yq l).toArray)]).run Tryz.prog w=.ok (.slice (some ⟨w.1.size,0,none⟩) 1 1) (Dx w l):=by
 obtain⟨i,hi,e,d,u⟩:=info_parts TB;refine run_buildSlice w _ _ 1 _ (Yq l).toArray i _ Tryz.underlying149 hi e (by rw[d];omega) (by rw[d];omega) ?_;have m:(Value.agg (Yq l).toArray).cells.size=256:=by show (Yq l).toArray.size=256;rw[List.size_toArray,Ij,f]
 have h:=Great.fill_whole (s:=256) (by omega) [.agg (Yq l).toArray] ((Array.range (1*256)).map ((Value.agg (Array.replicate 256 (Value.int .u8 0))).cells[· % (Value.agg (Array.replicate 256 (Value.int .u8 0))).cells.size]!)) (by intro v p;rw[List.mem_singleton.1 p];exact m) (by rw[Array.size_map,Array.size_range];rfl);rw[d];refine Eq.trans ?_ (h.trans ?_)
 ·simp only[List.zipIdx_cons,List.zipIdx_nil,List.map_cons,List.map_nil]
 ·simp[Value.cells]
theorem qeq (w:World)(g o c:Nat):(Instr.arrayAt 289 (.slice (some ⟨g,o,none⟩) 256 c)).run Tryz.prog w=.ok (.pointer (some ⟨g,o,none⟩)) w:=by
 simp[Instr.arrayAt,run_underlying UB]
theorem Lay.apart {w:World}{bp bd bm clock:Nat}{l:List MapEntry}{v:Nat->Value}{S:Nat->Prop}{D:DM}(L:Lay w bp bd bm l clock v S D){g o:Nat}{x:List UInt8}(hx:0<x.length)(h:w.rangeAt g o (Yq x)):g≠bp:=λe=>by
 subst e;have d:=h 0 (bv x[0]) (by simp[Yq,hx]);rw[cell_of_row w g (o+0) _ _ _ L.me,Nat.add_zero] at d;rcases o with _|_|_|_|_|_|o<;>simp[bv] at d
theorem Lay.Na {w:World}{bm clock:Nat}{l:List MapEntry}(hb:w.1[bm]?=some (.map l.toArray clock))(E:U1 l clock)(s:Nat)(x:Value) :
  (Instr.mapUpdate 150 (.map (some bm)) (.int .i64 s) x).run Tryz.prog w=.ok () (setBlock w bm (.map (J3 s x clock l).toArray (if Zf s l=none then clock+1 else clock))):=
 q2h (P:=Tryz.prog) (w:=w) E Tryz.underlying150 Tryz.underlying3 hb s x
theorem Lay.append {w:World}{bp bd bm clock:Nat}{l:List MapEntry}{v:Nat->Value}{S:Nat->Prop}{D:DM}(L:Lay w bp bd bm l clock v S D)(s:Nat)(hs:s<D.n)(x:List UInt8)(hx:x.length=256)(hcl:(D.Zm s).length<=1000000)(ty:TypeId) :
  ∃A m,(Builtin.append_ #[149,149] ty #[v s,.slice (some ⟨w.1.size,0,none⟩) 1 1]).run Tryz.prog (Dx w x)=.ok A m/\m.1[bm]?=some (.map l.toArray clock)/\m.cell? ⟨bp,1,none⟩=some (.map (some bm))/\
   Lay (setBlock m bm (.map (J3 s A clock l).toArray (if Zf s l=none then clock+1 else clock))) bp bd bm (J3 s A clock l) (if Zf s l=none then clock+1 else clock) (upd v s A) (λk=>S k\/w.1.size<=k) { D with Zm:=upd D.Zm s (D.Zm s++[x]) }/\
   Turn S w (setBlock m bm (.map (J3 s A clock l).toArray (if Zf s l=none then clock+1 else clock)))/\Turn S w m:=by
 obtain⟨i,hi,R,T,U⟩:=info_parts TB;have Y:Lay (Dx w x) bp bd bm l clock v S D:=L.keep λk B _=>heap_alloc_old w _ B
 have a2:(Dx w x).1.size=w.1.size+1:=by simp[Dx]
 obtain⟨A,m,G,p,d,X,M⟩:=run_append_own_at (P:=Tryz.prog) (Dx w x) 0 149 ty 289 i _ 256 256 Tryz.underlying149 hi R T U (by simp[Value.cells]) (by omega) (v s) _ _ (Y.row s)
  ⟨w.1.size,0,none⟩ 1 1 (Yq x) (by rw[Ij,hx]) (λj u hu=>by unfold Dx;rw[q5l];simpa using hu) (qho x) (by unfold maxLen;omega) (by omega) (Nat.zero_le _)
 have a1:∀z g,(v z).ownBlock=some g->g<w.1.size:=λz g f=>by obtain⟨c,t,h⟩:=L.Ws f;exact Kw h
 have I:=Kw L.map;have old:∀k,k<w.1.size->some k≠(v s).ownBlock->m.1[k]?=w.1[k]?:=λk B hn=>(d.block k (by omega) hn).trans (heap_alloc_old w _ B)
 have E:m.1[bm]?=some (.map l.toArray clock):=(old bm I λe=>L.Tt e.symm rfl).trans L.map;have Q:m.1[bp]?=w.1[bp]?:=old bp (Kw L.me) λe=>(L.ne.2 s bp e.symm).1 rfl
 have O:∀g,A.ownBlock=some g->g≠bm:=λg f e=>by
  rcases p.2 with⟨F,_⟩|⟨W,cap,J,F,_,H,_⟩
  ·rw[F] at f;cases f
  ·rw[F] at f;cases f;rw[show W=bm from e,E] at H;cases H
 have K:=q0t (w:=m) (S:=λk=>k=bm) (b:=bm) (.map (J3 s A clock l).toArray (if Zf s l=none then clock+1 else clock)) rfl;refine⟨A,m,G,E,(World.cell?_of_block (a:=⟨bp,1,none⟩) Q).trans L.c1,?_,?_,⟨d.os,d.tape,d.output,by have:=d.size;omega,λk B hn=>old k B λe=>hn (L.Yn.2.2.2 s k e.symm)⟩⟩
 ·refine L.Tv s hs A (D.Zm s++[x]) ?_ (λk _ h=>.inl h) (λk B hn hr=>(K.block k (by have:=d.size;omega) hn).trans (old k B hr)) (q2n (Kw E)) (L.ents.put s A) (λz=>?_) (λe Z=>?_) ?_ (λh=>by simp at h) ?_
  ·intro y hy;rcases List.mem_append.1 hy with h|h
   ·exact L.cl s y h
   ·rw[List.mem_singleton.1 h];exact hx
  ·rw[qcy];by_cases h:z=s
   ·subst h;simp
   ·rw[if_neg (by omega),if_neg h]
  ·rcases q99 Z with h|⟨h,_⟩
   ·exact .inl h
   ·right;unfold kI;rw[h]
  ·rw[List.length_append,qpo];exact q2o p λg f=>K.block g (by
    rcases p.2 with⟨F,_⟩|⟨W,cap,J,F,_,H,_⟩
    ·rw[F] at f;cases f
    ·rw[F] at f;cases f;exact Kw H) (O g f)
  ·rcases M with h|h
   ·exact .inr (.inl h)
   ·exact .inr (.inr ⟨_,h,by omega,.inr (by omega)⟩)
 ·refine⟨d.os,d.tape,d.output,by rw[qdr];have:=d.size;omega,λk B hn=>?_⟩;rw[K.block k (by have:=d.size;omega) (λe=>hn (e▸L.Yn.2.2.1))];exact old k B λe=>hn (L.Yn.2.2.2 s k e.symm)
def DM.bad (D:DM)(s:Int)(x:List UInt8):Bool:=decide (¬(0<=s/\s<(D.n:Int))\/x.length≠256)
def DM.Zg (D:DM)(s:Int)(x:List UInt8):Int:=if D.bad s x then 1 else D.err
def DM.Yu (D:DM)(s:Int)(x:List UInt8):DM:=if D.bad s x then D else if D.stop then D.stepD else { D.stepD with Zm:=upd D.Zm s.toNat (D.Zm s.toNat++[x]) }
def Qb6 (n:Nat)(parts:Array (Nat × Value)):Sem Value:=Instr.buildSlice 149 n parts
theorem qnr (n:Nat)(parts:Array (Nat × Value)):Instr.buildSlice 149 n parts=Qb6 n parts:=rfl
def ldB (p:Value):Sem Value:=Instr.loadAt 289 p
theorem qso (p:Value):Instr.loadAt 289 p=ldB p:=rfl
def apB (e:Array TypeId)(ty:TypeId)(d:Array Value):Sem Value:=Builtin.append_ e ty d
theorem qsp (e:Array TypeId)(ty:TypeId)(d:Array Value):Builtin.append_ e ty d=apB e ty d:=rfl
attribute [local go_sem ↓] qnr qso qsp
theorem qns {w:World}{B:Nat}{S:Nat->Prop}{D:DM}(L0:Wu w B S D)(s:Int)(A:Option Addr)(n c:Nat)(x:List UInt8)(h:Sl w A n c x)(a2:D.steps<=1000000000)(W:∀k,(D.Zm k).length<=1000000) :
  Calls Tryz.prog 130 #[.pointer (some ⟨B,0,none⟩),.int .i64 s,.slice A n c] w λe K=>e=.returned (.int .i64 (D.Zg s x))/\Wu K B (λk=>S k\/w.1.size<=k) (D.Yu s x)/\Turn S w K:=by
 obtain⟨Q,R,l,clock,v,L⟩:=L0;have up:∀{K:World} {l' p v' D'},Lay K B Q R l' p v' S D'->Wu K B (λk=>S k\/w.1.size<=k) D':=λL'=>⟨Q,R,_,_,_,L'.mono λ_ _ h=>.inl h⟩
 have hn:=h.len;have H:∀k,k=B->S k:=λk e=>e▸L.Yn.1
 by_cases G:0<=s/\s<(D.n:Int)
 ·have y:=qds L s;rw[show decide (0<=s/\s<(D.n:Int))=true by simpa using G] at y;by_cases J:x.length=256
  ·have d:D.bad s x=false:=by simp[DM.bad,G,J]
   unfold DM.Zg DM.Yu;rw[d];simp only[Bool.false_eq_true,if_false];obtain⟨k,rfl⟩:=Int.eq_ofNat_of_zero_le G.1;have Y:k<D.n:=by omega
   rw[Int.toNat_natCast];obtain rfl:n=256:=by omega
   obtain⟨g,o,rfl,X,hr⟩:=qjn h (by omega);have U:=L.apart (by omega) hr;have E:=qjo L a2;unfold DM.err at E ⊢
   cases m:D.stop with
   |true=>
    rw[m] at E;go_enter Tryz.func130,Tryz.ntmps130
    go_wp2_with fail
    refine y.mono ?_;rintro e f ⟨rfl,rfl⟩;go_wp2_with fail
    refine E.mono ?_;rintro e f ⟨rfl,M,F⟩;go_wp2_with fail
    go_ret;exact⟨rfl,up M,F.mono H⟩
   |false=>
    rw[m] at E;go_enter Tryz.func130,Tryz.ntmps130
    go_wp2_with fail
    refine y.mono ?_;rintro e f ⟨rfl,rfl⟩;go_wp2_with fail
    refine E.mono ?_;rintro e f ⟨rfl,M,F⟩;have a1:f.drew.rangeAt g o (Yq x):=q53 hr (F.block g X U);have O:=M.drew;have La:Lay (Dx f.drew x) B Q R l clock v S D.stepD:=O.keep λk Y _=>heap_alloc_old f.drew _ Y
    obtain⟨v1,w2,u,Z,b3,T,T2,a7⟩:=O.append k Y x J (W k) 149;have I:=Lay.Na Z M.ents k v1;generalize (if Zf (k:Int) l=none then clock+1 else clock)=ck at T T2 I;have c1:=O.c1;have a8:=La.c1;have b0:=T.c1;have b5:=O.lookup k;have a6:=La.lookup k;have b2:(Qb6 1 #[(0,.agg (Yq x).toArray)]).run Tryz.prog f.drew=.ok (.slice (some ⟨f.1.size,0,none⟩) 1 1) (Dx f.drew x):=qd5 f.drew x J;have b1:=qeq;have b4:(ldB (.pointer (some ⟨g,o,none⟩))).run Tryz.prog f.drew=.ok (.agg (Yq x).toArray) f.drew:=run_loadAt_mid (P:=Tryz.prog) f.drew g o 289 (Yq x) _ a1 UB rfl (by rw[SBk,Ij,J]);have u:(apB #[149,149] 149 #[v k,.slice (some ⟨f.1.size,0,none⟩) 1 1]).run Tryz.prog (Dx f.drew x)=.ok v1 w2:=u;go_wp2_with fail
    go_region
    all_goals (go_wp2;go_ret;exact⟨rfl,⟨Q,R,_,_,_,T.mono λz _ hz=>hz.imp id λhz=>by have:=F.size;simp at hz;omega⟩,((F.mono H).drew).then T2⟩)
  ·have d:D.bad s x=true:=by simp[DM.bad,J]
   unfold DM.Zg DM.Yu;rw[d];have b6:¬(n:Int)=256:=by omega
   go_enter Tryz.func130,Tryz.ntmps130
   go_wp2_with fail
   refine y.mono ?_;rintro e f ⟨rfl,rfl⟩;go_wp2_with fail
   go_ret;exact⟨rfl,up L,Turn.refl _ _⟩
 ·have y:=qds L s;rw[show decide (0<=s/\s<(D.n:Int))=false by simpa using G] at y;have d:D.bad s x=true:=by simp[DM.bad,G]
  unfold DM.Zg DM.Yu;rw[d];go_enter Tryz.func130,Tryz.ntmps130
  go_wp2_with fail
  refine y.mono ?_;rintro e f ⟨rfl,rfl⟩;go_wp2_with fail
  go_ret;exact⟨rfl,up L,Turn.refl _ _⟩
end
section
open Go.ChangeMaps (setBlock)
def DM.mk0 (n:Nat):DM:=⟨n,λ_=>zeros 256,λ_=>[],false,false,0,0,n⟩
theorem qsq (n:Nat){j:Nat}(h:j<n):(Yq (zeros n))[j]?=some (.int .u8 0):=by
 unfold Yq zeros;rw[List.getElem?_map,List.getElem?_replicate,if_pos h];rfl
theorem qwi (n j:Nat)(h:j<n):(madeCells (Value.agg (Array.replicate 256 (.int .u8 0))).cells n).toList[j]?=some (.int .u8 0):=by
 unfold madeCells;rw[Array.toList_map,List.getElem?_map,Array.toList_range,List.getElem?_range h];show some ((Array.replicate 256 (Value.int .u8 0))[j % (Array.replicate 256 (Value.int .u8 0)).size]!)=_;have d:j % 256<256:=Nat.mod_lt _ (by omega);rw[Array.size_replicate,getElem!_pos _ _ (by rw[Array.size_replicate];exact d),Array.getElem_replicate]
theorem qwj {H w':World}{f y A n:Nat}(hn:Qa n)(u:H.ownsRow 0 289 256 (.slice (some ⟨f,0,none⟩) n n) n (madeCells (Value.agg (Array.replicate 256 (.int .u8 0))).cells (n*256)).toList)
  (h1:w'.1[f]?=H.1[f]?) (h2:w'.1[y]?=some (.map #[] 0)) (I:w'.1[A]?=some (.cells #[.slice (some ⟨f,0,none⟩) n n,.map (some y),.bool false,.bool false,.int .i64 0,.int .i64 0] 152 (0,0)))
  (E:A≠f) (S:Nat->Prop) (D:S A/\S f/\S y):Lay w' A f y [] 0 (λ_=>.slice none 0 0) S (DM.mk0 n):=by
 have d:w'.ownsRow 0 289 256 (.slice (some ⟨f,0,none⟩) n n) n (madeCells (Value.agg (Array.replicate 256 (.int .u8 0))).cells (n*256)).toList:=q2o u λg m=>by cases m;exact h1
 have F:∀s,s<n->∀j,j<256->w'.cell? ⟨f,s*256+j,none⟩=some (.int .u8 0):=λs B j p=>by
  rw[World.ownsRow.cellAt d _ (by omega),qwi _ _ (by omega)]
 refine⟨I,λs B j v G=>?_,λs B j p=>⟨by rw[F s B j p];rfl,World.ownsRow.frozenAt d _⟩,h2,qsa,λs=>?_,λe J=>(by simp at J),λs=>World.ownsRow_nil _ _ _ _,λ_ _=>rfl,λs=>List.length_replicate,λs=>by simp[Iq,DM.mk0],λ_ _=>rfl,
  ⟨D.1,D.2.1,D.2.2,λs g m=>by cases m⟩,⟨E,λs g m=>by cases m⟩,λs K g m=>(by cases m),hn,by simp[DM.mk0]⟩
 ·have p:j<256:=by
   have h0:=(List.getElem?_eq_some_iff.1 G).1;rw[Ij,show (DM.mk0 n).Xc s=zeros 256 from rfl,show (zeros 256).length=256 from List.length_replicate] at h0;exact h0
  have h0:(Yq (zeros 256))[j]?=some v:=G;rw[qsq 256 p] at h0;rw[F s B j p,h0]
 ·simp[DM.mk0,Zf]
theorem qwk (n:Nat)(hn:Qa n)(w:World) :
  Calls Tryz.prog 41 #[.int .i64 n] w λe E=>∃D,e=.returned (.tuple #[.pointer (some ⟨D,0,none⟩),.int .i64 0])/\Wu E D (λk=>w.1.size<=k) (DM.mk0 n)/\Below w.1.size w E:=by
 obtain⟨i,hi,y,A,B⟩:=info_parts TB;have G:=@run_makeMap Tryz.prog;have h1:32<=n:=hn.1;have h2:n<=2048:=hn.2;go_enter Tryz.func41,Tryz.ntmps41
 go_wp2_with (at_make;refine wpList_make_full w (by rfl) _ _ _ (by rfl) 0 289 i _ 256 Tryz.underlying149 hi y A .i64 .i64 n n n (by rfl) (by rfl) rfl rfl (by rw[B];omega) (by unfold maxLen;omega) (Nat.zero_le _) ?_)
 intro m f d;go_wp2_with fail
 go_ret2;have u:=d.size;have p:w.1.size<m.1.size:=by
  have h:=World.ownsRow.lt f w.1.size rfl;exact h.2
 have F:Below w.1.size w ((m.alloc (.map #[] 0)).alloc (.cells #[.slice (some ⟨w.1.size,0,none⟩) n n,.map (some m.1.size),.bool false,.bool false,.int .i64 0,.int .i64 0] 152)):=
  (((Below.refl _ _).grown d (Nat.le_refl _) (by simp)).alloc u _).alloc (by simp;omega) _
 refine⟨_,rfl,⟨w.1.size,m.1.size,_,_,_,qwj hn f ?_ ?_ ?_ (by omega) _ ⟨by omega,by omega,by omega⟩⟩,F⟩
 ·rw[heap_alloc_old _ _ (by simp;omega),heap_alloc_old _ _ p]
 ·rw[heap_alloc_old _ _ (by simp),heap_alloc_new]
 ·have e:m.1.size+1=(m.alloc (.map #[] 0)).1.size:=by simp
  rw[e,heap_alloc_new]
end
