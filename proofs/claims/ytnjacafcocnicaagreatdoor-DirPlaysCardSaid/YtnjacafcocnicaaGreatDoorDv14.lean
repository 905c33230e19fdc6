/- A sector full of a byte; the newest write of a sector; Read -/
import Derived.Test.YtnjacafcocnicaaGreatDoorDv5
import Derived.Deep.RegionHeld3
import Derived.Great.BuildSlice
import Derived.BigRegion
namespace Go.Proofs.YtnjacafcocnicaaGreatDoor
open Go Go.RowKit Go.Proofs Tryz
set_option maxHeartbeats 2000000
set_option maxRecDepth 100000
def zeros (n:Nat):LU:=List.replicate n 0
theorem q64 {f:Func}{p:Tmp}{ty:TypeId}(h:f.results=#[.cell p ty])(e:Array Value)(P:Program)(w:WD) :
  (results f e).run P w=((asAddr (e.getD p undef)).run P w).andThen λa m=>(loadVar ty a).run P m:=by
 simp only[results,h];simp[Sem.run_bind,Result.andThen]
def DM.newest (D:DM)(s:Nat):LU:=(D.Zq s).getLastD (D.Jq s)
theorem q92 {α:Type}:∀(l:List α) (a:α),l≠[]->l.getLastD a∈l
 |[],a,h=>absurd rfl h
 |[x],a,_=>by simp
 |x::y::r,a,_=>by
  rw[List.getLastD_cons,List.getLastD_cons];have:=q92 (y::r) x (by simp);rw[List.getLastD_cons] at this;exact AO _ this
theorem Lay.Dl {w:WD}{bp bd bm clock:Nat}{l:List MapEntry}{v:Nat->Value}{S:NP}{D:DM}(L:Lay w bp bd bm l clock v S D)(s:Nat):(D.newest s).length=256:=by
 unfold DM.newest;rcases hc:D.Zq s with _|⟨a,r⟩
 ·exact L.dl s
 ·exact L.cl s _ (by rw[hc];exact q92 _ _ (by simp))
theorem Lay.lookup {w:WD}{bp bd bm clock:Nat}{l:List MapEntry}{v:Nat->Value}{S:NP}{D:DM}(L:Lay w bp bd bm l clock v S D)(s:Nat) :
  (Instr.lookup 90 (.map (some bm)) (.int .i64 s) false).run prog w=.ok (v s) w:=by
 have h:=q4l (P:=prog) (w:=w) L.ents underlying90 underlying3 (z:=.slice none 0 0) (by kernel_rfl) L.map s;rw[h,L.look s];split
 ·rename_i e;rw[L.nil s e];rfl
 ·rfl
theorem UB:prog.underlying 223=some (.array 256 5):=underlying223
theorem SBk:(prog.info? 223).map (·.size)=some 256:=by kernel_rfl
theorem ZB (w:WD):(zeroValue 223).run prog w=.ok (.agg (Array.replicate 256 (.int .u8 0))) w:=by
 have h:=TB;obtain⟨i,hi,e,_⟩:=info_parts h;simp[zeroValue,typeInfo,hi,e]
def Bd (w:WD):WD:=w.alloc (.cells (Array.replicate 256 (.int .u8 0)) 223)
theorem qah (w:WD):(Bd w).1.size=w.1.size+1:=by simp[Bd]
theorem q5c (w:WD):(Bd w).there w.1.size 0 256:=λj f=>by
 have e:(Bd w).1[w.1.size]?=some (.cells (Array.replicate 256 (.int .u8 0)) 223 (0,0)):=BE w _;refine⟨?_,by simp[World.frozen?,e]⟩;rw[cell_of_row _ _ _ _ _ _ e,AT,Array.getElem?_replicate,AA f];rfl
theorem qcu (w:WD):Below w.1.size w (Bd w):=Qi
theorem qgd (w:WD)(l:LU)(e:l.length=256):Below w.1.size w ((Bd w).setCells w.1.size 0 (Y2 l))/\((Bd w).setCells w.1.size 0 (Y2 l)).rangeAt w.1.size 0 (Y2 l):=by
 refine⟨(qcu w).trans ((Vp (S:=λk=>k=w.1.size) rfl (Y2 l) 0 (Bd w)).below (λx f=>by omega) (by rw[qah];omega)),World.rangeAt_setCells_same _ _ _ _ ?_⟩;rw[Oe,e];exact q5c w
theorem qj5 {m:Array Oper}{e:List Oper}{o:Oper}{a:Act}{w:WD}{Q:Exit->Act->WD->Prop}(y:o.guard=none)(q:o.op=Op.alloc 223)
  (u:wpList prog m Q e (a.put o.dst (.pointer (some ⟨w.1.size,0,none⟩))) (Bd w)):wpList prog m Q (o::e) a w:=
 wpList_plain y λK p=>by
  have f:(Instr.alloc 223 true (.tuple #[])).run prog w=.ok (.pointer (some ⟨w.1.size,0,none⟩)) (Bd w):=by
   have A:=ZB;first
    |(simp[Instr.alloc,newVar,newRow,Value.cells,Bd, *];done)
    |(simp[Instr.alloc,newVar,newRow,Value.cells,Bd];refine congrArg (λx=>w.alloc (.cells x 223)) ?_;kernel_rfl)
  unfold Oper.wp execOp;simp only[q,Sem.run_bind,Sem.run_pure,Result.andThen_ok,f];exact p _ _ u
theorem q48 (w:WD)(g n c i:Nat)(hi:i<n):(Instr.indexAt 89 (.slice (some ⟨g,0,none⟩) n c) (.int .i64 (i:Int))).run prog w=.ok (.pointer (some ⟨g,i*256,none⟩)) w:=by
 have e:(sizeOf 223).run prog w=.ok 256 w:=by
  obtain⟨z,e,_,m,_⟩:=info_parts TB;simp[sizeOf,typeInfo,e,m]
 have f:(⟨g,0,none⟩:Addr).add (i*256)=⟨g,i*256,none⟩:=by rw[Addr.add_lit,AT]
 simp[Instr.indexAt,asIntOf,run_underlying underlying89,hi,f]
theorem q93 {f:Array Oper}{e:List Oper}{o:Oper}{a:Act}{w:WD}{Q:Exit->Act->WD->Prop}(u:o.guard=none)(x y:Operand)(p:o.op=Op.indexAddr 89 x y)
  (g n c i:Nat) (A:a.eval x=.slice (some ⟨g,0,none⟩) n c) (z:Int) (B:a.eval y=.int .i64 z) (D:z=(i:Int)) (hi:i<n)
  (q:wpList prog f Q e (a.put o.dst (.pointer (some ⟨g,i*256,none⟩))) w):wpList prog f Q (o::e) a w:=
 wpList_plain u λK m=>by
  subst D;unfold Oper.wp execOp;simp only[p,A,B,Sem.run_bind,Sem.run_pure,Result.andThen_ok,q48 w g n c i hi];exact m _ _ q
theorem qai {f:Array Oper}{e:List Oper}{o:Oper}{a:Act}{w:WD}{Q:Exit->Act->WD->Prop}(y:o.guard=none)(x:Operand)(m:o.op=Op.load 223 x)
  (b p:Nat) (B:a.eval x=.pointer (some ⟨b,p,none⟩)) (l:LU) (A:l.length=256) (u:w.rangeAt b p (Y2 l))
  (q:wpList prog f Q e (a.put o.dst (.agg (Y2 l).toArray)) w):wpList prog f Q (o::e) a w:=
 wpList_load_mid y _ x m b p B (Y2 l) _ u UB rfl (by rw[SBk,Oe,A]) q
theorem q4o {f:Array Oper}{e:List Oper}{o:Oper}{a:Act}{w:WD}{Q:Exit->Act->WD->Prop}(A:o.guard=none)(x y:Operand)(m:o.op=Op.store 223 x y)
  (b p:Nat) (D:a.eval x=.pointer (some ⟨b,p,none⟩)) (l:LU) (E:a.eval y=.agg (Y2 l).toArray) (q:l.length=256) (B:w.there b p 256)
  (u:wpList prog f Q e (a.put o.dst undef) (w.setCells b p (Y2 l))):wpList prog f Q (o::e) a w:=
 wpList_store_mid A _ x y m b p (Y2 l).toArray D E (by rw[List.size_toArray,Oe,q];exact B) (by rw[SBk,List.size_toArray,Oe,q]) (all_oneCell_toArray (qki l)) u
theorem qnr {w:WD}{E y I clock:Nat}{l:List MapEntry}{v:Nat->Value}{S:NP}{D:DM}(L:Lay w E y I l clock v S D)(s:Nat)(K:s<D.n) :
  Calls prog 146 #[.pointer (some ⟨E,0,none⟩),.int .i64 s] w λe R=>e=.returned (.agg (Y2 (D.newest s)).toArray)/\Below w.1.size w R:=by
 have q:Lay (Bd w) E y I l clock v S D:=L.keep λk B _=>(qcu w).block k B
 have c0:=q.c0;have c1:=q.c1;have u:=q.lookup s;have f:=L.Dl s;obtain⟨F,H⟩:=qgd w (D.newest s) f;have p:(Y2 (D.newest s)).length=256:=by rw[Oe,f]
 rcases hc:D.Zq s with _|⟨x,r⟩
 ·have hn:=L.nil s hc;have hd:=q.Jq s K;have A:D.newest s=D.Jq s:=by unfold DM.newest;rw[hc];rfl
  rw[A] at f F H p ⊢;rw[hn] at u;go_enter func146,ntmps146
  go_wp2_with (first
   |(refine qj5 (by rfl) (by rfl) ?_)
   |(refine q93 rfl _ _ rfl y D.n D.cap s rfl _ rfl rfl K ?_)
   |(refine qai (by rfl) _ (by rfl) y (s*256) (by rfl) (D.Jq s) f hd ?_)
   |(refine q4o (by rfl) _ _ (by rfl) w.1.size 0 (by rfl) (D.Jq s) (by rfl) f (q5c w) ?_))
  (try simp only[Exit.inBlock,Exit.then])
  refine bodyPost_ret (v:=.agg (Y2 (D.Jq s)).toArray) ?_ rfl ⟨rfl,F⟩;refine (q64 Tryz.results146 _ _ _).trans ?_;simp only[go_sem];have:=run_loadVar_mid (P:=prog) _ _ _ 223 _ _ H UB rfl (by rw[SBk,p]);exact this
 ·obtain⟨g,c,M,Q,G⟩:=q7g (L.row s) (by rw[hc];simp);have T:(v s).ownBlock=some g:=by rw[M];rfl
  have m:=q.row s;rw[M] at m u;have B:(D.Zq s).length-1<(D.Zq s).length:=by rw[hc];simp
  have A:(D.Zq s)[(D.Zq s).length-1]=D.newest s:=by
   unfold DM.newest;rw[<-List.getLast_eq_getElem (by rw[hc];simp),List.getLastD_eq_getLast?,List.getLast?_eq_some_getLast (by rw[hc];simp)];rfl
  have hd:=qdz m (L.cl s) rfl ((D.Zq s).length-1) B;rw[A] at hd;have O:0<(D.Zq s).length:=by omega
  have J:(D.Zq s).length<=9223372036854775807:=by unfold maxLen at G;omega
  clear hc A;generalize (D.Zq s).length=k at *;go_enter func146,ntmps146
  go_wp2_with (first
   |(refine qj5 (by rfl) (by rfl) ?_)
   |(refine q93 (by rfl) _ _ (by rfl) g k c (k-1) (by rfl) _ (by rfl) (by first|rfl|omega) B ?_)
   |(refine qai (by rfl) _ (by rfl) g ((k-1)*256) (by rfl) (D.newest s) f hd ?_)
   |(refine q4o (by rfl) _ _ (by rfl) w.1.size 0 (by rfl) (D.newest s) (by rfl) f (q5c w) ?_))
  (try simp only[Exit.inBlock,Exit.then])
  refine bodyPost_ret (v:=.agg (Y2 (D.newest s)).toArray) ?_ rfl ⟨rfl,F⟩;refine (q64 Tryz.results146 _ _ _).trans ?_;simp only[go_sem];have:=run_loadVar_mid (P:=prog) _ _ _ 223 _ _ H UB rfl (by rw[SBk,p]);exact this
def DM.Xp (D:DM)(s:Int):Int:=if D.off then 4 else if 0<=s/\s<(D.n:Int) then 0 else 1
def DM.Xv (D:DM)(s:Int):LU:=if D.off then [] else if 0<=s/\s<(D.n:Int) then D.newest s.toNat else []
theorem q9s {w:WD}{F G H clock:Nat}{l:List MapEntry}{v:Nat->Value}{S:NP}{D:DM}(L:Lay w F G H l clock v S D)(s:Int) :
  Calls prog 82 #[.pointer (some ⟨F,0,none⟩),.int .i64 s] w λe E=>∃A n,e=.returned (.tuple #[.slice A n n,.int .i64 (D.Xp s)])/\Sl E A n n (D.Xv s)/\n<=256/\Below w.1.size w E/\∀u,A=some u->w.1.size<=u.block/\u.block<E.1.size:=by
 have c2:=L.c2;unfold DM.Xp DM.Xv
 cases m:D.off with
 |true=>
  rw[m] at c2;go_enter func82,ntmps82
  go_wp2;go_ret2;exact⟨none,0,rfl,Il w,by omega,AI _ _,λu h=>by cases h⟩
 |false=>
  rw[m] at c2;by_cases q:0<=s/\s<(D.n:Int)
  ·obtain⟨k,rfl⟩:=Int.eq_ofNat_of_zero_le q.1;have K:k<D.n:=by omega
   have f:=L.Dl k;have J:(Y2 (D.newest k)).length=256:=by rw[Oe,f]
   have B:=qfo L (k:Int);rw[show decide (0<=(k:Int)/\(k:Int)<(D.n:Int))=true by simpa using q] at B;rw[AA q,AA q,AJ];simp only[Bool.false_eq_true,if_false];go_enter func82,ntmps82
   go_wp2_with fail
   refine B.mono ?_;rintro e y ⟨rfl,rfl⟩;go_wp2_with fail
   refine (qnr L k K).mono ?_;rintro e y ⟨rfl,p⟩;obtain⟨I,M⟩:=qgd y (D.newest k) f;go_wp2_with (first
    |(refine qj5 (by rfl) (by rfl) ?_)
    |(refine q4o (by rfl) _ _ (by rfl) y.1.size 0 (by rfl) (D.newest k) (by rfl) f (q5c y) ?_))
   go_ret2;refine⟨some ⟨y.1.size,0,none⟩,256,rfl,?_,by omega,p.trans (I.mono p.size),λu h=>by cases h;exact⟨p.size,by rw[q2v,qah];simp⟩⟩;have:=qxu M (by rw[q2v,qah];omega) (c:=256) (by omega) (by unfold maxLen;omega);rw[f] at this;exact this
  ·have B:=qfo L s;rw[show decide (0<=s/\s<(D.n:Int))=false by simpa using q] at B;rw[AB q,AB q];simp only[Bool.false_eq_true,if_false];go_enter func82,ntmps82
   go_wp2_with fail
   refine B.mono ?_;rintro e y ⟨rfl,rfl⟩;go_wp2_with fail
   go_ret2;exact⟨none,0,rfl,Il w,by omega,AI _ _,λu h=>by cases h⟩
section
open Go.ChangeMaps (setBlock)
def DM.settle (D:DM)(s i:Nat):DM:={ D with Jq:=if i=0 then D.Jq else upd D.Jq s ((D.Zq s).getD (i-1) []),Zq:=upd D.Zq s [] }
theorem Lay.drew {w:WD}{bp bd bm clock:Nat}{l:List MapEntry}{v:Nat->Value}{S:NP}{D:DM}(L:Lay w bp bd bm l clock v S D):Lay w.drew bp bd bm l clock v S D:=L.keep λ_ _ _=>rfl
theorem Lay.Dy {w:WD}{bp bd bm clock:Nat}{l:List MapEntry}{v:Nat->Value}{S:NP}{D:DM}(L:Lay w bp bd bm l clock v S D)(s:Nat)(ty:TypeId) :
  (Builtin.delete_ #[90,3] ty #[.map (some bm),.int .i64 s]).run prog w=.ok (.tuple #[]) (setBlock w bm (.map (Ye s l).toArray clock)):=
 q4m (P:=prog) (w:=w) L.ents underlying90 underlying3 L.map s _ ty
theorem qns {w:WD}{F q E clock:Nat}{l:List MapEntry}{v:Nat->Value}{S:NP}{D:DM}(L:Lay w F q E l clock v S D)(s:Nat)(A:s<D.n)(i:Nat)(hi:i<=(D.Zq s).length) :
  Calls prog 140 #[.pointer (some ⟨F,0,none⟩),.int .i64 s,.int .i64 i] w λe f=>e=.returned (.tuple #[])/\Lay f F q E (Ye s l) clock (upd v s (.slice none 0 0)) S (D.settle s i)/\Turn (λk=>k=q\/k=E) w f:=by
 by_cases h0:i=0
 ·subst h0;have c1:=L.c1;have G:=L.Dy s;have K:=L.forget s A;go_enter func140,ntmps140
  go_wp2;go_end0
  exact⟨rfl,K,q0t _ (.inr rfl)⟩
 ·obtain⟨g,c,J,Y,Q⟩:=q7g (L.row s) (by omega);have W:(v s).ownBlock=some g:=by rw[J];rfl
  have I:i-1<(D.Zq s).length:=by omega
  have U:(D.Zq s).getD (i-1) []=(D.Zq s)[i-1]:=by rw[AG,AC I];rfl
  have m:((D.Zq s)[i-1]).length=256:=L.cl s _ (List.getElem_mem I);have Ed:D.settle s i={ { D with Jq:=upd D.Jq s (D.Zq s)[i-1] } with Zq:=upd D.Zq s [] }:=by unfold DM.settle;rw[AB h0,U]
  rw[Ed];have p:=L.row s;rw[J] at p;have hd:=qdz p (L.cl s) rfl (i-1) I;clear Ed U p;generalize (D.Zq s)[i-1]=x at hd m ⊢;have P:(Y2 x).length=256:=by rw[Oe,m]
  have B:=L.drew;have c0:=B.c0;have c1:=B.c1;have H:=B.lookup s;rw[J] at H;have Z:=B.Ie s A;have hd:w.drew.rangeAt g ((i-1)*256) (Y2 x):=hd;have y:=B.store s A x m;have M:=y.c0;have O:=y.c1;have u:=y.lookup s;rw[J] at u;have T:=y.Ie s A;have R:(w.drew.setCells q (s*256) (Y2 x)).rangeAt g ((i-1)*256) (Y2 x):=World.rangeAt_setCells_apart hd _ _ _ (.inl (L.ne.2 s g W).2);have G:=y.Dy s;have K:=y.forget s A;have hu:=UB;have X:(prog.info? 223).map (·.size)=some (Y2 x).length:=by rw[P];exact SBk
  have h1:=qki x;have a1:∀f:WD,(Instr.indexAt 89 (.slice (some ⟨g,0,none⟩) (D.Zq s).length c) (.int .i64 ((i:Int)-1))).run prog f=.ok (.pointer (some ⟨g,(i-1)*256,none⟩)) f:=λf=>by
   have:=q48 f g (D.Zq s).length c (i-1) I;rw[show ((i-1:Nat):Int)=(i:Int)-1 by omega] at this;exact this
  have a2:∀f:WD,(Instr.indexAt 89 (.slice (some ⟨q,0,none⟩) D.n D.cap) (.int .i64 (s:Int))).run prog f=.ok (.pointer (some ⟨q,s*256,none⟩)) f:=λf=>q48 f q D.n D.cap s A
  have V:i<=9223372036854775807:=by unfold maxLen at Q;omega
  have hw:IntKind.i64.wrap ((i:Int)-1)=(i:Int)-1:=IntWalk.i64_in _ (by omega);go_enter func140,ntmps140
  go_wp2_with fail
  go_region_held3 (λf=>f.cell? ⟨F,0,none⟩=some (.slice (some ⟨q,0,none⟩) D.n D.cap)/\f.cell? ⟨F,1,none⟩=some (.map (some E))/\(Instr.lookup 90 (.map (some E)) (.int .i64 s) false).run prog f=.ok (.slice (some ⟨g,0,none⟩) (D.Zq s).length c) f/\
   f.rangeAt g ((i-1)*256) (Y2 x)/\f.there q (s*256) 256) (first|exact⟨c0,c1,H,hd,Z⟩|exact⟨M,O,u,R,T⟩) (fail)
  go_wp2;go_end0
  exact⟨rfl,K,((Turn.refl _ w).drew.then (Vp (.inl rfl) _ _ _)).then (q0t _ (.inr rfl))⟩
end
section
open Go.ChangeMaps (setBlock)
def Ew (w:WD)(l:LU):WD:=w.alloc (.cells (Y2 l).toArray 223)
theorem qej (w:WD)(l:LU)(m:l.length=256):(Instr.buildSlice 89 1 #[(0,.agg (Y2 l).toArray)]).run prog w=.ok (.slice (some ⟨w.1.size,0,none⟩) 1 1) (Ew w l):=by
 obtain⟨i,hi,f,e,u⟩:=info_parts TB;refine run_buildSlice w _ _ 1 _ (Y2 l).toArray i _ underlying89 hi f (by rw[e];omega) (by rw[e];omega) ?_;have p:(Value.agg (Y2 l).toArray).cells.size=256:=by show (Y2 l).toArray.size=256;rw[List.size_toArray,Oe,m]
 have h:=Great.fill_whole (s:=256) (by omega) [.agg (Y2 l).toArray] ((Array.range (1*256)).map ((Value.agg (Array.replicate 256 (Value.int .u8 0))).cells[· % (Value.agg (Array.replicate 256 (Value.int .u8 0))).cells.size]!)) (by intro v q;rw[List.mem_singleton.1 q];exact p) (by rw[Array.size_map,Array.size_range];rfl);rw[e];refine Eq.trans ?_ (h.trans ?_)
 ·simp only[List.zipIdx_cons,List.zipIdx_nil,BJ,List.map_nil]
 ·simp[Value.cells]
theorem qge (w:WD)(g o c:Nat):(Instr.arrayAt 223 (.slice (some ⟨g,o,none⟩) 256 c)).run prog w=.ok (.pointer (some ⟨g,o,none⟩)) w:=by
 simp[Instr.arrayAt,run_underlying UB]
theorem Lay.apart {w:WD}{bp bd bm clock:Nat}{l:List MapEntry}{v:Nat->Value}{S:NP}{D:DM}(L:Lay w bp bd bm l clock v S D){g o:Nat}{x:LU}(hx:0<x.length)(h:w.rangeAt g o (Y2 x)):g≠bp:=λe=>by
 subst e;have f:=h 0 (bv x[0]) (by simp[Y2,hx]);rw[cell_of_row w g (o+0) _ _ _ L.me,Nat.add_zero] at f;rcases o with _|_|_|_|_|_|o<;>simp[bv] at f
theorem Lay.Pn {w:WD}{bm clock:Nat}{l:List MapEntry}(hb:w.1[bm]?=some (.map l.toArray clock))(E:Uo l clock)(s:Nat)(x:Value) :
  (Instr.mapUpdate 90 (.map (some bm)) (.int .i64 s) x).run prog w=.ok () (setBlock w bm (.map (Xc s x clock l).toArray (if Zf s l=none then clock+1 else clock))):=
 q30 (P:=prog) (w:=w) E underlying90 underlying3 hb s x
theorem Lay.append {w:WD}{bp bd bm clock:Nat}{l:List MapEntry}{v:Nat->Value}{S:NP}{D:DM}(L:Lay w bp bd bm l clock v S D)(s:Nat)(hs:s<D.n)(x:LU)(hx:x.length=256)(hcl:(D.Zq s).length<=1000000)(ty:TypeId) :
  ∃A p,(Builtin.append_ #[89,89] ty #[v s,.slice (some ⟨w.1.size,0,none⟩) 1 1]).run prog (Ew w x)=.ok A p/\p.1[bm]?=some (.map l.toArray clock)/\p.cell? ⟨bp,1,none⟩=some (.map (some bm))/\
   Lay (setBlock p bm (.map (Xc s A clock l).toArray (if Zf s l=none then clock+1 else clock))) bp bd bm (Xc s A clock l) (if Zf s l=none then clock+1 else clock) (upd v s A) (λk=>S k\/w.1.size<=k) { D with Zq:=upd D.Zq s (D.Zq s++[x]) }/\
   Turn S w (setBlock p bm (.map (Xc s A clock l).toArray (if Zf s l=none then clock+1 else clock)))/\Turn S w p:=by
 obtain⟨i,hi,R,T,U⟩:=info_parts TB;have X:Lay (Ew w x) bp bd bm l clock v S D:=L.keep λk B _=>heap_alloc_old w _ B
 have a1:(Ew w x).1.size=w.1.size+1:=by simp[Ew]
 obtain⟨A,p,G,q,f,W,M⟩:=run_append_own_at (P:=prog) (Ew w x) 0 89 ty 223 i _ 256 256 underlying89 hi R T U (by simp[Value.cells]) (by omega) (v s) _ _ (X.row s)
  ⟨w.1.size,0,none⟩ 1 1 (Y2 x) (by rw[Oe,hx]) (λj u hu=>by unfold Ew;rw[q67];simpa using hu) (qki x) (by unfold maxLen;omega) (by omega) (AW _)
 have Z:∀z g,(v z).ownBlock=some g->g<w.1.size:=λz g m=>by obtain⟨c,t,h⟩:=L.Va m;exact Ky h
 have I:=Ky L.map;have old:∀k,k<w.1.size->some k≠(v s).ownBlock->p.1[k]?=w.1[k]?:=λk B hn=>(f.block k (by omega) hn).trans (heap_alloc_old w _ B)
 have E:p.1[bm]?=some (.map l.toArray clock):=(old bm I λe=>L.Qaw e.symm rfl).trans L.map;have Q:p.1[bp]?=w.1[bp]?:=old bp (Ky L.me) λe=>(L.ne.2 s bp e.symm).1 rfl
 have O:∀g,A.ownBlock=some g->g≠bm:=λg m e=>by
  rcases q.2 with⟨F,_⟩|⟨V,cap,J,F,_,H,_⟩
  ·rw[F] at m;cases m
  ·rw[F] at m;cases m;rw[show V=bm from e,E] at H;cases H
 have K:=q0t (w:=p) (S:=λk=>k=bm) (b:=bm) (.map (Xc s A clock l).toArray (if Zf s l=none then clock+1 else clock)) rfl;refine⟨A,p,G,E,(AY (a:=⟨bp,1,none⟩) Q).trans L.c1,?_,?_,⟨f.os,f.tape,f.output,by have:=f.size;omega,λk B hn=>old k B λe=>hn (L.Yl.2.2.2 s k e.symm)⟩⟩
 ·refine L.Qax s hs A (D.Zq s++[x]) ?_ (λk _ h=>.inl h) (λk B hn hr=>(K.block k (by have:=f.size;omega) hn).trans (old k B hr)) (q2a (Ky E)) (L.ents.put s A) (λz=>?_) (λe Y=>?_) ?_ (λh=>by simp at h) ?_
  ·intro y hy;rcases List.mem_append.1 hy with h|h
   ·exact L.cl s y h
   ·rw[List.mem_singleton.1 h];exact hx
  ·rw[qeb];by_cases h:z=s
   ·subst h;simp
   ·rw[AB (by omega),AB h]
  ·rcases qa7 Y with h|⟨h,_⟩
   ·exact .inl h
   ·right;unfold kI;rw[h]
  ·rw[AD,qts];exact q3d q λg m=>K.block g (by
    rcases q.2 with⟨F,_⟩|⟨V,cap,J,F,_,H,_⟩
    ·rw[F] at m;cases m
    ·rw[F] at m;cases m;exact Ky H) (O g m)
  ·rcases M with h|h
   ·exact .inr (.inl h)
   ·exact .inr (.inr ⟨_,h,by omega,.inr (by omega)⟩)
 ·refine⟨f.os,f.tape,f.output,by rw[qfn];have:=f.size;omega,λk B hn=>?_⟩;rw[K.block k (by have:=f.size;omega) (λe=>hn (e▸L.Yl.2.2.1))];exact old k B λe=>hn (L.Yl.2.2.2 s k e.symm)
def DM.bad (D:DM)(s:Int)(x:LU):Bool:=decide (¬(0<=s/\s<(D.n:Int))\/x.length≠256)
def DM.Zi (D:DM)(s:Int)(x:LU):Int:=if D.bad s x then 1 else D.err
def DM.Y6 (D:DM)(s:Int)(x:LU):DM:=if D.bad s x then D else if D.stop then D.stepD else { D.stepD with Zq:=upd D.Zq s.toNat (D.Zq s.toNat++[x]) }
def Qcq (n:Nat)(parts:Array (Nat × Value)):Sem Value:=Instr.buildSlice 89 n parts
theorem qq4 (n:Nat)(parts:Array (Nat × Value)):Instr.buildSlice 89 n parts=Qcq n parts:=rfl
def ldB (p:Value):Sem Value:=Instr.loadAt 223 p
theorem qva (p:Value):Instr.loadAt 223 p=ldB p:=rfl
def apB (f:Array TypeId)(ty:TypeId)(e:Array Value):Sem Value:=Builtin.append_ f ty e
theorem qvb (f:Array TypeId)(ty:TypeId)(e:Array Value):Builtin.append_ f ty e=apB f ty e:=rfl
attribute [local go_sem ↓] qq4 qva qvb
theorem qq5 {w:WD}{B:Nat}{S:NP}{D:DM}(L0:Vk w B S D)(s:Int)(A:OA)(n c:Nat)(x:LU)(h:Sl w A n c x)(a1:D.steps<=1000000000)(V:∀k,(D.Zq k).length<=1000000) :
  Calls prog 73 #[.pointer (some ⟨B,0,none⟩),.int .i64 s,.slice A n c] w λe K=>e=.returned (.int .i64 (D.Zi s x))/\Vk K B (λk=>S k\/w.1.size<=k) (D.Y6 s x)/\Turn S w K:=by
 obtain⟨Q,R,l,clock,v,L⟩:=L0;have up:∀{K:WD} {l' q v' D'},Lay K B Q R l' q v' S D'->Vk K B (λk=>S k\/w.1.size<=k) D':=λL'=>⟨Q,R,_,_,_,L'.mono λ_ _ h=>.inl h⟩
 have hn:=h.len;have H:∀k,k=B->S k:=λk e=>e▸L.Yl.1
 by_cases G:0<=s/\s<(D.n:Int)
 ·have y:=qfo L s;rw[show decide (0<=s/\s<(D.n:Int))=true by simpa using G] at y;by_cases J:x.length=256
  ·have f:D.bad s x=false:=by simp[DM.bad,G,J]
   unfold DM.Zi DM.Y6;rw[f];simp only[Bool.false_eq_true,if_false];obtain⟨k,rfl⟩:=Int.eq_ofNat_of_zero_le G.1;have X:k<D.n:=by omega
   rw[AJ];obtain rfl:n=256:=by omega
   obtain⟨g,o,rfl,W,hr⟩:=qn4 h (by omega);have U:=L.apart (by omega) hr;have E:=qn7 L a1;unfold DM.err at E ⊢
   cases p:D.stop with
   |true=>
    rw[p] at E;go_enter func73,ntmps73
    go_wp2_with fail
    refine y.mono ?_;rintro e m ⟨rfl,rfl⟩;go_wp2_with fail
    refine E.mono ?_;rintro e m ⟨rfl,M,F⟩;go_wp2_with fail
    go_ret;exact⟨rfl,up M,F.mono H⟩
   |false=>
    rw[p] at E;go_enter func73,ntmps73
    go_wp2_with fail
    refine y.mono ?_;rintro e m ⟨rfl,rfl⟩;go_wp2_with fail
    refine E.mono ?_;rintro e m ⟨rfl,M,F⟩;have Z:m.drew.rangeAt g o (Y2 x):=q5v hr (F.block g W U);have O:=M.drew;have La:Lay (Ew m.drew x) B Q R l clock v S D.stepD:=O.keep λk X _=>heap_alloc_old m.drew _ X
    obtain⟨v1,w2,u,Y,b2,T,T2,a6⟩:=O.append k X x J (V k) 89;have I:=Lay.Pn Y M.ents k v1;generalize (if Zf (k:Int) l=none then clock+1 else clock)=ck at T T2 I;have c1:=O.c1;have a7:=La.c1;have a8:=T.c1;have b4:=O.lookup k;have a2:=La.lookup k;have b1:(Qcq 1 #[(0,.agg (Y2 x).toArray)]).run prog m.drew=.ok (.slice (some ⟨m.1.size,0,none⟩) 1 1) (Ew m.drew x):=qej m.drew x J;have b0:=qge;have b3:(ldB (.pointer (some ⟨g,o,none⟩))).run prog m.drew=.ok (.agg (Y2 x).toArray) m.drew:=run_loadAt_mid (P:=prog) m.drew g o 223 (Y2 x) _ Z UB rfl (by rw[SBk,Oe,J]);have u:(apB #[89,89] 89 #[v k,.slice (some ⟨m.1.size,0,none⟩) 1 1]).run prog (Ew m.drew x)=.ok v1 w2:=u;go_wp2_with fail
    go_region
    all_goals (go_wp2;go_ret;exact⟨rfl,⟨Q,R,_,_,_,T.mono λz _ hz=>hz.imp id λhz=>by have:=F.size;simp at hz;omega⟩,((F.mono H).drew).then T2⟩)
  ·have f:D.bad s x=true:=by simp[DM.bad,J]
   unfold DM.Zi DM.Y6;rw[f];have b5:¬(n:Int)=256:=by omega
   go_enter func73,ntmps73
   go_wp2_with fail
   refine y.mono ?_;rintro e m ⟨rfl,rfl⟩;go_wp2_with fail
   go_ret;exact⟨rfl,up L,Turn.refl _ _⟩
 ·have y:=qfo L s;rw[show decide (0<=s/\s<(D.n:Int))=false by simpa using G] at y;have f:D.bad s x=true:=by simp[DM.bad,G]
  unfold DM.Zi DM.Y6;rw[f];go_enter func73,ntmps73
  go_wp2_with fail
  refine y.mono ?_;rintro e m ⟨rfl,rfl⟩;go_wp2_with fail
  go_ret;exact⟨rfl,up L,Turn.refl _ _⟩
end
section
open Go.ChangeMaps (setBlock)
def DM.mk0 (n:Nat):DM:=⟨n,λ_=>zeros 256,λ_=>[],false,false,0,0,n⟩
theorem qvc (n:Nat){j:Nat}(h:j<n):(Y2 (zeros n))[j]?=some (.int .u8 0):=by
 unfold Y2 zeros;rw[BA,List.getElem?_replicate,AA h];rfl
theorem qzl (n j:Nat)(h:j<n):(madeCells (Value.agg (Array.replicate 256 (.int .u8 0))).cells n).toList[j]?=some (.int .u8 0):=by
 unfold madeCells;rw[Array.toList_map,BA,Array.toList_range,List.getElem?_range h];show some ((Array.replicate 256 (Value.int .u8 0))[j % (Array.replicate 256 (Value.int .u8 0)).size]!)=_;have e:j % 256<256:=Nat.mod_lt _ (by omega);rw[Array.size_replicate,getElem!_pos _ _ (by rw[Array.size_replicate];exact e),Array.getElem_replicate]
theorem qzm {H w':WD}{m y A n:Nat}(hn:Qb n)(u:H.ownsRow 0 223 256 (.slice (some ⟨m,0,none⟩) n n) n (madeCells (Value.agg (Array.replicate 256 (.int .u8 0))).cells (n*256)).toList)
  (h1:w'.1[m]?=H.1[m]?) (h2:w'.1[y]?=some (.map #[] 0)) (I:w'.1[A]?=some (.cells #[.slice (some ⟨m,0,none⟩) n n,.map (some y),.bool false,.bool false,.int .i64 0,.int .i64 0] 92 (0,0)))
  (E:A≠m) (S:NP) (D:S A/\S m/\S y):Lay w' A m y [] 0 (λ_=>.slice none 0 0) S (DM.mk0 n):=by
 have f:w'.ownsRow 0 223 256 (.slice (some ⟨m,0,none⟩) n n) n (madeCells (Value.agg (Array.replicate 256 (.int .u8 0))).cells (n*256)).toList:=q3d u λg p=>by cases p;exact h1
 have F:∀s,s<n->∀j,j<256->w'.cell? ⟨m,s*256+j,none⟩=some (.int .u8 0):=λs B j q=>by
  rw[World.ownsRow.cellAt f _ (by omega),qzl _ _ (by omega)]
 refine⟨I,λs B j v G=>?_,λs B j q=>⟨by rw[F s B j q];rfl,World.ownsRow.frozenAt f _⟩,h2,quv,λs=>?_,λe J=>(by simp at J),λs=>World.ownsRow_nil _ _ _ _,λ_ _=>rfl,λs=>BK,λs=>by simp[Oj,DM.mk0],λ_ _=>rfl,
  ⟨D.1,D.2.1,D.2.2,λs g p=>by cases p⟩,⟨E,λs g p=>by cases p⟩,λs K g p=>(by cases p),hn,by simp[DM.mk0]⟩
 ·have q:j<256:=by
   have h0:=(List.getElem?_eq_some_iff.1 G).1;rw[Oe,show (DM.mk0 n).Jq s=zeros 256 from rfl,show (zeros 256).length=256 from BK] at h0;exact h0
  have h0:(Y2 (zeros 256))[j]?=some v:=G;rw[qvc 256 q] at h0;rw[F s B j q,h0]
 ·simp[DM.mk0,Zf]
theorem qzn (n:Nat)(hn:Qb n)(w:WD) :
  Calls prog 14 #[.int .i64 n] w λe E=>∃D,e=.returned (.tuple #[.pointer (some ⟨D,0,none⟩),.int .i64 0])/\Vk E D (λk=>w.1.size<=k) (DM.mk0 n)/\Below w.1.size w E:=by
 obtain⟨i,hi,y,A,B⟩:=info_parts TB;have G:=@run_makeMap prog;have h1:32<=n:=hn.1;have h2:n<=2048:=hn.2;go_enter func14,ntmps14
 go_wp2_with (at_make;refine wpList_make_full w (by rfl) _ _ _ (by rfl) 0 223 i _ 256 underlying89 hi y A .i64 .i64 n n n (by rfl) (by rfl) rfl rfl (by rw[B];omega) (by unfold maxLen;omega) (AW _) ?_)
 intro p m f;go_wp2_with fail
 go_ret2;have u:=f.size;have q:w.1.size<p.1.size:=by
  have h:=World.ownsRow.lt m w.1.size rfl;exact h.2
 have F:Below w.1.size w ((p.alloc (.map #[] 0)).alloc (.cells #[.slice (some ⟨w.1.size,0,none⟩) n n,.map (some p.1.size),.bool false,.bool false,.int .i64 0,.int .i64 0] 92)):=
  (((AI _ _).grown f (AE _) (by simp)).alloc u _).alloc (by simp;omega) _
 refine⟨_,rfl,⟨w.1.size,p.1.size,_,_,_,qzm hn m ?_ ?_ ?_ (by omega) _ ⟨by omega,by omega,by omega⟩⟩,F⟩
 ·rw[heap_alloc_old _ _ (by simp;omega),heap_alloc_old _ _ q]
 ·rw[heap_alloc_old _ _ (by simp),BE]
 ·have e:p.1.size+1=(p.alloc (.map #[] 0)).1.size:=by simp
  rw[e,BE]
end
