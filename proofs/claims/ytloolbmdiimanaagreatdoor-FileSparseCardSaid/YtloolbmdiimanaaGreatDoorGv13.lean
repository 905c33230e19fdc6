/- A sector full of a byte; the newest write of a sector; Read -/
import Derived.Test.YtloolbmdiimanaaGreatDoorGv3
import Derived.Deep.RegionHeld3
import Derived.Great.BuildSlice
import Derived.BigRegion
namespace Go.Proofs.YtloolbmdiimanaaGreatDoor
open Go Go.RowKit Go.Proofs Tryz
set_option maxHeartbeats 2000000
set_option maxRecDepth 100000
def zeros (n:Nat):LU:=List.replicate n 0
theorem qo9 {P:Program}{t e:TypeId}(w:WD)(T:Vx P t e){f:Array Oper}{d:List Oper}{o:Oper}{a:Act}{Q:Exit->Act->WD->Prop}
  (B:o.guard=none) (l c:Operand) (g:o.op=Op.makeSlice t l c) (p kc:IntKind) (n:Nat) (D:a.eval l=.int p (n:Int)) (A:a.eval c=.int kc (n:Int)) (u:n<=281474976710656)
  (y:∀m,Own m w.1.size e (some ⟨w.1.size,0,none⟩) n n (zeros n)->Below w.1.size w m->wpList P f Q d (a.put o.dst (.slice (some ⟨w.1.size,0,none⟩) n n)) m) :
  wpList P f Q (o::d) a w:=q9w w T B l c g p kc n D A u y
theorem q5v {e:Func}{p:Tmp}{ty:TypeId}(h:e.results=#[.cell p ty])(d:Array Value)(P:Program)(w:WD) :
  (results e d).run P w=((asAddr (d.getD p undef)).run P w).andThen λa f=>(loadVar ty a).run P f:=by
 simp only[results,h];simp[Sem.run_bind,Result.andThen]
def DM.newest (D:DM)(s:Nat):LU:=(D.Zp s).getLastD (D.Xl s)
theorem q8j {α:Type}:∀(l:List α) (a:α),l≠[]->l.getLastD a∈l
 |[],a,h=>absurd rfl h
 |[x],a,_=>by simp
 |x::y::r,a,_=>by
  rw[List.getLastD_cons,List.getLastD_cons];have:=q8j (y::r) x (by simp);rw[List.getLastD_cons] at this;exact AO _ this
theorem Lay.Bj {w:WD}{bp bd bm clock:Nat}{l:List MapEntry}{v:Nat->Value}{S:NP}{D:DM}(L:Lay w bp bd bm l clock v S D)(s:Nat):(D.newest s).length=256:=by
 unfold DM.newest;rcases hc:D.Zp s with _|⟨a,r⟩
 ·exact L.dl s
 ·exact L.cl s _ (by rw[hc];exact q8j _ _ (by simp))
theorem Lay.lookup {w:WD}{bp bd bm clock:Nat}{l:List MapEntry}{v:Nat->Value}{S:NP}{D:DM}(L:Lay w bp bd bm l clock v S D)(s:Nat) :
  (Instr.lookup 68 (.map (some bm)) (.int .i64 s) false).run prog w=.ok (v s) w:=by
 have h:=q9z (P:=prog) (w:=w) L.ents underlying68 underlying3 (z:=.slice none 0 0) (by kernel_rfl) L.map s;rw[h,L.look s];split
 ·rename_i d;rw[L.nil s d];rfl
 ·rfl
theorem UB:prog.underlying 124=some (.array 256 5):=underlying124
theorem SBk:(prog.info? 124).map (·.size)=some 256:=by kernel_rfl
theorem ZB (w:WD):(zeroValue 124).run prog w=.ok (.agg (Array.replicate 256 (.int .u8 0))) w:=by
 have h:=TB;obtain⟨i,hi,d,_⟩:=info_parts h;simp[zeroValue,typeInfo,hi,d]
def G8 (w:WD):WD:=w.alloc (.cells (Array.replicate 256 (.int .u8 0)) 124)
theorem qa3 (w:WD):(G8 w).1.size=w.1.size+1:=by simp[G8]
theorem q54 (w:WD):(G8 w).there w.1.size 0 256:=λj e=>by
 have d:(G8 w).1[w.1.size]?=some (.cells (Array.replicate 256 (.int .u8 0)) 124 (0,0)):=BE w _;refine⟨?_,by simp[World.frozen?,d]⟩;rw[cell_of_row _ _ _ _ _ _ d,AT,Array.getElem?_replicate,AA e];rfl
theorem qc8 (w:WD):Below w.1.size w (G8 w):=Ql
theorem qfi (w:WD)(l:LU)(d:l.length=256):Below w.1.size w ((G8 w).setCells w.1.size 0 (Yn l))/\((G8 w).setCells w.1.size 0 (Yn l)).rangeAt w.1.size 0 (Yn l):=by
 refine⟨(qc8 w).trans ((Us (S:=λk=>k=w.1.size) rfl (Yn l) 0 (G8 w)).below (λx e=>by omega) (by rw[qa3];omega)),World.rangeAt_setCells_same _ _ _ _ ?_⟩;rw[I8,d];exact q54 w
theorem qht {f:Array Oper}{d:List Oper}{o:Oper}{a:Act}{w:WD}{Q:Exit->Act->WD->Prop}(u:o.guard=none)(m:o.op=Op.alloc 124)
  (p:wpList prog f Q d (a.put o.dst (.pointer (some ⟨w.1.size,0,none⟩))) (G8 w)):wpList prog f Q (o::d) a w:=
 wpList_plain u λK g=>by
  have e:(Instr.alloc 124 true (.tuple #[])).run prog w=.ok (.pointer (some ⟨w.1.size,0,none⟩)) (G8 w):=by
   have y:=ZB;first
    |(simp[Instr.alloc,newVar,newRow,Value.cells,G8, *];done)
    |(simp[Instr.alloc,newVar,newRow,Value.cells,G8];refine congrArg (λx=>w.alloc (.cells x 124)) ?_;kernel_rfl)
  unfold Oper.wp execOp;simp only[m,Sem.run_bind,Sem.run_pure,Result.andThen_ok,e];exact g _ _ p
theorem q3x (w:WD)(g n c i:Nat)(hi:i<n):(Instr.indexAt 67 (.slice (some ⟨g,0,none⟩) n c) (.int .i64 (i:Int))).run prog w=.ok (.pointer (some ⟨g,i*256,none⟩)) w:=by
 have d:(sizeOf 124).run prog w=.ok 256 w:=by
  obtain⟨z,d,_,f,_⟩:=info_parts TB;simp[sizeOf,typeInfo,d,f]
 have e:(⟨g,0,none⟩:Addr).add (i*256)=⟨g,i*256,none⟩:=by rw[Addr.add_lit,AT]
 simp[Instr.indexAt,asIntOf,run_underlying underlying67,hi,e]
theorem q8k {e:Array Oper}{d:List Oper}{o:Oper}{a:Act}{w:WD}{Q:Exit->Act->WD->Prop}(u:o.guard=none)(x y:Operand)(m:o.op=Op.indexAddr 67 x y)
  (g n c i:Nat) (A:a.eval x=.slice (some ⟨g,0,none⟩) n c) (z:Int) (B:a.eval y=.int .i64 z) (D:z=(i:Int)) (hi:i<n)
  (p:wpList prog e Q d (a.put o.dst (.pointer (some ⟨g,i*256,none⟩))) w):wpList prog e Q (o::d) a w:=
 wpList_plain u λK f=>by
  subst D;unfold Oper.wp execOp;simp only[m,A,B,Sem.run_bind,Sem.run_pure,Result.andThen_ok,q3x w g n c i hi];exact f _ _ p
theorem qa4 {e:Array Oper}{d:List Oper}{o:Oper}{a:Act}{w:WD}{Q:Exit->Act->WD->Prop}(u:o.guard=none)(x:Operand)(f:o.op=Op.load 124 x)
  (b p:Nat) (A:a.eval x=.pointer (some ⟨b,p,none⟩)) (l:LU) (y:l.length=256) (m:w.rangeAt b p (Yn l))
  (g:wpList prog e Q d (a.put o.dst (.agg (Yn l).toArray)) w):wpList prog e Q (o::d) a w:=
 wpList_load_mid u _ x f b p A (Yn l) _ m UB rfl (by rw[SBk,I8,y]) g
theorem q4l {e:Array Oper}{d:List Oper}{o:Oper}{a:Act}{w:WD}{Q:Exit->Act->WD->Prop}(u:o.guard=none)(x y:Operand)(f:o.op=Op.store 124 x y)
  (b p:Nat) (B:a.eval x=.pointer (some ⟨b,p,none⟩)) (l:LU) (D:a.eval y=.agg (Yn l).toArray) (g:l.length=256) (A:w.there b p 256)
  (m:wpList prog e Q d (a.put o.dst undef) (w.setCells b p (Yn l))):wpList prog e Q (o::d) a w:=
 wpList_store_mid u _ x y f b p (Yn l).toArray B D (by rw[List.size_toArray,I8,g];exact A) (by rw[SBk,List.size_toArray,I8,g]) (all_oneCell_toArray (qig l)) m
theorem qlu {w:WD}{E y I clock:Nat}{l:List MapEntry}{v:Nat->Value}{S:NP}{D:DM}(L:Lay w E y I l clock v S D)(s:Nat)(K:s<D.n) :
  Calls prog 70 #[.pointer (some ⟨E,0,none⟩),.int .i64 s] w λe R=>e=.returned (.agg (Yn (D.newest s)).toArray)/\Below w.1.size w R:=by
 have p:Lay (G8 w) E y I l clock v S D:=L.keep λk B _=>(qc8 w).block k B
 have c0:=p.c0;have c1:=p.c1;have u:=p.lookup s;have d:=L.Bj s;obtain⟨F,H⟩:=qfi w (D.newest s) d;have m:(Yn (D.newest s)).length=256:=by rw[I8,d]
 rcases hc:D.Zp s with _|⟨x,r⟩
 ·have hn:=L.nil s hc;have hd:=p.Xl s K;have A:D.newest s=D.Xl s:=by unfold DM.newest;rw[hc];rfl
  rw[A] at d F H m ⊢;rw[hn] at u;go_enter func70,ntmps70
  go_wp2_with (first
   |(refine qht (by rfl) (by rfl) ?_)
   |(refine q8k rfl _ _ rfl y D.n D.cap s rfl _ rfl rfl K ?_)
   |(refine qa4 (by rfl) _ (by rfl) y (s*256) (by rfl) (D.Xl s) d hd ?_)
   |(refine q4l (by rfl) _ _ (by rfl) w.1.size 0 (by rfl) (D.Xl s) (by rfl) d (q54 w) ?_))
  (try simp only[Exit.inBlock,Exit.then])
  refine bodyPost_ret (v:=.agg (Yn (D.Xl s)).toArray) ?_ rfl ⟨rfl,F⟩;refine (q5v Tryz.results70 _ _ _).trans ?_;simp only[go_sem];have:=run_loadVar_mid (P:=prog) _ _ _ 124 _ _ H UB rfl (by rw[SBk,m]);exact this
 ·obtain⟨g,c,M,Q,G⟩:=qaq (L.row s) (by rw[hc];simp);have T:(v s).ownBlock=some g:=by rw[M];rfl
  have f:=p.row s;rw[M] at f u;have B:(D.Zp s).length-1<(D.Zp s).length:=by rw[hc];simp
  have A:(D.Zp s)[(D.Zp s).length-1]=D.newest s:=by
   unfold DM.newest;rw[<-List.getLast_eq_getElem (by rw[hc];simp),List.getLastD_eq_getLast?,List.getLast?_eq_some_getLast (by rw[hc];simp)];rfl
  have hd:=qcu f (L.cl s) rfl ((D.Zp s).length-1) B;rw[A] at hd;have O:0<(D.Zp s).length:=by omega
  have J:(D.Zp s).length<=9223372036854775807:=by unfold maxLen at G;omega
  clear hc A;generalize (D.Zp s).length=k at *;go_enter func70,ntmps70
  go_wp2_with (first
   |(refine qht (by rfl) (by rfl) ?_)
   |(refine q8k (by rfl) _ _ (by rfl) g k c (k-1) (by rfl) _ (by rfl) (by first|rfl|omega) B ?_)
   |(refine qa4 (by rfl) _ (by rfl) g ((k-1)*256) (by rfl) (D.newest s) d hd ?_)
   |(refine q4l (by rfl) _ _ (by rfl) w.1.size 0 (by rfl) (D.newest s) (by rfl) d (q54 w) ?_))
  (try simp only[Exit.inBlock,Exit.then])
  refine bodyPost_ret (v:=.agg (Yn (D.newest s)).toArray) ?_ rfl ⟨rfl,F⟩;refine (q5v Tryz.results70 _ _ _).trans ?_;simp only[go_sem];have:=run_loadVar_mid (P:=prog) _ _ _ 124 _ _ H UB rfl (by rw[SBk,m]);exact this
def DM.Jw (D:DM)(s:Int):Int:=if D.off then 4 else if 0<=s/\s<(D.n:Int) then 0 else 1
def DM.Xh (D:DM)(s:Int):LU:=if D.off then [] else if 0<=s/\s<(D.n:Int) then D.newest s.toNat else []
theorem q94 {w:WD}{E F G clock:Nat}{l:List MapEntry}{v:Nat->Value}{S:NP}{D:DM}(L:Lay w E F G l clock v S D)(s:Int) :
  Calls prog 42 #[.pointer (some ⟨E,0,none⟩),.int .i64 s] w λe B=>∃A n,e=.returned (.tuple #[.slice A n n,.int .i64 (D.Jw s)])/\Sl B A n n (D.Xh s)/\n<=256/\Below w.1.size w B/\∀p,A=some p->w.1.size<=p.block/\p.block<B.1.size:=by
 have c2:=L.c2;unfold DM.Jw DM.Xh
 cases f:D.off with
 |true=>
  rw[f] at c2;go_enter func42,ntmps42
  go_wp2;go_ret2;exact⟨none,0,rfl,G6 w,by omega,AI _ _,λp h=>by cases h⟩
 |false=>
  rw[f] at c2;by_cases m:0<=s/\s<(D.n:Int)
  ·obtain⟨k,rfl⟩:=Int.eq_ofNat_of_zero_le m.1;have J:k<D.n:=by omega
   have d:=L.Bj k;have I:(Yn (D.newest k)).length=256:=by rw[I8,d]
   have y:=qed L (k:Int);rw[show decide (0<=(k:Int)/\(k:Int)<(D.n:Int))=true by simpa using m] at y;rw[AA m,AA m,AJ];simp only[Bool.false_eq_true,if_false];go_enter func42,ntmps42
   go_wp2_with fail
   refine y.mono ?_;rintro e u ⟨rfl,rfl⟩;go_wp2_with fail
   refine (qlu L k J).mono ?_;rintro e u ⟨rfl,g⟩;obtain⟨H,K⟩:=qfi u (D.newest k) d;go_wp2_with (first
    |(refine qht (by rfl) (by rfl) ?_)
    |(refine q4l (by rfl) _ _ (by rfl) u.1.size 0 (by rfl) (D.newest k) (by rfl) d (q54 u) ?_))
   go_ret2;refine⟨some ⟨u.1.size,0,none⟩,256,rfl,?_,by omega,g.trans (H.mono g.size),λp h=>by cases h;exact⟨g.size,by rw[q46,qa3];simp⟩⟩;have:=qu3 K (by rw[q46,qa3];omega) (c:=256) (by omega) (by unfold maxLen;omega);rw[d] at this;exact this
  ·have y:=qed L s;rw[show decide (0<=s/\s<(D.n:Int))=false by simpa using m] at y;rw[AB m,AB m];simp only[Bool.false_eq_true,if_false];go_enter func42,ntmps42
   go_wp2_with fail
   refine y.mono ?_;rintro e u ⟨rfl,rfl⟩;go_wp2_with fail
   go_ret2;exact⟨none,0,rfl,G6 w,by omega,AI _ _,λp h=>by cases h⟩
section
open Go.ChangeMaps (setBlock)
def DM.settle (D:DM)(s i:Nat):DM:={ D with Xl:=if i=0 then D.Xl else upd D.Xl s ((D.Zp s).getD (i-1) []),Zp:=upd D.Zp s [] }
theorem Lay.drew {w:WD}{bp bd bm clock:Nat}{l:List MapEntry}{v:Nat->Value}{S:NP}{D:DM}(L:Lay w bp bd bm l clock v S D):Lay w.drew bp bd bm l clock v S D:=L.keep λ_ _ _=>rfl
theorem Lay.Bv {w:WD}{bp bd bm clock:Nat}{l:List MapEntry}{v:Nat->Value}{S:NP}{D:DM}(L:Lay w bp bd bm l clock v S D)(s:Nat)(ty:TypeId) :
  (Builtin.delete_ #[68,3] ty #[.map (some bm),.int .i64 s]).run prog w=.ok (.tuple #[]) (setBlock w bm (.map (Xt s l).toArray clock)):=
 q4k (P:=prog) (w:=w) L.ents underlying68 underlying3 L.map s _ ty
theorem qlv {w:WD}{F p E clock:Nat}{l:List MapEntry}{v:Nat->Value}{S:NP}{D:DM}(L:Lay w F p E l clock v S D)(s:Nat)(A:s<D.n)(i:Nat)(hi:i<=(D.Zp s).length) :
  Calls prog 61 #[.pointer (some ⟨F,0,none⟩),.int .i64 s,.int .i64 i] w λe d=>e=.returned (.tuple #[])/\Lay d F p E (Xt s l) clock (upd v s (.slice none 0 0)) S (D.settle s i)/\Turn (λk=>k=p\/k=E) w d:=by
 by_cases h0:i=0
 ·subst h0;have c1:=L.c1;have G:=L.Bv s;have K:=L.forget s A;go_enter func61,ntmps61
  go_wp2;go_end0
  exact⟨rfl,K,q0q _ (.inr rfl)⟩
 ·obtain⟨g,c,J,Z,Q⟩:=qaq (L.row s) (by omega);have X:(v s).ownBlock=some g:=by rw[J];rfl
  have I:i-1<(D.Zp s).length:=by omega
  have U:(D.Zp s).getD (i-1) []=(D.Zp s)[i-1]:=by rw[AG,AC I];rfl
  have f:((D.Zp s)[i-1]).length=256:=L.cl s _ (List.getElem_mem I);have Ed:D.settle s i={ { D with Xl:=upd D.Xl s (D.Zp s)[i-1] } with Zp:=upd D.Zp s [] }:=by unfold DM.settle;rw[AB h0,U]
  rw[Ed];have m:=L.row s;rw[J] at m;have hd:=qcu m (L.cl s) rfl (i-1) I;clear Ed U m;generalize (D.Zp s)[i-1]=x at hd f ⊢;have P:(Yn x).length=256:=by rw[I8,f]
  have B:=L.drew;have c0:=B.c0;have c1:=B.c1;have H:=B.lookup s;rw[J] at H;have ht:=B.Ej s A;have hd:w.drew.rangeAt g ((i-1)*256) (Yn x):=hd;have y:=B.store s A x f;have M:=y.c0;have O:=y.c1;have u:=y.lookup s;rw[J] at u;have T:=y.Ej s A;have R:(w.drew.setCells p (s*256) (Yn x)).rangeAt g ((i-1)*256) (Yn x):=World.rangeAt_setCells_apart hd _ _ _ (.inl (L.ne.2 s g X).2);have G:=y.Bv s;have K:=y.forget s A;have hu:=UB;have Y:(prog.info? 124).map (·.size)=some (Yn x).length:=by rw[P];exact SBk
  have h1:=qig x;have a0:∀d:WD,(Instr.indexAt 67 (.slice (some ⟨g,0,none⟩) (D.Zp s).length c) (.int .i64 ((i:Int)-1))).run prog d=.ok (.pointer (some ⟨g,(i-1)*256,none⟩)) d:=λd=>by
   have:=q3x d g (D.Zp s).length c (i-1) I;rw[show ((i-1:Nat):Int)=(i:Int)-1 by omega] at this;exact this
  have a1:∀d:WD,(Instr.indexAt 67 (.slice (some ⟨p,0,none⟩) D.n D.cap) (.int .i64 (s:Int))).run prog d=.ok (.pointer (some ⟨p,s*256,none⟩)) d:=λd=>q3x d p D.n D.cap s A
  have W:i<=9223372036854775807:=by unfold maxLen at Q;omega
  have hw:IntKind.i64.wrap ((i:Int)-1)=(i:Int)-1:=IntWalk.i64_in _ (by omega);go_enter func61,ntmps61
  go_wp2_with fail
  go_region_held3 (λd=>d.cell? ⟨F,0,none⟩=some (.slice (some ⟨p,0,none⟩) D.n D.cap)/\d.cell? ⟨F,1,none⟩=some (.map (some E))/\(Instr.lookup 68 (.map (some E)) (.int .i64 s) false).run prog d=.ok (.slice (some ⟨g,0,none⟩) (D.Zp s).length c) d/\
   d.rangeAt g ((i-1)*256) (Yn x)/\d.there p (s*256) 256) (first|exact⟨c0,c1,H,hd,ht⟩|exact⟨M,O,u,R,T⟩) (fail)
  go_wp2;go_end0
  exact⟨rfl,K,((Turn.refl _ w).drew.then (Us (.inl rfl) _ _ _)).then (q0q _ (.inr rfl))⟩
end
section
open Go.ChangeMaps (setBlock)
def Dl (w:WD)(l:LU):WD:=w.alloc (.cells (Yn l).toArray 124)
theorem qe0 (w:WD)(l:LU)(f:l.length=256):(Instr.buildSlice 67 1 #[(0,.agg (Yn l).toArray)]).run prog w=.ok (.slice (some ⟨w.1.size,0,none⟩) 1 1) (Dl w l):=by
 obtain⟨i,hi,e,d,p⟩:=info_parts TB;refine run_buildSlice w _ _ 1 _ (Yn l).toArray i _ underlying67 hi e (by rw[d];omega) (by rw[d];omega) ?_;have g:(Value.agg (Yn l).toArray).cells.size=256:=by show (Yn l).toArray.size=256;rw[List.size_toArray,I8,f]
 have h:=Great.fill_whole (s:=256) (by omega) [.agg (Yn l).toArray] ((Array.range (1*256)).map ((Value.agg (Array.replicate 256 (Value.int .u8 0))).cells[· % (Value.agg (Array.replicate 256 (Value.int .u8 0))).cells.size]!)) (by intro v m;rw[List.mem_singleton.1 m];exact g) (by rw[Array.size_map,Array.size_range];rfl);rw[d];refine Eq.trans ?_ (h.trans ?_)
 ·simp only[List.zipIdx_cons,List.zipIdx_nil,BJ,List.map_nil]
 ·simp[Value.cells]
theorem qfj (w:WD)(g o c:Nat):(Instr.arrayAt 124 (.slice (some ⟨g,o,none⟩) 256 c)).run prog w=.ok (.pointer (some ⟨g,o,none⟩)) w:=by
 simp[Instr.arrayAt,run_underlying UB]
theorem Lay.apart {w:WD}{bp bd bm clock:Nat}{l:List MapEntry}{v:Nat->Value}{S:NP}{D:DM}(L:Lay w bp bd bm l clock v S D){g o:Nat}{x:LU}(hx:0<x.length)(h:w.rangeAt g o (Yn x)):g≠bp:=λe=>by
 subst e;have d:=h 0 (bv x[0]) (by simp[Yn,hx]);rw[cell_of_row w g (o+0) _ _ _ L.me,Nat.add_zero] at d;rcases o with _|_|_|_|_|_|o<;>simp[bv] at d
theorem Lay.Nc {w:WD}{bm clock:Nat}{l:List MapEntry}(hb:w.1[bm]?=some (.map l.toArray clock))(E:U0 l clock)(s:Nat)(x:Value) :
  (Instr.mapUpdate 68 (.map (some bm)) (.int .i64 s) x).run prog w=.ok () (setBlock w bm (.map (Zr s x clock l).toArray (if Zf s l=none then clock+1 else clock))):=
 q1t (P:=prog) (w:=w) E underlying68 underlying3 hb s x
theorem Lay.append {w:WD}{bp bd bm clock:Nat}{l:List MapEntry}{v:Nat->Value}{S:NP}{D:DM}(L:Lay w bp bd bm l clock v S D)(s:Nat)(hs:s<D.n)(x:LU)(hx:x.length=256)(hcl:(D.Zp s).length<=1000000)(ty:TypeId) :
  ∃A m,(Builtin.append_ #[67,67] ty #[v s,.slice (some ⟨w.1.size,0,none⟩) 1 1]).run prog (Dl w x)=.ok A m/\m.1[bm]?=some (.map l.toArray clock)/\m.cell? ⟨bp,1,none⟩=some (.map (some bm))/\
   Lay (setBlock m bm (.map (Zr s A clock l).toArray (if Zf s l=none then clock+1 else clock))) bp bd bm (Zr s A clock l) (if Zf s l=none then clock+1 else clock) (upd v s A) (λk=>S k\/w.1.size<=k) { D with Zp:=upd D.Zp s (D.Zp s++[x]) }/\
   Turn S w (setBlock m bm (.map (Zr s A clock l).toArray (if Zf s l=none then clock+1 else clock)))/\Turn S w m:=by
 obtain⟨i,hi,R,T,U⟩:=info_parts TB;have Y:Lay (Dl w x) bp bd bm l clock v S D:=L.keep λk B _=>heap_alloc_old w _ B
 have a1:(Dl w x).1.size=w.1.size+1:=by simp[Dl]
 obtain⟨A,m,G,p,d,X,M⟩:=run_append_own_at (P:=prog) (Dl w x) 0 67 ty 124 i _ 256 256 underlying67 hi R T U (by simp[Value.cells]) (by omega) (v s) _ _ (Y.row s)
  ⟨w.1.size,0,none⟩ 1 1 (Yn x) (by rw[I8,hx]) (λj u hu=>by unfold Dl;rw[q60];simpa using hu) (qig x) (by unfold maxLen;omega) (by omega) (AW _)
 have a0:∀z g,(v z).ownBlock=some g->g<w.1.size:=λz g f=>by obtain⟨c,t,h⟩:=L.Wu f;exact Kw h
 have I:=Kw L.map;have old:∀k,k<w.1.size->some k≠(v s).ownBlock->m.1[k]?=w.1[k]?:=λk B hn=>(d.block k (by omega) hn).trans (heap_alloc_old w _ B)
 have E:m.1[bm]?=some (.map l.toArray clock):=(old bm I λe=>L.Qab e.symm rfl).trans L.map;have Q:m.1[bp]?=w.1[bp]?:=old bp (Kw L.me) λe=>(L.ne.2 s bp e.symm).1 rfl
 have O:∀g,A.ownBlock=some g->g≠bm:=λg f e=>by
  rcases p.2 with⟨F,_⟩|⟨W,cap,J,F,_,H,_⟩
  ·rw[F] at f;cases f
  ·rw[F] at f;cases f;rw[show W=bm from e,E] at H;cases H
 have K:=q0q (w:=m) (S:=λk=>k=bm) (b:=bm) (.map (Zr s A clock l).toArray (if Zf s l=none then clock+1 else clock)) rfl;refine⟨A,m,G,E,(AY (a:=⟨bp,1,none⟩) Q).trans L.c1,?_,?_,⟨d.os,d.tape,d.output,by have:=d.size;omega,λk B hn=>old k B λe=>hn (L.Ym.2.2.2 s k e.symm)⟩⟩
 ·refine L.Qac s hs A (D.Zp s++[x]) ?_ (λk _ h=>.inl h) (λk B hn hr=>(K.block k (by have:=d.size;omega) hn).trans (old k B hr)) (q2u (Kw E)) (L.ents.put s A) (λz=>?_) (λe Z=>?_) ?_ (λh=>by simp at h) ?_
  ·intro y hy;rcases List.mem_append.1 hy with h|h
   ·exact L.cl s y h
   ·rw[List.mem_singleton.1 h];exact hx
  ·rw[qdu];by_cases h:z=s
   ·subst h;simp
   ·rw[AB (by omega),AB h]
  ·rcases q9x Z with h|⟨h,_⟩
   ·exact .inl h
   ·right;unfold kI;rw[h]
  ·rw[AD,qq4];exact q2v p λg f=>K.block g (by
    rcases p.2 with⟨F,_⟩|⟨W,cap,J,F,_,H,_⟩
    ·rw[F] at f;cases f
    ·rw[F] at f;cases f;exact Kw H) (O g f)
  ·rcases M with h|h
   ·exact .inr (.inl h)
   ·exact .inr (.inr ⟨_,h,by omega,.inr (by omega)⟩)
 ·refine⟨d.os,d.tape,d.output,by rw[qec];have:=d.size;omega,λk B hn=>?_⟩;rw[K.block k (by have:=d.size;omega) (λe=>hn (e▸L.Ym.2.2.1))];exact old k B λe=>hn (L.Ym.2.2.2 s k e.symm)
def DM.bad (D:DM)(s:Int)(x:LU):Bool:=decide (¬(0<=s/\s<(D.n:Int))\/x.length≠256)
def DM.Zh (D:DM)(s:Int)(x:LU):Int:=if D.bad s x then 1 else D.err
def DM.Yr (D:DM)(s:Int)(x:LU):DM:=if D.bad s x then D else if D.stop then D.stepD else { D.stepD with Zp:=upd D.Zp s.toNat (D.Zp s.toNat++[x]) }
def Qb9 (n:Nat)(parts:Array (Nat × Value)):Sem Value:=Instr.buildSlice 67 n parts
theorem qoa (n:Nat)(parts:Array (Nat × Value)):Instr.buildSlice 67 n parts=Qb9 n parts:=rfl
def ldB (p:Value):Sem Value:=Instr.loadAt 124 p
theorem qsw (p:Value):Instr.loadAt 124 p=ldB p:=rfl
def apB (e:Array TypeId)(ty:TypeId)(d:Array Value):Sem Value:=Builtin.append_ e ty d
theorem qsx (e:Array TypeId)(ty:TypeId)(d:Array Value):Builtin.append_ e ty d=apB e ty d:=rfl
attribute [local go_sem ↓] qoa qsw qsx
theorem qob {w:WD}{B:Nat}{S:NP}{D:DM}(L0:Vp w B S D)(s:Int)(A:OA)(n c:Nat)(x:LU)(h:Sl w A n c x)(a1:D.steps<=1000000000)(W:∀k,(D.Zp k).length<=1000000) :
  Calls prog 33 #[.pointer (some ⟨B,0,none⟩),.int .i64 s,.slice A n c] w λe K=>e=.returned (.int .i64 (D.Zh s x))/\Vp K B (λk=>S k\/w.1.size<=k) (D.Yr s x)/\Turn S w K:=by
 obtain⟨Q,R,l,clock,v,L⟩:=L0;have up:∀{K:WD} {l' p v' D'},Lay K B Q R l' p v' S D'->Vp K B (λk=>S k\/w.1.size<=k) D':=λL'=>⟨Q,R,_,_,_,L'.mono λ_ _ h=>.inl h⟩
 have hn:=h.len;have H:∀k,k=B->S k:=λk e=>e▸L.Ym.1
 by_cases G:0<=s/\s<(D.n:Int)
 ·have y:=qed L s;rw[show decide (0<=s/\s<(D.n:Int))=true by simpa using G] at y;by_cases J:x.length=256
  ·have d:D.bad s x=false:=by simp[DM.bad,G,J]
   unfold DM.Zh DM.Yr;rw[d];simp only[Bool.false_eq_true,if_false];obtain⟨k,rfl⟩:=Int.eq_ofNat_of_zero_le G.1;have Y:k<D.n:=by omega
   rw[AJ];obtain rfl:n=256:=by omega
   obtain⟨g,o,rfl,X,hr⟩:=qkh h (by omega);have U:=L.apart (by omega) hr;have E:=qki L a1;unfold DM.err at E ⊢
   cases m:D.stop with
   |true=>
    rw[m] at E;go_enter func33,ntmps33
    go_wp2_with fail
    refine y.mono ?_;rintro e f ⟨rfl,rfl⟩;go_wp2_with fail
    refine E.mono ?_;rintro e f ⟨rfl,M,F⟩;go_wp2_with fail
    go_ret;exact⟨rfl,up M,F.mono H⟩
   |false=>
    rw[m] at E;go_enter func33,ntmps33
    go_wp2_with fail
    refine y.mono ?_;rintro e f ⟨rfl,rfl⟩;go_wp2_with fail
    refine E.mono ?_;rintro e f ⟨rfl,M,F⟩;have a0:f.drew.rangeAt g o (Yn x):=q5i hr (F.block g X U);have O:=M.drew;have La:Lay (Dl f.drew x) B Q R l clock v S D.stepD:=O.keep λk Y _=>heap_alloc_old f.drew _ Y
    obtain⟨v1,w2,u,Z,a8,T,T2,a3⟩:=O.append k Y x J (W k) 67;have I:=Lay.Nc Z M.ents k v1;generalize (if Zf (k:Int) l=none then clock+1 else clock)=ck at T T2 I;have c1:=O.c1;have a4:=La.c1;have a5:=T.c1;have b0:=O.lookup k;have a2:=La.lookup k;have a7:(Qb9 1 #[(0,.agg (Yn x).toArray)]).run prog f.drew=.ok (.slice (some ⟨f.1.size,0,none⟩) 1 1) (Dl f.drew x):=qe0 f.drew x J;have a6:=qfj;have a9:(ldB (.pointer (some ⟨g,o,none⟩))).run prog f.drew=.ok (.agg (Yn x).toArray) f.drew:=run_loadAt_mid (P:=prog) f.drew g o 124 (Yn x) _ a0 UB rfl (by rw[SBk,I8,J]);have u:(apB #[67,67] 67 #[v k,.slice (some ⟨f.1.size,0,none⟩) 1 1]).run prog (Dl f.drew x)=.ok v1 w2:=u;go_wp2_with fail
    go_region
    all_goals (go_wp2;go_ret;exact⟨rfl,⟨Q,R,_,_,_,T.mono λz _ hz=>hz.imp id λhz=>by have:=F.size;simp at hz;omega⟩,((F.mono H).drew).then T2⟩)
  ·have d:D.bad s x=true:=by simp[DM.bad,J]
   unfold DM.Zh DM.Yr;rw[d];have b1:¬(n:Int)=256:=by omega
   go_enter func33,ntmps33
   go_wp2_with fail
   refine y.mono ?_;rintro e f ⟨rfl,rfl⟩;go_wp2_with fail
   go_ret;exact⟨rfl,up L,Turn.refl _ _⟩
 ·have y:=qed L s;rw[show decide (0<=s/\s<(D.n:Int))=false by simpa using G] at y;have d:D.bad s x=true:=by simp[DM.bad,G]
  unfold DM.Zh DM.Yr;rw[d];go_enter func33,ntmps33
  go_wp2_with fail
  refine y.mono ?_;rintro e f ⟨rfl,rfl⟩;go_wp2_with fail
  go_ret;exact⟨rfl,up L,Turn.refl _ _⟩
end
section
open Go.ChangeMaps (setBlock)
def DM.mk0 (n:Nat):DM:=⟨n,λ_=>zeros 256,λ_=>[],false,false,0,0,n⟩
theorem qsy (n:Nat){j:Nat}(h:j<n):(Yn (zeros n))[j]?=some (.int .u8 0):=by
 unfold Yn zeros;rw[BA,List.getElem?_replicate,AA h];rfl
theorem qwe (n j:Nat)(h:j<n):(madeCells (Value.agg (Array.replicate 256 (.int .u8 0))).cells n).toList[j]?=some (.int .u8 0):=by
 unfold madeCells;rw[Array.toList_map,BA,Array.toList_range,List.getElem?_range h];show some ((Array.replicate 256 (Value.int .u8 0))[j % (Array.replicate 256 (Value.int .u8 0)).size]!)=_;have d:j % 256<256:=Nat.mod_lt _ (by omega);rw[Array.size_replicate,getElem!_pos _ _ (by rw[Array.size_replicate];exact d),Array.getElem_replicate]
theorem qwf {H w':WD}{f y A n:Nat}(hn:Qa n)(u:H.ownsRow 0 124 256 (.slice (some ⟨f,0,none⟩) n n) n (madeCells (Value.agg (Array.replicate 256 (.int .u8 0))).cells (n*256)).toList)
  (h1:w'.1[f]?=H.1[f]?) (h2:w'.1[y]?=some (.map #[] 0)) (I:w'.1[A]?=some (.cells #[.slice (some ⟨f,0,none⟩) n n,.map (some y),.bool false,.bool false,.int .i64 0,.int .i64 0] 70 (0,0)))
  (E:A≠f) (S:NP) (D:S A/\S f/\S y):Lay w' A f y [] 0 (λ_=>.slice none 0 0) S (DM.mk0 n):=by
 have d:w'.ownsRow 0 124 256 (.slice (some ⟨f,0,none⟩) n n) n (madeCells (Value.agg (Array.replicate 256 (.int .u8 0))).cells (n*256)).toList:=q2v u λg m=>by cases m;exact h1
 have F:∀s,s<n->∀j,j<256->w'.cell? ⟨f,s*256+j,none⟩=some (.int .u8 0):=λs B j p=>by
  rw[World.ownsRow.cellAt d _ (by omega),qwe _ _ (by omega)]
 refine⟨I,λs B j v G=>?_,λs B j p=>⟨by rw[F s B j p];rfl,World.ownsRow.frozenAt d _⟩,h2,qsj,λs=>?_,λe J=>(by simp at J),λs=>World.ownsRow_nil _ _ _ _,λ_ _=>rfl,λs=>BK,λs=>by simp[Lh,DM.mk0],λ_ _=>rfl,
  ⟨D.1,D.2.1,D.2.2,λs g m=>by cases m⟩,⟨E,λs g m=>by cases m⟩,λs K g m=>(by cases m),hn,by simp[DM.mk0]⟩
 ·have p:j<256:=by
   have h0:=(List.getElem?_eq_some_iff.1 G).1;rw[I8,show (DM.mk0 n).Xl s=zeros 256 from rfl,show (zeros 256).length=256 from BK] at h0;exact h0
  have h0:(Yn (zeros 256))[j]?=some v:=G;rw[qsy 256 p] at h0;rw[F s B j p,h0]
 ·simp[DM.mk0,Zf]
theorem qwg (n:Nat)(hn:Qa n)(w:WD) :
  Calls prog 13 #[.int .i64 n] w λe D=>∃B,e=.returned (.tuple #[.pointer (some ⟨B,0,none⟩),.int .i64 0])/\Vp D B (λk=>w.1.size<=k) (DM.mk0 n)/\Below w.1.size w D:=by
 obtain⟨i,hi,u,y,A⟩:=info_parts TB;have F:=@run_makeMap prog;have h1:32<=n:=hn.1;have h2:n<=2048:=hn.2;go_enter func13,ntmps13
 go_wp2_with (at_make;refine wpList_make_full w (by rfl) _ _ _ (by rfl) 0 124 i _ 256 underlying67 hi u y .i64 .i64 n n n (by rfl) (by rfl) rfl rfl (by rw[A];omega) (by unfold maxLen;omega) (AW _) ?_)
 intro g f d;go_wp2_with fail
 go_ret2;have p:=d.size;have m:w.1.size<g.1.size:=by
  have h:=World.ownsRow.lt f w.1.size rfl;exact h.2
 have E:Below w.1.size w ((g.alloc (.map #[] 0)).alloc (.cells #[.slice (some ⟨w.1.size,0,none⟩) n n,.map (some g.1.size),.bool false,.bool false,.int .i64 0,.int .i64 0] 70)):=
  (((AI _ _).grown d (AE _) (by simp)).alloc p _).alloc (by simp;omega) _
 refine⟨_,rfl,⟨w.1.size,g.1.size,_,_,_,qwf hn f ?_ ?_ ?_ (by omega) _ ⟨by omega,by omega,by omega⟩⟩,E⟩
 ·rw[heap_alloc_old _ _ (by simp;omega),heap_alloc_old _ _ m]
 ·rw[heap_alloc_old _ _ (by simp),BE]
 ·have e:g.1.size+1=(g.alloc (.map #[] 0)).1.size:=by simp
  rw[e,BE]
end
