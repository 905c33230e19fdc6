/- A sector full of a byte; the newest write of a sector; Read -/
import Derived.Test.YthkfkhejjmhomaaGreatDoorDz3
import Derived.Deep.RegionHeld3
import Derived.Great.BuildSlice
import Derived.BigRegion
namespace Go.Proofs.YthkfkhejjmhomaaGreatDoor
open Go Go.RowKit Go.Proofs
set_option maxHeartbeats 2000000
set_option maxRecDepth 100000
def zeros (n:Nat):List UInt8:=List.replicate n 0
theorem Qda {e:Func}{p:Tmp}{ty:TypeId}(h:e.results=#[.cell p ty])(d:Array Value)(P:Program)(w:World) :
  (results e d).run P w=((asAddr (d.getD p undef)).run P w).andThen λa f=>(loadVar ty a).run P f:=by
 simp only[results,h];simp[Sem.run_bind,Result.andThen]
def DM.newest (D:DM)(s:Nat):List UInt8:=(D.Zd s).getLastD (D.Ze s)
theorem Qfc {α:Type}:∀(l:List α) (a:α),l≠[]->l.getLastD a∈l
 |[],a,h=>absurd rfl h
 |[x],a,_=>by simp
 |x::y::r,a,_=>by
  rw[List.getLastD_cons,List.getLastD_cons];have:=Qfc (y::r) x (by simp);rw[List.getLastD_cons] at this;exact List.mem_cons_of_mem _ this
theorem Lay.Qjb {w:World}{bp bd bm clock:Nat}{l:List MapEntry}{v:Nat->Value}{S:Nat->Prop}{D:DM}(L:Lay w bp bd bm l clock v S D)(s:Nat):(D.newest s).length=256:=by
 unfold DM.newest;rcases hc:D.Zd s with _|⟨a,r⟩
 ·exact L.dl s
 ·exact L.cl s _ (by rw[hc];exact Qfc _ _ (by simp))
theorem Lay.lookup {w:World}{bp bd bm clock:Nat}{l:List MapEntry}{v:Nat->Value}{S:Nat->Prop}{D:DM}(L:Lay w bp bd bm l clock v S D)(s:Nat) :
  (Instr.lookup 150 (.map (some bm)) (.int .i64 s) false).run Tryz.prog w=.ok (v s) w:=by
 have h:=Qhq (P:=Tryz.prog) (w:=w) L.ents Tryz.underlying150 Tryz.underlying3 (z:=.slice none 0 0) (by kernel_rfl) L.map s;rw[h,L.look s];split
 ·rename_i d;rw[L.nil s d];rfl
 ·rfl
theorem UB:Tryz.prog.underlying 289=some (.array 256 5):=Tryz.underlying289
theorem SBk:(Tryz.prog.info? 289).map (·.size)=some 256:=by kernel_rfl
theorem ZB (w:World):(zeroValue 289).run Tryz.prog w=.ok (.agg (Array.replicate 256 (.int .u8 0))) w:=by
 have h:=TB;obtain⟨i,hi,d,_⟩:=info_parts h;simp[zeroValue,typeInfo,hi,d]
def Qg1 (w:World):World:=w.alloc (.cells (Array.replicate 256 (.int .u8 0)) 289)
theorem Qg2 (w:World):(Qg1 w).1.size=w.1.size+1:=by simp[Qg1]
theorem Qcm (w:World):(Qg1 w).there w.1.size 0 256:=λj e=>by
 have d:(Qg1 w).1[w.1.size]?=some (.cells (Array.replicate 256 (.int .u8 0)) 289 (0,0)):=heap_alloc_new w _;refine⟨?_,by simp[World.frozen?,d]⟩;rw[cell_of_row _ _ _ _ _ _ d,Nat.zero_add,Array.getElem?_replicate,if_pos e];rfl
theorem Qkb (w:World):Below w.1.size w (Qg1 w):=Ib
theorem Qmf (w:World)(l:List UInt8)(d:l.length=256):Below w.1.size w ((Qg1 w).setCells w.1.size 0 (Xx l))/\((Qg1 w).setCells w.1.size 0 (Xx l)).rangeAt w.1.size 0 (Xx l):=by
 refine⟨(Qkb w).trans ((Gg (S:=λk=>k=w.1.size) rfl (Xx l) 0 (Qg1 w)).below (λx e=>by omega) (by rw[Qg2];omega)),World.rangeAt_setCells_same _ _ _ _ ?_⟩;rw[Uz,d];exact Qcm w
theorem Qnj {f:Array Oper}{d:List Oper}{o:Oper}{a:Act}{w:World}{Q:Exit->Act->World->Prop}(q:o.guard=none)(m:o.op=Op.alloc 289)
  (p:wpList Tryz.prog f Q d (a.put o.dst (.pointer (some ⟨w.1.size,0,none⟩))) (Qg1 w)):wpList Tryz.prog f Q (o::d) a w:=
 wpList_plain q λK g=>by
  have e:(Instr.alloc 289 true (.tuple #[])).run Tryz.prog w=.ok (.pointer (some ⟨w.1.size,0,none⟩)) (Qg1 w):=by
   have u:=ZB;first
    |(simp[Instr.alloc,newVar,newRow,Value.cells,Qg1, *];done)
    |(simp[Instr.alloc,newVar,newRow,Value.cells,Qg1];refine congrArg (λx=>w.alloc (.cells x 289)) ?_;kernel_rfl)
  unfold Oper.wp execOp;simp only[m,Sem.run_bind,Sem.run_pure,Result.andThen_ok,e];exact g _ _ p
theorem Qbl (w:World)(g n c i:Nat)(hi:i<n):(Instr.indexAt 149 (.slice (some ⟨g,0,none⟩) n c) (.int .i64 (i:Int))).run Tryz.prog w=.ok (.pointer (some ⟨g,i*256,none⟩)) w:=by
 have d:(sizeOf 289).run Tryz.prog w=.ok 256 w:=by
  obtain⟨z,d,_,f,_⟩:=info_parts TB;simp[sizeOf,typeInfo,d,f]
 have e:(⟨g,0,none⟩:Addr).add (i*256)=⟨g,i*256,none⟩:=by rw[Addr.add_lit,Nat.zero_add]
 simp[Instr.indexAt,asIntOf,run_underlying Tryz.underlying149,hi,e]
theorem Qf7 {e:Array Oper}{d:List Oper}{o:Oper}{a:Act}{w:World}{Q:Exit->Act->World->Prop}(q:o.guard=none)(x y:Operand)(m:o.op=Op.indexAddr 149 x y)
  (g n c i:Nat) (u:a.eval x=.slice (some ⟨g,0,none⟩) n c) (z:Int) (A:a.eval y=.int .i64 z) (B:z=(i:Int)) (hi:i<n)
  (p:wpList Tryz.prog e Q d (a.put o.dst (.pointer (some ⟨g,i*256,none⟩))) w):wpList Tryz.prog e Q (o::d) a w:=
 wpList_plain q λK f=>by
  subst B;unfold Oper.wp execOp;simp only[m,u,A,Sem.run_bind,Sem.run_pure,Result.andThen_ok,Qbl w g n c i hi];exact f _ _ p
theorem Qhm {e:Array Oper}{d:List Oper}{o:Oper}{a:Act}{w:World}{Q:Exit->Act->World->Prop}(q:o.guard=none)(x:Operand)(f:o.op=Op.load 289 x)
  (b p:Nat) (y:a.eval x=.pointer (some ⟨b,p,none⟩)) (l:List UInt8) (u:l.length=256) (m:w.rangeAt b p (Xx l))
  (g:wpList Tryz.prog e Q d (a.put o.dst (.agg (Xx l).toArray)) w):wpList Tryz.prog e Q (o::d) a w:=
 wpList_load_mid q _ x f b p y (Xx l) _ m UB rfl (by rw[SBk,Uz,u]) g
theorem Qco {e:Array Oper}{d:List Oper}{o:Oper}{a:Act}{w:World}{Q:Exit->Act->World->Prop}(q:o.guard=none)(x y:Operand)(f:o.op=Op.store 289 x y)
  (b p:Nat) (z:a.eval x=.pointer (some ⟨b,p,none⟩)) (l:List UInt8) (A:a.eval y=.agg (Xx l).toArray) (g:l.length=256) (u:w.there b p 256)
  (m:wpList Tryz.prog e Q d (a.put o.dst undef) (w.setCells b p (Xx l))):wpList Tryz.prog e Q (o::d) a w:=
 wpList_store_mid q _ x y f b p (Xx l).toArray z A (by rw[List.size_toArray,Uz,g];exact u) (by rw[SBk,List.size_toArray,Uz,g]) (all_oneCell_toArray (Qmn l)) m
theorem Qr6 {w:World}{A u G clock:Nat}{l:List MapEntry}{v:Nat->Value}{S:Nat->Prop}{D:DM}(L:Lay w A u G l clock v S D)(s:Nat)(I:s<D.n) :
  Calls Tryz.prog 209 #[.pointer (some ⟨A,0,none⟩),.int .i64 s] w λe O=>e=.returned (.agg (Xx (D.newest s)).toArray)/\Below w.1.size w O:=by
 have p:Lay (Qg1 w) A u G l clock v S D:=L.keep λk z _=>(Qkb w).block k z
 have c0:=p.c0;have c1:=p.c1;have q:=p.lookup s;have d:=L.Qjb s;obtain⟨B,F⟩:=Qmf w (D.newest s) d;have m:(Xx (D.newest s)).length=256:=by rw[Uz,d]
 rcases hc:D.Zd s with _|⟨x,r⟩
 ·have hn:=L.nil s hc;have hd:=p.Ze s I;have y:D.newest s=D.Ze s:=by unfold DM.newest;rw[hc];rfl
  rw[y] at d B F m ⊢;rw[hn] at q;go_enter Tryz.func209,Tryz.ntmps209
  go_wp2_with (first
   |(refine Qnj (by rfl) (by rfl) ?_)
   |(refine Qf7 rfl _ _ rfl u D.n D.cap s rfl _ rfl rfl I ?_)
   |(refine Qhm (by rfl) _ (by rfl) u (s*256) (by rfl) (D.Ze s) d hd ?_)
   |(refine Qco (by rfl) _ _ (by rfl) w.1.size 0 (by rfl) (D.Ze s) (by rfl) d (Qcm w) ?_))
  (try simp only[Exit.inBlock,Exit.then])
  refine bodyPost_ret (v:=.agg (Xx (D.Ze s)).toArray) ?_ rfl ⟨rfl,B⟩;refine (Qda Tryz.results209 _ _ _).trans ?_;simp only[go_sem];have:=run_loadVar_mid (P:=Tryz.prog) _ _ _ 289 _ _ F UB rfl (by rw[SBk,m]);exact this
 ·obtain⟨g,c,J,M,E⟩:=Qgo (L.row s) (by rw[hc];simp);have Q:(v s).ownBlock=some g:=by rw[J];rfl
  have f:=p.row s;rw[J] at f q;have z:(D.Zd s).length-1<(D.Zd s).length:=by rw[hc];simp
  have y:(D.Zd s)[(D.Zd s).length-1]=D.newest s:=by
   unfold DM.newest;rw[<-List.getLast_eq_getElem (by rw[hc];simp),List.getLastD_eq_getLast?,List.getLast?_eq_some_getLast (by rw[hc];simp)];rfl
  have hd:=Qjg f (L.cl s) rfl ((D.Zd s).length-1) z;rw[y] at hd;have K:0<(D.Zd s).length:=by omega
  have H:(D.Zd s).length<=9223372036854775807:=by unfold maxLen at E;omega
  clear hc y;generalize (D.Zd s).length=k at *;go_enter Tryz.func209,Tryz.ntmps209
  go_wp2_with (first
   |(refine Qnj (by rfl) (by rfl) ?_)
   |(refine Qf7 (by rfl) _ _ (by rfl) g k c (k-1) (by rfl) _ (by rfl) (by first|rfl|omega) z ?_)
   |(refine Qhm (by rfl) _ (by rfl) g ((k-1)*256) (by rfl) (D.newest s) d hd ?_)
   |(refine Qco (by rfl) _ _ (by rfl) w.1.size 0 (by rfl) (D.newest s) (by rfl) d (Qcm w) ?_))
  (try simp only[Exit.inBlock,Exit.then])
  refine bodyPost_ret (v:=.agg (Xx (D.newest s)).toArray) ?_ rfl ⟨rfl,B⟩;refine (Qda Tryz.results209 _ _ _).trans ?_;simp only[go_sem];have:=run_loadVar_mid (P:=Tryz.prog) _ _ _ 289 _ _ F UB rfl (by rw[SBk,m]);exact this
def DM.Xt (D:DM)(s:Int):Int:=if D.off then 4 else if 0<=s/\s<(D.n:Int) then 0 else 1
def DM.Yf (D:DM)(s:Int):List UInt8:=if D.off then [] else if 0<=s/\s<(D.n:Int) then D.newest s.toNat else []
theorem Qft {w:World}{z B E clock:Nat}{l:List MapEntry}{v:Nat->Value}{S:Nat->Prop}{D:DM}(L:Lay w z B E l clock v S D)(s:Int) :
  Calls Tryz.prog 138 #[.pointer (some ⟨z,0,none⟩),.int .i64 s] w λe y=>∃A n,e=.returned (.tuple #[.slice A n n,.int .i64 (D.Xt s)])/\Sl y A n n (D.Yf s)/\n<=256/\Below w.1.size w y/\∀p,A=some p->w.1.size<=p.block/\p.block<y.1.size:=by
 have c2:=L.c2;unfold DM.Xt DM.Yf
 cases f:D.off with
 |true=>
  rw[f] at c2;go_enter Tryz.func138,Tryz.ntmps138
  go_wp2;go_ret2;exact⟨none,0,rfl,Sm w,by omega,Below.refl _ _,λp h=>by cases h⟩
 |false=>
  rw[f] at c2;by_cases m:0<=s/\s<(D.n:Int)
  ·obtain⟨k,rfl⟩:=Int.eq_ofNat_of_zero_le m.1;have H:k<D.n:=by omega
   have d:=L.Qjb k;have G:(Xx (D.newest k)).length=256:=by rw[Uz,d]
   have u:=Qhy L (k:Int);rw[show decide (0<=(k:Int)/\(k:Int)<(D.n:Int))=true by simpa using m] at u;rw[if_pos m,if_pos m,Int.toNat_natCast];simp only[Bool.false_eq_true,if_false];go_enter Tryz.func138,Tryz.ntmps138
   go_wp2_with fail
   refine u.mono ?_;rintro e q ⟨rfl,rfl⟩;go_wp2_with fail
   refine (Qr6 L k H).mono ?_;rintro e q ⟨rfl,g⟩;obtain⟨F,I⟩:=Qmf q (D.newest k) d;go_wp2_with (first
    |(refine Qnj (by rfl) (by rfl) ?_)
    |(refine Qco (by rfl) _ _ (by rfl) q.1.size 0 (by rfl) (D.newest k) (by rfl) d (Qcm q) ?_))
   go_ret2;refine⟨some ⟨q.1.size,0,none⟩,256,rfl,?_,by omega,g.trans (F.mono g.size),λp h=>by cases h;exact⟨g.size,by rw[setCells_size,Qg2];simp⟩⟩;have:=Zas I (by rw[setCells_size,Qg2];omega) (c:=256) (by omega) (by unfold maxLen;omega);rw[d] at this;exact this
  ·have u:=Qhy L s;rw[show decide (0<=s/\s<(D.n:Int))=false by simpa using m] at u;rw[if_neg m,if_neg m];simp only[Bool.false_eq_true,if_false];go_enter Tryz.func138,Tryz.ntmps138
   go_wp2_with fail
   refine u.mono ?_;rintro e q ⟨rfl,rfl⟩;go_wp2_with fail
   go_ret2;exact⟨none,0,rfl,Sm w,by omega,Below.refl _ _,λp h=>by cases h⟩
section
open Go.ChangeMaps (setBlock)
def DM.settle (D:DM)(s i:Nat):DM:={ D with Ze:=if i=0 then D.Ze else upd D.Ze s ((D.Zd s).getD (i-1) []),Zd:=upd D.Zd s [] }
theorem Lay.drew {w:World}{bp bd bm clock:Nat}{l:List MapEntry}{v:Nat->Value}{S:Nat->Prop}{D:DM}(L:Lay w bp bd bm l clock v S D):Lay w.drew bp bd bm l clock v S D:=L.keep λ_ _ _=>rfl
theorem Lay.Qjt {w:World}{bp bd bm clock:Nat}{l:List MapEntry}{v:Nat->Value}{S:Nat->Prop}{D:DM}(L:Lay w bp bd bm l clock v S D)(s:Nat)(ty:TypeId) :
  (Builtin.delete_ #[150,3] ty #[.map (some bm),.int .i64 s]).run Tryz.prog w=.ok (.tuple #[]) (setBlock w bm (.map (Q9 s l).toArray clock)):=
 Qcq (P:=Tryz.prog) (w:=w) L.ents Tryz.underlying150 Tryz.underlying3 L.map s _ ty
theorem Qsr {w:World}{B p A clock:Nat}{l:List MapEntry}{v:Nat->Value}{S:Nat->Prop}{D:DM}(L:Lay w B p A l clock v S D)(s:Nat)(y:s<D.n)(i:Nat)(hi:i<=(D.Zd s).length) :
  Calls Tryz.prog 207 #[.pointer (some ⟨B,0,none⟩),.int .i64 s,.int .i64 i] w λe d=>e=.returned (.tuple #[])/\Lay d B p A (Q9 s l) clock (upd v s (.slice none 0 0)) S (D.settle s i)/\Turn (λk=>k=p\/k=A) w d:=by
 by_cases h0:i=0
 ·subst h0;have c1:=L.c1;have E:=L.Qjt s;have I:=L.forget s y;go_enter Tryz.func207,Tryz.ntmps207
  go_wp2;go_end0
  exact⟨rfl,I,Gh _ (.inr rfl)⟩
 ·obtain⟨g,c,H,W,O⟩:=Qgo (L.row s) (by omega);have U:(v s).ownBlock=some g:=by rw[H];rfl
  have G:i-1<(D.Zd s).length:=by omega
  have R:(D.Zd s).getD (i-1) []=(D.Zd s)[i-1]:=by rw[List.getD_eq_getElem?_getD,List.getElem?_eq_getElem G];rfl
  have f:((D.Zd s)[i-1]).length=256:=L.cl s _ (List.getElem_mem G);have Ed:D.settle s i={ { D with Ze:=upd D.Ze s (D.Zd s)[i-1] } with Zd:=upd D.Zd s [] }:=by unfold DM.settle;rw[if_neg h0,R]
  rw[Ed];have m:=L.row s;rw[H] at m;have hd:=Qjg m (L.cl s) rfl (i-1) G;clear Ed R m;generalize (D.Zd s)[i-1]=x at hd f ⊢;have M:(Xx x).length=256:=by rw[Uz,f]
  have z:=L.drew;have c0:=z.c0;have c1:=z.c1;have F:=z.lookup s;rw[H] at F;have X:=z.Xi s y;have hd:w.drew.rangeAt g ((i-1)*256) (Xx x):=hd;have u:=z.store s y x f;have J:=u.c0;have K:=u.c1;have q:=u.lookup s;rw[H] at q;have Q:=u.Xi s y;have P:(w.drew.setCells p (s*256) (Xx x)).rangeAt g ((i-1)*256) (Xx x):=World.rangeAt_setCells_apart hd _ _ _ (.inl (L.ne.2 s g U).2);have E:=u.Qjt s;have I:=u.forget s y;have hu:=UB;have V:(Tryz.prog.info? 289).map (·.size)=some (Xx x).length:=by rw[M];exact SBk
  have h1:=Qmn x;have Y:∀d:World,(Instr.indexAt 149 (.slice (some ⟨g,0,none⟩) (D.Zd s).length c) (.int .i64 ((i:Int)-1))).run Tryz.prog d=.ok (.pointer (some ⟨g,(i-1)*256,none⟩)) d:=λd=>by
   have:=Qbl d g (D.Zd s).length c (i-1) G;rw[show ((i-1:Nat):Int)=(i:Int)-1 by omega] at this;exact this
  have Z:∀d:World,(Instr.indexAt 149 (.slice (some ⟨p,0,none⟩) D.n D.cap) (.int .i64 (s:Int))).run Tryz.prog d=.ok (.pointer (some ⟨p,s*256,none⟩)) d:=λd=>Qbl d p D.n D.cap s y
  have T:i<=9223372036854775807:=by unfold maxLen at O;omega
  have hw:IntKind.i64.wrap ((i:Int)-1)=(i:Int)-1:=IntWalk.i64_in _ (by omega);go_enter Tryz.func207,Tryz.ntmps207
  go_wp2_with fail
  go_region_held3 (λd=>d.cell? ⟨B,0,none⟩=some (.slice (some ⟨p,0,none⟩) D.n D.cap)/\d.cell? ⟨B,1,none⟩=some (.map (some A))/\(Instr.lookup 150 (.map (some A)) (.int .i64 s) false).run Tryz.prog d=.ok (.slice (some ⟨g,0,none⟩) (D.Zd s).length c) d/\
   d.rangeAt g ((i-1)*256) (Xx x)/\d.there p (s*256) 256) (first|exact⟨c0,c1,F,hd,X⟩|exact⟨J,K,q,P,Q⟩) (fail)
  go_wp2;go_end0
  exact⟨rfl,I,((Turn.refl _ w).drew.then (Gg (.inl rfl) _ _ _)).then (Gh _ (.inr rfl))⟩
end
section
open Go.ChangeMaps (setBlock)
def Qkm (w:World)(l:List UInt8):World:=w.alloc (.cells (Xx l).toArray 289)
theorem Qkr (w:World)(l:List UInt8)(f:l.length=256):(Instr.buildSlice 149 1 #[(0,.agg (Xx l).toArray)]).run Tryz.prog w=.ok (.slice (some ⟨w.1.size,0,none⟩) 1 1) (Qkm w l):=by
 obtain⟨i,hi,e,d,p⟩:=info_parts TB;refine run_buildSlice w _ _ 1 _ (Xx l).toArray i _ Tryz.underlying149 hi e (by rw[d];omega) (by rw[d];omega) ?_;have g:(Value.agg (Xx l).toArray).cells.size=256:=by show (Xx l).toArray.size=256;rw[List.size_toArray,Uz,f]
 have h:=Great.fill_whole (s:=256) (by omega) [.agg (Xx l).toArray] ((Array.range (1*256)).map ((Value.agg (Array.replicate 256 (Value.int .u8 0))).cells[· % (Value.agg (Array.replicate 256 (Value.int .u8 0))).cells.size]!)) (by intro v m;rw[List.mem_singleton.1 m];exact g) (by rw[Array.size_map,Array.size_range];rfl);rw[d];refine Eq.trans ?_ (h.trans ?_)
 ·simp only[List.zipIdx_cons,List.zipIdx_nil,List.map_cons,List.map_nil]
 ·simp[Value.cells]
theorem Qm4 (w:World)(g o c:Nat):(Instr.arrayAt 289 (.slice (some ⟨g,o,none⟩) 256 c)).run Tryz.prog w=.ok (.pointer (some ⟨g,o,none⟩)) w:=by
 simp[Instr.arrayAt,run_underlying UB]
theorem Lay.apart {w:World}{bp bd bm clock:Nat}{l:List MapEntry}{v:Nat->Value}{S:Nat->Prop}{D:DM}(L:Lay w bp bd bm l clock v S D){g o:Nat}{x:List UInt8}(hx:0<x.length)(h:w.rangeAt g o (Xx x)):g≠bp:=λe=>by
 subst e;have d:=h 0 (bv x[0]) (by simp[Xx,hx]);rw[cell_of_row w g (o+0) _ _ _ L.me,Nat.add_zero] at d;rcases o with _|_|_|_|_|_|o<;>simp[bv] at d
theorem Lay.Qsn {w:World}{bm clock:Nat}{l:List MapEntry}(hb:w.1[bm]?=some (.map l.toArray clock))(E:Jl l clock)(s:Nat)(x:Value) :
  (Instr.mapUpdate 150 (.map (some bm)) (.int .i64 s) x).run Tryz.prog w=.ok () (setBlock w bm (.map (Qv s x clock l).toArray (if Qd s l=none then clock+1 else clock))):=
 Tv (P:=Tryz.prog) (w:=w) E Tryz.underlying150 Tryz.underlying3 hb s x
theorem Lay.append {w:World}{bp bd bm clock:Nat}{l:List MapEntry}{v:Nat->Value}{S:Nat->Prop}{D:DM}(L:Lay w bp bd bm l clock v S D)(s:Nat)(hs:s<D.n)(x:List UInt8)(hx:x.length=256)(hcl:(D.Zd s).length<=1000000)(ty:TypeId) :
  ∃q m,(Builtin.append_ #[149,149] ty #[v s,.slice (some ⟨w.1.size,0,none⟩) 1 1]).run Tryz.prog (Qkm w x)=.ok q m/\m.1[bm]?=some (.map l.toArray clock)/\m.cell? ⟨bp,1,none⟩=some (.map (some bm))/\
   Lay (setBlock m bm (.map (Qv s q clock l).toArray (if Qd s l=none then clock+1 else clock))) bp bd bm (Qv s q clock l) (if Qd s l=none then clock+1 else clock) (upd v s q) (λk=>S k\/w.1.size<=k) { D with Zd:=upd D.Zd s (D.Zd s++[x]) }/\
   Turn S w (setBlock m bm (.map (Qv s q clock l).toArray (if Qd s l=none then clock+1 else clock)))/\Turn S w m:=by
 obtain⟨i,hi,Q,R,T⟩:=info_parts TB;have W:Lay (Qkm w x) bp bd bm l clock v S D:=L.keep λk A _=>heap_alloc_old w _ A
 have a1:(Qkm w x).1.size=w.1.size+1:=by simp[Qkm]
 obtain⟨q,m,F,p,d,V,K⟩:=run_append_own_at (P:=Tryz.prog) (Qkm w x) 0 149 ty 289 i _ 256 256 Tryz.underlying149 hi Q R T (by simp[Value.cells]) (by omega) (v s) _ _ (W.row s)
  ⟨w.1.size,0,none⟩ 1 1 (Xx x) (by rw[Uz,hx]) (λj u hu=>by unfold Qkm;rw[Qcb];simpa using hu) (Qmn x) (by unfold maxLen;omega) (by omega) (Nat.zero_le _)
 have Y:∀z g,(v z).ownBlock=some g->g<w.1.size:=λz g f=>by obtain⟨c,t,h⟩:=L.Jb f;exact Jq h
 have H:=Jq L.map;have old:∀k,k<w.1.size->some k≠(v s).ownBlock->m.1[k]?=w.1[k]?:=λk A hn=>(d.block k (by omega) hn).trans (heap_alloc_old w _ A)
 have B:m.1[bm]?=some (.map l.toArray clock):=(old bm H λe=>L.Zao e.symm rfl).trans L.map;have O:m.1[bp]?=w.1[bp]?:=old bp (Jq L.me) λe=>(L.ne.2 s bp e.symm).1 rfl
 have M:∀g,q.ownBlock=some g->g≠bm:=λg f e=>by
  rcases p.2 with⟨E,_⟩|⟨U,cap,I,E,_,G,_⟩
  ·rw[E] at f;cases f
  ·rw[E] at f;cases f;rw[show U=bm from e,B] at G;cases G
 have J:=Gh (w:=m) (S:=λk=>k=bm) (b:=bm) (.map (Qv s q clock l).toArray (if Qd s l=none then clock+1 else clock)) rfl;refine⟨q,m,F,B,(World.cell?_of_block (a:=⟨bp,1,none⟩) O).trans L.c1,?_,?_,⟨d.os,d.tape,d.output,by have:=d.size;omega,λk A hn=>old k A λe=>hn (L.Zk.2.2.2 s k e.symm)⟩⟩
 ·refine L.Zar s hs q (D.Zd s++[x]) ?_ (λk _ h=>.inl h) (λk A hn Z=>(J.block k (by have:=d.size;omega) hn).trans (old k A Z)) (Gl (Jq B)) (L.ents.put s q) (λz=>?_) (λe X=>?_) ?_ (λh=>by simp at h) ?_
  ·intro y hy;rcases List.mem_append.1 hy with h|h
   ·exact L.cl s y h
   ·rw[List.mem_singleton.1 h];exact hx
  ·rw[Ac];by_cases h:z=s
   ·subst h;simp
   ·rw[if_neg (by omega),if_neg h]
  ·rcases V3 X with h|⟨h,_⟩
   ·exact .inl h
   ·right;unfold kI;rw[h]
  ·rw[List.length_append,Qvi];exact Un p λg f=>J.block g (by
    rcases p.2 with⟨E,_⟩|⟨U,cap,I,E,_,G,_⟩
    ·rw[E] at f;cases f
    ·rw[E] at f;cases f;exact Jq G) (M g f)
  ·rcases K with h|h
   ·exact .inr (.inl h)
   ·exact .inr (.inr ⟨_,h,by omega,.inr (by omega)⟩)
 ·refine⟨d.os,d.tape,d.output,by rw[Qkt];have:=d.size;omega,λk A hn=>?_⟩;rw[J.block k (by have:=d.size;omega) (λe=>hn (e▸L.Zk.2.2.1))];exact old k A λe=>hn (L.Zk.2.2.2 s k e.symm)
def DM.bad (D:DM)(s:Int)(x:List UInt8):Bool:=decide (¬(0<=s/\s<(D.n:Int))\/x.length≠256)
def DM.Qo (D:DM)(s:Int)(x:List UInt8):Int:=if D.bad s x then 1 else D.err
def DM.Jd (D:DM)(s:Int)(x:List UInt8):DM:=if D.bad s x then D else if D.stop then D.stepD else { D.stepD with Zd:=upd D.Zd s.toNat (D.Zd s.toNat++[x]) }
def Uh (n:Nat)(parts:Array (Nat × Value)):Sem Value:=Instr.buildSlice 149 n parts
theorem Dw (n:Nat)(parts:Array (Nat × Value)):Instr.buildSlice 149 n parts=Uh n parts:=rfl
def Bz (p:Value):Sem Value:=Instr.loadAt 289 p
theorem Em (p:Value):Instr.loadAt 289 p=Bz p:=rfl
def Bf (e:Array TypeId)(ty:TypeId)(d:Array Value):Sem Value:=Builtin.append_ e ty d
theorem En (e:Array TypeId)(ty:TypeId)(d:Array Value):Builtin.append_ e ty d=Bf e ty d:=rfl
attribute [local go_sem ↓] Dw Em En
theorem write_any {w:World}{y:Nat}{S:Nat->Prop}{D:DM}(L0:Drv w y S D)(s:Int)(A:Option Addr)(n c:Nat)(x:List UInt8)(h:Sl w A n c x)(Z:D.steps<=1000000000)(U:∀k,(D.Zd k).length<=1000000) :
  Calls Tryz.prog 130 #[.pointer (some ⟨y,0,none⟩),.int .i64 s,.slice A n c] w λe J=>e=.returned (.int .i64 (D.Qo s x))/\Drv J y (λk=>S k\/w.1.size<=k) (D.Jd s x)/\Turn S w J:=by
 obtain⟨O,Q,l,clock,v,L⟩:=L0;have up:∀{J:World} {l' p v' D'},Lay J y O Q l' p v' S D'->Drv J y (λk=>S k\/w.1.size<=k) D':=λL'=>⟨O,Q,_,_,_,L'.mono λ_ _ h=>.inl h⟩
 have hn:=h.len;have G:∀k,k=y->S k:=λk e=>e▸L.Zk.1
 by_cases F:0<=s/\s<(D.n:Int)
 ·have u:=Qhy L s;rw[show decide (0<=s/\s<(D.n:Int))=true by simpa using F] at u;by_cases I:x.length=256
  ·have d:D.bad s x=false:=by simp[DM.bad,F,I]
   unfold DM.Qo DM.Jd;rw[d];simp only[Bool.false_eq_true,if_false];obtain⟨k,rfl⟩:=Int.eq_ofNat_of_zero_le F.1;have W:k<D.n:=by omega
   rw[Int.toNat_natCast];obtain rfl:n=256:=by omega
   obtain⟨g,o,rfl,V,hr⟩:=Qp1 h (by omega);have T:=L.apart (by omega) hr;have B:=Qqa L Z;unfold DM.err at B ⊢
   cases m:D.stop with
   |true=>
    rw[m] at B;go_enter Tryz.func130,Tryz.ntmps130
    go_wp2_with fail
    refine u.mono ?_;rintro e f ⟨rfl,rfl⟩;go_wp2_with fail
    refine B.mono ?_;rintro e f ⟨rfl,K,E⟩;go_wp2_with fail
    go_ret;exact⟨rfl,up K,E.mono G⟩
   |false=>
    rw[m] at B;go_enter Tryz.func130,Tryz.ntmps130
    go_wp2_with fail
    refine u.mono ?_;rintro e f ⟨rfl,rfl⟩;go_wp2_with fail
    refine B.mono ?_;rintro e f ⟨rfl,K,E⟩;have Y:f.drew.rangeAt g o (Xx x):=Dh hr (E.block g V T);have M:=K.drew;have La:Lay (Qkm f.drew x) y O Q l clock v S D.stepD:=M.keep λk W _=>heap_alloc_old f.drew _ W
    obtain⟨v1,w2,q,X,b1,R,T2,a2⟩:=M.append k W x I (U k) 149;have H:=Lay.Qsn X K.ents k v1;generalize (if Qd (k:Int) l=none then clock+1 else clock)=ck at R T2 H;have c1:=M.c1;have a6:=La.c1;have a7:=R.c1;have b3:=M.lookup k;have a1:=La.lookup k;have b0:(Uh 1 #[(0,.agg (Xx x).toArray)]).run Tryz.prog f.drew=.ok (.slice (some ⟨f.1.size,0,none⟩) 1 1) (Qkm f.drew x):=Qkr f.drew x I;have a8:=Qm4;have b2:(Bz (.pointer (some ⟨g,o,none⟩))).run Tryz.prog f.drew=.ok (.agg (Xx x).toArray) f.drew:=run_loadAt_mid (P:=Tryz.prog) f.drew g o 289 (Xx x) _ Y UB rfl (by rw[SBk,Uz,I]);have q:(Bf #[149,149] 149 #[v k,.slice (some ⟨f.1.size,0,none⟩) 1 1]).run Tryz.prog (Qkm f.drew x)=.ok v1 w2:=q;go_wp2_with fail
    go_region
    all_goals (go_wp2;go_ret;exact⟨rfl,⟨O,Q,_,_,_,R.mono λz _ hz=>hz.imp id λhz=>by have:=E.size;simp at hz;omega⟩,((E.mono G).drew).then T2⟩)
  ·have d:D.bad s x=true:=by simp[DM.bad,I]
   unfold DM.Qo DM.Jd;rw[d];have b4:¬(n:Int)=256:=by omega
   go_enter Tryz.func130,Tryz.ntmps130
   go_wp2_with fail
   refine u.mono ?_;rintro e f ⟨rfl,rfl⟩;go_wp2_with fail
   go_ret;exact⟨rfl,up L,Turn.refl _ _⟩
 ·have u:=Qhy L s;rw[show decide (0<=s/\s<(D.n:Int))=false by simpa using F] at u;have d:D.bad s x=true:=by simp[DM.bad,F]
  unfold DM.Qo DM.Jd;rw[d];go_enter Tryz.func130,Tryz.ntmps130
  go_wp2_with fail
  refine u.mono ?_;rintro e f ⟨rfl,rfl⟩;go_wp2_with fail
  go_ret;exact⟨rfl,up L,Turn.refl _ _⟩
end
section
open Go.ChangeMaps (setBlock)
def DM.mk0 (n:Nat):DM:=⟨n,λ_=>zeros 256,λ_=>[],false,false,0,0,n⟩
theorem Zbm (n:Nat){j:Nat}(h:j<n):(Xx (zeros n))[j]?=some (.int .u8 0):=by
 unfold Xx zeros;rw[List.getElem?_map,List.getElem?_replicate,if_pos h];rfl
theorem Zcw (n j:Nat)(h:j<n):(madeCells (Value.agg (Array.replicate 256 (.int .u8 0))).cells n).toList[j]?=some (.int .u8 0):=by
 unfold madeCells;rw[Array.toList_map,List.getElem?_map,Array.toList_range,List.getElem?_range h];show some ((Array.replicate 256 (Value.int .u8 0))[j % (Array.replicate 256 (Value.int .u8 0)).size]!)=_;have d:j % 256<256:=Nat.mod_lt _ (by omega);rw[Array.size_replicate,getElem!_pos _ _ (by rw[Array.size_replicate];exact d),Array.getElem_replicate]
theorem Zcr {F w':World}{f u y n:Nat}(hn:Qa n)(q:F.ownsRow 0 289 256 (.slice (some ⟨f,0,none⟩) n n) n (madeCells (Value.agg (Array.replicate 256 (.int .u8 0))).cells (n*256)).toList)
  (h1:w'.1[f]?=F.1[f]?) (h2:w'.1[u]?=some (.map #[] 0)) (G:w'.1[y]?=some (.cells #[.slice (some ⟨f,0,none⟩) n n,.map (some u),.bool false,.bool false,.int .i64 0,.int .i64 0] 152 (0,0)))
  (B:y≠f) (S:Nat->Prop) (A:S y/\S f/\S u):Lay w' y f u [] 0 (λ_=>.slice none 0 0) S (DM.mk0 n):=by
 have d:w'.ownsRow 0 289 256 (.slice (some ⟨f,0,none⟩) n n) n (madeCells (Value.agg (Array.replicate 256 (.int .u8 0))).cells (n*256)).toList:=Un q λg m=>by cases m;exact h1
 have D:∀s,s<n->∀j,j<256->w'.cell? ⟨f,s*256+j,none⟩=some (.int .u8 0):=λs z j p=>by
  rw[World.ownsRow.cellAt d _ (by omega),Zcw _ _ (by omega)]
 refine⟨G,λs z j v E=>?_,λs z j p=>⟨by rw[D s z j p];rfl,World.ownsRow.frozenAt d _⟩,h2,Qyi,λs=>?_,λe H=>(by simp at H),λs=>World.ownsRow_nil _ _ _ _,λ_ _=>rfl,λs=>List.length_replicate,λs=>by simp[V9,DM.mk0],λ_ _=>rfl,
  ⟨A.1,A.2.1,A.2.2,λs g m=>by cases m⟩,⟨B,λs g m=>by cases m⟩,λs I g m=>(by cases m),hn,by simp[DM.mk0]⟩
 ·have p:j<256:=by
   have h0:=(List.getElem?_eq_some_iff.1 E).1;rw[Uz,show (DM.mk0 n).Ze s=zeros 256 from rfl,show (zeros 256).length=256 from List.length_replicate] at h0;exact h0
  have h0:(Xx (zeros 256))[j]?=some v:=E;rw[Zbm 256 p] at h0;rw[D s z j p,h0]
 ·simp[DM.mk0,Qd]
theorem Zc2 (n:Nat)(hn:Qa n)(w:World) :
  Calls Tryz.prog 41 #[.int .i64 n] w λe A=>∃z,e=.returned (.tuple #[.pointer (some ⟨z,0,none⟩),.int .i64 0])/\Drv A z (λk=>w.1.size<=k) (DM.mk0 n)/\Below w.1.size w A:=by
 obtain⟨i,hi,q,u,y⟩:=info_parts TB;have D:=@run_makeMap Tryz.prog;have h1:32<=n:=hn.1;have h2:n<=2048:=hn.2;go_enter Tryz.func41,Tryz.ntmps41
 go_wp2_with (at_make;refine wpList_make_full w (by rfl) _ _ _ (by rfl) 0 289 i _ 256 Tryz.underlying149 hi q u .i64 .i64 n n n (by rfl) (by rfl) rfl rfl (by rw[y];omega) (by unfold maxLen;omega) (Nat.zero_le _) ?_)
 intro g f d;go_wp2_with fail
 go_ret2;have p:=d.size;have m:w.1.size<g.1.size:=by
  have h:=World.ownsRow.lt f w.1.size rfl;exact h.2
 have B:Below w.1.size w ((g.alloc (.map #[] 0)).alloc (.cells #[.slice (some ⟨w.1.size,0,none⟩) n n,.map (some g.1.size),.bool false,.bool false,.int .i64 0,.int .i64 0] 152)):=
  (((Below.refl _ _).grown d (Nat.le_refl _) (by simp)).alloc p _).alloc (by simp;omega) _
 refine⟨_,rfl,⟨w.1.size,g.1.size,_,_,_,Zcr hn f ?_ ?_ ?_ (by omega) _ ⟨by omega,by omega,by omega⟩⟩,B⟩
 ·rw[heap_alloc_old _ _ (by simp;omega),heap_alloc_old _ _ m]
 ·rw[heap_alloc_old _ _ (by simp),heap_alloc_new]
 ·have e:g.1.size+1=(g.alloc (.map #[] 0)).1.size:=by simp
  rw[e,heap_alloc_new]
end
