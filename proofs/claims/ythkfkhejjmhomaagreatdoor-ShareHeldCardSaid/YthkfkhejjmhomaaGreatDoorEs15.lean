/- A sector full of a byte; the newest write of a sector; Read -/
import Derived.Test.YthkfkhejjmhomaaGreatDoorEs3
import Derived.Deep.RegionHeld3
import Derived.Great.BuildSlice
import Derived.BigRegion
namespace Go.Proofs.YthkfkhejjmhomaaGreatDoor
open Go Go.RowKit Go.Proofs
set_option maxHeartbeats 2000000
set_option maxRecDepth 100000
def zeros (n:Nat):List UInt8:=List.replicate n 0
theorem q63 {d:Func}{p:Tmp}{ty:TypeId}(h:d.results=#[.cell p ty])(b:Array Value)(P:Program)(w:World) :
  (results d b).run P w=((asAddr (b.getD p undef)).run P w).andThen λa e=>(loadVar ty a).run P e:=by
 simp only[results,h];simp[Sem.run_bind,Result.andThen]
def DM.newest (D:DM)(s:Nat):List UInt8:=(D.Zu s).getLastD (D.Xk s)
theorem q90 {α:Type}:∀(l:List α) (a:α),l≠[]->l.getLastD a∈l
 |[],a,h=>absurd rfl h
 |[x],a,_=>by simp
 |x::y::r,a,_=>by
  rw[List.getLastD_cons,List.getLastD_cons];have:=q90 (y::r) x (by simp);rw[List.getLastD_cons] at this;exact List.mem_cons_of_mem _ this
theorem Lay.Bg {w:World}{bp bd bm clock:Nat}{l:List MapEntry}{v:Nat->Value}{S:Nat->Prop}{D:DM}(L:Lay w bp bd bm l clock v S D)(s:Nat):(D.newest s).length=256:=by
 unfold DM.newest;rcases hc:D.Zu s with _|⟨a,r⟩
 ·exact L.dl s
 ·exact L.cl s _ (by rw[hc];exact q90 _ _ (by simp))
theorem Lay.lookup {w:World}{bp bd bm clock:Nat}{l:List MapEntry}{v:Nat->Value}{S:Nat->Prop}{D:DM}(L:Lay w bp bd bm l clock v S D)(s:Nat) :
  (Instr.lookup 150 (.map (some bm)) (.int .i64 s) false).run Tryz.prog w=.ok (v s) w:=by
 have h:=q4u (P:=Tryz.prog) (w:=w) L.ents Tryz.underlying150 Tryz.underlying3 (z:=.slice none 0 0) (by kernel_rfl) L.map s;rw[h,L.look s];split
 ·rename_i b;rw[L.nil s b];rfl
 ·rfl
theorem UB:Tryz.prog.underlying 289=some (.array 256 5):=Tryz.underlying289
theorem SBk:(Tryz.prog.info? 289).map (·.size)=some 256:=by kernel_rfl
theorem ZB (w:World):(zeroValue 289).run Tryz.prog w=.ok (.agg (Array.replicate 256 (.int .u8 0))) w:=by
 have h:=TB;obtain⟨i,d,b,_⟩:=info_parts h;simp[zeroValue,typeInfo,d,b]
def Gz (w:World):World:=w.alloc (.cells (Array.replicate 256 (.int .u8 0)) 289)
theorem qa9 (w:World):(Gz w).1.size=w.1.size+1:=by simp[Gz]
theorem q5g (w:World):(Gz w).there w.1.size 0 256:=λj d=>by
 have b:(Gz w).1[w.1.size]?=some (.cells (Array.replicate 256 (.int .u8 0)) 289 (0,0)):=heap_alloc_new w _;refine⟨?_,by simp[World.frozen?,b]⟩;rw[cell_of_row _ _ _ _ _ _ b,Nat.zero_add,Array.getElem?_replicate,if_pos d];rfl
theorem qc1 (w:World):Below w.1.size w (Gz w):=Qn
theorem qfb (w:World)(l:List UInt8)(b:l.length=256):Below w.1.size w ((Gz w).setCells w.1.size 0 (Yn l))/\((Gz w).setCells w.1.size 0 (Yn l)).rangeAt w.1.size 0 (Yn l):=by
 refine⟨(qc1 w).trans ((Um (S:=λk=>k=w.1.size) rfl (Yn l) 0 (Gz w)).below (λx d=>by omega) (by rw[qa9];omega)),World.rangeAt_setCells_same _ _ _ _ ?_⟩;rw[Iw,b];exact q5g w
theorem qhx {ops:Array Oper}{b:List Oper}{o:Oper}{a:Act}{w:World}{Q:Exit->Act->World->Prop}(p:o.guard=none)(f:o.op=Op.alloc 289)
  (m:wpList Tryz.prog ops Q b (a.put o.dst (.pointer (some ⟨w.1.size,0,none⟩))) (Gz w)):wpList Tryz.prog ops Q (o::b) a w:=
 wpList_plain p λK e=>by
  have d:(Instr.alloc 289 true (.tuple #[])).run Tryz.prog w=.ok (.pointer (some ⟨w.1.size,0,none⟩)) (Gz w):=by
   have u:=ZB;first
    |(simp[Instr.alloc,newVar,newRow,Value.cells,Gz, *];done)
    |(simp[Instr.alloc,newVar,newRow,Value.cells,Gz];refine congrArg (λx=>w.alloc (.cells x 289)) ?_;kernel_rfl)
  unfold Oper.wp execOp;simp only[f,Sem.run_bind,Sem.run_pure,Result.andThen_ok,d];exact e _ _ m
theorem q42 (w:World)(g n c i:Nat)(e:i<n):(Instr.indexAt 149 (.slice (some ⟨g,0,none⟩) n c) (.int .i64 (i:Int))).run Tryz.prog w=.ok (.pointer (some ⟨g,i*256,none⟩)) w:=by
 have b:(sizeOf 289).run Tryz.prog w=.ok 256 w:=by
  obtain⟨z,b,_,f,_⟩:=info_parts TB;simp[sizeOf,typeInfo,b,f]
 have d:(⟨g,0,none⟩:Addr).add (i*256)=⟨g,i*256,none⟩:=by rw[Addr.add_lit,Nat.zero_add]
 simp[Instr.indexAt,asIntOf,run_underlying Tryz.underlying149,e,d]
theorem q91 {ops:Array Oper}{b:List Oper}{o:Oper}{a:Act}{w:World}{Q:Exit->Act->World->Prop}(m:o.guard=none)(x y:Operand)(e:o.op=Op.indexAddr 149 x y)
  (g n c i:Nat) (u:a.eval x=.slice (some ⟨g,0,none⟩) n c) (z:Int) (A:a.eval y=.int .i64 z) (B:z=(i:Int)) (p:i<n)
  (f:wpList Tryz.prog ops Q b (a.put o.dst (.pointer (some ⟨g,i*256,none⟩))) w):wpList Tryz.prog ops Q (o::b) a w:=
 wpList_plain m λK d=>by
  subst B;unfold Oper.wp execOp;simp only[e,u,A,Sem.run_bind,Sem.run_pure,Result.andThen_ok,q42 w g n c i p];exact d _ _ f
theorem qaa {ops:Array Oper}{d:List Oper}{o:Oper}{a:Act}{w:World}{Q:Exit->Act->World->Prop}(u:o.guard=none)(x:Operand)(e:o.op=Op.load 289 x)
  (b p:Nat) (A:a.eval x=.pointer (some ⟨b,p,none⟩)) (l:List UInt8) (y:l.length=256) (m:w.rangeAt b p (Yn l))
  (f:wpList Tryz.prog ops Q d (a.put o.dst (.agg (Yn l).toArray)) w):wpList Tryz.prog ops Q (o::d) a w:=
 wpList_load_mid u _ x e b p A (Yn l) _ m UB rfl (by rw[SBk,Iw,y]) f
theorem q4r {ops:Array Oper}{d:List Oper}{o:Oper}{a:Act}{w:World}{Q:Exit->Act->World->Prop}(u:o.guard=none)(x y:Operand)(e:o.op=Op.store 289 x y)
  (b p:Nat) (B:a.eval x=.pointer (some ⟨b,p,none⟩)) (l:List UInt8) (D:a.eval y=.agg (Yn l).toArray) (f:l.length=256) (A:w.there b p 256)
  (m:wpList Tryz.prog ops Q d (a.put o.dst undef) (w.setCells b p (Yn l))):wpList Tryz.prog ops Q (o::d) a w:=
 wpList_store_mid u _ x y e b p (Yn l).toArray B D (by rw[List.size_toArray,Iw,f];exact A) (by rw[SBk,List.size_toArray,Iw,f]) (all_oneCell_toArray (qij l)) m
theorem qm0 {w:World}{B u H clock:Nat}{l:List MapEntry}{v:Nat->Value}{S:Nat->Prop}{D:DM}(L:Lay w B u H l clock v S D)(s:Nat)(J:s<D.n) :
  Calls Tryz.prog 209 #[.pointer (some ⟨B,0,none⟩),.int .i64 s] w λe Q=>e=.returned (.agg (Yn (D.newest s)).toArray)/\Below w.1.size w Q:=by
 have m:Lay (Gz w) B u H l clock v S D:=L.keep λk A _=>(qc1 w).block k A
 have c0:=m.c0;have c1:=m.c1;have p:=m.lookup s;have b:=L.Bg s;obtain⟨E,G⟩:=qfb w (D.newest s) b;have f:(Yn (D.newest s)).length=256:=by rw[Iw,b]
 rcases hc:D.Zu s with _|⟨x,r⟩
 ·have hn:=L.nil s hc;have hd:=m.Xk s J;have y:D.newest s=D.Xk s:=by unfold DM.newest;rw[hc];rfl
  rw[y] at b E G f ⊢;rw[hn] at p;go_enter Tryz.func209,Tryz.ntmps209
  go_wp2_with (first
   |(refine qhx (by rfl) (by rfl) ?_)
   |(refine q91 rfl _ _ rfl u D.n D.cap s rfl _ rfl rfl J ?_)
   |(refine qaa (by rfl) _ (by rfl) u (s*256) (by rfl) (D.Xk s) b hd ?_)
   |(refine q4r (by rfl) _ _ (by rfl) w.1.size 0 (by rfl) (D.Xk s) (by rfl) b (q5g w) ?_))
  (try simp only[Exit.inBlock,Exit.then])
  refine bodyPost_ret (v:=.agg (Yn (D.Xk s)).toArray) ?_ rfl ⟨rfl,E⟩;refine (q63 Tryz.results209 _ _ _).trans ?_;simp only[go_sem];have:=run_loadVar_mid (P:=Tryz.prog) _ _ _ 289 _ _ G UB rfl (by rw[SBk,f]);exact this
 ·obtain⟨g,c,K,O,F⟩:=qg8 (L.row s) (by rw[hc];simp);have R:(v s).ownBlock=some g:=by rw[K];rfl
  have d:=m.row s;rw[K] at d p;have A:(D.Zu s).length-1<(D.Zu s).length:=by rw[hc];simp
  have y:(D.Zu s)[(D.Zu s).length-1]=D.newest s:=by
   unfold DM.newest;rw[<-List.getLast_eq_getElem (by rw[hc];simp),List.getLastD_eq_getLast?,List.getLast?_eq_some_getLast (by rw[hc];simp)];rfl
  have hd:=qcm d (L.cl s) rfl ((D.Zu s).length-1) A;rw[y] at hd;have M:0<(D.Zu s).length:=by omega
  have I:(D.Zu s).length<=9223372036854775807:=by unfold maxLen at F;omega
  clear hc y;generalize (D.Zu s).length=k at *;go_enter Tryz.func209,Tryz.ntmps209
  go_wp2_with (first
   |(refine qhx (by rfl) (by rfl) ?_)
   |(refine q91 (by rfl) _ _ (by rfl) g k c (k-1) (by rfl) _ (by rfl) (by first|rfl|omega) A ?_)
   |(refine qaa (by rfl) _ (by rfl) g ((k-1)*256) (by rfl) (D.newest s) b hd ?_)
   |(refine q4r (by rfl) _ _ (by rfl) w.1.size 0 (by rfl) (D.newest s) (by rfl) b (q5g w) ?_))
  (try simp only[Exit.inBlock,Exit.then])
  refine bodyPost_ret (v:=.agg (Yn (D.newest s)).toArray) ?_ rfl ⟨rfl,E⟩;refine (q63 Tryz.results209 _ _ _).trans ?_;simp only[go_sem];have:=run_loadVar_mid (P:=Tryz.prog) _ _ _ 289 _ _ G UB rfl (by rw[SBk,f]);exact this
def DM.Yb (D:DM)(s:Int):Int:=if D.off then 4 else if 0<=s/\s<(D.n:Int) then 0 else 1
def DM.Yl (D:DM)(s:Int):List UInt8:=if D.off then [] else if 0<=s/\s<(D.n:Int) then D.newest s.toNat else []
theorem q9c {w:World}{E F G clock:Nat}{l:List MapEntry}{v:Nat->Value}{S:Nat->Prop}{D:DM}(L:Lay w E F G l clock v S D)(s:Int) :
  Calls Tryz.prog 138 #[.pointer (some ⟨E,0,none⟩),.int .i64 s] w λe B=>∃A n,e=.returned (.tuple #[.slice A n n,.int .i64 (D.Yb s)])/\Sl B A n n (D.Yl s)/\n<=256/\Below w.1.size w B/\∀p,A=some p->w.1.size<=p.block/\p.block<B.1.size:=by
 have c2:=L.c2;unfold DM.Yb DM.Yl
 cases d:D.off with
 |true=>
  rw[d] at c2;go_enter Tryz.func138,Tryz.ntmps138
  go_wp2;go_ret2;exact⟨none,0,rfl,Np w,by omega,Below.refl _ _,λp h=>by cases h⟩
 |false=>
  rw[d] at c2;by_cases m:0<=s/\s<(D.n:Int)
  ·obtain⟨k,rfl⟩:=Int.eq_ofNat_of_zero_le m.1;have J:k<D.n:=by omega
   have b:=L.Bg k;have I:(Yn (D.newest k)).length=256:=by rw[Iw,b]
   have y:=qea L (k:Int);rw[show decide (0<=(k:Int)/\(k:Int)<(D.n:Int))=true by simpa using m] at y;rw[if_pos m,if_pos m,Int.toNat_natCast];simp only[Bool.false_eq_true,if_false];go_enter Tryz.func138,Tryz.ntmps138
   go_wp2_with fail
   refine y.mono ?_;rintro e u ⟨rfl,rfl⟩;go_wp2_with fail
   refine (qm0 L k J).mono ?_;rintro e u ⟨rfl,f⟩;obtain⟨H,K⟩:=qfb u (D.newest k) b;go_wp2_with (first
    |(refine qhx (by rfl) (by rfl) ?_)
    |(refine q4r (by rfl) _ _ (by rfl) u.1.size 0 (by rfl) (D.newest k) (by rfl) b (q5g u) ?_))
   go_ret2;refine⟨some ⟨u.1.size,0,none⟩,256,rfl,?_,by omega,f.trans (H.mono f.size),λp h=>by cases h;exact⟨f.size,by rw[q4c,qa9];simp⟩⟩;have:=qua K (by rw[q4c,qa9];omega) (c:=256) (by omega) (by unfold maxLen;omega);rw[b] at this;exact this
  ·have y:=qea L s;rw[show decide (0<=s/\s<(D.n:Int))=false by simpa using m] at y;rw[if_neg m,if_neg m];simp only[Bool.false_eq_true,if_false];go_enter Tryz.func138,Tryz.ntmps138
   go_wp2_with fail
   refine y.mono ?_;rintro e u ⟨rfl,rfl⟩;go_wp2_with fail
   go_ret2;exact⟨none,0,rfl,Np w,by omega,Below.refl _ _,λp h=>by cases h⟩
section
open Go.ChangeMaps (setBlock)
def DM.settle (D:DM)(s i:Nat):DM:={ D with Xk:=if i=0 then D.Xk else upd D.Xk s ((D.Zu s).getD (i-1) []),Zu:=upd D.Zu s [] }
theorem Lay.drew {w:World}{bp bd bm clock:Nat}{l:List MapEntry}{v:Nat->Value}{S:Nat->Prop}{D:DM}(L:Lay w bp bd bm l clock v S D):Lay w.drew bp bd bm l clock v S D:=L.keep λ_ _ _=>rfl
theorem Lay.Cb {w:World}{bp bd bm clock:Nat}{l:List MapEntry}{v:Nat->Value}{S:Nat->Prop}{D:DM}(L:Lay w bp bd bm l clock v S D)(s:Nat)(ty:TypeId) :
  (Builtin.delete_ #[150,3] ty #[.map (some bm),.int .i64 s]).run Tryz.prog w=.ok (.tuple #[]) (setBlock w bm (.map (Xp s l).toArray clock)):=
 q4v (P:=Tryz.prog) (w:=w) L.ents Tryz.underlying150 Tryz.underlying3 L.map s _ ty
theorem qm1 {w:World}{E m B clock:Nat}{l:List MapEntry}{v:Nat->Value}{S:Nat->Prop}{D:DM}(L:Lay w E m B l clock v S D)(s:Nat)(y:s<D.n)(i:Nat)(hi:i<=(D.Zu s).length) :
  Calls Tryz.prog 207 #[.pointer (some ⟨E,0,none⟩),.int .i64 s,.int .i64 i] w λe b=>e=.returned (.tuple #[])/\Lay b E m B (Xp s l) clock (upd v s (.slice none 0 0)) S (D.settle s i)/\Turn (λk=>k=m\/k=B) w b:=by
 by_cases h0:i=0
 ·subst h0;have c1:=L.c1;have F:=L.Cb s;have J:=L.forget s y;go_enter Tryz.func207,Tryz.ntmps207
  go_wp2;go_end0
  exact⟨rfl,J,Rj _ (.inr rfl)⟩
 ·obtain⟨g,c,I,Y,P⟩:=qg8 (L.row s) (by omega);have W:(v s).ownBlock=some g:=by rw[I];rfl
  have H:i-1<(D.Zu s).length:=by omega
  have T:(D.Zu s).getD (i-1) []=(D.Zu s)[i-1]:=by rw[List.getD_eq_getElem?_getD,List.getElem?_eq_getElem H];rfl
  have d:((D.Zu s)[i-1]).length=256:=L.cl s _ (List.getElem_mem H);have Ed:D.settle s i={ { D with Xk:=upd D.Xk s (D.Zu s)[i-1] } with Zu:=upd D.Zu s [] }:=by unfold DM.settle;rw[if_neg h0,T]
  rw[Ed];have f:=L.row s;rw[I] at f;have hd:=qcm f (L.cl s) rfl (i-1) H;clear Ed T f;generalize (D.Zu s)[i-1]=x at hd d ⊢;have O:(Yn x).length=256:=by rw[Iw,d]
  have A:=L.drew;have c0:=A.c0;have c1:=A.c1;have G:=A.lookup s;rw[I] at G;have Z:=A.Ef s y;have hd:w.drew.rangeAt g ((i-1)*256) (Yn x):=hd;have u:=A.store s y x d;have K:=u.c0;have M:=u.c1;have p:=u.lookup s;rw[I] at p;have R:=u.Ef s y;have Q:(w.drew.setCells m (s*256) (Yn x)).rangeAt g ((i-1)*256) (Yn x):=World.rangeAt_setCells_apart hd _ _ _ (.inl (L.ne.2 s g W).2);have F:=u.Cb s;have J:=u.forget s y;have hu:=UB;have X:(Tryz.prog.info? 289).map (·.size)=some (Yn x).length:=by rw[O];exact SBk
  have h1:=qij x;have a0:∀b:World,(Instr.indexAt 149 (.slice (some ⟨g,0,none⟩) (D.Zu s).length c) (.int .i64 ((i:Int)-1))).run Tryz.prog b=.ok (.pointer (some ⟨g,(i-1)*256,none⟩)) b:=λb=>by
   have:=q42 b g (D.Zu s).length c (i-1) H;rw[show ((i-1:Nat):Int)=(i:Int)-1 by omega] at this;exact this
  have a1:∀b:World,(Instr.indexAt 149 (.slice (some ⟨m,0,none⟩) D.n D.cap) (.int .i64 (s:Int))).run Tryz.prog b=.ok (.pointer (some ⟨m,s*256,none⟩)) b:=λb=>q42 b m D.n D.cap s y
  have U:i<=9223372036854775807:=by unfold maxLen at P;omega
  have hw:IntKind.i64.wrap ((i:Int)-1)=(i:Int)-1:=IntWalk.i64_in _ (by omega);go_enter Tryz.func207,Tryz.ntmps207
  go_wp2_with fail
  go_region_held3 (λb=>b.cell? ⟨E,0,none⟩=some (.slice (some ⟨m,0,none⟩) D.n D.cap)/\b.cell? ⟨E,1,none⟩=some (.map (some B))/\(Instr.lookup 150 (.map (some B)) (.int .i64 s) false).run Tryz.prog b=.ok (.slice (some ⟨g,0,none⟩) (D.Zu s).length c) b/\
   b.rangeAt g ((i-1)*256) (Yn x)/\b.there m (s*256) 256) (first|exact⟨c0,c1,G,hd,Z⟩|exact⟨K,M,p,Q,R⟩) (fail)
  go_wp2;go_end0
  exact⟨rfl,J,((Turn.refl _ w).drew.then (Um (.inl rfl) _ _ _)).then (Rj _ (.inr rfl))⟩
end
section
open Go.ChangeMaps (setBlock)
def Dk (w:World)(l:List UInt8):World:=w.alloc (.cells (Yn l).toArray 289)
theorem qds (w:World)(l:List UInt8)(f:l.length=256):(Instr.buildSlice 149 1 #[(0,.agg (Yn l).toArray)]).run Tryz.prog w=.ok (.slice (some ⟨w.1.size,0,none⟩) 1 1) (Dk w l):=by
 obtain⟨i,e,d,b,u⟩:=info_parts TB;refine run_buildSlice w _ _ 1 _ (Yn l).toArray i _ Tryz.underlying149 e d (by rw[b];omega) (by rw[b];omega) ?_;have m:(Value.agg (Yn l).toArray).cells.size=256:=by show (Yn l).toArray.size=256;rw[List.size_toArray,Iw,f]
 have h:=Great.fill_whole (s:=256) (by omega) [.agg (Yn l).toArray] ((Array.range (1*256)).map ((Value.agg (Array.replicate 256 (Value.int .u8 0))).cells[· % (Value.agg (Array.replicate 256 (Value.int .u8 0))).cells.size]!)) (by intro v p;rw[List.mem_singleton.1 p];exact m) (by rw[Array.size_map,Array.size_range];rfl);rw[b];refine Eq.trans ?_ (h.trans ?_)
 ·simp only[List.zipIdx_cons,List.zipIdx_nil,List.map_cons,List.map_nil]
 ·simp[Value.cells]
theorem qfc (w:World)(g o c:Nat):(Instr.arrayAt 289 (.slice (some ⟨g,o,none⟩) 256 c)).run Tryz.prog w=.ok (.pointer (some ⟨g,o,none⟩)) w:=by
 simp[Instr.arrayAt,run_underlying UB]
theorem Lay.apart {w:World}{bp bd bm clock:Nat}{l:List MapEntry}{v:Nat->Value}{S:Nat->Prop}{D:DM}(L:Lay w bp bd bm l clock v S D){g o:Nat}{x:List UInt8}(hx:0<x.length)(h:w.rangeAt g o (Yn x)):g≠bp:=λe=>by
 subst e;have b:=h 0 (bv x[0]) (by simp[Yn,hx]);rw[cell_of_row w g (o+0) _ _ _ L.me,Nat.add_zero] at b;rcases o with _|_|_|_|_|_|o<;>simp[bv] at b
theorem Lay.Nq {w:World}{bm clock:Nat}{l:List MapEntry}(hb:w.1[bm]?=some (.map l.toArray clock))(E:Un l clock)(s:Nat)(x:Value) :
  (Instr.mapUpdate 150 (.map (some bm)) (.int .i64 s) x).run Tryz.prog w=.ok () (setBlock w bm (.map (Zv s x clock l).toArray (if Zg s l=none then clock+1 else clock))):=
 q1h (P:=Tryz.prog) (w:=w) E Tryz.underlying150 Tryz.underlying3 hb s x
theorem Lay.append {w:World}{bp bd bm clock:Nat}{l:List MapEntry}{v:Nat->Value}{S:Nat->Prop}{D:DM}(L:Lay w bp bd bm l clock v S D)(s:Nat)(hs:s<D.n)(x:List UInt8)(hx:x.length=256)(hcl:(D.Zu s).length<=1000000)(ty:TypeId) :
  ∃A m,(Builtin.append_ #[149,149] ty #[v s,.slice (some ⟨w.1.size,0,none⟩) 1 1]).run Tryz.prog (Dk w x)=.ok A m/\m.1[bm]?=some (.map l.toArray clock)/\m.cell? ⟨bp,1,none⟩=some (.map (some bm))/\
   Lay (setBlock m bm (.map (Zv s A clock l).toArray (if Zg s l=none then clock+1 else clock))) bp bd bm (Zv s A clock l) (if Zg s l=none then clock+1 else clock) (upd v s A) (λk=>S k\/w.1.size<=k) { D with Zu:=upd D.Zu s (D.Zu s++[x]) }/\
   Turn S w (setBlock m bm (.map (Zv s A clock l).toArray (if Zg s l=none then clock+1 else clock)))/\Turn S w m:=by
 obtain⟨i,hi,R,T,U⟩:=info_parts TB;have Y:Lay (Dk w x) bp bd bm l clock v S D:=L.keep λk B _=>heap_alloc_old w _ B
 have a1:(Dk w x).1.size=w.1.size+1:=by simp[Dk]
 obtain⟨A,m,G,p,d,X,M⟩:=run_append_own_at (P:=Tryz.prog) (Dk w x) 0 149 ty 289 i _ 256 256 Tryz.underlying149 hi R T U (by simp[Value.cells]) (by omega) (v s) _ _ (Y.row s)
  ⟨w.1.size,0,none⟩ 1 1 (Yn x) (by rw[Iw,hx]) (λj u hu=>by unfold Dk;rw[q66];simpa using hu) (qij x) (by unfold maxLen;omega) (by omega) (Nat.zero_le _)
 have a0:∀z g,(v z).ownBlock=some g->g<w.1.size:=λz g f=>by obtain⟨c,t,h⟩:=L.Wu f;exact Wx h
 have I:=Wx L.map;have old:∀k,k<w.1.size->some k≠(v s).ownBlock->m.1[k]?=w.1[k]?:=λk B hn=>(d.block k (by omega) hn).trans (heap_alloc_old w _ B)
 have E:m.1[bm]?=some (.map l.toArray clock):=(old bm I λe=>L.Qak e.symm rfl).trans L.map;have Q:m.1[bp]?=w.1[bp]?:=old bp (Wx L.me) λe=>(L.ne.2 s bp e.symm).1 rfl
 have O:∀g,A.ownBlock=some g->g≠bm:=λg f e=>by
  rcases p.2 with⟨F,_⟩|⟨W,cap,J,F,_,H,_⟩
  ·rw[F] at f;cases f
  ·rw[F] at f;cases f;rw[show W=bm from e,E] at H;cases H
 have K:=Rj (w:=m) (S:=λk=>k=bm) (b:=bm) (.map (Zv s A clock l).toArray (if Zg s l=none then clock+1 else clock)) rfl;refine⟨A,m,G,E,(World.cell?_of_block (a:=⟨bp,1,none⟩) Q).trans L.c1,?_,?_,⟨d.os,d.tape,d.output,by have:=d.size;omega,λk B hn=>old k B λe=>hn (L.Yj.2.2.2 s k e.symm)⟩⟩
 ·refine L.Qal s hs A (D.Zu s++[x]) ?_ (λk _ h=>.inl h) (λk B hn hr=>(K.block k (by have:=d.size;omega) hn).trans (old k B hr)) (q1s (Wx E)) (L.ents.put s A) (λz=>?_) (λe Z=>?_) ?_ (λh=>by simp at h) ?_
  ·intro y hy;rcases List.mem_append.1 hy with h|h
   ·exact L.cl s y h
   ·rw[List.mem_singleton.1 h];exact hx
  ·rw[q9f];by_cases h:z=s
   ·subst h;simp
   ·rw[if_neg (by omega),if_neg h]
  ·rcases qag Z with h|⟨h,_⟩
   ·exact .inl h
   ·right;unfold kI;rw[h]
  ·rw[List.length_append,qqe];exact q2c p λg f=>K.block g (by
    rcases p.2 with⟨F,_⟩|⟨W,cap,J,F,_,H,_⟩
    ·rw[F] at f;cases f
    ·rw[F] at f;cases f;exact Wx H) (O g f)
  ·rcases M with h|h
   ·exact .inr (.inl h)
   ·exact .inr (.inr ⟨_,h,by omega,.inr (by omega)⟩)
 ·refine⟨d.os,d.tape,d.output,by rw[qe9];have:=d.size;omega,λk B hn=>?_⟩;rw[K.block k (by have:=d.size;omega) (λe=>hn (e▸L.Yj.2.2.1))];exact old k B λe=>hn (L.Yj.2.2.2 s k e.symm)
def DM.bad (D:DM)(s:Int)(x:List UInt8):Bool:=decide (¬(0<=s/\s<(D.n:Int))\/x.length≠256)
def DM.Zm (D:DM)(s:Int)(x:List UInt8):Int:=if D.bad s x then 1 else D.err
def DM.Yr (D:DM)(s:Int)(x:List UInt8):DM:=if D.bad s x then D else if D.stop then D.stepD else { D.stepD with Zu:=upd D.Zu s.toNat (D.Zu s.toNat++[x]) }
def Qci (n:Nat)(parts:Array (Nat × Value)):Sem Value:=Instr.buildSlice 149 n parts
theorem qok (n:Nat)(parts:Array (Nat × Value)):Instr.buildSlice 149 n parts=Qci n parts:=rfl
def ldB (p:Value):Sem Value:=Instr.loadAt 289 p
theorem qt9 (p:Value):Instr.loadAt 289 p=ldB p:=rfl
def apB (d:Array TypeId)(ty:TypeId)(b:Array Value):Sem Value:=Builtin.append_ d ty b
theorem qta (d:Array TypeId)(ty:TypeId)(b:Array Value):Builtin.append_ d ty b=apB d ty b:=rfl
attribute [local go_sem ↓] qok qt9 qta
theorem qol {w:World}{y:Nat}{S:Nat->Prop}{D:DM}(L0:Vp w y S D)(s:Int)(A:Option Addr)(n c:Nat)(x:List UInt8)(h:Sl w A n c x)(a0:D.steps<=1000000000)(U:∀k,(D.Zu k).length<=1000000) :
  Calls Tryz.prog 130 #[.pointer (some ⟨y,0,none⟩),.int .i64 s,.slice A n c] w λe J=>e=.returned (.int .i64 (D.Zm s x))/\Vp J y (λk=>S k\/w.1.size<=k) (D.Yr s x)/\Turn S w J:=by
 obtain⟨O,Q,l,clock,v,L⟩:=L0;have up:∀{J:World} {l' m v' D'},Lay J y O Q l' m v' S D'->Vp J y (λk=>S k\/w.1.size<=k) D':=λL'=>⟨O,Q,_,_,_,L'.mono λ_ _ h=>.inl h⟩
 have hn:=h.len;have G:∀k,k=y->S k:=λk e=>e▸L.Yj.1
 by_cases F:0<=s/\s<(D.n:Int)
 ·have u:=qea L s;rw[show decide (0<=s/\s<(D.n:Int))=true by simpa using F] at u;by_cases I:x.length=256
  ·have b:D.bad s x=false:=by simp[DM.bad,F,I]
   unfold DM.Zm DM.Yr;rw[b];simp only[Bool.false_eq_true,if_false];obtain⟨k,rfl⟩:=Int.eq_ofNat_of_zero_le F.1;have X:k<D.n:=by omega
   rw[Int.toNat_natCast];obtain rfl:n=256:=by omega
   obtain⟨g,o,rfl,W,hr⟩:=qkn h (by omega);have T:=L.apart (by omega) hr;have B:=qko L a0;unfold DM.err at B ⊢
   cases f:D.stop with
   |true=>
    rw[f] at B;go_enter Tryz.func130,Tryz.ntmps130
    go_wp2_with fail
    refine u.mono ?_;rintro e d ⟨rfl,rfl⟩;go_wp2_with fail
    refine B.mono ?_;rintro e d ⟨rfl,K,E⟩;go_wp2_with fail
    go_ret;exact⟨rfl,up K,E.mono G⟩
   |false=>
    rw[f] at B;go_enter Tryz.func130,Tryz.ntmps130
    go_wp2_with fail
    refine u.mono ?_;rintro e d ⟨rfl,rfl⟩;go_wp2_with fail
    refine B.mono ?_;rintro e d ⟨rfl,K,E⟩;have Z:d.drew.rangeAt g o (Yn x):=q5p hr (E.block g W T);have M:=K.drew;have La:Lay (Dk d.drew x) y O Q l clock v S D.stepD:=M.keep λk X _=>heap_alloc_old d.drew _ X
    obtain⟨v1,w2,p,Y,a7,R,T2,a2⟩:=M.append k X x I (U k) 149;have H:=Lay.Nq Y K.ents k v1;generalize (if Zg (k:Int) l=none then clock+1 else clock)=ck at R T2 H;have c1:=M.c1;have a3:=La.c1;have a4:=R.c1;have a9:=M.lookup k;have a1:=La.lookup k;have a6:(Qci 1 #[(0,.agg (Yn x).toArray)]).run Tryz.prog d.drew=.ok (.slice (some ⟨d.1.size,0,none⟩) 1 1) (Dk d.drew x):=qds d.drew x I;have a5:=qfc;have a8:(ldB (.pointer (some ⟨g,o,none⟩))).run Tryz.prog d.drew=.ok (.agg (Yn x).toArray) d.drew:=run_loadAt_mid (P:=Tryz.prog) d.drew g o 289 (Yn x) _ Z UB rfl (by rw[SBk,Iw,I]);have p:(apB #[149,149] 149 #[v k,.slice (some ⟨d.1.size,0,none⟩) 1 1]).run Tryz.prog (Dk d.drew x)=.ok v1 w2:=p;go_wp2_with fail
    go_region
    all_goals (go_wp2;go_ret;exact⟨rfl,⟨O,Q,_,_,_,R.mono λz _ hz=>hz.imp id λhz=>by have:=E.size;simp at hz;omega⟩,((E.mono G).drew).then T2⟩)
  ·have b:D.bad s x=true:=by simp[DM.bad,I]
   unfold DM.Zm DM.Yr;rw[b];have b0:¬(n:Int)=256:=by omega
   go_enter Tryz.func130,Tryz.ntmps130
   go_wp2_with fail
   refine u.mono ?_;rintro e d ⟨rfl,rfl⟩;go_wp2_with fail
   go_ret;exact⟨rfl,up L,Turn.refl _ _⟩
 ·have u:=qea L s;rw[show decide (0<=s/\s<(D.n:Int))=false by simpa using F] at u;have b:D.bad s x=true:=by simp[DM.bad,F]
  unfold DM.Zm DM.Yr;rw[b];go_enter Tryz.func130,Tryz.ntmps130
  go_wp2_with fail
  refine u.mono ?_;rintro e d ⟨rfl,rfl⟩;go_wp2_with fail
  go_ret;exact⟨rfl,up L,Turn.refl _ _⟩
end
section
open Go.ChangeMaps (setBlock)
def DM.mk0 (n:Nat):DM:=⟨n,λ_=>zeros 256,λ_=>[],false,false,0,0,n⟩
theorem qtb (n:Nat){j:Nat}(h:j<n):(Yn (zeros n))[j]?=some (.int .u8 0):=by
 unfold Yn zeros;rw[List.getElem?_map,List.getElem?_replicate,if_pos h];rfl
theorem qwm (n j:Nat)(h:j<n):(madeCells (Value.agg (Array.replicate 256 (.int .u8 0))).cells n).toList[j]?=some (.int .u8 0):=by
 unfold madeCells;rw[Array.toList_map,List.getElem?_map,Array.toList_range,List.getElem?_range h];show some ((Array.replicate 256 (Value.int .u8 0))[j % (Array.replicate 256 (Value.int .u8 0)).size]!)=_;have b:j % 256<256:=Nat.mod_lt _ (by omega);rw[Array.size_replicate,getElem!_pos _ _ (by rw[Array.size_replicate];exact b),Array.getElem_replicate]
theorem qwn {G w':World}{d u y n:Nat}(hn:Qb n)(p:G.ownsRow 0 289 256 (.slice (some ⟨d,0,none⟩) n n) n (madeCells (Value.agg (Array.replicate 256 (.int .u8 0))).cells (n*256)).toList)
  (h1:w'.1[d]?=G.1[d]?) (h2:w'.1[u]?=some (.map #[] 0)) (H:w'.1[y]?=some (.cells #[.slice (some ⟨d,0,none⟩) n n,.map (some u),.bool false,.bool false,.int .i64 0,.int .i64 0] 152 (0,0)))
  (D:y≠d) (S:Nat->Prop) (B:S y/\S d/\S u):Lay w' y d u [] 0 (λ_=>.slice none 0 0) S (DM.mk0 n):=by
 have b:w'.ownsRow 0 289 256 (.slice (some ⟨d,0,none⟩) n n) n (madeCells (Value.agg (Array.replicate 256 (.int .u8 0))).cells (n*256)).toList:=q2c p λg f=>by cases f;exact h1
 have E:∀s,s<n->∀j,j<256->w'.cell? ⟨d,s*256+j,none⟩=some (.int .u8 0):=λs A j m=>by
  rw[World.ownsRow.cellAt b _ (by omega),qwm _ _ (by omega)]
 refine⟨H,λs A j v F=>?_,λs A j m=>⟨by rw[E s A j m];rfl,World.ownsRow.frozenAt b _⟩,h2,qk2,λs=>?_,λe I=>(by simp at I),λs=>World.ownsRow_nil _ _ _ _,λ_ _=>rfl,λs=>List.length_replicate,λs=>by simp[Ll,DM.mk0],λ_ _=>rfl,
  ⟨B.1,B.2.1,B.2.2,λs g f=>by cases f⟩,⟨D,λs g f=>by cases f⟩,λs J g f=>(by cases f),hn,by simp[DM.mk0]⟩
 ·have m:j<256:=by
   have h0:=(List.getElem?_eq_some_iff.1 F).1;rw[Iw,show (DM.mk0 n).Xk s=zeros 256 from rfl,show (zeros 256).length=256 from List.length_replicate] at h0;exact h0
  have h0:(Yn (zeros 256))[j]?=some v:=F;rw[qtb 256 m] at h0;rw[E s A j m,h0]
 ·simp[DM.mk0,Zg]
theorem qwo (n:Nat)(hn:Qb n)(w:World) :
  Calls Tryz.prog 41 #[.int .i64 n] w λe D=>∃B,e=.returned (.tuple #[.pointer (some ⟨B,0,none⟩),.int .i64 0])/\Vp D B (λk=>w.1.size<=k) (DM.mk0 n)/\Below w.1.size w D:=by
 obtain⟨i,F,u,y,A⟩:=info_parts TB;have G:=@run_makeMap Tryz.prog;have h1:32<=n:=hn.1;have h2:n<=2048:=hn.2;go_enter Tryz.func41,Tryz.ntmps41
 go_wp2_with (at_make;refine wpList_make_full w (by rfl) _ _ _ (by rfl) 0 289 i _ 256 Tryz.underlying149 F u y .i64 .i64 n n n (by rfl) (by rfl) rfl rfl (by rw[A];omega) (by unfold maxLen;omega) (Nat.zero_le _) ?_)
 intro f d b;go_wp2_with fail
 go_ret2;have p:=b.size;have m:w.1.size<f.1.size:=by
  have h:=World.ownsRow.lt d w.1.size rfl;exact h.2
 have E:Below w.1.size w ((f.alloc (.map #[] 0)).alloc (.cells #[.slice (some ⟨w.1.size,0,none⟩) n n,.map (some f.1.size),.bool false,.bool false,.int .i64 0,.int .i64 0] 152)):=
  (((Below.refl _ _).grown b (Nat.le_refl _) (by simp)).alloc p _).alloc (by simp;omega) _
 refine⟨_,rfl,⟨w.1.size,f.1.size,_,_,_,qwn hn d ?_ ?_ ?_ (by omega) _ ⟨by omega,by omega,by omega⟩⟩,E⟩
 ·rw[heap_alloc_old _ _ (by simp;omega),heap_alloc_old _ _ m]
 ·rw[heap_alloc_old _ _ (by simp),heap_alloc_new]
 ·have e:f.1.size+1=(f.alloc (.map #[] 0)).1.size:=by simp
  rw[e,heap_alloc_new]
end
