/- The drive's small calls: has, Size, On, Steps, Cached, choice, step, Fuse; the laws' kind  -/
import Derived.Test.YtnnbaihfboacoaaGreatDoorEr3
import Derived.Deep.RegionHeld3
import Derived.Great.BuildSlice
import Derived.BigRegion
namespace Go.Proofs.YtnnbaihfboacoaaGreatDoor
open Go Go.RowKit Go.Proofs
set_option maxHeartbeats 2000000
set_option maxRecDepth 100000
section
variable {w:World}{bp bd bm clock:Nat}{l:List MapEntry}{v:Nat->Value}{S:Nat->Prop}{D:DM}
theorem Lay.c0 (L:Lay w bp bd bm l clock v S D):w.cell? ⟨bp,0,none⟩=some (.slice (some ⟨bd,0,none⟩) D.n D.cap):=by rw[cell_of_row w bp 0 _ _ _ L.me];rfl
theorem Lay.c1 (L:Lay w bp bd bm l clock v S D):w.cell? ⟨bp,1,none⟩=some (.map (some bm)):=by rw[cell_of_row w bp 1 _ _ _ L.me];rfl
theorem Lay.c2 (L:Lay w bp bd bm l clock v S D):w.cell? ⟨bp,2,none⟩=some (.bool D.off):=by rw[cell_of_row w bp 2 _ _ _ L.me];rfl
theorem Lay.c3 (L:Lay w bp bd bm l clock v S D):w.cell? ⟨bp,3,none⟩=some (.bool D.fused):=by rw[cell_of_row w bp 3 _ _ _ L.me];rfl
theorem Lay.c4 (L:Lay w bp bd bm l clock v S D):w.cell? ⟨bp,4,none⟩=some (.int .i64 D.left):=by rw[cell_of_row w bp 4 _ _ _ L.me];rfl
theorem Lay.c5 (L:Lay w bp bd bm l clock v S D):w.cell? ⟨bp,5,none⟩=some (.int .i64 D.steps):=by rw[cell_of_row w bp 5 _ _ _ L.me];rfl
theorem Lay.fz (L:Lay w bp bd bm l clock v S D)(j:Nat):w.frozen? ⟨bp,j,none⟩=false:=by simp[World.frozen?,L.me]
end
theorem qex {w:World}{bp bd bm clock:Nat}{l:List MapEntry}{v:Nat->Value}{S:Nat->Prop}{D:DM}(L:Lay w bp bd bm l clock v S D)(s:Int) :
  Calls Tryz.prog 94 #[.pointer (some ⟨bp,0,none⟩),.int .i64 s] w λe b=>e=.returned (.bool (decide (0<=s/\s<(D.n:Int))))/\w=b:=by
 have c0:=L.c0;go_enter Tryz.func94,Tryz.ntmps94
 by_cases h0:0<=s
 ·by_cases h1:s<(D.n:Int)
  ·go_wp2;go_ret;simp[h0,h1]
  ·go_wp2;go_ret;simp[h1];try omega
 ·go_wp2;go_ret;simp;intro;omega
theorem q9f {w:World}{bp bd bm clock:Nat}{l:List MapEntry}{v:Nat->Value}{S:Nat->Prop}{D:DM}(L:Lay w bp bd bm l clock v S D) :
  Calls Tryz.prog 50 #[.pointer (some ⟨bp,0,none⟩)] w λe b=>e=.returned (.int .i64 (D.n:Int))/\w=b:=by
 have c0:=L.c0;go_enter Tryz.func50,Tryz.ntmps50
 go_wp2;go_ret;exact⟨rfl,rfl⟩
theorem qye {w:World}{bp bd bm clock:Nat}{l:List MapEntry}{v:Nat->Value}{S:Nat->Prop}{D:DM}(L:Lay w bp bd bm l clock v S D) :
  Calls Tryz.prog 55 #[.pointer (some ⟨bp,0,none⟩)] w λe b=>e=.returned (.bool (!D.off))/\w=b:=by
 have c0:=L.c2;go_enter Tryz.func55,Tryz.ntmps55
 go_wp2;go_ret;exact⟨rfl,rfl⟩
def DM.cnt (D:DM):Nat:=((List.range D.n).filter λs=>!(D.Zp s).isEmpty).length
theorem Lay.count {w:World}{bp bd bm clock:Nat}{l:List MapEntry}{v:Nat->Value}{S:Nat->Prop}{D:DM}(L:Lay w bp bd bm l clock v S D):l.length=D.cnt:=by
 have hn:(l.map λe=>(kI e).toNat).Nodup:=by
  have h:=L.ents.one;rw[List.nodup_iff_pairwise_ne,List.pairwise_map] at h ⊢;refine h.imp_of_mem λ{a b} B E p d=>p ?_
  obtain⟨x,_,A⟩:=L.keys a B;obtain⟨y,_,H⟩:=L.keys b E;rw[A,H] at d ⊢;simp at d;omega
 have G:(l.map λe=>(kI e).toNat).Perm ((List.range D.n).filter λs=>!(D.Zp s).isEmpty):=by
  rw[List.perm_ext_iff_of_nodup hn (List.nodup_range.filter _)];intro s;constructor
  ·intro h;obtain⟨e,d,rfl⟩:=List.mem_map.1 h;obtain⟨x,A,m⟩:=L.keys e d;have f:=q2t L.ents.one d;rw[m,L.look x] at f;rw[m,Int.toNat_natCast];rw[List.mem_filter,List.mem_range];refine⟨A,?_⟩;split at f
   ·cases f
   ·rename_i F
    cases u:D.Zp x with
    |nil=>exact absurd u F
    |cons a b=>rfl
  ·intro h;rw[List.mem_filter] at h;have f:=L.look s;rw[if_neg (by intro u;rw[u] at h;simp at h)] at f;obtain⟨e,d,m,_⟩:=q8z f;exact List.mem_map.2 ⟨e,d,by rw[m];simp⟩
 have:=G.length_eq;rw[List.length_map] at this;exact this
def md (x:Int)(m:Nat):Nat:=((if x<0 then -(x+1) else x) % (m:Int)).toNat
theorem quq (x:Int){m:Nat}(h:0<m):md x m<m:=by
 unfold md;have h1:=Int.emod_nonneg (if x<0 then -(x+1) else x) (show (m:Int)≠0 by omega);have h2:=Int.emod_lt_of_pos (if x<0 then -(x+1) else x) (show (0:Int)<m by omega);omega
theorem qyf {x:Int}(m:Nat)(h:0<=x)(hm:0<m):x.tmod (m:Int)=(md x m:Int):=by
 unfold md;rw[if_neg (by omega),Int.tmod_eq_emod_of_nonneg h];have:=Int.emod_nonneg x (show (m:Int)≠0 by omega);omega
theorem qyg {x:Int}(m:Nat)(h:x<0)(hm:0<m):(-(x+1)).tmod (m:Int)=(md x m:Int):=by
 unfold md;rw[if_pos h,Int.tmod_eq_emod_of_nonneg (by omega)];have:=Int.emod_nonneg (-(x+1)) (show (m:Int)≠0 by omega);omega
def DM.stop (D:DM):Bool:=D.off||(D.fused&&decide (D.left=0))
def DM.stepD (D:DM):DM:={ D with off:=D.stop,left:=if D.stop then D.left else if D.fused then D.left-1 else D.left,steps:=if D.stop then D.steps else D.steps+1 }
def DM.err (D:DM):Int:=if D.stop then 4 else 0
theorem Lay.off1 {w:World}{bp bd bm clock:Nat}{l:List MapEntry}{v:Nat->Value}{S:Nat->Prop}{D:DM}(L:Lay w bp bd bm l clock v S D)(b:Bool) :
  Lay (w.setCell ⟨bp,2,none⟩ (.bool b)) bp bd bm l clock v S { D with off:=b }:=
 L.struct b D.fused D.left D.steps L.left (by rw[Fa _ L.me];rfl) λk _ hn=>Below.heap_setCell _ _ _ _ hn
theorem Lay.left1 {w:World}{bp bd bm clock:Nat}{l:List MapEntry}{v:Nat->Value}{S:Nat->Prop}{D:DM}(L:Lay w bp bd bm l clock v S D)(n:Nat)(hn:n<=9223372036854775807){x:Int}(hx:x=(n:Int)) :
  Lay (w.setCell ⟨bp,4,none⟩ (.int .i64 x)) bp bd bm l clock v S { D with left:=n }:=by
 subst hx;exact L.struct D.off D.fused n D.steps hn (by rw[Fa _ L.me];rfl) λk _ hn=>Below.heap_setCell _ _ _ _ hn
theorem Lay.Qah {w:World}{bp bd bm clock:Nat}{l:List MapEntry}{v:Nat->Value}{S:Nat->Prop}{D:DM}(L:Lay w bp bd bm l clock v S D)(n:Nat){x:Int}(hx:x=(n:Int)) :
  Lay (w.setCell ⟨bp,5,none⟩ (.int .i64 x)) bp bd bm l clock v S { D with steps:=n }:=by
 subst hx;exact L.struct D.off D.fused D.left n L.left (by rw[Fa _ L.me];rfl) λk _ hn=>Below.heap_setCell _ _ _ _ hn
theorem qbg {bp:Nat}(w:World)(j:Nat)(u:Value):Turn (λk=>k=bp) w (w.setCell ⟨bp,j,none⟩ u):=Ez u rfl
theorem qla {w:World}{bp bd bm clock:Nat}{l:List MapEntry}{v:Nat->Value}{S:Nat->Prop}{D:DM}(L:Lay w bp bd bm l clock v S D)(d:D.steps<=1000000000) :
  Calls Tryz.prog 121 #[.pointer (some ⟨bp,0,none⟩)] w λe m=>e=.returned (.int .i64 D.err)/\Lay m bp bd bm l clock v S D.stepD/\Turn (λk=>k=bp) w m:=by
 have c2:=L.c2;have c3:=L.c3;have c4:=L.c4;have c5:=L.c5;have y:=L.fz 2;have A:=L.fz 4;have f5:=L.fz 5;have b:=L.left;obtain⟨n,Jp,Zp,off,fused,left,steps,cap⟩:=D;simp only at c2 c3 c4 c5 d b
 cases off with
 |true=>
  rw[show (DM.stepD ⟨n,Jp,Zp,true,fused,left,steps,cap⟩)=⟨n,Jp,Zp,true,fused,left,steps,cap⟩ from rfl,show (DM.err ⟨n,Jp,Zp,true,fused,left,steps,cap⟩)=4 from rfl]
  cases fused with
  |true=>
   by_cases h0:left=0
   ·subst h0;go_enter Tryz.func121,Tryz.ntmps121
    go_wp2;go_ret;exact⟨rfl,L.off1 true,qbg _ _ _⟩
   ·go_enter Tryz.func121,Tryz.ntmps121
    go_wp2;go_ret;exact⟨rfl,L,Turn.refl _ _⟩
  |false=>
   go_enter Tryz.func121,Tryz.ntmps121
   go_wp2;go_ret;exact⟨rfl,L,Turn.refl _ _⟩
 |false=>
  cases fused with
  |true=>
   by_cases h0:left=0
   ·subst h0;rw[show (DM.stepD ⟨n,Jp,Zp,false,true,0,steps,cap⟩)=⟨n,Jp,Zp,true,true,0,steps,cap⟩ from rfl,show (DM.err ⟨n,Jp,Zp,false,true,0,steps,cap⟩)=4 from rfl];go_enter Tryz.func121,Tryz.ntmps121
    go_wp2;go_ret;exact⟨rfl,L.off1 true,qbg _ _ _⟩
   ·have f:(DM.stop ⟨n,Jp,Zp,false,true,left,steps,cap⟩)=false:=by simp[DM.stop,h0]
    have p:(DM.stepD ⟨n,Jp,Zp,false,true,left,steps,cap⟩)=⟨n,Jp,Zp,false,true,left-1,steps+1,cap⟩:=by simp[DM.stepD,f]
    have u:(DM.err ⟨n,Jp,Zp,false,true,left,steps,cap⟩)=0:=by simp[DM.err,f]
    rw[p,u];go_enter Tryz.func121,Tryz.ntmps121
    go_wp2;go_ret;exact⟨rfl,(L.left1 (left-1) (by omega) (by omega)).Qah (steps+1) (by omega),(qbg _ _ _).then (qbg _ _ _)⟩
  |false=>
   rw[show (DM.stepD ⟨n,Jp,Zp,false,false,left,steps,cap⟩)=⟨n,Jp,Zp,false,false,left,steps+1,cap⟩ from rfl,show (DM.err ⟨n,Jp,Zp,false,false,left,steps,cap⟩)=0 from rfl];go_enter Tryz.func121,Tryz.ntmps121
   go_wp2;go_ret;exact⟨rfl,L.Qah (steps+1) (by omega),qbg _ _ _⟩
def zeros (n:Nat):List UInt8:=List.replicate n 0
theorem q62 {d:Func}{p:Tmp}{ty:TypeId}(h:d.results=#[.cell p ty])(b:Array Value)(P:Program)(w:World) :
  (results d b).run P w=((asAddr (b.getD p undef)).run P w).andThen λa e=>(loadVar ty a).run P e:=by
 simp only[results,h];simp[Sem.run_bind,Result.andThen]
def DM.newest (D:DM)(s:Nat):List UInt8:=(D.Zp s).getLastD (D.Jp s)
theorem q8u {α:Type}:∀(l:List α) (a:α),l≠[]->l.getLastD a∈l
 |[],a,h=>absurd rfl h
 |[x],a,_=>by simp
 |x::y::r,a,_=>by
  rw[List.getLastD_cons,List.getLastD_cons];have:=q8u (y::r) x (by simp);rw[List.getLastD_cons] at this;exact List.mem_cons_of_mem _ this
theorem Lay.Bz {w:World}{bp bd bm clock:Nat}{l:List MapEntry}{v:Nat->Value}{S:Nat->Prop}{D:DM}(L:Lay w bp bd bm l clock v S D)(s:Nat):(D.newest s).length=256:=by
 unfold DM.newest;rcases hc:D.Zp s with _|⟨a,r⟩
 ·exact L.dl s
 ·exact L.cl s _ (by rw[hc];exact q8u _ _ (by simp))
theorem Lay.lookup {w:World}{bp bd bm clock:Nat}{l:List MapEntry}{v:Nat->Value}{S:Nat->Prop}{D:DM}(L:Lay w bp bd bm l clock v S D)(s:Nat) :
  (Instr.lookup 105 (.map (some bm)) (.int .i64 s) false).run Tryz.prog w=.ok (v s) w:=by
 have h:=q4k (P:=Tryz.prog) (w:=w) L.ents Tryz.underlying105 Tryz.underlying3 (z:=.slice none 0 0) (by kernel_rfl) L.map s;rw[h,L.look s];split
 ·rename_i b;rw[L.nil s b];rfl
 ·rfl
theorem UB:Tryz.prog.underlying 164=some (.array 256 5):=Tryz.underlying164
theorem SBk:(Tryz.prog.info? 164).map (·.size)=some 256:=by kernel_rfl
theorem ZB (w:World):(zeroValue 164).run Tryz.prog w=.ok (.agg (Array.replicate 256 (.int .u8 0))) w:=by
 have h:=TB;obtain⟨i,d,b,_⟩:=info_parts h;simp[zeroValue,typeInfo,d,b]
def Aa (w:World):World:=w.alloc (.cells (Array.replicate 256 (.int .u8 0)) 164)
theorem qbh (w:World):(Aa w).1.size=w.1.size+1:=by simp[Aa]
theorem q5w (w:World):(Aa w).there w.1.size 0 256:=λj d=>by
 have b:(Aa w).1[w.1.size]?=some (.cells (Array.replicate 256 (.int .u8 0)) 164 (0,0)):=heap_alloc_new w _;refine⟨?_,by simp[World.frozen?,b]⟩;rw[cell_of_row _ _ _ _ _ _ b,Nat.zero_add,Array.getElem?_replicate,if_pos d];rfl
theorem qdb (w:World):Below w.1.size w (Aa w):=Qm
theorem qha (w:World)(l:List UInt8)(b:l.length=256):Below w.1.size w ((Aa w).setCells w.1.size 0 (Yv l))/\((Aa w).setCells w.1.size 0 (Yv l)).rangeAt w.1.size 0 (Yv l):=by
 refine⟨(qdb w).trans ((Us (S:=λk=>k=w.1.size) rfl (Yv l) 0 (Aa w)).below (λx d=>by omega) (by rw[qbh];omega)),World.rangeAt_setCells_same _ _ _ _ ?_⟩;rw[Ir,b];exact q5w w
theorem qj2 {e:Array Oper}{b:List Oper}{o:Oper}{a:Act}{w:World}{Q:Exit->Act->World->Prop}(u:o.guard=none)(m:o.op=Op.alloc 164)
  (p:wpList Tryz.prog e Q b (a.put o.dst (.pointer (some ⟨w.1.size,0,none⟩))) (Aa w)):wpList Tryz.prog e Q (o::b) a w:=
 wpList_plain u λK f=>by
  have d:(Instr.alloc 164 true (.tuple #[])).run Tryz.prog w=.ok (.pointer (some ⟨w.1.size,0,none⟩)) (Aa w):=by
   have y:=ZB;first
    |(simp[Instr.alloc,newVar,newRow,Value.cells,Aa, *];done)
    |(simp[Instr.alloc,newVar,newRow,Value.cells,Aa];refine congrArg (λx=>w.alloc (.cells x 164)) ?_;kernel_rfl)
  unfold Oper.wp execOp;simp only[m,Sem.run_bind,Sem.run_pure,Result.andThen_ok,d];exact f _ _ p
theorem q4h (w:World)(g n c i:Nat)(hi:i<n):(Instr.indexAt 104 (.slice (some ⟨g,0,none⟩) n c) (.int .i64 (i:Int))).run Tryz.prog w=.ok (.pointer (some ⟨g,i*256,none⟩)) w:=by
 have b:(sizeOf 164).run Tryz.prog w=.ok 256 w:=by
  obtain⟨z,b,_,e,_⟩:=info_parts TB;simp[sizeOf,typeInfo,b,e]
 have d:(⟨g,0,none⟩:Addr).add (i*256)=⟨g,i*256,none⟩:=by rw[Addr.add_lit,Nat.zero_add]
 simp[Instr.indexAt,asIntOf,run_underlying Tryz.underlying104,hi,d]
theorem q8v {d:Array Oper}{b:List Oper}{o:Oper}{a:Act}{w:World}{Q:Exit->Act->World->Prop}(p:o.guard=none)(x y:Operand)(f:o.op=Op.indexAddr 104 x y)
  (g n c i:Nat) (u:a.eval x=.slice (some ⟨g,0,none⟩) n c) (z:Int) (A:a.eval y=.int .i64 z) (B:z=(i:Int)) (hi:i<n)
  (m:wpList Tryz.prog d Q b (a.put o.dst (.pointer (some ⟨g,i*256,none⟩))) w):wpList Tryz.prog d Q (o::b) a w:=
 wpList_plain p λK e=>by
  subst B;unfold Oper.wp execOp;simp only[f,u,A,Sem.run_bind,Sem.run_pure,Result.andThen_ok,q4h w g n c i hi];exact e _ _ m
theorem qbi {e:Array Oper}{d:List Oper}{o:Oper}{a:Act}{w:World}{Q:Exit->Act->World->Prop}(y:o.guard=none)(x:Operand)(f:o.op=Op.load 164 x)
  (b p:Nat) (B:a.eval x=.pointer (some ⟨b,p,none⟩)) (l:List UInt8) (A:l.length=256) (u:w.rangeAt b p (Yv l))
  (m:wpList Tryz.prog e Q d (a.put o.dst (.agg (Yv l).toArray)) w):wpList Tryz.prog e Q (o::d) a w:=
 wpList_load_mid y _ x f b p B (Yv l) _ u UB rfl (by rw[SBk,Ir,A]) m
theorem q58 {e:Array Oper}{d:List Oper}{o:Oper}{a:Act}{w:World}{Q:Exit->Act->World->Prop}(A:o.guard=none)(x y:Operand)(f:o.op=Op.store 164 x y)
  (b p:Nat) (E:a.eval x=.pointer (some ⟨b,p,none⟩)) (l:List UInt8) (F:a.eval y=.agg (Yv l).toArray) (m:l.length=256) (B:w.there b p 256)
  (u:wpList Tryz.prog e Q d (a.put o.dst undef) (w.setCells b p (Yv l))):wpList Tryz.prog e Q (o::d) a w:=
 wpList_store_mid A _ x y f b p (Yv l).toArray E F (by rw[List.size_toArray,Ir,m];exact B) (by rw[SBk,List.size_toArray,Ir,m]) (all_oneCell_toArray (qht l)) u
theorem qna {w:World}{bp bd bm clock:Nat}{l:List MapEntry}{v:Nat->Value}{S:Nat->Prop}{D:DM}(L:Lay w bp bd bm l clock v S D)(s:Nat)(G:s<D.n) :
  Calls Tryz.prog 95 #[.pointer (some ⟨bp,0,none⟩),.int .i64 s] w λe K=>e=.returned (.agg (Yv (D.newest s)).toArray)/\Below w.1.size w K:=by
 have m:Lay (Aa w) bp bd bm l clock v S D:=L.keep λk y _=>(qdb w).block k y
 have c0:=m.c0;have c1:=m.c1;have p:=m.lookup s;have b:=L.Bz s;obtain⟨A,E⟩:=qha w (D.newest s) b;have f:(Yv (D.newest s)).length=256:=by rw[Ir,b]
 rcases hc:D.Zp s with _|⟨x,r⟩
 ·have hn:=L.nil s hc;have hd:=m.Jp s G;have u:D.newest s=D.Jp s:=by unfold DM.newest;rw[hc];rfl
  rw[u] at b A E f ⊢;rw[hn] at p;go_enter Tryz.func95,Tryz.ntmps95
  go_wp2_with (first
   |(refine qj2 (by rfl) (by rfl) ?_)
   |(refine q8v rfl _ _ rfl bd D.n D.cap s rfl _ rfl rfl G ?_)
   |(refine qbi (by rfl) _ (by rfl) bd (s*256) (by rfl) (D.Jp s) b hd ?_)
   |(refine q58 (by rfl) _ _ (by rfl) w.1.size 0 (by rfl) (D.Jp s) (by rfl) b (q5w w) ?_))
  (try simp only[Exit.inBlock,Exit.then])
  refine bodyPost_ret (v:=.agg (Yv (D.Jp s)).toArray) ?_ rfl ⟨rfl,A⟩;refine (q62 Tryz.results95 _ _ _).trans ?_;simp only[go_sem];have:=run_loadVar_mid (P:=Tryz.prog) _ _ _ 164 _ _ E UB rfl (by rw[SBk,f]);exact this
 ·obtain⟨g,c,H,J,B⟩:=qa3 (L.row s) (by rw[hc];simp);have M:(v s).ownBlock=some g:=by rw[H];rfl
  have d:=m.row s;rw[H] at d p;have y:(D.Zp s).length-1<(D.Zp s).length:=by rw[hc];simp
  have u:(D.Zp s)[(D.Zp s).length-1]=D.newest s:=by
   unfold DM.newest;rw[<-List.getLast_eq_getElem (by rw[hc];simp),List.getLastD_eq_getLast?,List.getLast?_eq_some_getLast (by rw[hc];simp)];rfl
  have hd:=qcb d (L.cl s) rfl ((D.Zp s).length-1) y;rw[u] at hd;have I:0<(D.Zp s).length:=by omega
  have F:(D.Zp s).length<=9223372036854775807:=by unfold maxLen at B;omega
  clear hc u;generalize (D.Zp s).length=k at *;go_enter Tryz.func95,Tryz.ntmps95
  go_wp2_with (first
   |(refine qj2 (by rfl) (by rfl) ?_)
   |(refine q8v (by rfl) _ _ (by rfl) g k c (k-1) (by rfl) _ (by rfl) (by first|rfl|omega) y ?_)
   |(refine qbi (by rfl) _ (by rfl) g ((k-1)*256) (by rfl) (D.newest s) b hd ?_)
   |(refine q58 (by rfl) _ _ (by rfl) w.1.size 0 (by rfl) (D.newest s) (by rfl) b (q5w w) ?_))
  (try simp only[Exit.inBlock,Exit.then])
  refine bodyPost_ret (v:=.agg (Yv (D.newest s)).toArray) ?_ rfl ⟨rfl,A⟩;refine (q62 Tryz.results95 _ _ _).trans ?_;simp only[go_sem];have:=run_loadVar_mid (P:=Tryz.prog) _ _ _ 164 _ _ E UB rfl (by rw[SBk,f]);exact this
def DM.Ym (D:DM)(s:Int):Int:=if D.off then 4 else if 0<=s/\s<(D.n:Int) then 0 else 1
def DM.Yu (D:DM)(s:Int):List UInt8:=if D.off then [] else if 0<=s/\s<(D.n:Int) then D.newest s.toNat else []
theorem q9g {w:World}{bp bd bm clock:Nat}{l:List MapEntry}{v:Nat->Value}{S:Nat->Prop}{D:DM}(L:Lay w bp bd bm l clock v S D)(s:Int) :
  Calls Tryz.prog 56 #[.pointer (some ⟨bp,0,none⟩),.int .i64 s] w λe B=>∃A n,e=.returned (.tuple #[.slice A n n,.int .i64 (D.Ym s)])/\Sl B A n n (D.Yu s)/\n<=256/\Below w.1.size w B/\∀p,A=some p->w.1.size<=p.block/\p.block<B.1.size:=by
 have c2:=L.c2;unfold DM.Ym DM.Yu
 cases d:D.off with
 |true=>
  rw[d] at c2;go_enter Tryz.func56,Tryz.ntmps56
  go_wp2;go_ret2;exact⟨none,0,rfl,q24 w,by omega,Below.refl _ _,λp h=>by cases h⟩
 |false=>
  rw[d] at c2;by_cases m:0<=s/\s<(D.n:Int)
  ·obtain⟨k,rfl⟩:=Int.eq_ofNat_of_zero_le m.1;have G:k<D.n:=by omega
   have b:=L.Bz k;have F:(Yv (D.newest k)).length=256:=by rw[Ir,b]
   have y:=qex L (k:Int);rw[show decide (0<=(k:Int)/\(k:Int)<(D.n:Int))=true by simpa using m] at y;rw[if_pos m,if_pos m,Int.toNat_natCast];simp only[Bool.false_eq_true,if_false];go_enter Tryz.func56,Tryz.ntmps56
   go_wp2_with fail
   refine y.mono ?_;rintro e u ⟨rfl,rfl⟩;go_wp2_with fail
   refine (qna L k G).mono ?_;rintro e u ⟨rfl,f⟩;obtain⟨E,H⟩:=qha u (D.newest k) b;go_wp2_with (first
    |(refine qj2 (by rfl) (by rfl) ?_)
    |(refine q58 (by rfl) _ _ (by rfl) u.1.size 0 (by rfl) (D.newest k) (by rfl) b (q5w u) ?_))
   go_ret2;refine⟨some ⟨u.1.size,0,none⟩,256,rfl,?_,by omega,f.trans (E.mono f.size),λp h=>by cases h;exact⟨f.size,by rw[q44,qbh];simp⟩⟩;have:=qt5 H (by rw[q44,qbh];omega) (c:=256) (by omega) (by unfold maxLen;omega);rw[b] at this;exact this
  ·have y:=qex L s;rw[show decide (0<=s/\s<(D.n:Int))=false by simpa using m] at y;rw[if_neg m,if_neg m];simp only[Bool.false_eq_true,if_false];go_enter Tryz.func56,Tryz.ntmps56
   go_wp2_with fail
   refine y.mono ?_;rintro e u ⟨rfl,rfl⟩;go_wp2_with fail
   go_ret2;exact⟨none,0,rfl,q24 w,by omega,Below.refl _ _,λp h=>by cases h⟩
section
open Go.ChangeMaps (setBlock)
def DM.settle (D:DM)(s i:Nat):DM:={ D with Jp:=if i=0 then D.Jp else upd D.Jp s ((D.Zp s).getD (i-1) []),Zp:=upd D.Zp s [] }
theorem Lay.drew {w:World}{bp bd bm clock:Nat}{l:List MapEntry}{v:Nat->Value}{S:Nat->Prop}{D:DM}(L:Lay w bp bd bm l clock v S D):Lay w.drew bp bd bm l clock v S D:=L.keep λ_ _ _=>rfl
theorem Lay.Ci {w:World}{bp bd bm clock:Nat}{l:List MapEntry}{v:Nat->Value}{S:Nat->Prop}{D:DM}(L:Lay w bp bd bm l clock v S D)(s:Nat)(ty:TypeId) :
  (Builtin.delete_ #[105,3] ty #[.map (some bm),.int .i64 s]).run Tryz.prog w=.ok (.tuple #[]) (setBlock w bm (.map (Xw s l).toArray clock)):=
 q4l (P:=Tryz.prog) (w:=w) L.ents Tryz.underlying105 Tryz.underlying3 L.map s _ ty
theorem qnb {w:World}{bp bd bm clock:Nat}{l:List MapEntry}{v:Nat->Value}{S:Nat->Prop}{D:DM}(L:Lay w bp bd bm l clock v S D)(s:Nat)(u:s<D.n)(i:Nat)(hi:i<=(D.Zp s).length) :
  Calls Tryz.prog 122 #[.pointer (some ⟨bp,0,none⟩),.int .i64 s,.int .i64 i] w λe b=>e=.returned (.tuple #[])/\Lay b bp bd bm (Xw s l) clock (upd v s (.slice none 0 0)) S (D.settle s i)/\Turn (λk=>k=bd\/k=bm) w b:=by
 by_cases h0:i=0
 ·subst h0;have c1:=L.c1;have A:=L.Ci s;have G:=L.forget s u;go_enter Tryz.func122,Tryz.ntmps122
  go_wp2;go_end0
  exact⟨rfl,G,q0p _ (.inr rfl)⟩
 ·obtain⟨g,c,F,U,K⟩:=qa3 (L.row s) (by omega);have R:(v s).ownBlock=some g:=by rw[F];rfl
  have E:i-1<(D.Zp s).length:=by omega
  have P:(D.Zp s).getD (i-1) []=(D.Zp s)[i-1]:=by rw[List.getD_eq_getElem?_getD,List.getElem?_eq_getElem E];rfl
  have d:((D.Zp s)[i-1]).length=256:=L.cl s _ (List.getElem_mem E);have Ed:D.settle s i={ { D with Jp:=upd D.Jp s (D.Zp s)[i-1] } with Zp:=upd D.Zp s [] }:=by unfold DM.settle;rw[if_neg h0,P]
  rw[Ed];have f:=L.row s;rw[F] at f;have hd:=qcb f (L.cl s) rfl (i-1) E;clear Ed P f;generalize (D.Zp s)[i-1]=x at hd d ⊢;have J:(Yv x).length=256:=by rw[Ir,d]
  have y:=L.drew;have c0:=y.c0;have c1:=y.c1;have B:=y.lookup s;rw[F] at B;have W:=y.Ep s u;have hd:w.drew.rangeAt g ((i-1)*256) (Yv x):=hd;have p:=y.store s u x d;have H:=p.c0;have I:=p.c1;have m:=p.lookup s;rw[F] at m;have O:=p.Ep s u;have M:(w.drew.setCells bd (s*256) (Yv x)).rangeAt g ((i-1)*256) (Yv x):=World.rangeAt_setCells_apart hd _ _ _ (.inl (L.ne.2 s g R).2);have A:=p.Ci s;have G:=p.forget s u;have Z:=UB;have T:(Tryz.prog.info? 164).map (·.size)=some (Yv x).length:=by rw[J];exact SBk
  have h1:=qht x;have X:∀b:World,(Instr.indexAt 104 (.slice (some ⟨g,0,none⟩) (D.Zp s).length c) (.int .i64 ((i:Int)-1))).run Tryz.prog b=.ok (.pointer (some ⟨g,(i-1)*256,none⟩)) b:=λb=>by
   have:=q4h b g (D.Zp s).length c (i-1) E;rw[show ((i-1:Nat):Int)=(i:Int)-1 by omega] at this;exact this
  have Y:∀b:World,(Instr.indexAt 104 (.slice (some ⟨bd,0,none⟩) D.n D.cap) (.int .i64 (s:Int))).run Tryz.prog b=.ok (.pointer (some ⟨bd,s*256,none⟩)) b:=λb=>q4h b bd D.n D.cap s u
  have Q:i<=9223372036854775807:=by unfold maxLen at K;omega
  have hw:IntKind.i64.wrap ((i:Int)-1)=(i:Int)-1:=IntWalk.i64_in _ (by omega);go_enter Tryz.func122,Tryz.ntmps122
  go_wp2_with fail
  go_region_held3 (λb=>b.cell? ⟨bp,0,none⟩=some (.slice (some ⟨bd,0,none⟩) D.n D.cap)/\b.cell? ⟨bp,1,none⟩=some (.map (some bm))/\(Instr.lookup 105 (.map (some bm)) (.int .i64 s) false).run Tryz.prog b=.ok (.slice (some ⟨g,0,none⟩) (D.Zp s).length c) b/\
   b.rangeAt g ((i-1)*256) (Yv x)/\b.there bd (s*256) 256) (first|exact⟨c0,c1,B,hd,W⟩|exact⟨H,I,m,M,O⟩) (fail)
  go_wp2;go_end0
  exact⟨rfl,G,((Turn.refl _ w).drew.then (Us (.inl rfl) _ _ _)).then (q0p _ (.inr rfl))⟩
end
section
open Go.ChangeMaps (setBlock)
def Dv (w:World)(l:List UInt8):World:=w.alloc (.cells (Yv l).toArray 164)
theorem qey (w:World)(l:List UInt8)(f:l.length=256):(Instr.buildSlice 104 1 #[(0,.agg (Yv l).toArray)]).run Tryz.prog w=.ok (.slice (some ⟨w.1.size,0,none⟩) 1 1) (Dv w l):=by
 obtain⟨i,e,d,b,u⟩:=info_parts TB;refine run_buildSlice w _ _ 1 _ (Yv l).toArray i _ Tryz.underlying104 e d (by rw[b];omega) (by rw[b];omega) ?_;have m:(Value.agg (Yv l).toArray).cells.size=256:=by show (Yv l).toArray.size=256;rw[List.size_toArray,Ir,f]
 have h:=Great.fill_whole (s:=256) (by omega) [.agg (Yv l).toArray] ((Array.range (1*256)).map ((Value.agg (Array.replicate 256 (Value.int .u8 0))).cells[· % (Value.agg (Array.replicate 256 (Value.int .u8 0))).cells.size]!)) (by intro v p;rw[List.mem_singleton.1 p];exact m) (by rw[Array.size_map,Array.size_range];rfl);rw[b];refine Eq.trans ?_ (h.trans ?_)
 ·simp only[List.zipIdx_cons,List.zipIdx_nil,List.map_cons,List.map_nil]
 ·simp[Value.cells]
theorem qhb (w:World)(g o c:Nat):(Instr.arrayAt 164 (.slice (some ⟨g,o,none⟩) 256 c)).run Tryz.prog w=.ok (.pointer (some ⟨g,o,none⟩)) w:=by
 simp[Instr.arrayAt,run_underlying UB]
theorem Lay.apart {w:World}{bp bd bm clock:Nat}{l:List MapEntry}{v:Nat->Value}{S:Nat->Prop}{D:DM}(L:Lay w bp bd bm l clock v S D){g o:Nat}{x:List UInt8}(hx:0<x.length)(h:w.rangeAt g o (Yv x)):g≠bp:=λe=>by
 subst e;have b:=h 0 (bv x[0]) (by simp[Yv,hx]);rw[cell_of_row w g (o+0) _ _ _ L.me,Nat.add_zero] at b;rcases o with _|_|_|_|_|_|o<;>simp[bv] at b
theorem Lay.Nk {w:World}{bm clock:Nat}{l:List MapEntry}(hb:w.1[bm]?=some (.map l.toArray clock))(E:Vy l clock)(s:Nat)(x:Value) :
  (Instr.mapUpdate 105 (.map (some bm)) (.int .i64 s) x).run Tryz.prog w=.ok () (setBlock w bm (.map (Jy s x clock l).toArray (if Zf s l=none then clock+1 else clock))):=
 q2u (P:=Tryz.prog) (w:=w) E Tryz.underlying105 Tryz.underlying3 hb s x
theorem Lay.append {w:World}{bp bd bm clock:Nat}{l:List MapEntry}{v:Nat->Value}{S:Nat->Prop}{D:DM}(L:Lay w bp bd bm l clock v S D)(s:Nat)(hs:s<D.n)(x:List UInt8)(hx:x.length=256)(hcl:(D.Zp s).length<=1000000)(ty:TypeId) :
  ∃A m,(Builtin.append_ #[104,104] ty #[v s,.slice (some ⟨w.1.size,0,none⟩) 1 1]).run Tryz.prog (Dv w x)=.ok A m/\m.1[bm]?=some (.map l.toArray clock)/\m.cell? ⟨bp,1,none⟩=some (.map (some bm))/\
   Lay (setBlock m bm (.map (Jy s A clock l).toArray (if Zf s l=none then clock+1 else clock))) bp bd bm (Jy s A clock l) (if Zf s l=none then clock+1 else clock) (upd v s A) (λk=>S k\/w.1.size<=k) { D with Zp:=upd D.Zp s (D.Zp s++[x]) }/\
   Turn S w (setBlock m bm (.map (Jy s A clock l).toArray (if Zf s l=none then clock+1 else clock)))/\Turn S w m:=by
 obtain⟨i,hi,R,T,U⟩:=info_parts TB;have Y:Lay (Dv w x) bp bd bm l clock v S D:=L.keep λk B _=>heap_alloc_old w _ B
 have a2:(Dv w x).1.size=w.1.size+1:=by simp[Dv]
 obtain⟨A,m,G,p,d,X,M⟩:=run_append_own_at (P:=Tryz.prog) (Dv w x) 0 104 ty 164 i _ 256 256 Tryz.underlying104 hi R T U (by simp[Value.cells]) (by omega) (v s) _ _ (Y.row s)
  ⟨w.1.size,0,none⟩ 1 1 (Yv x) (by rw[Ir,hx]) (λj u hu=>by unfold Dv;rw[q63];simpa using hu) (qht x) (by unfold maxLen;omega) (by omega) (Nat.zero_le _)
 have a1:∀z g,(v z).ownBlock=some g->g<w.1.size:=λz g f=>by obtain⟨c,t,h⟩:=L.Wy f;exact Wi h
 have I:=Wi L.map;have old:∀k,k<w.1.size->some k≠(v s).ownBlock->m.1[k]?=w.1[k]?:=λk B hn=>(d.block k (by omega) hn).trans (heap_alloc_old w _ B)
 have E:m.1[bm]?=some (.map l.toArray clock):=(old bm I λe=>L.Qaf e.symm rfl).trans L.map;have Q:m.1[bp]?=w.1[bp]?:=old bp (Wi L.me) λe=>(L.ne.2 s bp e.symm).1 rfl
 have O:∀g,A.ownBlock=some g->g≠bm:=λg f e=>by
  rcases p.2 with⟨F,_⟩|⟨W,cap,J,F,_,H,_⟩
  ·rw[F] at f;cases f
  ·rw[F] at f;cases f;rw[show W=bm from e,E] at H;cases H
 have K:=q0p (w:=m) (S:=λk=>k=bm) (b:=bm) (.map (Jy s A clock l).toArray (if Zf s l=none then clock+1 else clock)) rfl;refine⟨A,m,G,E,(World.cell?_of_block (a:=⟨bp,1,none⟩) Q).trans L.c1,?_,?_,⟨d.os,d.tape,d.output,by have:=d.size;omega,λk B hn=>old k B λe=>hn (L.Xu.2.2.2 s k e.symm)⟩⟩
 ·refine L.Qag s hs A (D.Zp s++[x]) ?_ (λk _ h=>.inl h) (λk B hn hr=>(K.block k (by have:=d.size;omega) hn).trans (old k B hr)) (q27 (Wi E)) (L.ents.put s A) (λz=>?_) (λe Z=>?_) ?_ (λh=>by simp at h) ?_
  ·intro y hy;rcases List.mem_append.1 hy with h|h
   ·exact L.cl s y h
   ·rw[List.mem_singleton.1 h];exact hx
  ·rw[qdf];by_cases h:z=s
   ·subst h;simp
   ·rw[if_neg (by omega),if_neg h]
  ·rcases q9m Z with h|⟨h,_⟩
   ·exact .inl h
   ·right;unfold kI;rw[h]
  ·rw[List.length_append,qot];exact q30 p λg f=>K.block g (by
    rcases p.2 with⟨F,_⟩|⟨W,cap,J,F,_,H,_⟩
    ·rw[F] at f;cases f
    ·rw[F] at f;cases f;exact Wi H) (O g f)
  ·rcases M with h|h
   ·exact .inr (.inl h)
   ·exact .inr (.inr ⟨_,h,by omega,.inr (by omega)⟩)
 ·refine⟨d.os,d.tape,d.output,by rw[qe0];have:=d.size;omega,λk B hn=>?_⟩;rw[K.block k (by have:=d.size;omega) (λe=>hn (e▸L.Xu.2.2.1))];exact old k B λe=>hn (L.Xu.2.2.2 s k e.symm)
def DM.bad (D:DM)(s:Int)(x:List UInt8):Bool:=decide (¬(0<=s/\s<(D.n:Int))\/x.length≠256)
def DM.Zk (D:DM)(s:Int)(x:List UInt8):Int:=if D.bad s x then 1 else D.err
def DM.Yz (D:DM)(s:Int)(x:List UInt8):DM:=if D.bad s x then D else if D.stop then D.stepD else { D.stepD with Zp:=upd D.Zp s.toNat (D.Zp s.toNat++[x]) }
def Qb7 (n:Nat)(parts:Array (Nat × Value)):Sem Value:=Instr.buildSlice 104 n parts
theorem qrq (n:Nat)(parts:Array (Nat × Value)):Instr.buildSlice 104 n parts=Qb7 n parts:=rfl
def ldB (p:Value):Sem Value:=Instr.loadAt 164 p
theorem qur (p:Value):Instr.loadAt 164 p=ldB p:=rfl
def apB (d:Array TypeId)(ty:TypeId)(b:Array Value):Sem Value:=Builtin.append_ d ty b
theorem qus (d:Array TypeId)(ty:TypeId)(b:Array Value):Builtin.append_ d ty b=apB d ty b:=rfl
attribute [local go_sem ↓] qrq qur qus
theorem qrr {w:World}{bp:Nat}{S:Nat->Prop}{D:DM}(L0:Y9 w bp S D)(s:Int)(A:Option Addr)(n c:Nat)(x:List UInt8)(h:Sl w A n c x)(X:D.steps<=1000000000)(Q:∀k,(D.Zp k).length<=1000000) :
  Calls Tryz.prog 80 #[.pointer (some ⟨bp,0,none⟩),.int .i64 s,.slice A n c] w λe I=>e=.returned (.int .i64 (D.Zk s x))/\Y9 I bp (λk=>S k\/w.1.size<=k) (D.Yz s x)/\Turn S w I:=by
 obtain⟨bd,bm,l,clock,v,L⟩:=L0;have up:∀{I:World} {l' m v' Z},Lay I bp bd bm l' m v' S Z->Y9 I bp (λk=>S k\/w.1.size<=k) Z:=λL'=>⟨bd,bm,_,_,_,L'.mono λ_ _ h=>.inl h⟩
 have hn:=h.len;have F:∀k,k=bp->S k:=λk e=>e▸L.Xu.1
 by_cases E:0<=s/\s<(D.n:Int)
 ·have u:=qex L s;rw[show decide (0<=s/\s<(D.n:Int))=true by simpa using E] at u;by_cases H:x.length=256
  ·have b:D.bad s x=false:=by simp[DM.bad,E,H]
   unfold DM.Zk DM.Yz;rw[b];simp only[Bool.false_eq_true,if_false];obtain⟨k,rfl⟩:=Int.eq_ofNat_of_zero_le E.1;have T:k<D.n:=by omega
   rw[Int.toNat_natCast];obtain rfl:n=256:=by omega
   obtain⟨g,o,rfl,R,hr⟩:=qjt h (by omega);have O:=L.apart (by omega) hr;have y:=qla L X;unfold DM.err at y ⊢
   cases f:D.stop with
   |true=>
    rw[f] at y;go_enter Tryz.func80,Tryz.ntmps80
    go_wp2_with fail
    refine u.mono ?_;rintro e d ⟨rfl,rfl⟩;go_wp2_with fail
    refine y.mono ?_;rintro e d ⟨rfl,J,B⟩;go_wp2_with fail
    go_ret;exact⟨rfl,up J,B.mono F⟩
   |false=>
    rw[f] at y;go_enter Tryz.func80,Tryz.ntmps80
    go_wp2_with fail
    refine u.mono ?_;rintro e d ⟨rfl,rfl⟩;go_wp2_with fail
    refine y.mono ?_;rintro e d ⟨rfl,J,B⟩;have W:d.drew.rangeAt g o (Yv x):=q5j hr (B.block g R O);have K:=J.drew;have La:Lay (Dv d.drew x) bp bd bm l clock v S D.stepD:=K.keep λk T _=>heap_alloc_old d.drew _ T
    obtain⟨v1,w2,p,U,b1,M,T2,a2⟩:=K.append k T x H (Q k) 104;have G:=Lay.Nk U J.ents k v1;generalize (if Zf (k:Int) l=none then clock+1 else clock)=ck at M T2 G;have c1:=K.c1;have a6:=La.c1;have a7:=M.c1;have b3:=K.lookup k;have a1:=La.lookup k;have b0:(Qb7 1 #[(0,.agg (Yv x).toArray)]).run Tryz.prog d.drew=.ok (.slice (some ⟨d.1.size,0,none⟩) 1 1) (Dv d.drew x):=qey d.drew x H;have a8:=qhb;have b2:(ldB (.pointer (some ⟨g,o,none⟩))).run Tryz.prog d.drew=.ok (.agg (Yv x).toArray) d.drew:=run_loadAt_mid (P:=Tryz.prog) d.drew g o 164 (Yv x) _ W UB rfl (by rw[SBk,Ir,H]);have p:(apB #[104,104] 104 #[v k,.slice (some ⟨d.1.size,0,none⟩) 1 1]).run Tryz.prog (Dv d.drew x)=.ok v1 w2:=p;go_wp2_with fail
    go_region
    all_goals (go_wp2;go_ret;exact⟨rfl,⟨bd,bm,_,_,_,M.mono λz _ Y=>Y.imp id λY=>by have:=B.size;simp at Y;omega⟩,((B.mono F).drew).then T2⟩)
  ·have b:D.bad s x=true:=by simp[DM.bad,H]
   unfold DM.Zk DM.Yz;rw[b];have b4:¬(n:Int)=256:=by omega
   go_enter Tryz.func80,Tryz.ntmps80
   go_wp2_with fail
   refine u.mono ?_;rintro e d ⟨rfl,rfl⟩;go_wp2_with fail
   go_ret;exact⟨rfl,up L,Turn.refl _ _⟩
 ·have u:=qex L s;rw[show decide (0<=s/\s<(D.n:Int))=false by simpa using E] at u;have b:D.bad s x=true:=by simp[DM.bad,E]
  unfold DM.Zk DM.Yz;rw[b];go_enter Tryz.func80,Tryz.ntmps80
  go_wp2_with fail
  refine u.mono ?_;rintro e d ⟨rfl,rfl⟩;go_wp2_with fail
  go_ret;exact⟨rfl,up L,Turn.refl _ _⟩
end
section
open Go.ChangeMaps (setBlock)
def DM.mk0 (n:Nat):DM:=⟨n,λ_=>zeros 256,λ_=>[],false,false,0,0,n⟩
theorem qut (n:Nat){j:Nat}(h:j<n):(Yv (zeros n))[j]?=some (.int .u8 0):=by
 unfold Yv zeros;rw[List.getElem?_map,List.getElem?_replicate,if_pos h];rfl
theorem qx8 (n j:Nat)(h:j<n):(madeCells (Value.agg (Array.replicate 256 (.int .u8 0))).cells n).toList[j]?=some (.int .u8 0):=by
 unfold madeCells;rw[Array.toList_map,List.getElem?_map,Array.toList_range,List.getElem?_range h];show some ((Array.replicate 256 (Value.int .u8 0))[j % (Array.replicate 256 (Value.int .u8 0)).size]!)=_;have b:j % 256<256:=Nat.mod_lt _ (by omega);rw[Array.size_replicate,getElem!_pos _ _ (by rw[Array.size_replicate];exact b),Array.getElem_replicate]
theorem qx9 {E w':World}{bd bm bp n:Nat}(hn:Qb n)(m:E.ownsRow 0 164 256 (.slice (some ⟨bd,0,none⟩) n n) n (madeCells (Value.agg (Array.replicate 256 (.int .u8 0))).cells (n*256)).toList)
  (h1:w'.1[bd]?=E.1[bd]?) (h2:w'.1[bm]?=some (.map #[] 0)) (F:w'.1[bp]?=some (.cells #[.slice (some ⟨bd,0,none⟩) n n,.map (some bm),.bool false,.bool false,.int .i64 0,.int .i64 0] 107 (0,0)))
  (y:bp≠bd) (S:Nat->Prop) (u:S bp/\S bd/\S bm):Lay w' bp bd bm [] 0 (λ_=>.slice none 0 0) S (DM.mk0 n):=by
 have b:w'.ownsRow 0 164 256 (.slice (some ⟨bd,0,none⟩) n n) n (madeCells (Value.agg (Array.replicate 256 (.int .u8 0))).cells (n*256)).toList:=q30 m λg d=>by cases d;exact h1
 have A:∀s,s<n->∀j,j<256->w'.cell? ⟨bd,s*256+j,none⟩=some (.int .u8 0):=λs p j f=>by
  rw[World.ownsRow.cellAt b _ (by omega),qx8 _ _ (by omega)]
 refine⟨F,λs p j v B=>?_,λs p j f=>⟨by rw[A s p j f];rfl,World.ownsRow.frozenAt b _⟩,h2,qsb,λs=>?_,λe G=>(by simp at G),λs=>World.ownsRow_nil _ _ _ _,λ_ _=>rfl,λs=>List.length_replicate,λs=>by simp[Ld,DM.mk0],λ_ _=>rfl,
  ⟨u.1,u.2.1,u.2.2,λs g d=>by cases d⟩,⟨y,λs g d=>by cases d⟩,λs H g d=>(by cases d),hn,by simp[DM.mk0]⟩
 ·have f:j<256:=by
   have h0:=(List.getElem?_eq_some_iff.1 B).1;rw[Ir,show (DM.mk0 n).Jp s=zeros 256 from rfl,show (zeros 256).length=256 from List.length_replicate] at h0;exact h0
  have h0:(Yv (zeros 256))[j]?=some v:=B;rw[qut 256 f] at h0;rw[A s p j f,h0]
 ·simp[DM.mk0,Zf]
theorem qxa (n:Nat)(hn:Qb n)(w:World) :
  Calls Tryz.prog 21 #[.int .i64 n] w λe B=>∃bp,e=.returned (.tuple #[.pointer (some ⟨bp,0,none⟩),.int .i64 0])/\Y9 B bp (λk=>w.1.size<=k) (DM.mk0 n)/\Below w.1.size w B:=by
 obtain⟨i,F,u,y,A⟩:=info_parts TB;have G:=@run_makeMap Tryz.prog;have h1:32<=n:=hn.1;have h2:n<=2048:=hn.2;go_enter Tryz.func21,Tryz.ntmps21
 go_wp2_with (at_make;refine wpList_make_full w (by rfl) _ _ _ (by rfl) 0 164 i _ 256 Tryz.underlying104 F u y .i64 .i64 n n n (by rfl) (by rfl) rfl rfl (by rw[A];omega) (by unfold maxLen;omega) (Nat.zero_le _) ?_)
 intro f d b;go_wp2_with fail
 go_ret2;have p:=b.size;have m:w.1.size<f.1.size:=by
  have h:=World.ownsRow.lt d w.1.size rfl;exact h.2
 have E:Below w.1.size w ((f.alloc (.map #[] 0)).alloc (.cells #[.slice (some ⟨w.1.size,0,none⟩) n n,.map (some f.1.size),.bool false,.bool false,.int .i64 0,.int .i64 0] 107)):=
  (((Below.refl _ _).grown b (Nat.le_refl _) (by simp)).alloc p _).alloc (by simp;omega) _
 refine⟨_,rfl,⟨w.1.size,f.1.size,_,_,_,qx9 hn d ?_ ?_ ?_ (by omega) _ ⟨by omega,by omega,by omega⟩⟩,E⟩
 ·rw[heap_alloc_old _ _ (by simp;omega),heap_alloc_old _ _ m]
 ·rw[heap_alloc_old _ _ (by simp),heap_alloc_new]
 ·have e:f.1.size+1=(f.alloc (.map #[] 0)).1.size:=by simp
  rw[e,heap_alloc_new]
end
theorem q5x (x:Int)(m:Nat)(d:-9223372036854775808<=x/\x<=9223372036854775807)(b:0<m)(y:m<=1000000)(w:World) :
  Calls Tryz.prog 24 #[.int .i64 x,.int .i64 (m:Int)] w λe u=>e=.returned (.int .i64 (md x m:Int))/\w=u:=by
 obtain⟨f,p⟩:=d;go_enter Tryz.func24,Tryz.ntmps24
 have hn:¬((m:Int)=0):=by omega
 by_cases h0:x<0
 ·have hm:=qyg m h0 (by omega);go_wp2;go_ret;exact⟨q9h (by first|exact hm|simp),rfl⟩
 ·have hm:=qyf m (show 0<=x by omega) (by omega);go_wp2;go_ret;exact⟨q9h (by first|exact hm|simp),rfl⟩
def Zd (v:List UInt8):List UInt8:=if v.length=3/\Wh v 0=1 then v.set 0 2 else v
theorem qvk {w:World}{base n c:Nat}{e:TypeId}{A:Option Addr}{l:List UInt8}(h:Own w base e A n c l)(hn:0<n):∃g,A=some ⟨g,0,none⟩/\base<=g/\g<w.1.size:=by
 have u:=h.len;rcases h.2 with⟨b,p⟩|⟨g,cap,d,b,f,m,_⟩
 ·omega
 ·injection b with b;exact⟨g,b,f,(Array.getElem?_eq_some_iff.1 m).1⟩
theorem q4i (v:List UInt8)(A:Option Addr)(n c:Nat)(w:World)(h:Sl w A n c v)(hn:n<=140737488355328) :
  Calls Tryz.prog 29 #[.slice A n c] w λe K=>∃E F,e=.returned (.slice E n F)/\Own K w.1.size 5 E n F (Zd v)/\Below w.1.size w K:=by
 have Q:=h.len;by_cases G:n=3
 ·subst G;by_cases h1:Wh v 0=1
  ·have m:Zd v=v.set 0 2:=by unfold Zd;rw[if_pos ⟨Q,h1⟩]
   go_enter Tryz.func29,Tryz.ntmps29
   go_wp2_with (first
    |(at_builtin;refine q3y _ Gy rfl (.tmp 3) (.tmp 4) rfl w.1.size w.1.size rfl (q2s w 5) A 3 c v rfl (h.alloc _) (by omega) (by simp) ?_;intro u c2 p b f
      obtain⟨g,rfl,P,y⟩:=qvk b (by omega);obtain⟨B,R⟩:=b.at_ 0 (by omega);rw[h1] at B)
    |fail)
   go_ret;have d:Below w.1.size w p:=(Qm).trans (f.mono (by simp));rw[m];exact⟨some ⟨g,0,none⟩,c2,rfl,b.Vr 0 2,d.trans ((Ez (S:=λk=>k=g) (a:=⟨g,0,none⟩) _ rfl).below (λk I=>by have I:k=g:=I;omega) (by omega))⟩
  ·have m:Zd v=v:=by unfold Zd;rw[if_neg (λH=>h1 H.2)]
   obtain⟨x,J⟩:∃x,Wh v 0=x:=⟨_,rfl⟩;rw[J] at h1;have M:¬(x:Int)=1:=by omega
   go_enter Tryz.func29,Tryz.ntmps29
   go_wp2_with (first
    |(at_builtin;refine q3y _ Gy rfl (.tmp 3) (.tmp 4) rfl w.1.size w.1.size rfl (q2s w 5) A 3 c v rfl (h.alloc _) (by omega) (by simp) ?_;intro u c2 p b f
      obtain⟨g,rfl,P,y⟩:=qvk b (by omega);obtain⟨B,R⟩:=b.at_ 0 (by omega);rw[J] at B)
    |fail)
   go_ret;have d:Below w.1.size w p:=(Qm).trans (f.mono (by simp));rw[m];exact⟨some ⟨g,0,none⟩,c2,rfl,b,d⟩
 ·have m:Zd v=v:=by unfold Zd;rw[if_neg (λH=>G (by omega))]
  have O:¬(n:Int)=3:=by omega
  go_enter Tryz.func29,Tryz.ntmps29
  go_wp2_with (first
   |(at_builtin;refine q3y _ Gy rfl (.tmp 3) (.tmp 4) rfl w.1.size w.1.size rfl (q2s w 5) A n c v rfl (h.alloc _) (by omega) (by simp) ?_;intro u c2 p b f)
   |fail)
  go_ret;have d:Below w.1.size w p:=(Qm).trans (f.mono (by simp));rw[m];exact⟨u,c2,rfl,b,d⟩
