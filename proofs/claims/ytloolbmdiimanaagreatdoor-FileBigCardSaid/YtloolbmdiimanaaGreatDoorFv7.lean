/- copy into the call's own row of bytes; summed and noughts of layer 4 -/
import Derived.Test.YtloolbmdiimanaaGreatDoorFv6
import Derived.Laws.CopyOwn
namespace Go.Proofs.YtloolbmdiimanaaGreatDoor
open Go Go.RowKit Go.Proofs Tryz
set_option maxHeartbeats 4000000
set_option maxRecDepth 10000
theorem qd6 {α β:Type}(f:α->β)(L:List α)(o:Nat)(d:List α):splice (L.map f) o (d.map f)=(splice L o d).map f:=by simp[splice]
theorem Own.whole {w:WD}{base n g:Nat}{e:TypeId}{l:LU}(h:Own w base e (some ⟨g,0,none⟩) n n l):base<=g/\w.1[g]?=some (.cells (l.map bv).toArray e (0,0))/\n<=maxLen:=by
 rcases h.2 with⟨f,_⟩|⟨E,cap,m,f,A,B,h1,h2,u,y⟩
 ·injection f with d;cases d
 ·injection f with d D p;injection d with d;injection d with d;subst d;subst p;refine⟨A,?_,h2⟩;rw[<-y,AN (by simp[u])];exact B
theorem Own.of_whole {w:WD}{base n g:Nat}{e:TypeId}{l:LU}(hb:base<=g)(hg:w.1[g]?=some (.cells (l.map bv).toArray e (0,0)))(hl:l.length=n)(hm:n<=maxLen):Own w base e (some ⟨g,0,none⟩) n n l:=
 ⟨by simpa using hl,.inr ⟨g,n,_,rfl,hb,hg,AE _,hm,by simpa using hl,by rw[AN (by simp[hl])]⟩⟩
theorem q4w {P:Program}{t e:TypeId}(T:Uh P t e){w:WD}{E:Array Oper}{y:List Oper}{o:Oper}{a:Act}{Q:Exit->Act->WD->Prop}(I:o.guard=none)(d s:Operand)
  (ho:o.op=.call { callee:=.builtin .copy,args:=#[d,s],argTypes:=#[t,t] })
  (base g n:Nat) (l:LU) (u:Own w base e (some ⟨g,0,none⟩) n n l) (off p A:Nat) (hd:a.eval d=.slice (some ⟨g,off,none⟩) p A)
  (B:OA) (m c:Nat) (O:LU) (hs:a.eval s=.slice B m c) (K:Sl w B m c O) (J:m<=p) (U:off+m<=n)
  (Y:∀F,Own F base e (some ⟨g,0,none⟩) n n (splice l off O)->Below base w F->wpList P E Q y (a.put o.dst (goInt m)) F):wpList P E Q (o::y) a w:=by
 obtain⟨i,hi,a0,M,a1⟩:=info_parts T.info;obtain⟨R,hg,hm⟩:=u.whole;have hl:=u.len;have D:=K.len;refine wpList_copy_splice I d s t t ho e T.sl (by rw[hi];simp[M]) _ _ _ _ _ _ hd hs g off (l.map bv) e hg (O.map bv) (by rw[AF,D];exact (Nat.min_eq_left J).symm) (λh0=>?_) (by simp;omega) (qev _) base w (AI _ _) R ?_
 ·rw[AF] at h0;obtain⟨W,rfl,_⟩:=K.cell (k:=0) (by omega);refine⟨rfl,W,rfl,λj v hv=>?_⟩;obtain⟨X,G,_,Z⟩:=K.2.2.2 j v hv;injection G with G;subst G;exact Z
 ·intro F f H;have f:=f.out;rw[qd6] at f;have:=Y F (Own.of_whole R f (by rw[length_splice _ _ _ (by omega),hl]) hm) H;rw[AF,D];exact this
theorem qiv {P:Program}{t e:TypeId}(T:Uh P t e){w:WD}{R:Array Oper}{o:Oper}{a:Act}{K:Act->WD->Prop}{Q:Exit->Act->WD->Prop}{E:Prop}(H:o.guard=none)(d s:Operand)
  (ho:o.op=.call { callee:=.builtin .copy,args:=#[d,s],argTypes:=#[t,t] })
  (base g n:Nat) (l:LU) (u:Own w base e (some ⟨g,0,none⟩) n n l) (off p y:Nat) (hd:a.eval d=.slice (some ⟨g,off,none⟩) p y)
  (B:OA) (m c:Nat) (O:LU) (hs:a.eval s=.slice B m c) (J:Sl w B m c O) (I:m<=p) (U:off+m<=n)
  (Y:∀D,Own D base e (some ⟨g,0,none⟩) n n (splice l off O)->Below g w D->K (a.put o.dst (goInt m)) D):if Region.wanted o (yielded R a.tmps)=true then Oper.wp P o a w K Q else E:=by
 obtain⟨i,hi,a0,M,a1⟩:=info_parts T.info;obtain⟨Z,hg,hm⟩:=u.whole;have hl:=u.len;have A:=J.len;refine step_copy_splice H d s t t ho e T.sl (by rw[hi];simp[M]) _ _ _ _ _ _ hd hs g off (l.map bv) e hg (O.map bv) (by rw[AF,A];exact (Nat.min_eq_left I).symm) (λh0=>?_) (by simp;omega) (qev _) g w (AI _ _) (AE _) ?_
 ·rw[AF] at h0;obtain⟨W,rfl,_⟩:=J.cell (k:=0) (by omega);refine⟨rfl,W,rfl,λj v hv=>?_⟩;obtain⟨X,F,_,hc⟩:=J.2.2.2 j v hv;injection F with F;subst F;exact hc
 ·intro D f G;have f:=f.out;rw[qd6] at f;have:=Y D (Own.of_whole Z f (by rw[length_splice _ _ _ (by omega),hl]) hm) G;rw[AF,A];exact this
def Uy (l:LU):LU:=Qy (more 0 (l.drop 4):Nat) 4
theorem q86 (A:OA)(n c:Nat)(l:LU)(w:WD)(u:Sl w A n c l)(hn:5<=n)(H:Tab w) :
  Calls prog 64 #[.slice A n c] w λe G=>∃y F B,e=.returned (.slice y F B)/\Own G w.1.size 5 y F B (Uy l)/\Below w.1.size w G:=by
 have K:=u.cap;have hm:=u.max;unfold maxLen at hm;have D:=u.drop (k:=4) (by omega);have m:¬c=4:=by omega
 rw[AB m] at D;have p:=qvu 0 (l.drop 4);generalize E:more 0 (l.drop 4)=s at p;have f:G6 [] (s:Int) 4=Uy l:=by unfold G6 Uy;rw[E];simp
 go_enter func64,ntmps64
 go_wp2_with (first
  |(go_at_call 94;refine (qvw _ (n-4) (c-4) (l.drop 4) _ D H).mono ?_;rw[E];rintro e I ⟨rfl,rfl⟩)
  |(go_at_call 65;refine (q7l none 0 0 [] (s:Int) 4 _ (Ah _) (by omega)).mono ?_;rw[f];rintro e I ⟨J,M,c3,rfl,d,g⟩))
 go_ret;exact⟨_,_,_,rfl,d,g⟩
def Ya (l:LU):Bool:=l.all (·==0)
theorem qb5 (A:OA)(n c:Nat)(l:LU)(w:WD)(f:Sl w A n c l) :
  Calls prog 101 #[.slice A n c] w λe I=>e=.returned (.bool (Ya l))/\w=I:=by
 have M:=f.cap;have hm:=f.max;have D:=f.len;unfold maxLen at hm;go_enter func101,ntmps101
 go_wp2;go_loop [7] (λi=>∃k:Nat,k<=n/\i=.int .i64 (k:Int)/\∀j<k,Yb l j=0) (λi=>n-(intOf i).toNat)
 case atStart=>exact⟨0,AW _,rfl,λj p=>by omega⟩
 case round=>
  obtain⟨k,O,rfl,d⟩:=hrel;by_cases y:k<n
  ·obtain⟨J,rfl,K,m⟩:=f.cell y;have E:=q8c l k;by_cases h0:Yb l k=0
   ·have g:(Yb l k:Int)=0:=by omega
    go_wp2;exact⟨⟨k+1,by omega,by go_num,λj p=>by by_cases u:j=k;(rw[u];exact h0);exact d j (by omega)⟩,by simp[intOf];omega⟩
   ·have g:¬(Yb l k:Int)=0:=by omega
    have B:Ya l=false:=by
     cases G:Ya l
     ·rfl
     ·have:=List.all_eq_true.1 G (l.getD k 0) (by rw[AG,AC (by omega)];simp);simp at this;unfold Yb at h0;rw[AG,this] at h0;exact absurd rfl h0
    go_wp2;go_ret;exact⟨by first|rfl|(rw[B];rfl),rfl⟩
  ·have F:k=n:=by omega
   have B:Ya l=true:=by
    refine List.all_eq_true.2 λx H=>?_
    obtain⟨j,p,rfl⟩:=List.getElem_of_mem H;have:=d j (by omega);unfold Yb at this;rw[AG,AC p] at this;simpa using UInt8.toNat_inj.1 this
   go_wp2;go_ret;exact⟨by first|rfl|(rw[B];rfl),rfl⟩
def Yh (h:Hd)(l:LU):LU:=hdB h++(List.replicate 5 0++(l++List.replicate (236-l.length) 0))
def Zj (h:Hd)(l:LU):LU:=Qy (more 0 (Yh h l):Nat) 4++Yh h l
def Xc (h:Hd)(l:LU):Int:=if h.ok=true then if l.length<=236 then 0 else 7 else 1
def Xi (h:Hd)(l:LU):LU:=if h.ok=true then if l.length<=236 then Zj h l else [] else []
theorem q6b (h:Hd):(hdB h).length=11:=by simp[hdB,Xy]
theorem qrg (h:Hd)(l:LU)(d:l.length<=236):(Yh h l).length=252:=by simp[Yh,q6b];omega
theorem q9f (h:Hd)(l:LU)(d:l.length<=236):(Zj h l).length=256:=by simp[Zj,qrg h l d,Xy]
def zrs (n:Nat):LU:=List.replicate n 0
theorem q77 {P:Program}{t e:TypeId}(w:WD)(T:Uh P t e){f:Array Oper}{d:List Oper}{o:Oper}{a:Act}{Q:Exit->Act->WD->Prop}
  (B:o.guard=none) (l c:Operand) (g:o.op=Op.makeSlice t l c) (p kc:IntKind) (n:Nat) (D:a.eval l=.int p (n:Int)) (A:a.eval c=.int kc (n:Int)) (u:n<=281474976710656)
  (y:∀m,Own m w.1.size e (some ⟨w.1.size,0,none⟩) n n (zrs n)->Below w.1.size w m->wpList P f Q d (a.put o.dst (.slice (some ⟨w.1.size,0,none⟩) n n)) m) :
  wpList P f Q (o::d) a w:=q9k w T B l c g p kc n D A u y
theorem qd7 {α:Type}(X Y Z C:List α)(k:Nat)(d:X.length=k)(h:Y.length=C.length):splice (X++(Y++Z)) k C=X++(C++Z):=by
 subst d;unfold splice;have e:(X++(Y++Z)).drop (X.length+Y.length)=Z:=by rw[<-AM];exact List.drop_left' (by simp)
 rw[List.take_left' rfl,<-h,e]
theorem Qb5 (h:Hd)(l:LU)(g:l.length<=236):splice (splice (zrs 256) 4 (hdB h)) 20 l=List.replicate 4 0++Yh h l:=by
 have e:(zrs 256)=List.replicate 4 0++(List.replicate 11 0++List.replicate 241 0):=by
  unfold zrs;simp only[List.replicate_append_replicate]
 have d:List.replicate 241 (0:UInt8)=List.replicate 5 0++(List.replicate l.length 0++List.replicate (236-l.length) 0):=by
  simp only[List.replicate_append_replicate];congr 1;omega
 rw[e,qd7 _ _ _ _ 4 (by simp) (by simp[q6b]),d];have f:List.replicate 4 (0:UInt8)++(hdB h++(List.replicate 5 0++(List.replicate l.length 0++List.replicate (236-l.length) 0)))=(List.replicate 4 0++(hdB h++List.replicate 5 0))++(List.replicate l.length 0++List.replicate (236-l.length) 0):=by simp
 rw[f,qd7 _ _ _ _ 20 (by simp[q6b]) (by simp)];unfold Yh;simp
theorem Qcw (h:Hd)(l:LU)(d:l.length<=236):splice (splice (splice (zrs 256) 4 (hdB h)) 20 l) 0 (Uy (splice (splice (zrs 256) 4 (hdB h)) 20 l))=Zj h l:=by
 rw[Qb5 h l d];unfold Uy Zj splice;have e:(List.replicate 4 (0:UInt8)++Yh h l).drop 4=Yh h l:=List.drop_left' (by simp);rw[e,Xy];simp
theorem qux (l:LU):(Uy l).length=4:=by simp[Uy,Xy]
theorem Tt (w:WD)(base:Nat)(e:TypeId):Own w base e none 0 0 []:=⟨by simp,.inl ⟨rfl,rfl⟩⟩
theorem q5j (h:Hd)(A:OA)(n c:Nat)(l:LU)(w:WD)(U:Sl w A n c l)(Z:Tab w) :
  Calls prog 37 #[.agg #[.int .i64 h.kind,.int .i64 h.addr,.int .i64 h.count,.int .i64 h.level,.int .i64 h.gen],.slice A n c] w λe p=>
   ∃A' n' c',e=.returned (.tuple #[.slice A' n' c',.int .i64 (Xc h l)])/\Own p w.1.size 5 A' n' c' (Xi h l)/\(Xc h l=0->∃g,A'=some ⟨g,0,none⟩/\n'=256/\c'=256)/\Below w.1.size w p:=by
 have b2:=U.len;have b1:=U.cap;have hm:=U.max;unfold maxLen at hm;by_cases f:h.ok=true
 ·by_cases J:l.length<=236
  ·have P:Xc h l=0:=by unfold Xc;rw[AA f,AA J]
   have M:Xi h l=Zj h l:=by unfold Xi;rw[AA f,AA J]
   rw[P,M];have hn:¬(236:Int)<(n:Int):=by omega
   go_enter func37,ntmps37
   go_wp2_with (first
    |(go_at_call 62;refine (q3q h _).mono ?_;rw[f];rintro e K ⟨rfl,d⟩)
    |(at_make;refine q77 _ Bv rfl _ _ rfl _ _ 256 rfl rfl (by omega) ?_)
    |fail)
   intro u m y;have I:HB u w.1.size h:=(HB.below ⟨_,BE w _⟩ d (by simp)).below y (by have:=d.size;rw[BH] at this;omega);have b0:=d.size;have b5:=y.size;rw[BH] at b0;have F:Below w.1.size w u:=(Ql).trans ((d.mono (by simp)).trans (y.mono (by omega)));have a6:=U.below F;have a8:=Z.below F Z.1;have m:=m.less (show w.1.size<=K.1.size by omega);have L2:=Qb5 h l J;have L3:=Qcw h l J;have hh:=q6b h;have r0:u.cell? ⟨w.1.size,0,none⟩=some (.int .i64 h.kind):=I.at_ 0;have r1:u.cell? ⟨w.1.size,1,none⟩=some (.int .i64 h.addr):=I.at_ 2;have r2:u.cell? ⟨w.1.size,2,none⟩=some (.int .i64 h.count):=I.at_ 3;have r3:u.cell? ⟨w.1.size,3,none⟩=some (.int .i64 h.level):=I.at_ 1;have r4:u.cell? ⟨w.1.size,4,none⟩=some (.int .i64 h.gen):=I.at_ 4;clear d y I;go_wp2_with fail
   have hS:∀p:WD,Below (w.1.size+1) u p->p.cell? ⟨w.1.size,0,none⟩=some (.int .i64 h.kind)/\p.cell? ⟨w.1.size,1,none⟩=some (.int .i64 h.addr)/\p.cell? ⟨w.1.size,2,none⟩=some (.int .i64 h.count)/\
    p.cell? ⟨w.1.size,3,none⟩=some (.int .i64 h.level)/\p.cell? ⟨w.1.size,4,none⟩=some (.int .i64 h.gen)/\Below (w.1.size+1) u p:=λp b=>
    ⟨(b.cell (by show w.1.size<_;omega)).trans r0,(b.cell (by show w.1.size<_;omega)).trans r1,(b.cell (by show w.1.size<_;omega)).trans r2,(b.cell (by show w.1.size<_;omega)).trans r3,(b.cell (by show w.1.size<_;omega)).trans r4,b⟩
   have BD:Below (w.1.size+1) u u.drew:=(AI _ _).drew;go_region_held3 (λp=>p.cell? ⟨w.1.size,0,none⟩=some (.int .i64 h.kind)/\p.cell? ⟨w.1.size,1,none⟩=some (.int .i64 h.addr)/\p.cell? ⟨w.1.size,2,none⟩=some (.int .i64 h.count)/\
    p.cell? ⟨w.1.size,3,none⟩=some (.int .i64 h.level)/\p.cell? ⟨w.1.size,4,none⟩=some (.int .i64 h.gen)/\Below (w.1.size+1) u p)
    (first|assumption|exact hS _ BD|exact hS _ ‹Below (w.1.size+1) u _›)
    (first
     |(go_at_call 63;refine (qn8 h _).mono ?_;rintro e w4 ⟨A4,n4,c4,rfl,W,Q⟩;have b3:=W.len;have a0:Below (w.1.size+1) u w4:=BD.trans (Q.mono (by show _<=u.1.size;omega));have X:=m.drew.below Q)
     |(refine qiv Bv rfl (.tmp 15) (.tmp 17) rfl w.1.size K.1.size 256 (zrs 256) (by assumption) 4 252 252 rfl _ _ _ (hdB h) rfl (by assumption) (by omega) (by omega) ?_;intro w5 Y a3;have a1:Below (w.1.size+1) u w5:=a0.trans (a3.mono (by omega)))
     |fail)
   have O:Below w.1.size w w5:=F.trans (a1.mono (by omega));have a7:=U.below O;clear a6 a8 W X m r0 r1 r2 r3 r4 hS BD;go_wp2_with (first
    |((with_reducible show wpList _ _ _ _ _ _);refine q4w Bv rfl (.tmp 20) (.tmp 21) rfl w.1.size K.1.size 256 _ Y 20 236 236 rfl A n c l rfl a7 (by omega) (by omega) ?_;intro w6 B a4;have G:=O.trans a4;have a9:=Z.below G Z.1)
    |(go_at_call 64;refine (q86 _ 256 256 _ _ B.sl (by omega) a9).mono ?_;rintro e w7 ⟨A7,n7,c7,rfl,D,R⟩;have b4:n7<=4:=(by have h7:=D.len;rw[qux] at h7;omega);have H:=B.below R)
    |((with_reducible show wpList _ _ _ _ _ _);refine q4w Bv rfl (.tmp 23) (.tmp 25) rfl w.1.size K.1.size 256 _ H 0 256 256 rfl A7 n7 c7 _ rfl D.sl (by omega) (by omega) ?_;intro w8 E a5;have a2:=G.trans ((R.mono (Below.size G)).trans a5))
    |fail)
   go_ret2;rw[L3] at E;exact⟨_,_,_,rfl,E,λ_=>⟨_,rfl,rfl,rfl⟩,a2⟩
  ·have P:Xc h l=7:=by unfold Xc;rw[AA f,AB J]
   have M:Xi h l=[]:=by unfold Xi;rw[AA f,AB J]
   rw[P,M];have hn:(236:Int)<(n:Int):=by omega
   go_enter func37,ntmps37
   go_wp2_with (first
    |(go_at_call 62;refine (q3q h _).mono ?_;rw[f];rintro e K ⟨rfl,d⟩))
   go_ret2;exact⟨_,_,_,rfl,Tt _ _ _,λh=>by omega,(Ql).trans (d.mono (by simp))⟩
 ·have T:h.ok=false:=by simpa using f
  have P:Xc h l=1:=by unfold Xc;rw[AB f]
  have M:Xi h l=[]:=by unfold Xi;rw[AB f]
  rw[P,M];go_enter func37,ntmps37
  go_wp2_with (first
   |(go_at_call 62;refine (q3q h _).mono ?_;rw[T];rintro e K ⟨rfl,d⟩))
  go_ret2;exact⟨_,_,_,rfl,Tt _ _ _,λh=>by omega,(Ql).trans (d.mono (by simp))⟩
theorem Ou {g:Func}{p a b:Tmp}{ty:TypeId}{f:Addr}{v:Value}{P:Program}{w:WD}{d:Array Value}(h:g.results=#[.cell p ty,.tmp a,.tmp b])(u:d.getD p undef=.pointer (some f))(m:(loadVar ty f).run P w=.ok v w) :
  (results g d).run P w=.ok (.tuple #[v,d.getD a undef,d.getD b undef]) w:=by
 have e:(results g d).run P w=((asAddr (d.getD p undef)).run P w).andThen λf y=>((loadVar ty f).run P y).andThen λv A=>.ok (.tuple #[v,d.getD a undef,d.getD b undef]) A:=by
  simp only[results,h];simp[Sem.run_bind,Result.andThen]
 rw[e,u];simp[asAddr,m]
theorem q3c {w:WD}{b:Nat}{h:Hd}(d:w.rangeAt b 0 h.vs):(loadVar 94 ⟨b,0,none⟩).run prog w=.ok h.v w:=
 run_loadVar_mid w b 0 94 h.vs _ d underlying94 rfl (by kernel_rfl)
theorem q8q {w:WD}{A:OA}{n c:Nat}{l:LU}(h:Sl w A n c l):(convert 22 9 (.slice A n c)).run prog w=.ok (.string ⟨l.toArray⟩) w:=
 q5v _ _ _ Bv underlying5 underlying9 h
def okB (l:LU):Bool:=decide (l.length=256/\l.take 4=Uy l/\(Gv ((l.drop 4).take 11)).ok=true/\Ya ((l.drop 15).take 5)=true)
def Xo (l:LU):Hd:=if okB l=true then Gv ((l.drop 4).take 11) else Hd.zero
def Un (l:LU):LU:=if okB l=true then l.drop 20 else []
def Ll (l:LU):Int:=if okB l=true then 0 else 3
theorem q5k {e:Array Oper}{d:List Oper}{o:Oper}{a:Act}{w:WD}{Q:Exit->Act->WD->Prop}(m:o.guard=none)(x:Operand)(f:o.op=Op.load 94 x)
  (b:Nat) (p:a.eval x=.pointer (some ⟨b,0,none⟩)) (h:Hd) (H:w.rangeAt b 0 h.vs) (g:wpList prog e Q d (a.put o.dst h.v) w):wpList prog e Q (o::d) a w:=
 wpList_load_mid m _ x f b 0 p h.vs _ H underlying94 rfl (by kernel_rfl) g
theorem q4b {w w':WD}{b:Nat}{vs:LV}(h:w.rangeAt b 0 vs){B:Nat}(e:Below B w w')(d:b<B):w'.rangeAt b 0 vs:=λj v f=>(e.cell (p:=⟨b,0+j,none⟩) d).trans (h j v f)
theorem qxn (n:Nat):(zrs n).length=n:=BK
theorem qn9 (L C:LU)(h:L.length=C.length):splice L 0 C=C:=by
 unfold splice;rw[List.take_zero,BG,List.drop_of_length_le (by omega),BM]
theorem U4 {w d e:WD}{H:Hd}{o:Obj}(p:e.rangeAt d.1.size 0 H.vs)(f:∀B,B<=d.1.size->Below B (d.alloc o) e)(g:HB d w.1.size Hd.zero)(m:Below w.1.size w d)(u:w.1.size<d.1.size) :
  e.rangeAt d.1.size 0 H.vs/\Below w.1.size w e/\HB e w.1.size Hd.zero/\d.1.size<e.1.size:=by
 have h1:Below d.1.size d e:=((AI _ _).alloc (AE _) o).trans (f _ (AE _));have h2:=(f _ (AE _)).size;rw[BH] at h2;exact⟨p,m.trans (h1.mono (by omega)),g.below h1 u,by omega⟩
theorem cuts {w:WD}{d:Addr}{c:Nat}{l:LU}(e:Sl w (some d) 256 c l):Sl w (some (d.add 15)) 5 (c-15) ((l.drop 15).take 5)/\Sl w (some (d.add 20)) 236 (c-20) (l.drop 20):=by
 have f:=e.cap;have h1:=(e.drop (k:=15) (by omega)).take (k:=5) (by omega);have h2:=e.drop (k:=20) (by omega);rw[AB (by omega)] at h1 h2;exact⟨h1,h2⟩
def Tn (A:OA)(n c:Nat)(l:LU)(w:WD):Prop:=
  Calls prog 72 #[.slice A n c] w λe m=>
   ∃d g f,e=.returned (.tuple #[(Xo l).v,.slice d g f,.int .i64 (Ll l)])/\Own m w.1.size 5 d g f (Un l)/\Below w.1.size w m
theorem qh0 {l:LU}(h:okB l=false):Xo l=Hd.zero/\Un l=[]/\Ll l=3:=by
 unfold Xo Un Ll;rw[h];exact⟨rfl,rfl,rfl⟩
theorem q5s {l:LU}(h:okB l=true):Xo l=Gv ((l.drop 4).take 11)/\Un l=l.drop 20/\Ll l=0:=by
 unfold Xo Un Ll;rw[h];exact⟨rfl,rfl,rfl⟩
theorem qxo (ad:Addr)(c:Nat)(l:LU)(w:WD)(hs:Sl w (some ad) 256 c l)(ht:Tab w)(b1:l.take 4=Uy l):Tn (some ad) 256 c l w:=by
 unfold Tn;have a0:=hs.len;have c9:=hs.cap;have hm:=hs.max;unfold maxLen at hm;have HZ:=HB.zero w 94;have I:Below w.1.size w (w.alloc (.cells #[.int .i64 0,.int .i64 0,.int .i64 0,.int .i64 0,.int .i64 0] 94)):=Ql;have b3:w.1.size<(w.alloc (.cells #[.int .i64 0,.int .i64 0,.int .i64 0,.int .i64 0,.int .i64 0] 94)).1.size:=by simp
 obtain⟨H,hH⟩:∃H,Gv ((l.drop 4).take 11)=H:=⟨_,rfl⟩;have a6:=congrArg (λx:LU=>(⟨x.toArray⟩:ByteArray)) b1;obtain⟨S1,hS⟩:∃S1,(⟨(Uy l).toArray⟩:ByteArray)=S1:=⟨_,rfl⟩;have a7:(⟨(l.take 4).toArray⟩:ByteArray)=S1:=a6.trans hS;clear a6;go_enter func72,ntmps72
 go_wp2;generalize (w.alloc (.cells #[.int .i64 0,.int .i64 0,.int .i64 0,.int .i64 0,.int .i64 0] 94))=w1 at HZ I b3 ⊢;have Q:=hs.below I;have b9:=ht.below I ht.1;have k1:=q8q (Q.take (k:=4) (by omega)).drew;rw[a7] at k1;go_region_with (first
  |(go_at_call 64;refine (q86 _ 256 c l _ Q.drew (by omega) b9).mono ?_;rintro e w3 ⟨A3,n3,c3,rfl,a1,a9⟩;have A:Below w1.1.size w1 w3:=Below.trans (AI _ w1).drew a9;have k2:=q8q ((Q.below A).take (k:=4) (by omega));have k3:=q8q a1.sl;rw[a7] at k2;rw[hS] at k3)
  |fail)
 all_goals
  have a2:=HZ.below A b3;have d2:=A.size;have b7:=Q.below A;have D:=I.trans (A.mono I.size);have Y:=(b7.drop (k:=4) (by omega)).take (k:=11) (by omega);rw[AB (show ¬c=4 by omega)] at Y;clear k1 k2 k3 a1 a9 Q HZ
  cases M:H.ok
  ·have a3:okB l=false:=AH (λh=>by have:=h.2.2.1;rw[hH,M] at this;cases this);go_wp2_with (first
    |(go_at_call 100;refine (q4v _ (c-4) _ _ Y).mono ?_;rw[hH];rintro e X ⟨rfl,m⟩;have E:=a2.below m (by omega);have b4:=m.size)
    |(refine Dy rfl (.tmp 5) (.tmp 22) rfl X.1.size rfl H _ rfl (HB.zero X _) (by simp) ?_;intro w6 O J _;obtain⟨f,y,F,U⟩:=U4 O J E (D.trans (m.mono D.size)) (by omega))
    |(refine q5k rfl (.tmp 5) rfl X.1.size rfl H (by first|exact f|assumption) ?_)
    |(go_at_call 62;refine (q3q H _).mono ?_;rw[M];rintro e w7 ⟨rfl,d⟩;have G:=F.below d (by omega);have p:=y.trans (d.mono y.size);have a4:=q4b f d U;have b5:=d.size;have T:=hs.below p;obtain⟨B,R⟩:=cuts T)
    |(refine Dy rfl (.tmp 2) (.tmp 32) rfl w.1.size rfl Hd.zero _ rfl G (by omega) ?_;intro wz P K Tz)
    |fail)
   refine bodyPost_ret (Ou Tryz.results72 rfl (q3c P)) rfl ?_;obtain⟨h1,h2,h3⟩:=qh0 (l:=l) a3;rw[h1,h2,h3];exact⟨_,_,_,rfl,Tt _ _ _,p.trans (K _ (AE _))⟩
  ·cases Z:Ya ((l.drop 15).take 5)
   ·have a3:okB l=false:=AH (λh=>by have:=h.2.2.2;rw[Z] at this;cases this);go_wp2_with (first
     |(go_at_call 100;refine (q4v _ (c-4) _ _ Y).mono ?_;rw[hH];rintro e X ⟨rfl,m⟩;have E:=a2.below m (by omega);have b4:=m.size)
     |(refine Dy rfl (.tmp 5) (.tmp 22) rfl X.1.size rfl H _ rfl (HB.zero X _) (by simp) ?_;intro w6 O J _;obtain⟨f,y,F,U⟩:=U4 O J E (D.trans (m.mono D.size)) (by omega))
     |(refine q5k rfl (.tmp 5) rfl X.1.size rfl H (by first|exact f|assumption) ?_)
     |(go_at_call 62;refine (q3q H _).mono ?_;rw[M];rintro e w7 ⟨rfl,d⟩;have G:=F.below d (by omega);have p:=y.trans (d.mono y.size);have a4:=q4b f d U;have b5:=d.size;have T:=hs.below p;obtain⟨B,R⟩:=cuts T)
     |(go_at_call 101;refine (qb5 _ 5 (c-15) _ w7 B).mono ?_;rw[Z];rintro e w8 ⟨rfl,rfl⟩)
     |(refine Dy rfl (.tmp 2) (.tmp 32) rfl w.1.size rfl Hd.zero _ rfl G (by omega) ?_;intro wz P K Tz)
     |fail)
    refine bodyPost_ret (Ou Tryz.results72 rfl (q3c P)) rfl ?_;obtain⟨h1,h2,h3⟩:=qh0 (l:=l) a3;rw[h1,h2,h3];exact⟨_,_,_,rfl,Tt _ _ _,p.trans (K _ (AE _))⟩
   ·have b2:okB l=true:=AL ⟨a0,b1,by rw[hH];exact M,Z⟩;go_wp2_with (first
     |(go_at_call 100;refine (q4v _ (c-4) _ _ Y).mono ?_;rw[hH];rintro e X ⟨rfl,m⟩;have E:=a2.below m (by omega);have b4:=m.size)
     |(refine Dy rfl (.tmp 5) (.tmp 22) rfl X.1.size rfl H _ rfl (HB.zero X _) (by simp) ?_;intro w6 O J _;obtain⟨f,y,F,U⟩:=U4 O J E (D.trans (m.mono D.size)) (by omega))
     |(refine q5k rfl (.tmp 5) rfl X.1.size rfl H (by first|exact f|assumption) ?_)
     |(go_at_call 62;refine (q3q H _).mono ?_;rw[M];rintro e w7 ⟨rfl,d⟩;have G:=F.below d (by omega);have p:=y.trans (d.mono y.size);have a4:=q4b f d U;have b5:=d.size;have T:=hs.below p;obtain⟨B,R⟩:=cuts T)
     |(go_at_call 101;refine (qb5 _ 5 (c-15) _ w7 B).mono ?_;rw[Z];rintro e w8 ⟨rfl,rfl⟩)
     |(at_make;refine q77 _ Bv rfl _ _ rfl _ _ 236 rfl rfl (by omega) ?_;intro w9 b6 b0;have b8:=Sl.below R b0)
     |((with_reducible show wpList _ _ _ _ _ _);refine q4w Bv rfl (.tmp 34) (.tmp 36) rfl w7.1.size w7.1.size 236 _ b6 0 236 236 rfl _ 236 (c-20) _ rfl b8 (by omega) (by omega) ?_;intro d3 W a8;have u:=b0.trans a8;have a5:=G.below u (by omega);have d0:=q4b a4 u (by omega);have d1:=u.size)
     |(refine Dy rfl (.tmp 2) (.tmp 38) rfl w.1.size rfl H _ rfl a5 (by omega) ?_;intro wz P K Tz)
     |fail)
    refine bodyPost_ret (Ou Tryz.results72 rfl (q3c P)) rfl ?_;obtain⟨h1,h2,h3⟩:=q5s (l:=l) b2;rw[h1,h2,h3,hH];rw[qn9 _ _ (by rw[qxn,AS,a0])] at W;exact⟨_,_,_,rfl,(W.turn λg hg hl=>Tz.block g hl (by show ¬g=w.1.size;omega)).less p.size,p.trans ((u.mono p.size).trans (K _ (AE _)))⟩
