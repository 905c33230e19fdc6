/- copy into the call's own row of bytes; summed and noughts of layer 4 -/
import Derived.Test.YtnnbaihfboacoaaGreatDoorEr5
import Derived.Laws.CopyOwn
namespace Go.Proofs.YtnnbaihfboacoaaGreatDoor
open Go Go.RowKit Go.Proofs
set_option maxHeartbeats 4000000
set_option maxRecDepth 10000
theorem qd6 {α β:Type}(f:α->β)(L:List α)(o:Nat)(b:List α):splice (L.map f) o (b.map f)=(splice L o b).map f:=by simp[splice]
theorem Own.whole {w:World}{base n g:Nat}{e:TypeId}{l:List UInt8}(h:Own w base e (some ⟨g,0,none⟩) n n l):base<=g/\w.1[g]?=some (.cells (l.map bv).toArray e (0,0))/\n<=maxLen:=by
 rcases h.2 with⟨d,_⟩|⟨D,cap,f,d,y,A,h1,h2,p,u⟩
 ·injection d with b;cases b
 ·injection d with b B m;injection b with b;injection b with b;subst b;subst m;refine⟨y,?_,h2⟩;rw[<-u,List.take_of_length_le (by simp[p])];exact A
theorem Own.of_whole {w:World}{base n g:Nat}{e:TypeId}{l:List UInt8}(hb:base<=g)(hg:w.1[g]?=some (.cells (l.map bv).toArray e (0,0)))(hl:l.length=n)(hm:n<=maxLen):Own w base e (some ⟨g,0,none⟩) n n l:=
 ⟨by simpa using hl,.inr ⟨g,n,_,rfl,hb,hg,Nat.le_refl _,hm,by simpa using hl,by rw[List.take_of_length_le (by simp[hl])]⟩⟩
theorem qb6 {P:Program}{t e:TypeId}(T:Y0 P t e){w:World}{D:Array Oper}{u:List Oper}{o:Oper}{a:Act}{Q:Exit->Act->World->Prop}(H:o.guard=none)(d s:Operand)
  (ho:o.op=.call { callee:=.builtin .copy,args:=#[d,s],argTypes:=#[t,t] })
  (base g n:Nat) (l:List UInt8) (p:Own w base e (some ⟨g,0,none⟩) n n l) (off f y:Nat) (hd:a.eval d=.slice (some ⟨g,off,none⟩) f y)
  (B:Option Addr) (m c:Nat) (M:List UInt8) (hs:a.eval s=.slice B m c) (J:Sl w B m c M) (I:m<=f) (R:off+m<=n)
  (X:∀E,Own E base e (some ⟨g,0,none⟩) n n (splice l off M)->Below base w E->wpList P D Q u (a.put o.dst (goInt m)) E):wpList P D Q (o::u) a w:=by
 obtain⟨i,hi,a1,K,a2⟩:=info_parts T.info;obtain⟨O,Z,hm⟩:=p.whole;have hl:=p.len;have A:=J.len;refine wpList_copy_splice H d s t t ho e T.sl (by rw[hi];simp[K]) _ _ _ _ _ _ hd hs g off (l.map bv) e Z (M.map bv) (by rw[List.length_map,A];exact (Nat.min_eq_left I).symm) (λh0=>?_) (by simp;omega) (qf0 _) base w (Below.refl _ _) O ?_
 ·rw[List.length_map] at h0;obtain⟨U,rfl,_⟩:=J.cell (k:=0) (by omega);refine⟨rfl,U,rfl,λj v hv=>?_⟩;obtain⟨W,F,_,Y⟩:=J.2.2.2 j v hv;injection F with F;subst F;exact Y
 ·intro E b G;have b:=b.out;rw[qd6] at b;have:=X E (Own.of_whole O b (by rw[length_splice _ _ _ (by omega),hl]) hm) G;rw[List.length_map,A];exact this
theorem qij {P:Program}{t e:TypeId}(T:Y0 P t e){w:World}{O:Array Oper}{o:Oper}{a:Act}{K:Act->World->Prop}{Q:Exit->Act->World->Prop}{E:Prop}(G:o.guard=none)(d s:Operand)
  (ho:o.op=.call { callee:=.builtin .copy,args:=#[d,s],argTypes:=#[t,t] })
  (base g n:Nat) (l:List UInt8) (p:Own w base e (some ⟨g,0,none⟩) n n l) (off f u:Nat) (hd:a.eval d=.slice (some ⟨g,off,none⟩) f u)
  (B:Option Addr) (m c:Nat) (M:List UInt8) (hs:a.eval s=.slice B m c) (I:Sl w B m c M) (H:m<=f) (R:off+m<=n)
  (X:∀A,Own A base e (some ⟨g,0,none⟩) n n (splice l off M)->Below g w A->K (a.put o.dst (goInt m)) A):if Region.wanted o (yielded O a.tmps)=true then Oper.wp P o a w K Q else E:=by
 obtain⟨i,hi,a1,J,a2⟩:=info_parts T.info;obtain⟨Y,hg,hm⟩:=p.whole;have hl:=p.len;have y:=I.len;refine step_copy_splice G d s t t ho e T.sl (by rw[hi];simp[J]) _ _ _ _ _ _ hd hs g off (l.map bv) e hg (M.map bv) (by rw[List.length_map,y];exact (Nat.min_eq_left H).symm) (λh0=>?_) (by simp;omega) (qf0 _) g w (Below.refl _ _) (Nat.le_refl _) ?_
 ·rw[List.length_map] at h0;obtain⟨U,rfl,_⟩:=I.cell (k:=0) (by omega);refine⟨rfl,U,rfl,λj v hv=>?_⟩;obtain⟨W,D,_,Z⟩:=I.2.2.2 j v hv;injection D with D;subst D;exact Z
 ·intro A b F;have b:=b.out;rw[qd6] at b;have:=X A (Own.of_whole Y b (by rw[length_splice _ _ _ (by omega),hl]) hm) F;rw[List.length_map,y];exact this
def Ut (l:List UInt8):List UInt8:=Zc (more 0 (l.drop 4):Nat) 4
theorem q87 (A:Option Addr)(n c:Nat)(l:List UInt8)(w:World)(u:Sl w A n c l)(hn:5<=n)(H:Tab w) :
  Calls Tryz.prog 125 #[.slice A n c] w λe G=>∃y F B,e=.returned (.slice y F B)/\Own G w.1.size 5 y F B (Ut l)/\Below w.1.size w G:=by
 have K:=u.cap;have hm:=u.max;unfold maxLen at hm;have D:=u.drop (k:=4) (by omega);have m:¬c=4:=by omega
 rw[if_neg m] at D;have p:=qvn 0 (l.drop 4);generalize E:more 0 (l.drop 4)=s at p;have d:Ce [] (s:Int) 4=Ut l:=by unfold Ce Ut;rw[E];simp
 go_enter Tryz.func125,Tryz.ntmps125
 go_wp2_with (first
  |(go_at_call 157;refine (qvp _ (n-4) (c-4) (l.drop 4) _ D H).mono ?_;rw[E];rintro e I ⟨rfl,rfl⟩)
  |(go_at_call 126;refine (q9l none 0 0 [] (s:Int) 4 _ (q24 _) (by omega)).mono ?_;rw[d];rintro e I ⟨J,M,c3,rfl,b,f⟩))
 go_ret;exact⟨_,_,_,rfl,b,f⟩
def Y3 (l:List UInt8):Bool:=l.all (·==0)
theorem qb7 (A:Option Addr)(n c:Nat)(l:List UInt8)(w:World)(d:Sl w A n c l) :
  Calls Tryz.prog 134 #[.slice A n c] w λe I=>e=.returned (.bool (Y3 l))/\w=I:=by
 have M:=d.cap;have hm:=d.max;have D:=d.len;unfold maxLen at hm;go_enter Tryz.func134,Tryz.ntmps134
 go_wp2;go_loop [7] (λi=>∃k:Nat,k<=n/\i=.int .i64 (k:Int)/\∀j<k,Wh l j=0) (λi=>n-(intOf i).toNat)
 case atStart=>exact⟨0,Nat.zero_le _,rfl,λj p=>by omega⟩
 case round=>
  obtain⟨k,O,rfl,b⟩:=hrel;by_cases y:k<n
  ·obtain⟨J,rfl,K,m⟩:=d.cell y;have E:=q9i l k;by_cases h0:Wh l k=0
   ·have f:(Wh l k:Int)=0:=by omega
    go_wp2;exact⟨⟨k+1,by omega,by go_num,λj p=>by by_cases u:j=k;(rw[u];exact h0);exact b j (by omega)⟩,by simp[intOf];omega⟩
   ·have f:¬(Wh l k:Int)=0:=by omega
    have B:Y3 l=false:=by
     cases G:Y3 l
     ·rfl
     ·have:=List.all_eq_true.1 G (l.getD k 0) (by rw[List.getD_eq_getElem?_getD,List.getElem?_eq_getElem (by omega)];simp);simp at this;unfold Wh at h0;rw[List.getD_eq_getElem?_getD,this] at h0;exact absurd rfl h0
    go_wp2;go_ret;exact⟨by first|rfl|(rw[B];rfl),rfl⟩
  ·have F:k=n:=by omega
   have B:Y3 l=true:=by
    refine List.all_eq_true.2 λx H=>?_
    obtain⟨j,p,rfl⟩:=List.getElem_of_mem H;have:=b j (by omega);unfold Wh at this;rw[List.getD_eq_getElem?_getD,List.getElem?_eq_getElem p] at this;simpa using UInt8.toNat_inj.1 this
   go_wp2;go_ret;exact⟨by first|rfl|(rw[B];rfl),rfl⟩
def Yn (h:Hd)(l:List UInt8):List UInt8:=hdB h++(List.replicate 5 0++(l++List.replicate (236-l.length) 0))
def Zr (h:Hd)(l:List UInt8):List UInt8:=Zc (more 0 (Yn h l):Nat) 4++Yn h l
def Xi (h:Hd)(l:List UInt8):Int:=if h.ok=true then if l.length<=236 then 0 else 7 else 1
def Xo (h:Hd)(l:List UInt8):List UInt8:=if h.ok=true then if l.length<=236 then Zr h l else [] else []
theorem q6c (h:Hd):(hdB h).length=11:=by simp[hdB,Yl]
theorem qrb (h:Hd)(l:List UInt8)(b:l.length<=236):(Yn h l).length=252:=by simp[Yn,q6c];omega
theorem q76 (h:Hd)(l:List UInt8)(b:l.length<=236):(Zr h l).length=256:=by simp[Zr,qrb h l b,Yl]
def zrs (n:Nat):List UInt8:=List.replicate n 0
theorem q77 {P:Program}{t e:TypeId}(w:World)(T:Y0 P t e){d:Array Oper}{b:List Oper}{o:Oper}{a:Act}{Q:Exit->Act->World->Prop}
  (B:o.guard=none) (l c:Operand) (f:o.op=Op.makeSlice t l c) (p kc:IntKind) (n:Nat) (D:a.eval l=.int p (n:Int)) (A:a.eval c=.int kc (n:Int)) (u:n<=281474976710656)
  (y:∀m,Own m w.1.size e (some ⟨w.1.size,0,none⟩) n n (zrs n)->Below w.1.size w m->wpList P d Q b (a.put o.dst (.slice (some ⟨w.1.size,0,none⟩) n n)) m) :
  wpList P d Q (o::b) a w:=qf1 w T B l c f p kc n D A u y
theorem qd7 {α:Type}(X Y Z C:List α)(k:Nat)(b:X.length=k)(h:Y.length=C.length):splice (X++(Y++Z)) k C=X++(C++Z):=by
 subst b;unfold splice;have e:(X++(Y++Z)).drop (X.length+Y.length)=Z:=by rw[<-List.append_assoc];exact List.drop_left' (by simp)
 rw[List.take_left' rfl,<-h,e]
theorem Qb6 (h:Hd)(l:List UInt8)(f:l.length<=236):splice (splice (zrs 256) 4 (hdB h)) 20 l=List.replicate 4 0++Yn h l:=by
 have e:(zrs 256)=List.replicate 4 0++(List.replicate 11 0++List.replicate 241 0):=by
  unfold zrs;simp only[List.replicate_append_replicate]
 have b:List.replicate 241 (0:UInt8)=List.replicate 5 0++(List.replicate l.length 0++List.replicate (236-l.length) 0):=by
  simp only[List.replicate_append_replicate];congr 1;omega
 rw[e,qd7 _ _ _ _ 4 (by simp) (by simp[q6c]),b];have d:List.replicate 4 (0:UInt8)++(hdB h++(List.replicate 5 0++(List.replicate l.length 0++List.replicate (236-l.length) 0)))=(List.replicate 4 0++(hdB h++List.replicate 5 0))++(List.replicate l.length 0++List.replicate (236-l.length) 0):=by simp
 rw[d,qd7 _ _ _ _ 20 (by simp[q6c]) (by simp)];unfold Yn;simp
theorem Qcp (h:Hd)(l:List UInt8)(b:l.length<=236):splice (splice (splice (zrs 256) 4 (hdB h)) 20 l) 0 (Ut (splice (splice (zrs 256) 4 (hdB h)) 20 l))=Zr h l:=by
 rw[Qb6 h l b];unfold Ut Zr splice;have e:(List.replicate 4 (0:UInt8)++Yn h l).drop 4=Yn h l:=List.drop_left' (by simp);rw[e,Yl];simp
theorem qug (l:List UInt8):(Ut l).length=4:=by simp[Ut,Yl]
theorem q55 (w:World)(base:Nat)(e:TypeId):Own w base e none 0 0 []:=⟨by simp,.inl ⟨rfl,rfl⟩⟩
theorem q5u (h:Hd)(A:Option Addr)(n c:Nat)(l:List UInt8)(w:World)(U:Sl w A n c l)(Z:Tab w) :
  Calls Tryz.prog 84 #[.agg #[.int .i64 h.kind,.int .i64 h.addr,.int .i64 h.count,.int .i64 h.level,.int .i64 h.gen],.slice A n c] w λe p=>
   ∃A' n' c',e=.returned (.tuple #[.slice A' n' c',.int .i64 (Xi h l)])/\Own p w.1.size 5 A' n' c' (Xo h l)/\(Xi h l=0->∃g,A'=some ⟨g,0,none⟩/\n'=256/\c'=256)/\Below w.1.size w p:=by
 have b7:=U.len;have b6:=U.cap;have hm:=U.max;unfold maxLen at hm;by_cases f:h.ok=true
 ·by_cases J:l.length<=236
  ·have P:Xi h l=0:=by unfold Xi;rw[if_pos f,if_pos J]
   have M:Xo h l=Zr h l:=by unfold Xo;rw[if_pos f,if_pos J]
   rw[P,M];have hn:¬(236:Int)<(n:Int):=by omega
   go_enter Tryz.func84,Tryz.ntmps84
   go_wp2_with (first
    |(go_at_call 123;refine (q3u h _).mono ?_;rw[f];rintro e K ⟨rfl,d⟩)
    |(at_make;refine q77 _ Gy rfl _ _ rfl _ _ 256 rfl rfl (by omega) ?_)
    |fail)
   intro u m y;have I:HB u w.1.size h:=(HB.below ⟨_,heap_alloc_new w _⟩ d (by simp)).below y (by have:=d.size;rw[World.size_alloc] at this;omega);have b5:=d.size;have c6:=y.size;rw[World.size_alloc] at b5;have F:Below w.1.size w u:=(Qm).trans ((d.mono (by simp)).trans (y.mono (by omega)));have b1:=U.below F;have b3:=Z.below F Z.1;have m:=m.less (show w.1.size<=K.1.size by omega);have L2:=Qb6 h l J;have L3:=Qcp h l J;have hh:=q6c h;have r0:u.cell? ⟨w.1.size,0,none⟩=some (.int .i64 h.kind):=I.at_ 0;have r1:u.cell? ⟨w.1.size,1,none⟩=some (.int .i64 h.addr):=I.at_ 2;have r2:u.cell? ⟨w.1.size,2,none⟩=some (.int .i64 h.count):=I.at_ 3;have r3:u.cell? ⟨w.1.size,3,none⟩=some (.int .i64 h.level):=I.at_ 1;have r4:u.cell? ⟨w.1.size,4,none⟩=some (.int .i64 h.gen):=I.at_ 4;clear d y I;go_wp2_with fail
   have hS:∀p:World,Below (w.1.size+1) u p->p.cell? ⟨w.1.size,0,none⟩=some (.int .i64 h.kind)/\p.cell? ⟨w.1.size,1,none⟩=some (.int .i64 h.addr)/\p.cell? ⟨w.1.size,2,none⟩=some (.int .i64 h.count)/\
    p.cell? ⟨w.1.size,3,none⟩=some (.int .i64 h.level)/\p.cell? ⟨w.1.size,4,none⟩=some (.int .i64 h.gen)/\Below (w.1.size+1) u p:=λp b=>
    ⟨(b.cell (by show w.1.size<_;omega)).trans r0,(b.cell (by show w.1.size<_;omega)).trans r1,(b.cell (by show w.1.size<_;omega)).trans r2,(b.cell (by show w.1.size<_;omega)).trans r3,(b.cell (by show w.1.size<_;omega)).trans r4,b⟩
   have BD:Below (w.1.size+1) u u.drew:=(Below.refl _ _).drew;go_region_held3 (λp=>p.cell? ⟨w.1.size,0,none⟩=some (.int .i64 h.kind)/\p.cell? ⟨w.1.size,1,none⟩=some (.int .i64 h.addr)/\p.cell? ⟨w.1.size,2,none⟩=some (.int .i64 h.count)/\
    p.cell? ⟨w.1.size,3,none⟩=some (.int .i64 h.level)/\p.cell? ⟨w.1.size,4,none⟩=some (.int .i64 h.gen)/\Below (w.1.size+1) u p)
    (first|assumption|exact hS _ BD|exact hS _ ‹Below (w.1.size+1) u _›)
    (first
     |(go_at_call 124;refine (qmz h _).mono ?_;rintro e w4 ⟨A4,n4,c4,rfl,W,Q⟩;have b8:=W.len;have a1:Below (w.1.size+1) u w4:=BD.trans (Q.mono (by show _<=u.1.size;omega));have X:=m.drew.below Q)
     |(refine qij Gy rfl (.tmp 15) (.tmp 17) rfl w.1.size K.1.size 256 (zrs 256) (by assumption) 4 252 252 rfl _ _ _ (hdB h) rfl (by assumption) (by omega) (by omega) ?_;intro w5 Y a7;have a2:Below (w.1.size+1) u w5:=a1.trans (a7.mono (by omega)))
     |fail)
   have O:Below w.1.size w w5:=F.trans (a2.mono (by omega));have b2:=U.below O;clear b1 b3 W X m r0 r1 r2 r3 r4 hS BD;go_wp2_with (first
    |((with_reducible show wpList _ _ _ _ _ _);refine qb6 Gy rfl (.tmp 20) (.tmp 21) rfl w.1.size K.1.size 256 _ Y 20 236 236 rfl A n c l rfl b2 (by omega) (by omega) ?_;intro w6 B a8;have G:=O.trans a8;have b4:=Z.below G Z.1)
    |(go_at_call 125;refine (q87 _ 256 256 _ _ B.sl (by omega) b4).mono ?_;rintro e w7 ⟨A7,n7,c7,rfl,D,R⟩;have b9:n7<=4:=(by have h7:=D.len;rw[qug] at h7;omega);have H:=B.below R)
    |((with_reducible show wpList _ _ _ _ _ _);refine qb6 Gy rfl (.tmp 23) (.tmp 25) rfl w.1.size K.1.size 256 _ H 0 256 256 rfl A7 n7 c7 _ rfl D.sl (by omega) (by omega) ?_;intro w8 E b0;have a6:=G.trans ((R.mono (Below.size G)).trans b0))
    |fail)
   go_ret2;rw[L3] at E;exact⟨_,_,_,rfl,E,λ_=>⟨_,rfl,rfl,rfl⟩,a6⟩
  ·have P:Xi h l=7:=by unfold Xi;rw[if_pos f,if_neg J]
   have M:Xo h l=[]:=by unfold Xo;rw[if_pos f,if_neg J]
   rw[P,M];have hn:(236:Int)<(n:Int):=by omega
   go_enter Tryz.func84,Tryz.ntmps84
   go_wp2_with (first
    |(go_at_call 123;refine (q3u h _).mono ?_;rw[f];rintro e K ⟨rfl,d⟩))
   go_ret2;exact⟨_,_,_,rfl,q55 _ _ _,λh=>by omega,(Qm).trans (d.mono (by simp))⟩
 ·have T:h.ok=false:=by simpa using f
  have P:Xi h l=1:=by unfold Xi;rw[if_neg f]
  have M:Xo h l=[]:=by unfold Xo;rw[if_neg f]
  rw[P,M];go_enter Tryz.func84,Tryz.ntmps84
  go_wp2_with (first
   |(go_at_call 123;refine (q3u h _).mono ?_;rw[T];rintro e K ⟨rfl,d⟩))
  go_ret2;exact⟨_,_,_,rfl,q55 _ _ _,λh=>by omega,(Qm).trans (d.mono (by simp))⟩
theorem q0u {m:Func}{p a b:Tmp}{ty:TypeId}{f:Addr}{v:Value}{P:Program}{w:World}{d:Array Value}(h:m.results=#[.cell p ty,.tmp a,.tmp b])(y:d.getD p undef=.pointer (some f))(u:(loadVar ty f).run P w=.ok v w) :
  (results m d).run P w=.ok (.tuple #[v,d.getD a undef,d.getD b undef]) w:=by
 have e:(results m d).run P w=((asAddr (d.getD p undef)).run P w).andThen λf A=>((loadVar ty f).run P A).andThen λv B=>.ok (.tuple #[v,d.getD a undef,d.getD b undef]) B:=by
  simp only[results,h];simp[Sem.run_bind,Result.andThen]
 rw[e,y];simp[asAddr,u]
theorem q88 {w:World}{b:Nat}{h:Hd}(d:w.rangeAt b 0 h.vs):(loadVar 150 ⟨b,0,none⟩).run Tryz.prog w=.ok h.v w:=
 run_loadVar_mid w b 0 150 h.vs _ d Tryz.underlying150 rfl (by kernel_rfl)
theorem Pg {w:World}{A:Option Addr}{n c:Nat}{l:List UInt8}(h:Sl w A n c l):(convert 31 9 (.slice A n c)).run Tryz.prog w=.ok (.string ⟨l.toArray⟩) w:=
 q64 _ _ _ Gy Tryz.underlying5 Tryz.underlying9 h
def okB (l:List UInt8):Bool:=decide (l.length=256/\l.take 4=Ut l/\(G6 ((l.drop 4).take 11)).ok=true/\Y3 ((l.drop 15).take 5)=true)
def Yq (l:List UInt8):Hd:=if okB l=true then G6 ((l.drop 4).take 11) else Hd.zero
def Un (l:List UInt8):List UInt8:=if okB l=true then l.drop 20 else []
def Na (l:List UInt8):Int:=if okB l=true then 0 else 3
theorem q89 {e:Array Oper}{d:List Oper}{o:Oper}{a:Act}{w:World}{Q:Exit->Act->World->Prop}(p:o.guard=none)(x:Operand)(f:o.op=Op.load 150 x)
  (b:Nat) (u:a.eval x=.pointer (some ⟨b,0,none⟩)) (h:Hd) (H:w.rangeAt b 0 h.vs) (m:wpList Tryz.prog e Q d (a.put o.dst h.v) w):wpList Tryz.prog e Q (o::d) a w:=
 wpList_load_mid p _ x f b 0 u h.vs _ H Tryz.underlying150 rfl (by kernel_rfl) m
theorem q4d {w w':World}{b:Nat}{vs:List Value}(h:w.rangeAt b 0 vs){B:Nat}(e:Below B w w')(d:b<B):w'.rangeAt b 0 vs:=λj v f=>(e.cell (p:=⟨b,0+j,none⟩) d).trans (h j v f)
theorem qwy (n:Nat):(zrs n).length=n:=List.length_replicate
theorem qn0 (L C:List UInt8)(h:L.length=C.length):splice L 0 C=C:=by
 unfold splice;rw[List.take_zero,List.nil_append,List.drop_of_length_le (by omega),List.append_nil]
theorem Lp {w b d:World}{H:Hd}{o:Obj}(p:d.rangeAt b.1.size 0 H.vs)(e:∀B,B<=b.1.size->Below B (b.alloc o) d)(f:HB b w.1.size Hd.zero)(m:Below w.1.size w b)(u:w.1.size<b.1.size) :
  d.rangeAt b.1.size 0 H.vs/\Below w.1.size w d/\HB d w.1.size Hd.zero/\b.1.size<d.1.size:=by
 have h1:Below b.1.size b d:=((Below.refl _ _).alloc (Nat.le_refl _) o).trans (e _ (Nat.le_refl _));have h2:=(e _ (Nat.le_refl _)).size;rw[World.size_alloc] at h2;exact⟨p,m.trans (h1.mono (by omega)),f.below h1 u,by omega⟩
theorem cuts {w:World}{b:Addr}{c:Nat}{l:List UInt8}(d:Sl w (some b) 256 c l):Sl w (some (b.add 15)) 5 (c-15) ((l.drop 15).take 5)/\Sl w (some (b.add 20)) 236 (c-20) (l.drop 20):=by
 have e:=d.cap;have h1:=(d.drop (k:=15) (by omega)).take (k:=5) (by omega);have h2:=d.drop (k:=20) (by omega);rw[if_neg (by omega)] at h1 h2;exact⟨h1,h2⟩
def q21 (A:Option Addr)(n c:Nat)(l:List UInt8)(w:World):Prop:=
  Calls Tryz.prog 97 #[.slice A n c] w λe m=>
   ∃b f d,e=.returned (.tuple #[(Yq l).v,.slice b f d,.int .i64 (Na l)])/\Own m w.1.size 5 b f d (Un l)/\Below w.1.size w m
theorem qik {l:List UInt8}(h:okB l=false):Yq l=Hd.zero/\Un l=[]/\Na l=3:=by
 unfold Yq Un Na;rw[h];exact⟨rfl,rfl,rfl⟩
theorem q78 {l:List UInt8}(h:okB l=true):Yq l=G6 ((l.drop 4).take 11)/\Un l=l.drop 20/\Na l=0:=by
 unfold Yq Un Na;rw[h];exact⟨rfl,rfl,rfl⟩
theorem qwz (ad:Addr)(c:Nat)(l:List UInt8)(w:World)(hs:Sl w (some ad) 256 c l)(ht:Tab w)(b5:l.take 4=Ut l):q21 (some ad) 256 c l w:=by
 unfold q21;have Z:=hs.len;have d0:=hs.cap;have hm:=hs.max;unfold maxLen at hm;have HZ:=HB.zero w 150;have G:Below w.1.size w (w.alloc (.cells #[.int .i64 0,.int .i64 0,.int .i64 0,.int .i64 0,.int .i64 0] 150)):=Qm;have b7:w.1.size<(w.alloc (.cells #[.int .i64 0,.int .i64 0,.int .i64 0,.int .i64 0,.int .i64 0] 150)).1.size:=by simp
 obtain⟨H,hH⟩:∃H,G6 ((l.drop 4).take 11)=H:=⟨_,rfl⟩;have b0:=congrArg (λx:List UInt8=>(⟨x.toArray⟩:ByteArray)) b5;obtain⟨S1,hS⟩:∃S1,(⟨(Ut l).toArray⟩:ByteArray)=S1:=⟨_,rfl⟩;have b1:(⟨(l.take 4).toArray⟩:ByteArray)=S1:=b0.trans hS;clear b0;go_enter Tryz.func97,Tryz.ntmps97
 go_wp2;generalize (w.alloc (.cells #[.int .i64 0,.int .i64 0,.int .i64 0,.int .i64 0,.int .i64 0] 150))=w1 at HZ G b7 ⊢;have P:=hs.below G;have c9:=ht.below G ht.1;have k1:=Pg (P.take (k:=4) (by omega)).drew;rw[b1] at k1;go_region_with (first
  |(go_at_call 125;refine (q87 _ 256 c l _ P.drew (by omega) c9).mono ?_;rintro e w3 ⟨A3,n3,c3,rfl,a1,b3⟩;have y:Below w1.1.size w1 w3:=Below.trans (Below.refl _ w1).drew b3;have k2:=Pg ((P.below y).take (k:=4) (by omega));have k3:=Pg a1.sl;rw[b1] at k2;rw[hS] at k3)
  |fail)
 all_goals
  have a2:=HZ.below y b7;have d3:=y.size;have c7:=P.below y;have B:=G.trans (y.mono G.size);have X:=(c7.drop (k:=4) (by omega)).take (k:=11) (by omega);rw[if_neg (show ¬c=4 by omega)] at X;clear k1 k2 k3 a1 b3 P HZ
  cases K:H.ok
  ·have a6:okB l=false:=decide_eq_false (λh=>by have:=h.2.2.1;rw[hH,K] at this;cases this);go_wp2_with (first
    |(go_at_call 133;refine (q54 _ (c-4) _ _ X).mono ?_;rw[hH];rintro e W ⟨rfl,f⟩;have D:=a2.below f (by omega);have b8:=f.size)
    |(refine Pz rfl (.tmp 5) (.tmp 22) rfl W.1.size rfl H _ rfl (HB.zero W _) (by simp) ?_;intro w6 M I _;obtain⟨d,u,E,T⟩:=Lp M I D (B.trans (f.mono B.size)) (by omega))
    |(refine q89 rfl (.tmp 5) rfl W.1.size rfl H (by first|exact d|assumption) ?_)
    |(go_at_call 123;refine (q3u H _).mono ?_;rw[K];rintro e w7 ⟨rfl,b⟩;have F:=E.below b (by omega);have m:=u.trans (b.mono u.size);have a7:=q4d d b T;have b9:=b.size;have R:=hs.below m;obtain⟨A,Q⟩:=cuts R)
    |(refine Pz rfl (.tmp 2) (.tmp 32) rfl w.1.size rfl Hd.zero _ rfl F (by omega) ?_;intro wz O J Tz)
    |fail)
   refine bodyPost_ret (q0u Tryz.results97 rfl (q88 O)) rfl ?_;obtain⟨h1,h2,h3⟩:=qik (l:=l) a6;rw[h1,h2,h3];exact⟨_,_,_,rfl,q55 _ _ _,m.trans (J _ (Nat.le_refl _))⟩
  ·cases Y:Y3 ((l.drop 15).take 5)
   ·have a6:okB l=false:=decide_eq_false (λh=>by have:=h.2.2.2;rw[Y] at this;cases this);go_wp2_with (first
     |(go_at_call 133;refine (q54 _ (c-4) _ _ X).mono ?_;rw[hH];rintro e W ⟨rfl,f⟩;have D:=a2.below f (by omega);have b8:=f.size)
     |(refine Pz rfl (.tmp 5) (.tmp 22) rfl W.1.size rfl H _ rfl (HB.zero W _) (by simp) ?_;intro w6 M I _;obtain⟨d,u,E,T⟩:=Lp M I D (B.trans (f.mono B.size)) (by omega))
     |(refine q89 rfl (.tmp 5) rfl W.1.size rfl H (by first|exact d|assumption) ?_)
     |(go_at_call 123;refine (q3u H _).mono ?_;rw[K];rintro e w7 ⟨rfl,b⟩;have F:=E.below b (by omega);have m:=u.trans (b.mono u.size);have a7:=q4d d b T;have b9:=b.size;have R:=hs.below m;obtain⟨A,Q⟩:=cuts R)
     |(go_at_call 134;refine (qb7 _ 5 (c-15) _ w7 A).mono ?_;rw[Y];rintro e w8 ⟨rfl,rfl⟩)
     |(refine Pz rfl (.tmp 2) (.tmp 32) rfl w.1.size rfl Hd.zero _ rfl F (by omega) ?_;intro wz O J Tz)
     |fail)
    refine bodyPost_ret (q0u Tryz.results97 rfl (q88 O)) rfl ?_;obtain⟨h1,h2,h3⟩:=qik (l:=l) a6;rw[h1,h2,h3];exact⟨_,_,_,rfl,q55 _ _ _,m.trans (J _ (Nat.le_refl _))⟩
   ·have b6:okB l=true:=decide_eq_true ⟨Z,b5,by rw[hH];exact K,Y⟩;go_wp2_with (first
     |(go_at_call 133;refine (q54 _ (c-4) _ _ X).mono ?_;rw[hH];rintro e W ⟨rfl,f⟩;have D:=a2.below f (by omega);have b8:=f.size)
     |(refine Pz rfl (.tmp 5) (.tmp 22) rfl W.1.size rfl H _ rfl (HB.zero W _) (by simp) ?_;intro w6 M I _;obtain⟨d,u,E,T⟩:=Lp M I D (B.trans (f.mono B.size)) (by omega))
     |(refine q89 rfl (.tmp 5) rfl W.1.size rfl H (by first|exact d|assumption) ?_)
     |(go_at_call 123;refine (q3u H _).mono ?_;rw[K];rintro e w7 ⟨rfl,b⟩;have F:=E.below b (by omega);have m:=u.trans (b.mono u.size);have a7:=q4d d b T;have b9:=b.size;have R:=hs.below m;obtain⟨A,Q⟩:=cuts R)
     |(go_at_call 134;refine (qb7 _ 5 (c-15) _ w7 A).mono ?_;rw[Y];rintro e w8 ⟨rfl,rfl⟩)
     |(at_make;refine q77 _ Gy rfl _ _ rfl _ _ 236 rfl rfl (by omega) ?_;intro w9 c6 b4;have c8:=Sl.below Q b4)
     |((with_reducible show wpList _ _ _ _ _ _);refine qb6 Gy rfl (.tmp 34) (.tmp 36) rfl w7.1.size w7.1.size 236 _ c6 0 236 236 rfl _ 236 (c-20) _ rfl c8 (by omega) (by omega) ?_;intro d4 U b2;have p:=b4.trans b2;have a8:=F.below p (by omega);have d1:=q4d a7 p (by omega);have d2:=p.size)
     |(refine Pz rfl (.tmp 2) (.tmp 38) rfl w.1.size rfl H _ rfl a8 (by omega) ?_;intro wz O J Tz)
     |fail)
    refine bodyPost_ret (q0u Tryz.results97 rfl (q88 O)) rfl ?_;obtain⟨h1,h2,h3⟩:=q78 (l:=l) b6;rw[h1,h2,h3,hH];rw[qn0 _ _ (by rw[qwy,List.length_drop,Z])] at U;exact⟨_,_,_,rfl,(U.turn λg hg hl=>Tz.block g hl (by show ¬g=w.1.size;omega)).less m.size,m.trans ((p.mono m.size).trans (J _ (Nat.le_refl _)))⟩
