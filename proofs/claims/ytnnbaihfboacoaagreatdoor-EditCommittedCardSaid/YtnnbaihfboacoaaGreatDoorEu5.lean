/- Keys: the code's and the reference's Less and May; First and Last -/
import Derived.Test.YtnnbaihfboacoaaGreatDoorEu3
import Derived.Test.YtnnbaihfboacoaaGreatDoorEu4
import Derived.Deep.RegionHeld3
import Derived.Laws.StructEq
namespace Go.Proofs.YtnnbaihfboacoaaGreatDoor
open Go Go.RowKit Go.Proofs
set_option maxHeartbeats 4000000
def Kd.v (k:Kd):Value:=.agg #[.int .i64 k.obj,.int .i64 k.kind,.int .i64 k.off]
def Kd.vs (k:Kd):List Value:=[.int .i64 k.obj,.int .i64 k.kind,.int .i64 k.off]
def KB (w:World)(b:Nat)(k:Kd):Prop:=∃t,w.1[b]?=some (.cells #[.int .i64 k.obj,.int .i64 k.kind,.int .i64 k.off] t (0,0))
theorem KB.new (w:World)(x y z:Int)(t:TypeId):KB (w.alloc (.cells #[.int .i64 x,.int .i64 y,.int .i64 z] t)) w.1.size ⟨x,y,z⟩:=⟨t,heap_alloc_new w _⟩
theorem KB.below {w w':World}{b:Nat}{k:Kd}(H:KB w b k){B:Nat}(hb:Below B w w')(hB:b<B):KB w' b k:=by
 obtain⟨t,H⟩:=H;exact⟨t,(hb.block b hB).trans H⟩
theorem KB.range {w:World}{b:Nat}{k:Kd}(H:KB w b k):w.rangeAt b 0 k.vs:=λj v d=>by
 obtain⟨t,H⟩:=H;rw[cell_of_row _ _ _ _ _ _ H,Nat.zero_add];simpa [Kd.vs] using d
theorem KB.c0 {w:World}{b:Nat}{k:Kd}(H:KB w b k):w.cell? ⟨b,0,none⟩=some (.int .i64 k.obj):=H.range 0 _ rfl
theorem KB.c1 {w:World}{b:Nat}{k:Kd}(H:KB w b k):w.cell? ⟨b,1,none⟩=some (.int .i64 k.kind):=H.range 1 _ rfl
theorem KB.c2 {w:World}{b:Nat}{k:Kd}(H:KB w b k):w.cell? ⟨b,2,none⟩=some (.int .i64 k.off):=H.range 2 _ rfl
theorem q34 {w:World}{b:Nat}{k:Kd}(H:KB w b k):(loadVar 30 ⟨b,0,none⟩).run Tryz.prog w=.ok k.v w:=
 run_loadVar_mid w b 0 30 k.vs _ H.range Tryz.underlying30 rfl (by kernel_rfl)
theorem Og {d:Func}{p:Tmp}{ty:TypeId}{f:Addr}{v:Value}{P:Program}{w:World}{b:Array Value}(h:d.results=#[.cell p ty])(u:b.getD p undef=.pointer (some f))(m:(loadVar ty f).run P w=.ok v w) :
  (results d b).run P w=.ok v w:=by
 have e:(results d b).run P w=((asAddr (b.getD p undef)).run P w).andThen λa y=>(loadVar ty a).run P y:=by
  simp only[results,h];simp[Sem.run_bind,Result.andThen];try rfl
 rw[e,u];simp[asAddr,m]
theorem q16 {f:Func}{p a:Tmp}{ty:TypeId}{d:Addr}{v:Value}{P:Program}{w:World}{b:Array Value}(h:f.results=#[.cell p ty,.tmp a])(u:b.getD p undef=.pointer (some d))(m:(loadVar ty d).run P w=.ok v w) :
  (results f b).run P w=.ok (.tuple #[v,b.getD a undef]) w:=by
 have e:(results f b).run P w=((asAddr (b.getD p undef)).run P w).andThen λd y=>((loadVar ty d).run P y).andThen λv A=>.ok (.tuple #[v,b.getD a undef]) A:=by
  simp only[results,h];simp[Sem.run_bind,Result.andThen]
 rw[e,u];simp[asAddr,m]
theorem q72 {m:Func}{p a b:Tmp}{ty:TypeId}{f:Addr}{v:Value}{P:Program}{w:World}{d:Array Value}(h:m.results=#[.cell p ty,.tmp a,.tmp b])(y:d.getD p undef=.pointer (some f))(u:(loadVar ty f).run P w=.ok v w) :
  (results m d).run P w=.ok (.tuple #[v,d.getD a undef,d.getD b undef]) w:=by
 have e:(results m d).run P w=((asAddr (d.getD p undef)).run P w).andThen λf A=>((loadVar ty f).run P A).andThen λv B=>.ok (.tuple #[v,d.getD a undef,d.getD b undef]) B:=by
  simp only[results,h];simp[Sem.run_bind,Result.andThen]
 rw[e,y];simp[asAddr,u]
theorem qku (a b:Kd)(w:World) :
  Calls Tryz.prog 44 #[.agg #[.int .i64 a.obj,.int .i64 a.kind,.int .i64 a.off],.agg #[.int .i64 b.obj,.int .i64 b.kind,.int .i64 b.off]] w λe f=>e=.returned (.bool (a.less b))/\Below w.1.size w f:=by
 obtain⟨r,d⟩:∃r,a.less b=r:=⟨_,rfl⟩;rw[d];unfold Kd.less at d;by_cases h1:a.obj=b.obj
 ·rw[if_pos h1] at d;by_cases h2:a.kind=b.kind
  ·rw[if_pos h2] at d;go_enter Tryz.func44,Tryz.ntmps44
   go_wp2;go_ret;exact⟨by rw[<-d];rfl,(Qm).alloc (by simp) _⟩
  ·rw[if_neg h2] at d;go_enter Tryz.func44,Tryz.ntmps44
   go_wp2;go_ret;exact⟨by rw[<-d];rfl,(Qm).alloc (by simp) _⟩
 ·rw[if_neg h1] at d;go_enter Tryz.func44,Tryz.ntmps44
  go_wp2;go_ret;exact⟨by rw[<-d];rfl,(Qm).alloc (by simp) _⟩
theorem qif (a b:Kd)(w:World) :
  Calls Tryz.prog 66 #[.agg #[.int .i64 a.obj,.int .i64 a.kind,.int .i64 a.off],.agg #[.int .i64 b.obj,.int .i64 b.kind,.int .i64 b.off]] w λe f=>e=.returned (.bool (a.less b))/\Below w.1.size w f:=by
 obtain⟨r,d⟩:∃r,a.less b=r:=⟨_,rfl⟩;rw[d];unfold Kd.less at d;by_cases h1:a.obj=b.obj
 ·rw[if_pos h1] at d;by_cases h2:a.kind=b.kind
  ·rw[if_pos h2] at d;go_enter Tryz.func66,Tryz.ntmps66
   go_wp2;go_ret;exact⟨by rw[<-d];rfl,(Qm).alloc (by simp) _⟩
  ·rw[if_neg h2] at d;go_enter Tryz.func66,Tryz.ntmps66
   go_wp2;go_ret;exact⟨by rw[<-d];rfl,(Qm).alloc (by simp) _⟩
 ·rw[if_neg h1] at d;go_enter Tryz.func66,Tryz.ntmps66
  go_wp2;go_ret;exact⟨by rw[<-d];rfl,(Qm).alloc (by simp) _⟩
theorem q85 (x m:Int)(w:World) :
  Calls Tryz.prog 102 #[.int .i64 x,.int .i64 m] w λe b=>e=.returned (.bool (decide (0<=x/\x<=m)))/\w=b:=by
 go_enter Tryz.func102,Tryz.ntmps102
 go_wp2;all_goals
  go_ret;refine⟨congrArg (λx=>Ending.returned (Value.bool x)) ?_,rfl⟩;first
   |exact (decide_eq_false (by omega)).symm
   |exact decide_eq_decide.2 (by omega)
   |(rw[Bool.eq_iff_iff];simp;omega)
theorem qqq (k:Kd)(w:World) :
  Calls Tryz.prog 62 #[.agg #[.int .i64 k.obj,.int .i64 k.kind,.int .i64 k.off]] w λe m=>e=.returned (.bool k.may)/\Below w.1.size w m:=by
 obtain⟨b,d⟩:∃b,k.may=b:=⟨_,rfl⟩;rw[d];unfold Kd.may at d;go_enter Tryz.func62,Tryz.ntmps62
 go_wp2_with fail
 refine (q85 k.obj 2147483647 _).mono ?_;by_cases h1:0<=k.obj/\k.obj<=2147483647
 ·rw[decide_eq_true h1];rintro e f ⟨rfl,rfl⟩;go_wp2_with fail
  refine (q85 k.kind 255 _).mono ?_;by_cases h2:0<=k.kind/\k.kind<=255
  ·rw[decide_eq_true h2];rintro e f ⟨rfl,rfl⟩;go_wp2_with fail
   refine (q85 k.off 2147483647 _).mono ?_;rintro e f ⟨rfl,rfl⟩;go_wp2;go_ret;exact⟨by rw[<-d];exact congrArg (λx=>Ending.returned (Value.bool x)) (by rw[Bool.eq_iff_iff];simp;omega),Qm⟩
  ·rw[decide_eq_false h2];rintro e f ⟨rfl,rfl⟩;go_wp2;go_ret;exact⟨by rw[<-d];exact congrArg (λx=>Ending.returned (Value.bool x)) (decide_eq_false (by omega)).symm,Qm⟩
 ·rw[decide_eq_false h1];rintro e f ⟨rfl,rfl⟩;go_wp2;go_ret;exact⟨by rw[<-d];exact congrArg (λx=>Ending.returned (Value.bool x)) (decide_eq_false (by omega)).symm,Qm⟩
theorem qig (k:Kd)(w:World) :
  Calls Tryz.prog 26 #[.agg #[.int .i64 k.obj,.int .i64 k.kind,.int .i64 k.off]] w λe f=>e=.returned (.bool k.may)/\Below w.1.size w f:=by
 obtain⟨b,d⟩:∃b,k.may=b:=⟨_,rfl⟩;rw[d];unfold Kd.may at d;go_enter Tryz.func26,Tryz.ntmps26
 go_wp2;all_goals
  go_ret;refine⟨?_,Qm⟩;rw[<-d];first
   |exact congrArg (λx=>Ending.returned (Value.bool x)) (decide_eq_false (by omega)).symm
   |exact congrArg (λx=>Ending.returned (Value.bool x)) (decide_eq_decide.2 (by omega))
theorem pin (l:List UInt8)(x n:Int)(h1:1<=n)(h2:n<=8):Ce l x n=l++Zc x n.toNat:=if_pos ⟨h1,h2⟩
theorem KB.lt {w:World}{b:Nat}{k:Kd}(H:KB w b k):b<w.1.size:=by
 obtain⟨t,H⟩:=H;exact Wi H
theorem KB.there {w:World}{b:Nat}{k:Kd}(H:KB w b k):w.there b 0 3:=λj d=>by
 obtain⟨t,H⟩:=H;refine⟨?_,by unfold World.frozen?;rw[H];simp⟩;rw[cell_of_row _ _ _ _ _ _ H,Nat.zero_add,Array.getElem?_eq_getElem (by simpa using d)];rfl
theorem KB.stored {w:World}{b:Nat}{k:Kd}(H:KB w b k)(k2:Kd):KB (w.setCells b 0 k2.vs) b k2:=by
 obtain⟨t,H⟩:=H;exact⟨t,Fa _ (Fa _ (Fa _ H))⟩
theorem KB.keep {w w':World}{b:Nat}{k:Kd}(H:KB w b k)(h:w'.1[b]?=w.1[b]?):KB w' b k:=by
 obtain⟨t,H⟩:=H;exact⟨t,h.trans H⟩
theorem KB.fz {w:World}{b:Nat}{k:Kd}(H:KB w b k)(i:Nat):w.frozen? ⟨b,i,none⟩=false:=by
 obtain⟨t,H⟩:=H;unfold World.frozen?;rw[H];simp
theorem KB.set0 {w:World}{b:Nat}{k:Kd}(H:KB w b k)(x:Int):KB (w.setCell ⟨b,0,none⟩ (.int .i64 x)) b ⟨x,k.kind,k.off⟩:=by
 obtain⟨t,H⟩:=H;exact⟨t,Fa _ H⟩
theorem KB.set1 {w:World}{b:Nat}{k:Kd}(H:KB w b k)(x:Int):KB (w.setCell ⟨b,1,none⟩ (.int .i64 x)) b ⟨k.obj,x,k.off⟩:=by
 obtain⟨t,H⟩:=H;exact⟨t,Fa _ H⟩
theorem KB.set2 {w:World}{b:Nat}{k:Kd}(H:KB w b k)(x:Int):KB (w.setCell ⟨b,2,none⟩ (.int .i64 x)) b ⟨k.obj,k.kind,x⟩:=by
 obtain⟨t,H⟩:=H;exact⟨t,Fa _ H⟩
theorem qd5 {ops:Array Oper}{d:List Oper}{o:Oper}{a:Act}{w:World}{Q:Exit->Act->World->Prop}(m:o.guard=none)(x:Operand)(e:o.op=Op.load 30 x)
  (b:Nat) (p:a.eval x=.pointer (some ⟨b,0,none⟩)) (k:Kd) (H:KB w b k) (f:wpList Tryz.prog ops Q d (a.put o.dst k.v) w):wpList Tryz.prog ops Q (o::d) a w:=
 wpList_load_mid m _ x e b 0 p k.vs _ H.range Tryz.underlying30 rfl (by kernel_rfl) f
theorem q0x {ops:Array Oper}{d:List Oper}{o:Oper}{a:Act}{w:World}{Q:Exit->Act->World->Prop}(p:o.guard=none)(x y:Operand)(e:o.op=Op.store 30 x y)
  (b:Nat) (u:a.eval x=.pointer (some ⟨b,0,none⟩)) (k B:Kd) (A:a.eval y=k.v) (H:KB w b B)
  (m:∀f,KB f b k->Turn (λg=>g=b) w f->wpList Tryz.prog ops Q d (a.put o.dst undef) f):wpList Tryz.prog ops Q (o::d) a w:=
 wpList_store_mid p _ x y e b 0 k.vs.toArray u A H.there (by kernel_rfl) (by simp[Kd.vs,Value.oneCell'])
  (m _ (H.stored k) (Us (S:=λg=>g=b) rfl k.vs 0 w))
theorem Own.keep {w w':World}{base n c:Nat}{e:TypeId}{A:Option Addr}{l:List UInt8}(h:Own w base e A n c l)(hk:∀g,base<=g->g<w.1.size->w'.1[g]?=w.1[g]?):Own w' base e A n c l:=by
 refine⟨h.1,?_⟩;rcases h.2 with d|⟨g,cap,b,d,h1,f,r⟩
 ·exact .inl d
 ·exact .inr ⟨g,cap,b,d,h1,(hk g h1 (Array.getElem?_eq_some_iff.1 f).1).trans f,r⟩
theorem qes (w:World)(base:Nat)(e:TypeId):Own w base e none 0 0 []:=⟨by simp,.inl ⟨rfl,rfl⟩⟩
theorem Turn.Qw {b:Nat}{w w':World}(h:Turn (λg=>g=b) w w')(hb:b<w.1.size):Below b w w':=h.below (λx d=>by omega) (by omega)
theorem qms (l:List UInt8)(k:Kd):l++Zc k.obj (4:Int).toNat++Zc k.kind (1:Int).toNat++Zc k.off (4:Int).toNat=l++k.bytes:=by
 unfold Kd.bytes;rw[List.append_assoc,List.append_assoc];rfl
theorem q73 (A:Option Addr)(k c:Nat)(l:List UInt8)(x n:Int)(w:World)(h:Sl w A k c l)(y:k<=17592186044416)(h1:1<=n)(h2:n<=8) :
  Calls Tryz.prog 126 #[.slice A k c,.int .i64 x,.int .i64 n] w λe m=>∃d b f,e=.returned (.slice d b f)/\Own m w.1.size 5 d b f (l++Zc x n.toNat)/\b<=k+8/\Below w.1.size w m:=by
 have h:=q9l A k c l x n w h y;rw[pin _ _ n h1 h2] at h;refine h.mono ?_;rintro e m ⟨d,b,f,rfl,own,u⟩;refine⟨d,b,f,rfl,own,?_,u⟩;have p:=own.len;rw[List.length_append,Yl,(show l.length=k from (by assumption:Sl w A k c l).len)] at p;omega
theorem qkv (A:Option Addr)(n c:Nat)(l:List UInt8)(k:Kd)(w:World)(h:Sl w A n c l)(hn:n<=4398046511104) :
  Calls Tryz.prog 211 #[.slice A n c,.agg #[.int .i64 k.obj,.int .i64 k.kind,.int .i64 k.off]] w λe O=>∃G M I,e=.returned (.slice G M I)/\Own O w.1.size 5 G M I (l++k.bytes)/\Below w.1.size w O:=by
 have K:=Lib.hid h.len;go_enter Tryz.func211,Tryz.ntmps211
 go_wp2_with fail
 have y:=KB.new w k.obj k.kind k.off 30;have h1:=h.alloc (.cells #[.int .i64 k.obj,.int .i64 k.kind,.int .i64 k.off] 30);have D:Below w.1.size w (w.alloc (.cells #[.int .i64 k.obj,.int .i64 k.kind,.int .i64 k.off] 30)):=Qm;generalize w.alloc (.cells #[.int .i64 k.obj,.int .i64 k.kind,.int .i64 k.off] 30)=w1 at y h1 D ⊢;have z1:=y.lt;refine (q73 A n c l k.obj 4 w1 h1 (by omega) (by omega) (by omega)).mono ?_;rintro e w2 ⟨Q,X,c2,rfl,m,U,b⟩;have B:=y.below b z1;have z2:=B.lt;have q1:=B.c1;go_wp2_with fail
 refine (q73 Q X c2 _ k.kind 1 w2 m.sl (by omega) (by omega) (by omega)).mono ?_;rintro e P ⟨R,Y,c3,rfl,p,W,d⟩;have H:=B.below d z2;have z3:=H.lt;have q2:=H.c2;clear q1;go_wp2_with fail
 refine (q73 R Y c3 _ k.off 4 P p.sl (by omega) (by omega) (by omega)).mono ?_;rw[qms];rintro e w4 ⟨T,Z,c4,rfl,u,_,F⟩;have s2:=b.size;have s3:=d.size;have f:=D.trans ((b.trans (d.mono s2)).mono D.size);have J:w.1.size<=P.1.size:=f.size;have E:=f.trans (F.mono J);have o5:=u.less J;go_wp2;go_ret;exact⟨T,Z,c4,rfl,o5,E⟩
def Dk (l:List UInt8):Kd:=⟨(Q8 (l.take 4):Int),(Q8 ((l.drop 4).take 1):Int),(Q8 ((l.drop 5).take 4):Int)⟩
def ktY (l:List UInt8):Bool:=decide (9<=l.length)&&(Dk l).may
def G8 (l:List UInt8):Kd:=if ktY l=true then Dk l else ⟨0,0,0⟩
def Wp (l:List UInt8):List UInt8:=if ktY l=true then l.drop 9 else []
def U9 (l:List UInt8):Int:=if ktY l=true then 0 else if l.length<9 then 2 else 3
theorem qu9 {l:List UInt8}(h:l.length<9):G8 l=⟨0,0,0⟩/\Wp l=[]/\U9 l=2:=by
 have b:ktY l=false:=by unfold ktY;rw[decide_eq_false (by omega)];rfl
 unfold G8 Wp U9;rw[b,if_pos h];exact⟨rfl,rfl,rfl⟩
theorem Qb3 {l:List UInt8}(h:¬l.length<9)(hm:(Dk l).may=false):G8 l=⟨0,0,0⟩/\Wp l=[]/\U9 l=3:=by
 have b:ktY l=false:=by unfold ktY;rw[hm,Bool.and_false]
 unfold G8 Wp U9;rw[b,if_neg h];exact⟨rfl,rfl,rfl⟩
theorem qve {l:List UInt8}(h:¬l.length<9)(hm:(Dk l).may=true):G8 l=Dk l/\Wp l=l.drop 9/\U9 l=0:=by
 have b:ktY l=true:=by unfold ktY;rw[hm,decide_eq_true (by omega)];rfl
 unfold G8 Wp U9;rw[b];exact⟨rfl,rfl,rfl⟩
theorem Qbe (l:List UInt8):(l.drop (4:Int).toNat).drop (1:Int).toNat=l.drop 5:=by rw[List.drop_drop];rfl
theorem Qbf (l:List UInt8):(l.drop 5).drop (4:Int).toNat=l.drop 9:=by rw[List.drop_drop];rfl
theorem q5q (A:Option Addr)(k c:Nat)(l:List UInt8)(n:Int)(m:Nat)(w:World)(h:Sl w A k c l)(y:k<=17592186044416)(h1:1<=n)(p:n<=7)(hn:n<=(k:Int))(hm:m=k-n.toNat) :
  Calls Tryz.prog 149 #[.slice A k c,.int .i64 n] w λe f=>∃b d,e=.returned (.tuple #[.int .i64 (Q8 (l.take n.toNat)),.slice b m d,.int .i64 0])/\Own f w.1.size 5 b m d (l.drop n.toNat)/\Below w.1.size w f:=by
 refine (q6w A k c l n w h y h1 p hn).mono ?_;rintro e f ⟨b,B,d,rfl,own,u⟩;have:=own.len;rw[List.length_drop,h.len] at this;obtain rfl:B=m:=by omega
 exact⟨b,d,rfl,own,u⟩
theorem qqr (A:Option Addr)(n c:Nat)(l:List UInt8)(w:World)(h:Sl w A n c l)(hn:n<=17592186044416) :
  Calls Tryz.prog 147 #[.slice A n c] w λe w'=>∃A' n' c',e=.returned (.tuple #[(G8 l).v,.slice A' n' c',.int .i64 (U9 l)])/\Own w' w.1.size 5 A' n' c' (Wp l)/\Below w.1.size w w':=by
 have y:=Lib.hid h.len;have O:∀o,Below w.1.size w (w.alloc o):=λo=>(Below.refl _ _).alloc (Nat.le_refl _) o
 by_cases h9:n<9
 ·obtain⟨I,J,K⟩:=qu9 (l:=l) (by rw[y.out];exact h9);rw[I,J,K];go_enter Tryz.func147,Tryz.ntmps147
  go_wp2;refine bodyPost_ret (q72 Tryz.results147 rfl (q34 (KB.new w 0 0 0 _))) rfl ?_;exact⟨_,_,_,rfl,qes _ _ _,O _⟩
 ·have P:¬l.length<9:=by rw[y.out];exact h9
  go_enter Tryz.func147,Tryz.ntmps147
  go_wp2_with fail
  have R2:KB ((w.alloc (.cells #[.int .i64 0,.int .i64 0,.int .i64 0] 30)).alloc (.cells #[.int .i64 0,.int .i64 0,.int .i64 0] 30)) w.1.size ⟨0,0,0⟩:=(KB.new w 0 0 0 _).below (Qm) (by simp);have Z:KB ((w.alloc (.cells #[.int .i64 0,.int .i64 0,.int .i64 0] 30)).alloc (.cells #[.int .i64 0,.int .i64 0,.int .i64 0] 30)) (w.1.size+1) ⟨0,0,0⟩:=by
   have:=KB.new (w.alloc (.cells #[.int .i64 0,.int .i64 0,.int .i64 0] 30)) 0 0 0 30;rwa [World.size_alloc] at this
  have R:Below w.1.size w ((w.alloc (.cells #[.int .i64 0,.int .i64 0,.int .i64 0] 30)).alloc (.cells #[.int .i64 0,.int .i64 0,.int .i64 0] 30)):=(O _).alloc (by simp) _;generalize (w.alloc (.cells #[.int .i64 0,.int .i64 0,.int .i64 0] 30)).alloc (.cells #[.int .i64 0,.int .i64 0,.int .i64 0] 30)=w2 at R2 Z R ⊢;have h2:=h.below R;have z2:=Z.lt;refine (q5q A n c l 4 (n-4) w2 h2 hn (by omega) (by omega) (by omega) rfl).mono ?_;rintro e w3 ⟨A3,c3,rfl,B,f⟩;have R3:=R2.below f R2.lt;have K3:=Z.below f z2;have B3:=R.trans (f.mono R.size);clear R2 Z h2 f;have Q:=K3.c0;have M:=K3.fz 0;have o3:=B.less (show w.1.size+2<=w2.1.size by omega);obtain⟨X,hX⟩:∃X,Q8 (l.take (4:Int).toNat)=X:=⟨_,rfl⟩;rw[hX];clear B z2;go_wp2_with fail
  have K4:=K3.set0 (X:Int);have R4:=R3.keep (w':=w3.setCell ⟨w.1.size+1,0,none⟩ (.int .i64 (X:Int))) (Below.heap_setCell _ _ _ _ (by show w.1.size≠w.1.size+1;omega));have o4:=o3.keep (w':=w3.setCell ⟨w.1.size+1,0,none⟩ (.int .i64 (X:Int))) (λg hg _=>Below.heap_setCell _ _ _ _ (by show g≠w.1.size+1;omega));have T:=B3.setCell (p:=⟨w.1.size+1,0,none⟩) (show w.1.size<=w.1.size+1 by omega) (.int .i64 (X:Int));clear Q M;generalize w3.setCell ⟨w.1.size+1,0,none⟩ (.int .i64 (X:Int))=w4 at K4 R4 o4 T ⊢;have z4:=K4.lt;refine (q5q A3 (n-4) c3 _ 1 (n-5) w4 o4.sl (by omega) (by omega) (by omega) (by omega) rfl).mono ?_;rw[Qbe];rintro e w5 ⟨A5,c5,rfl,D,m⟩;have R5:=R4.below m R4.lt;have K5:=K4.below m z4;have B5:=T.trans (m.mono T.size);have Q:=K5.c1;have M:=K5.fz 1;have o5:=D.less (show w.1.size+2<=w4.1.size by omega);obtain⟨Y,hY⟩:∃Y,Q8 ((l.drop (4:Int).toNat).take (1:Int).toNat)=Y:=⟨_,rfl⟩;rw[hY];clear D z4 R3 K3 B3 R4 K4 T o3 o4 m;go_wp2_with fail
  have K6:=K5.set1 (Y:Int);have R6:=R5.keep (w':=w5.setCell ⟨w.1.size+1,1,none⟩ (.int .i64 (Y:Int))) (Below.heap_setCell _ _ _ _ (by show w.1.size≠w.1.size+1;omega));have o6:=o5.keep (w':=w5.setCell ⟨w.1.size+1,1,none⟩ (.int .i64 (Y:Int))) (λg hg _=>Below.heap_setCell _ _ _ _ (by show g≠w.1.size+1;omega));have W:=B5.setCell (p:=⟨w.1.size+1,1,none⟩) (show w.1.size<=w.1.size+1 by omega) (.int .i64 (Y:Int));clear Q M;generalize w5.setCell ⟨w.1.size+1,1,none⟩ (.int .i64 (Y:Int))=w6 at K6 R6 o6 W ⊢;have z6:=K6.lt;refine (q5q A5 (n-5) c5 _ 4 (n-9) w6 o6.sl (by omega) (by omega) (by omega) (by omega) rfl).mono ?_;rw[Qbf];rintro e w7 ⟨A7,c7,rfl,E,u⟩;have R7:=R6.below u R6.lt;have K7:=K6.below u z6;have B7:=W.trans (u.mono W.size);have Q:=K7.c2;have M:=K7.fz 2;have o7:=E.less (show w.1.size+2<=w6.1.size by omega);obtain⟨U,hU⟩:∃U,Q8 ((l.drop 5).take (4:Int).toNat)=U:=⟨_,rfl⟩;rw[hU];have hK:Dk l=⟨(X:Int),(Y:Int),(U:Int)⟩:=by rw[<-hX,<-hY,<-hU];rfl
  clear E z6 R5 K5 B5 R6 K6 W o5 o6 u;have K8:=K7.set2 (U:Int);have G:=R7.keep (w':=w7.setCell ⟨w.1.size+1,2,none⟩ (.int .i64 (U:Int))) (Below.heap_setCell _ _ _ _ (by show w.1.size≠w.1.size+1;omega));have o8:=o7.keep (w':=w7.setCell ⟨w.1.size+1,2,none⟩ (.int .i64 (U:Int))) (λg hg _=>Below.heap_setCell _ _ _ _ (by show g≠w.1.size+1;omega));have F:=B7.setCell (p:=⟨w.1.size+1,2,none⟩) (show w.1.size<=w.1.size+1 by omega) (.int .i64 (U:Int));go_wp2_with (first
   |(refine qd5 rfl (.tmp 5) rfl (w.1.size+1) rfl ⟨(X:Int),(Y:Int),(U:Int)⟩ K8 ?_)
   |fail)
  clear Q M K7 R7 o7 B7;generalize w7.setCell ⟨w.1.size+1,2,none⟩ (.int .i64 (U:Int))=w8 at K8 G o8 F ⊢;have z8:=K8.lt;refine (qqq ⟨(X:Int),(Y:Int),(U:Int)⟩ w8).mono ?_;obtain⟨b,hb⟩:∃b,(⟨(X:Int),(Y:Int),(U:Int)⟩:Kd).may=b:=⟨_,rfl⟩;have hm:(Dk l).may=b:=by rw[hK,hb]
  rw[hb]
  cases b
  ·obtain⟨I,J,K⟩:=Qb3 P hm;rintro e w9 ⟨rfl,d⟩;have H:=G.below d G.lt;have B9:=F.trans (d.mono F.size);go_wp2_with (first
    |(refine q0x rfl (.tmp 2) (.tmp 34) rfl w.1.size rfl ⟨0,0,0⟩ _ rfl H ?_;intro wz Rz Tz)
    |fail)
   refine bodyPost_ret (q72 Tryz.results147 rfl (q34 Rz)) rfl ?_;rw[I,J,K];exact⟨_,_,_,rfl,qes _ _ _,B9.trans (Tz.Qw H.lt)⟩
  ·obtain⟨I,J,K⟩:=qve P hm;rintro e w9 ⟨rfl,d⟩;have H:=G.below d G.lt;have K9:=K8.below d z8;have B9:=F.trans (d.mono F.size);have o9:=o8.below d;go_wp2_with (first
    |(refine qd5 rfl (.tmp 5) rfl (w.1.size+1) rfl ⟨(X:Int),(Y:Int),(U:Int)⟩ K9 ?_)
    |(refine q0x rfl (.tmp 2) (.tmp 35) rfl w.1.size rfl ⟨(X:Int),(Y:Int),(U:Int)⟩ _ rfl H ?_;intro wz Rz Tz)
    |fail)
   rw[<-hK] at Rz;refine bodyPost_ret (q72 Tryz.results147 rfl (q34 Rz)) rfl ?_;rw[I,J,K];refine⟨A7,n-9,c7,rfl,?_,B9.trans (Tz.Qw H.lt)⟩;exact (o9.keep λg hg hl=>Tz.block g hl (by show ¬g=w.1.size;omega)).less (by omega)
theorem qmt (a b:Kd)(w:World):(binOp .eql 30 a.v b.v).run Tryz.prog w=.ok (.bool (a.same b)) w:=by
 unfold Kd.v;rw[run_eql_struct,run_equalIn_agg w 9999 30 _ _ (by kernel_rfl) (by kernel_rfl)];unfold Program.fieldsOf;rw[Tryz.underlying30];simp[go_sem,Tryz.underlying3];unfold Kd.same;by_cases h1:a.obj=b.obj
 ·by_cases h2:a.kind=b.kind
  ·by_cases d:a.off=b.off
   ·simp[h1,h2,d]
   ·simp[h1,h2,d]
  ·simp[h1,h2]
 ·simp[h1]
theorem KB.new2 (w:World)(o:Obj)(x y z:Int)(t:TypeId):KB ((w.alloc o).alloc (.cells #[.int .i64 x,.int .i64 y,.int .i64 z] t)) (w.1.size+1) ⟨x,y,z⟩:=by
 have:=KB.new (w.alloc o) x y z t;rwa [World.size_alloc] at this
theorem Qch {w:World}{A:Option Addr}{n c:Nat}{l:List UInt8}(h:Sl w A n c l):(convert 31 9 (.slice A n c)).run Tryz.prog w=.ok (.string ⟨l.toArray⟩) w:=
 q64 _ _ _ Gy Tryz.underlying5 Tryz.underlying9 h
theorem q5r (x y:Operand)(xs ys:Array Value)(w:World):(eqGuard .eql 30 x y (.agg xs) (.agg ys)).run Tryz.prog w=.ok () w:=
 run_eqGuard_agg w .eql 30 x y xs ys (by kernel_rfl)
theorem O9 (a b:Kd)(r:Bool)(h:a.same b=r)(w:World):(binOp .eql 30 (.agg #[.int .i64 a.obj,.int .i64 a.kind,.int .i64 a.off]) (.agg #[.int .i64 b.obj,.int .i64 b.kind,.int .i64 b.off])).run Tryz.prog w=.ok (.bool r) w:=by
 have:=qmt a b w;rw[h] at this;exact this
theorem q74 (a b:Kd)(r:Bool)(h:a.less b=r)(w:World) :
  Calls Tryz.prog 44 #[.agg #[.int .i64 a.obj,.int .i64 a.kind,.int .i64 a.off],.agg #[.int .i64 b.obj,.int .i64 b.kind,.int .i64 b.off]] w λe d=>e=.returned (.bool r)/\Below w.1.size w d:=by
 have:=qku a b w;rw[h] at this;exact this
theorem q20 (a:Kd)(r:Bool)(h:a.may=r)(w:World) :
  Calls Tryz.prog 62 #[.agg #[.int .i64 a.obj,.int .i64 a.kind,.int .i64 a.off]] w λe b=>e=.returned (.bool r)/\Below w.1.size w b:=by
 have:=qqq a w;rw[h] at this;exact this
theorem Xb (w:World)(a:Kd):KB (w.alloc (.cells #[.int .i64 a.obj,.int .i64 a.kind,.int .i64 a.off] 30)) w.1.size a/\Below w.1.size w (w.alloc (.cells #[.int .i64 a.obj,.int .i64 a.kind,.int .i64 a.off] 30)):=
 ⟨KB.new w a.obj a.kind a.off _,Qm⟩
theorem qwt (k:Kd)(m:k.may=true)(l:List UInt8):Dk (k.bytes++l)=k:=by
 obtain⟨⟨p,A⟩,⟨u,B⟩,y,D⟩:=(Kd.Ob k).1 m;have b:k.bytes++l=Zc k.obj 4++(Zc k.kind 1++(Zc k.off 4++l)):=by unfold Kd.bytes;rw[List.append_assoc,List.append_assoc]
 have e:(k.bytes++l).take 4=Zc k.obj 4:=by rw[b];exact List.take_left' (Yl _ _)
 have d:(k.bytes++l).drop 4=Zc k.kind 1++(Zc k.off 4++l):=by rw[b];exact List.drop_left' (Yl _ _)
 have f:(k.bytes++l).drop 5=Zc k.off 4++l:=by
  rw[show (5:Nat)=4+1 from rfl,<-List.drop_drop,d];exact List.drop_left' (Yl _ _)
 unfold Dk;rw[e,d,f,List.take_left' (Yl _ _),List.take_left' (Yl _ _),q8y k.obj 4 p (by omega),q8y k.kind 1 u (by omega),q8y k.off 4 y (by omega)]
theorem qqs (k:Kd)(d:k.may=true)(l:List UInt8):G8 (k.bytes++l)=k/\Wp (k.bytes++l)=l/\U9 (k.bytes++l)=0:=by
 have b:=qwt k d l;obtain⟨h1,h2,e⟩:=qve (l:=k.bytes++l) (by rw[List.length_append,Kd.Yb];omega) (by rw[b];exact d);rw[h1,h2,e,b];exact⟨rfl,List.drop_left' (Kd.Yb k),rfl⟩
theorem q17 (a b:Kd)(r:Bool)(h:a.less b=r)(w:World) :
  Calls Tryz.prog 66 #[.agg #[.int .i64 a.obj,.int .i64 a.kind,.int .i64 a.off],.agg #[.int .i64 b.obj,.int .i64 b.kind,.int .i64 b.off]] w λe d=>e=.returned (.bool r)/\Below w.1.size w d:=by
 have:=qif a b w;rw[h] at this;exact this
theorem q52 (a:Kd)(r:Bool)(h:a.may=r)(w:World) :
  Calls Tryz.prog 26 #[.agg #[.int .i64 a.obj,.int .i64 a.kind,.int .i64 a.off]] w λe b=>e=.returned (.bool r)/\Below w.1.size w b:=by
 have:=qig a w;rw[h] at this;exact this
theorem qwu (k:Kd):k.same k=true:=(Kd.same_iff k k).2 ⟨rfl,rfl,rfl⟩
theorem qgz (A:Option Addr)(n c:Nat)(l:List UInt8)(K:Kd)(R:List UInt8)(E:Int)(u:G8 l=K)(y:Wp l=R)(p:U9 l=E)(w:World)(h:Sl w A n c l)(hn:n<=17592186044416) :
  Calls Tryz.prog 147 #[.slice A n c] w λe m=>∃b f d,e=.returned (.tuple #[.agg #[.int .i64 K.obj,.int .i64 K.kind,.int .i64 K.off],.slice b f d,.int .i64 E])/\Own m w.1.size 5 b f d R/\Below w.1.size w m:=by
 have:=qqr A n c l w h hn;rw[u,y,p] at this;exact this
def Wx (ks:List Kd)(i:Nat):Bool:=(keyAt ks i).may&&(decide (i=0)||(keyAt ks (i-1)).less (keyAt ks i))
def rises (ks:List Kd):Bool:=(List.range ks.length).all (Wx ks)
theorem Qe5 {ks:List Kd}{j:Nat}(b:j<ks.length)(h:Wx ks j=false):rises ks=false:=by
 unfold rises;rw[List.all_eq_false];exact⟨j,List.mem_range.2 b,by rw[h];simp⟩
theorem qqt {ks:List Kd}(h:∀j,j<ks.length->Wx ks j=true):rises ks=true:=by
 unfold rises;rw[List.all_eq_true];exact λj b=>h j (List.mem_range.1 b)
theorem Qd6 (A:Option Addr)(n c:Nat)(ks:List Kd)(w:World)(h:Ah w A n c ks)(hn:n<=100000) :
  Calls Tryz.prog 119 #[.slice A n c] w λe f=>e=.returned (.bool (rises ks))/\Below w.1.size w f:=by
 have F:=Lib.hid h.len;go_enter Tryz.func119,Tryz.ntmps119
 go_wp2_with fail
 go_loopw [3,4] (λi ok wr=>∃j:Nat,j<=n/\i=.int .i64 (j:Int)/\(∀q,q<j->Wx ks q=true)/\Below w.1.size w wr) (λi _ _=>n-(intOf i).toNat)
 case atStart=>exact⟨0,Nat.zero_le _,rfl,λq hq=>by omega,Below.refl _ _⟩
 case round=>
  obtain⟨j,hj,rfl,G,K⟩:=hrel;by_cases I:j<n
  ·have hr:=h.below K;obtain⟨g,o,hA,M,c0,c1,c2⟩:=hr.cell I;subst hA;obtain⟨b,D⟩:∃b,keyAt ks j=b:=⟨_,rfl⟩;rw[D] at c0 c1 c2;obtain⟨r,hm⟩:∃r,b.may=r:=⟨_,rfl⟩;go_wp2_with fail
   refine (q52 b r hm wr).mono ?_
   cases r
   ·rintro e m ⟨rfl,d⟩;have E:=K.trans (d.mono K.size);go_wp2_with fail
    go_quiet (fail)
    generalize u:World.drewN m _=T;have y:Below w.1.size w T:=by rw[<-u];exact q1g E _
    clear u;go_wp2;go_ret;have J:rises ks=false:=Qe5 (j:=j) (by rw[F.out];exact I) (by unfold Wx;rw[D,hm];rfl);exact⟨by rw[J];rfl,y⟩
   ·rintro e m ⟨rfl,d⟩;have E:=K.trans (d.mono K.size);rcases j with _|q
    ·go_wp2_with fail
     go_quiet (fail)
     generalize u:World.drewN m _=T;have y:Below w.1.size w T:=by rw[<-u];exact q1g E _
     clear u;go_wp2;refine⟨⟨1,by omega,rfl,λq hq=>?_,y⟩,by simp[intOf];omega⟩;obtain rfl:q=0:=by omega
     unfold Wx;rw[D,hm];rfl
    ·obtain⟨g',o',H,_,a0,W,X⟩:=hr.cell (show q<n by omega);injection H with H;injection H with e1 e2;subst e1 e2;obtain⟨a,ha⟩:∃a,keyAt ks q=a:=⟨_,rfl⟩;rw[ha] at a0 W X;obtain⟨r,hl⟩:∃r,a.less b=r:=⟨_,rfl⟩;have P:Wx ks (q+1)=r:=by
      unfold Wx;rw[D,hm,show q+1-1=q by omega,ha,hl];simp
     have B:g<m.1.size:=by have:=d.size;omega
     have Q:((q+1:Nat):Int)-1=(q:Int):=by omega
     have a8:(0:Int)<=(q:Int):=by omega
     have b2:(q:Int)<(n:Int):=by omega
     have b0:(0:Int)<=((q+1:Nat):Int):=by omega
     have a6:((q+1:Nat):Int)<(n:Int):=by omega
     have b1:(0:Int)<=(q:Int)+1:=by omega
     have a7:(q:Int)+1<(n:Int):=by omega
     have u:IntKind.i64.wrap (q:Int)=(q:Int):=IntWalk.i64_in _ (by omega);have b4:IntKind.i64.wrap ((q:Int)+1-1)=(q:Int):=by rw[Int.add_sub_cancel];exact u
     have b3:IntKind.i64.wrap (((q+1:Nat):Int)-1)=(q:Int):=by rw[Q];exact IntWalk.i64_in _ (by omega)
     have d0:=(d.cell (p:=⟨g,o+q*3,none⟩) M).trans a0;have d1:=(d.cell (p:=⟨g,o+q*3+1,none⟩) M).trans W;have d2:=(d.cell (p:=⟨g,o+q*3+2,none⟩) M).trans X;have d3:=(d.cell (p:=⟨g,o+(q+1)*3,none⟩) M).trans c0;have d4:=(d.cell (p:=⟨g,o+(q+1)*3+1,none⟩) M).trans c1;have d5:=(d.cell (p:=⟨g,o+(q+1)*3+2,none⟩) M).trans c2;clear a0 W X c0 c1 c2 hr;go_wp2_with fail
     have Y:∀f:World,Below m.1.size m f->f.cell? ⟨g,o+q*3,none⟩=some (.int .i64 (a).obj)/\f.cell? ⟨g,o+q*3+1,none⟩=some (.int .i64 (a).kind)/\f.cell? ⟨g,o+q*3+2,none⟩=some (.int .i64 (a).off)/\f.cell? ⟨g,o+(q+1)*3,none⟩=some (.int .i64 (b).obj)/\f.cell? ⟨g,o+(q+1)*3+1,none⟩=some (.int .i64 (b).kind)/\f.cell? ⟨g,o+(q+1)*3+2,none⟩=some (.int .i64 (b).off)/\Below m.1.size m f:=
      λf D=>⟨(D.cell (p:=⟨g,_,none⟩) B).trans d0,(D.cell (p:=⟨g,_,none⟩) B).trans d1,(D.cell (p:=⟨g,_,none⟩) B).trans d2,(D.cell (p:=⟨g,_,none⟩) B).trans d3,(D.cell (p:=⟨g,_,none⟩) B).trans d4,(D.cell (p:=⟨g,_,none⟩) B).trans d5,D⟩
     have U:Below m.1.size m m.drew:=(Below.refl _ m).drew;go_region_held3 (λf=>f.cell? ⟨g,o+q*3,none⟩=some (.int .i64 (a).obj)/\f.cell? ⟨g,o+q*3+1,none⟩=some (.int .i64 (a).kind)/\f.cell? ⟨g,o+q*3+2,none⟩=some (.int .i64 (a).off)/\f.cell? ⟨g,o+(q+1)*3,none⟩=some (.int .i64 (b).obj)/\f.cell? ⟨g,o+(q+1)*3+1,none⟩=some (.int .i64 (b).kind)/\f.cell? ⟨g,o+(q+1)*3+2,none⟩=some (.int .i64 (b).off)/\Below m.1.size m f)
      (first|assumption|exact Y _ U|exact Y _ O)
      (first
       |(go_at_call 66;refine (q17 a b r hl _).mono ?_;rintro e T ⟨rfl,Z⟩;have O:Below m.1.size m T:=U.trans (Z.mono (Nat.le_refl m.1.size)))
       |fail)
     all_goals
      have y:=E.trans (O.mono E.size);clear Y U
      cases r
      ·go_wp2;go_ret;have J:rises ks=false:=Qe5 (j:=q+1) (by rw[F.out];exact I) P;exact⟨by rw[J];rfl,y⟩
      ·go_wp2;refine⟨⟨q+2,by omega,by go_num,λp hp=>?_,y⟩,by simp[intOf];omega⟩;rcases (by omega:p<q+1\/p=q+1) with h1|rfl
       ·exact G p h1
       ·exact P
  ·obtain rfl:j=n:=by omega
   go_wp2;go_ret;have R:rises ks=true:=qqt λi hi=>G i (by rw[F.out] at hi;exact hi)
   exact⟨by rw[R];rfl,K⟩
