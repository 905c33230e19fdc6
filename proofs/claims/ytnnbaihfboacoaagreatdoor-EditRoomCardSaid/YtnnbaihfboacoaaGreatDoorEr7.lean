/- Keys: the code's and the reference's Less and May; First and Last -/
import Derived.Test.YtnnbaihfboacoaaGreatDoorEr3
import Derived.Test.YtnnbaihfboacoaaGreatDoorEr4
import Derived.Deep.RegionHeld3
import Derived.Laws.StructEq
namespace Go.Proofs.YtnnbaihfboacoaaGreatDoor
open Go Go.RowKit Go.Proofs
set_option maxHeartbeats 4000000
def Kd.v (k:Kd):Value:=.agg #[.int .i64 k.obj,.int .i64 k.kind,.int .i64 k.off]
def Kd.vs (k:Kd):List Value:=[.int .i64 k.obj,.int .i64 k.kind,.int .i64 k.off]
def KB (w:World)(b:Nat)(k:Kd):Prop:=∃t,w.1[b]?=some (.cells #[.int .i64 k.obj,.int .i64 k.kind,.int .i64 k.off] t (0,0))
theorem KB.new (w:World)(x y z:Int)(t:TypeId):KB (w.alloc (.cells #[.int .i64 x,.int .i64 y,.int .i64 z] t)) w.1.size ⟨x,y,z⟩:=⟨t,heap_alloc_new w _⟩
theorem KB.below {w w':World}{b:Nat}{k:Kd}(H:KB w b k){B:Nat}(hb:Below B w w')(hB:b<B):KB w' b k:=by
 obtain⟨t,H⟩:=H;exact⟨t,(hb.block b hB).trans H⟩
theorem KB.range {w:World}{b:Nat}{k:Kd}(H:KB w b k):w.rangeAt b 0 k.vs:=λj v e=>by
 obtain⟨t,H⟩:=H;rw[cell_of_row _ _ _ _ _ _ H,Nat.zero_add];simpa [Kd.vs] using e
theorem KB.c0 {w:World}{b:Nat}{k:Kd}(H:KB w b k):w.cell? ⟨b,0,none⟩=some (.int .i64 k.obj):=H.range 0 _ rfl
theorem KB.c1 {w:World}{b:Nat}{k:Kd}(H:KB w b k):w.cell? ⟨b,1,none⟩=some (.int .i64 k.kind):=H.range 1 _ rfl
theorem KB.c2 {w:World}{b:Nat}{k:Kd}(H:KB w b k):w.cell? ⟨b,2,none⟩=some (.int .i64 k.off):=H.range 2 _ rfl
theorem q34 {w:World}{b:Nat}{k:Kd}(H:KB w b k):(loadVar 30 ⟨b,0,none⟩).run Tryz.prog w=.ok k.v w:=
 run_loadVar_mid w b 0 30 k.vs _ H.range Tryz.underlying30 rfl (by kernel_rfl)
theorem Og {u:Func}{p:Tmp}{ty:TypeId}{y:Addr}{v:Value}{P:Program}{w:World}{f:Array Value}(h:u.results=#[.cell p ty])(E:f.getD p undef=.pointer (some y))(D:(loadVar ty y).run P w=.ok v w) :
  (results u f).run P w=.ok v w:=by
 have e:(results u f).run P w=((asAddr (f.getD p undef)).run P w).andThen λa F=>(loadVar ty a).run P F:=by
  simp only[results,h];simp[Sem.run_bind,Result.andThen];try rfl
 rw[e,E];simp[asAddr,D]
theorem q16 {y:Func}{p a:Tmp}{ty:TypeId}{u:Addr}{v:Value}{P:Program}{w:World}{f:Array Value}(h:y.results=#[.cell p ty,.tmp a])(E:f.getD p undef=.pointer (some u))(D:(loadVar ty u).run P w=.ok v w) :
  (results y f).run P w=.ok (.tuple #[v,f.getD a undef]) w:=by
 have e:(results y f).run P w=((asAddr (f.getD p undef)).run P w).andThen λu F=>((loadVar ty u).run P F).andThen λv G=>.ok (.tuple #[v,f.getD a undef]) G:=by
  simp only[results,h];simp[Sem.run_bind,Result.andThen]
 rw[e,E];simp[asAddr,D]
theorem q72 {y:Func}{p a b:Tmp}{ty:TypeId}{u:Addr}{v:Value}{P:Program}{w:World}{f:Array Value}(h:y.results=#[.cell p ty,.tmp a,.tmp b])(E:f.getD p undef=.pointer (some u))(D:(loadVar ty u).run P w=.ok v w) :
  (results y f).run P w=.ok (.tuple #[v,f.getD a undef,f.getD b undef]) w:=by
 have e:(results y f).run P w=((asAddr (f.getD p undef)).run P w).andThen λu F=>((loadVar ty u).run P F).andThen λv G=>.ok (.tuple #[v,f.getD a undef,f.getD b undef]) G:=by
  simp only[results,h];simp[Sem.run_bind,Result.andThen]
 rw[e,E];simp[asAddr,D]
theorem qku (a b:Kd)(w:World) :
  Calls Tryz.prog 44 #[.agg #[.int .i64 a.obj,.int .i64 a.kind,.int .i64 a.off],.agg #[.int .i64 b.obj,.int .i64 b.kind,.int .i64 b.off]] w λe w'=>e=.returned (.bool (a.less b))/\Below w.1.size w w':=by
 obtain⟨r,f⟩:∃r,a.less b=r:=⟨_,rfl⟩;rw[f];unfold Kd.less at f;by_cases h1:a.obj=b.obj
 ·rw[if_pos h1] at f;by_cases h2:a.kind=b.kind
  ·rw[if_pos h2] at f;go_enter Tryz.func44,Tryz.ntmps44
   go_wp2;go_ret;exact⟨by rw[<-f];rfl,(Qm).alloc (by simp) _⟩
  ·rw[if_neg h2] at f;go_enter Tryz.func44,Tryz.ntmps44
   go_wp2;go_ret;exact⟨by rw[<-f];rfl,(Qm).alloc (by simp) _⟩
 ·rw[if_neg h1] at f;go_enter Tryz.func44,Tryz.ntmps44
  go_wp2;go_ret;exact⟨by rw[<-f];rfl,(Qm).alloc (by simp) _⟩
theorem q85 (x m:Int)(w:World) :
  Calls Tryz.prog 102 #[.int .i64 x,.int .i64 m] w λe w'=>e=.returned (.bool (decide (0<=x/\x<=m)))/\w=w':=by
 go_enter Tryz.func102,Tryz.ntmps102
 go_wp2;all_goals
  go_ret;refine⟨congrArg (λx=>Ending.returned (Value.bool x)) ?_,rfl⟩;first
   |exact (decide_eq_false (by omega)).symm
   |exact decide_eq_decide.2 (by omega)
   |(rw[Bool.eq_iff_iff];simp;omega)
theorem qqq (k:Kd)(w:World) :
  Calls Tryz.prog 62 #[.agg #[.int .i64 k.obj,.int .i64 k.kind,.int .i64 k.off]] w λe w'=>e=.returned (.bool k.may)/\Below w.1.size w w':=by
 obtain⟨b,f⟩:∃b,k.may=b:=⟨_,rfl⟩;rw[f];unfold Kd.may at f;go_enter Tryz.func62,Tryz.ntmps62
 go_wp2_with fail
 refine (q85 k.obj 2147483647 _).mono ?_;by_cases h1:0<=k.obj/\k.obj<=2147483647
 ·rw[decide_eq_true h1];rintro e p ⟨rfl,rfl⟩;go_wp2_with fail
  refine (q85 k.kind 255 _).mono ?_;by_cases h2:0<=k.kind/\k.kind<=255
  ·rw[decide_eq_true h2];rintro e p ⟨rfl,rfl⟩;go_wp2_with fail
   refine (q85 k.off 2147483647 _).mono ?_;rintro e p ⟨rfl,rfl⟩;go_wp2;go_ret;exact⟨by rw[<-f];exact congrArg (λx=>Ending.returned (Value.bool x)) (by rw[Bool.eq_iff_iff];simp;omega),Qm⟩
  ·rw[decide_eq_false h2];rintro e p ⟨rfl,rfl⟩;go_wp2;go_ret;exact⟨by rw[<-f];exact congrArg (λx=>Ending.returned (Value.bool x)) (decide_eq_false (by omega)).symm,Qm⟩
 ·rw[decide_eq_false h1];rintro e p ⟨rfl,rfl⟩;go_wp2;go_ret;exact⟨by rw[<-f];exact congrArg (λx=>Ending.returned (Value.bool x)) (decide_eq_false (by omega)).symm,Qm⟩
theorem qig (k:Kd)(w:World) :
  Calls Tryz.prog 26 #[.agg #[.int .i64 k.obj,.int .i64 k.kind,.int .i64 k.off]] w λe w'=>e=.returned (.bool k.may)/\Below w.1.size w w':=by
 obtain⟨b,f⟩:∃b,k.may=b:=⟨_,rfl⟩;rw[f];unfold Kd.may at f;go_enter Tryz.func26,Tryz.ntmps26
 go_wp2;all_goals
  go_ret;refine⟨?_,Qm⟩;rw[<-f];first
   |exact congrArg (λx=>Ending.returned (Value.bool x)) (decide_eq_false (by omega)).symm
   |exact congrArg (λx=>Ending.returned (Value.bool x)) (decide_eq_decide.2 (by omega))
theorem pin (l:List UInt8)(x n:Int)(h1:1<=n)(h2:n<=8):Ce l x n=l++Zc x n.toNat:=if_pos ⟨h1,h2⟩
theorem KB.lt {w:World}{b:Nat}{k:Kd}(H:KB w b k):b<w.1.size:=by
 obtain⟨t,H⟩:=H;exact Wi H
theorem KB.there {w:World}{b:Nat}{k:Kd}(H:KB w b k):w.there b 0 3:=λj e=>by
 obtain⟨t,H⟩:=H;refine⟨?_,by unfold World.frozen?;rw[H];simp⟩;rw[cell_of_row _ _ _ _ _ _ H,Nat.zero_add,Array.getElem?_eq_getElem (by simpa using e)];rfl
theorem KB.stored {w:World}{b:Nat}{k:Kd}(H:KB w b k)(k2:Kd):KB (w.setCells b 0 k2.vs) b k2:=by
 obtain⟨t,H⟩:=H;exact⟨t,Fa _ (Fa _ (Fa _ H))⟩
theorem KB.keep {w w':World}{b:Nat}{k:Kd}(H:KB w b k)(h:w'.1[b]?=w.1[b]?):KB w' b k:=by
 obtain⟨t,H⟩:=H;exact⟨t,h.trans H⟩
theorem KB.fz {w:World}{b:Nat}{k:Kd}(H:KB w b k)(i:Nat):w.frozen? ⟨b,i,none⟩=false:=by
 obtain⟨t,H⟩:=H;unfold World.frozen?;rw[H];simp
theorem KB.set0 {w:World}{b:Nat}{k:Kd}(H:KB w b k)(x:Int):KB (w.setCell ⟨b,0,none⟩ (.int .i64 x)) b ⟨x,k.kind,k.off⟩:=by
 obtain⟨t,H⟩:=H;exact⟨t,Fa _ H⟩
theorem KB.set1 {w:World}{b:Nat}{k:Kd}(H:KB w b k)(x:Int):KB (w.setCell ⟨b,1,none⟩ (.int .i64 x)) b ⟨k.obj,x,k.off⟩:=by
 obtain⟨t,H⟩:=H;exact⟨t,Fa _ H⟩
theorem KB.set2 {w:World}{b:Nat}{k:Kd}(H:KB w b k)(x:Int):KB (w.setCell ⟨b,2,none⟩ (.int .i64 x)) b ⟨k.obj,k.kind,x⟩:=by
 obtain⟨t,H⟩:=H;exact⟨t,Fa _ H⟩
theorem qd5 {f:Array Oper}{e:List Oper}{o:Oper}{a:Act}{w:World}{Q:Exit->Act->World->Prop}(y:o.guard=none)(x:Operand)(p:o.op=Op.load 30 x)
  (b:Nat) (D:a.eval x=.pointer (some ⟨b,0,none⟩)) (k:Kd) (H:KB w b k) (u:wpList Tryz.prog f Q e (a.put o.dst k.v) w):wpList Tryz.prog f Q (o::e) a w:=
 wpList_load_mid y _ x p b 0 D k.vs _ H.range Tryz.underlying30 rfl (by kernel_rfl) u
theorem q0x {f:Array Oper}{e:List Oper}{o:Oper}{a:Act}{w:World}{Q:Exit->Act->World->Prop}(D:o.guard=none)(x y:Operand)(p:o.op=Op.store 30 x y)
  (b:Nat) (E:a.eval x=.pointer (some ⟨b,0,none⟩)) (k G:Kd) (F:a.eval y=k.v) (H:KB w b G)
  (u:∀w',KB w' b k->Turn (λg=>g=b) w w'->wpList Tryz.prog f Q e (a.put o.dst undef) w'):wpList Tryz.prog f Q (o::e) a w:=
 wpList_store_mid D _ x y p b 0 k.vs.toArray E F H.there (by kernel_rfl) (by simp[Kd.vs,Value.oneCell'])
  (u _ (H.stored k) (Us (S:=λg=>g=b) rfl k.vs 0 w))
theorem Own.keep {w w':World}{base n c:Nat}{e:TypeId}{A:Option Addr}{l:List UInt8}(h:Own w base e A n c l)(hk:∀g,base<=g->g<w.1.size->w'.1[g]?=w.1[g]?):Own w' base e A n c l:=by
 refine⟨h.1,?_⟩;rcases h.2 with p|⟨g,cap,f,p,h1,u,r⟩
 ·exact .inl p
 ·exact .inr ⟨g,cap,f,p,h1,(hk g h1 (Array.getElem?_eq_some_iff.1 u).1).trans u,r⟩
theorem qes (w:World)(base:Nat)(e:TypeId):Own w base e none 0 0 []:=⟨by simp,.inl ⟨rfl,rfl⟩⟩
theorem Turn.Qw {b:Nat}{w w':World}(h:Turn (λg=>g=b) w w')(hb:b<w.1.size):Below b w w':=h.below (λx e=>by omega) (by omega)
theorem qms (l:List UInt8)(k:Kd):l++Zc k.obj (4:Int).toNat++Zc k.kind (1:Int).toNat++Zc k.off (4:Int).toNat=l++k.bytes:=by
 unfold Kd.bytes;rw[List.append_assoc,List.append_assoc];rfl
theorem q73 (A:Option Addr)(k c:Nat)(l:List UInt8)(x n:Int)(w:World)(h:Sl w A k c l)(E:k<=17592186044416)(h1:1<=n)(h2:n<=8) :
  Calls Tryz.prog 126 #[.slice A k c,.int .i64 x,.int .i64 n] w λe w'=>∃p f u,e=.returned (.slice p f u)/\Own w' w.1.size 5 p f u (l++Zc x n.toNat)/\f<=k+8/\Below w.1.size w w':=by
 have h:=q9l A k c l x n w h E;rw[pin _ _ n h1 h2] at h;refine h.mono ?_;rintro e w' ⟨p,f,u,rfl,own,D⟩;refine⟨p,f,u,rfl,own,?_,D⟩;have y:=own.len;rw[List.length_append,Yl,(show l.length=k from (by assumption:Sl w A k c l).len)] at y;omega
theorem qkv (A:Option Addr)(n c:Nat)(l:List UInt8)(k:Kd)(w:World)(h:Sl w A n c l)(hn:n<=4398046511104) :
  Calls Tryz.prog 211 #[.slice A n c,.agg #[.int .i64 k.obj,.int .i64 k.kind,.int .i64 k.off]] w λe w'=>∃K R O,e=.returned (.slice K R O)/\Own w' w.1.size 5 K R O (l++k.bytes)/\Below w.1.size w w':=by
 have Q:=Lib.hid h.len;go_enter Tryz.func211,Tryz.ntmps211
 go_wp2_with fail
 have F:=KB.new w k.obj k.kind k.off 30;have h1:=h.alloc (.cells #[.int .i64 k.obj,.int .i64 k.kind,.int .i64 k.off] 30);have H:Below w.1.size w (w.alloc (.cells #[.int .i64 k.obj,.int .i64 k.kind,.int .i64 k.off] 30)):=Qm;generalize w.alloc (.cells #[.int .i64 k.obj,.int .i64 k.kind,.int .i64 k.off] 30)=w1 at F h1 H ⊢;have z1:=F.lt;refine (q73 A n c l k.obj 4 w1 h1 (by omega) (by omega) (by omega)).mono ?_;rintro e w2 ⟨U,n2,c2,rfl,y,Y,f⟩;have G:=F.below f z1;have z2:=G.lt;have q1:=G.c1;go_wp2_with fail
 refine (q73 U n2 c2 _ k.kind 1 w2 y.sl (by omega) (by omega) (by omega)).mono ?_;rintro e T ⟨W,n3,c3,rfl,D,Z,p⟩;have M:=G.below p z2;have z3:=M.lt;have q2:=M.c2;clear q1;go_wp2_with fail
 refine (q73 W n3 c3 _ k.off 4 T D.sl (by omega) (by omega) (by omega)).mono ?_;rw[qms];rintro e w4 ⟨X,n4,c4,rfl,E,_,J⟩;have s2:=f.size;have s3:=p.size;have u:=H.trans ((f.trans (p.mono s2)).mono H.size);have P:w.1.size<=T.1.size:=u.size;have I:=u.trans (J.mono P);have o5:=E.less P;go_wp2;go_ret;exact⟨X,n4,c4,rfl,o5,I⟩
def Dk (l:List UInt8):Kd:=⟨(Q8 (l.take 4):Int),(Q8 ((l.drop 4).take 1):Int),(Q8 ((l.drop 5).take 4):Int)⟩
def ktY (l:List UInt8):Bool:=decide (9<=l.length)&&(Dk l).may
def G8 (l:List UInt8):Kd:=if ktY l=true then Dk l else ⟨0,0,0⟩
def Wp (l:List UInt8):List UInt8:=if ktY l=true then l.drop 9 else []
def U9 (l:List UInt8):Int:=if ktY l=true then 0 else if l.length<9 then 2 else 3
theorem qu9 {l:List UInt8}(h:l.length<9):G8 l=⟨0,0,0⟩/\Wp l=[]/\U9 l=2:=by
 have e:ktY l=false:=by unfold ktY;rw[decide_eq_false (by omega)];rfl
 unfold G8 Wp U9;rw[e,if_pos h];exact⟨rfl,rfl,rfl⟩
theorem Qb3 {l:List UInt8}(h:¬l.length<9)(hm:(Dk l).may=false):G8 l=⟨0,0,0⟩/\Wp l=[]/\U9 l=3:=by
 have e:ktY l=false:=by unfold ktY;rw[hm,Bool.and_false]
 unfold G8 Wp U9;rw[e,if_neg h];exact⟨rfl,rfl,rfl⟩
theorem qve {l:List UInt8}(h:¬l.length<9)(hm:(Dk l).may=true):G8 l=Dk l/\Wp l=l.drop 9/\U9 l=0:=by
 have e:ktY l=true:=by unfold ktY;rw[hm,decide_eq_true (by omega)];rfl
 unfold G8 Wp U9;rw[e];exact⟨rfl,rfl,rfl⟩
theorem Qbe (l:List UInt8):(l.drop (4:Int).toNat).drop (1:Int).toNat=l.drop 5:=by rw[List.drop_drop];rfl
theorem Qbf (l:List UInt8):(l.drop 5).drop (4:Int).toNat=l.drop 9:=by rw[List.drop_drop];rfl
theorem q5q (A:Option Addr)(k c:Nat)(l:List UInt8)(n:Int)(m:Nat)(w:World)(h:Sl w A k c l)(D:k<=17592186044416)(h1:1<=n)(u:n<=7)(hn:n<=(k:Int))(hm:m=k-n.toNat) :
  Calls Tryz.prog 149 #[.slice A k c,.int .i64 n] w λe w'=>∃f p,e=.returned (.tuple #[.int .i64 (Q8 (l.take n.toNat)),.slice f m p,.int .i64 0])/\Own w' w.1.size 5 f m p (l.drop n.toNat)/\Below w.1.size w w':=by
 refine (q6w A k c l n w h D h1 u hn).mono ?_;rintro e w' ⟨f,E,p,rfl,own,y⟩;have:=own.len;rw[List.length_drop,h.len] at this;obtain rfl:E=m:=by omega
 exact⟨f,p,rfl,own,y⟩
theorem qqr (A:Option Addr)(n c:Nat)(l:List UInt8)(w:World)(h:Sl w A n c l)(hn:n<=17592186044416) :
  Calls Tryz.prog 147 #[.slice A n c] w λe w'=>∃A' n' c',e=.returned (.tuple #[(G8 l).v,.slice A' n' c',.int .i64 (U9 l)])/\Own w' w.1.size 5 A' n' c' (Wp l)/\Below w.1.size w w':=by
 have E:=Lib.hid h.len;have R:∀o,Below w.1.size w (w.alloc o):=λo=>(Below.refl _ _).alloc (Nat.le_refl _) o
 by_cases h9:n<9
 ·obtain⟨M,O,P⟩:=qu9 (l:=l) (by rw[E.out];exact h9);rw[M,O,P];go_enter Tryz.func147,Tryz.ntmps147
  go_wp2;refine bodyPost_ret (q72 Tryz.results147 rfl (q34 (KB.new w 0 0 0 _))) rfl ?_;exact⟨_,_,_,rfl,qes _ _ _,R _⟩
 ·have T:¬l.length<9:=by rw[E.out];exact h9
  go_enter Tryz.func147,Tryz.ntmps147
  go_wp2_with fail
  have R2:KB ((w.alloc (.cells #[.int .i64 0,.int .i64 0,.int .i64 0] 30)).alloc (.cells #[.int .i64 0,.int .i64 0,.int .i64 0] 30)) w.1.size ⟨0,0,0⟩:=(KB.new w 0 0 0 _).below (Qm) (by simp);have K2:KB ((w.alloc (.cells #[.int .i64 0,.int .i64 0,.int .i64 0] 30)).alloc (.cells #[.int .i64 0,.int .i64 0,.int .i64 0] 30)) (w.1.size+1) ⟨0,0,0⟩:=by
   have:=KB.new (w.alloc (.cells #[.int .i64 0,.int .i64 0,.int .i64 0] 30)) 0 0 0 30;rwa [World.size_alloc] at this
  have Z:Below w.1.size w ((w.alloc (.cells #[.int .i64 0,.int .i64 0,.int .i64 0] 30)).alloc (.cells #[.int .i64 0,.int .i64 0,.int .i64 0] 30)):=(R _).alloc (by simp) _;generalize (w.alloc (.cells #[.int .i64 0,.int .i64 0,.int .i64 0] 30)).alloc (.cells #[.int .i64 0,.int .i64 0,.int .i64 0] 30)=w2 at R2 K2 Z ⊢;have h2:=h.below Z;have z2:=K2.lt;refine (q5q A n c l 4 (n-4) w2 h2 hn (by omega) (by omega) (by omega) rfl).mono ?_;rintro e w3 ⟨A3,c3,rfl,F,u⟩;have R3:=R2.below u R2.lt;have K3:=K2.below u z2;have B3:=Z.trans (u.mono Z.size);clear R2 K2 h2 u;have W:=K3.c0;have Q:=K3.fz 0;have o3:=F.less (show w.1.size+2<=w2.1.size by omega);obtain⟨X,hX⟩:∃X,Q8 (l.take (4:Int).toNat)=X:=⟨_,rfl⟩;rw[hX];clear F z2;go_wp2_with fail
  have K4:=K3.set0 (X:Int);have R4:=R3.keep (w':=w3.setCell ⟨w.1.size+1,0,none⟩ (.int .i64 (X:Int))) (Below.heap_setCell _ _ _ _ (by show w.1.size≠w.1.size+1;omega));have o4:=o3.keep (w':=w3.setCell ⟨w.1.size+1,0,none⟩ (.int .i64 (X:Int))) (λg hg _=>Below.heap_setCell _ _ _ _ (by show g≠w.1.size+1;omega));have B4:=B3.setCell (p:=⟨w.1.size+1,0,none⟩) (show w.1.size<=w.1.size+1 by omega) (.int .i64 (X:Int));clear W Q;generalize w3.setCell ⟨w.1.size+1,0,none⟩ (.int .i64 (X:Int))=w4 at K4 R4 o4 B4 ⊢;have z4:=K4.lt;refine (q5q A3 (n-4) c3 _ 1 (n-5) w4 o4.sl (by omega) (by omega) (by omega) (by omega) rfl).mono ?_;rw[Qbe];rintro e w5 ⟨A5,c5,rfl,G,y⟩;have R5:=R4.below y R4.lt;have K5:=K4.below y z4;have B5:=B4.trans (y.mono B4.size);have W:=K5.c1;have Q:=K5.fz 1;have o5:=G.less (show w.1.size+2<=w4.1.size by omega);obtain⟨Y,hY⟩:∃Y,Q8 ((l.drop (4:Int).toNat).take (1:Int).toNat)=Y:=⟨_,rfl⟩;rw[hY];clear G z4 R3 K3 B3 R4 K4 B4 o3 o4 y;go_wp2_with fail
  have K6:=K5.set1 (Y:Int);have R6:=R5.keep (w':=w5.setCell ⟨w.1.size+1,1,none⟩ (.int .i64 (Y:Int))) (Below.heap_setCell _ _ _ _ (by show w.1.size≠w.1.size+1;omega));have o6:=o5.keep (w':=w5.setCell ⟨w.1.size+1,1,none⟩ (.int .i64 (Y:Int))) (λg hg _=>Below.heap_setCell _ _ _ _ (by show g≠w.1.size+1;omega));have B6:=B5.setCell (p:=⟨w.1.size+1,1,none⟩) (show w.1.size<=w.1.size+1 by omega) (.int .i64 (Y:Int));clear W Q;generalize w5.setCell ⟨w.1.size+1,1,none⟩ (.int .i64 (Y:Int))=w6 at K6 R6 o6 B6 ⊢;have z6:=K6.lt;refine (q5q A5 (n-5) c5 _ 4 (n-9) w6 o6.sl (by omega) (by omega) (by omega) (by omega) rfl).mono ?_;rw[Qbf];rintro e w7 ⟨A7,c7,rfl,H,D⟩;have R7:=R6.below D R6.lt;have K7:=K6.below D z6;have B7:=B6.trans (D.mono B6.size);have W:=K7.c2;have Q:=K7.fz 2;have o7:=H.less (show w.1.size+2<=w6.1.size by omega);obtain⟨U,hU⟩:∃U,Q8 ((l.drop 5).take (4:Int).toNat)=U:=⟨_,rfl⟩;rw[hU];have hK:Dk l=⟨(X:Int),(Y:Int),(U:Int)⟩:=by rw[<-hX,<-hY,<-hU];rfl
  clear H z6 R5 K5 B5 R6 K6 B6 o5 o6 D;have K8:=K7.set2 (U:Int);have J:=R7.keep (w':=w7.setCell ⟨w.1.size+1,2,none⟩ (.int .i64 (U:Int))) (Below.heap_setCell _ _ _ _ (by show w.1.size≠w.1.size+1;omega));have o8:=o7.keep (w':=w7.setCell ⟨w.1.size+1,2,none⟩ (.int .i64 (U:Int))) (λg hg _=>Below.heap_setCell _ _ _ _ (by show g≠w.1.size+1;omega));have I:=B7.setCell (p:=⟨w.1.size+1,2,none⟩) (show w.1.size<=w.1.size+1 by omega) (.int .i64 (U:Int));go_wp2_with (first
   |(refine qd5 rfl (.tmp 5) rfl (w.1.size+1) rfl ⟨(X:Int),(Y:Int),(U:Int)⟩ K8 ?_)
   |fail)
  clear W Q K7 R7 o7 B7;generalize w7.setCell ⟨w.1.size+1,2,none⟩ (.int .i64 (U:Int))=w8 at K8 J o8 I ⊢;have z8:=K8.lt;refine (qqq ⟨(X:Int),(Y:Int),(U:Int)⟩ w8).mono ?_;obtain⟨b,hb⟩:∃b,(⟨(X:Int),(Y:Int),(U:Int)⟩:Kd).may=b:=⟨_,rfl⟩;have hm:(Dk l).may=b:=by rw[hK,hb]
  rw[hb]
  cases b
  ·obtain⟨M,O,P⟩:=Qb3 T hm;rintro e w9 ⟨rfl,f⟩;have K:=J.below f J.lt;have B9:=I.trans (f.mono I.size);go_wp2_with (first
    |(refine q0x rfl (.tmp 2) (.tmp 34) rfl w.1.size rfl ⟨0,0,0⟩ _ rfl K ?_;intro wz Rz Tz)
    |fail)
   refine bodyPost_ret (q72 Tryz.results147 rfl (q34 Rz)) rfl ?_;rw[M,O,P];exact⟨_,_,_,rfl,qes _ _ _,B9.trans (Tz.Qw K.lt)⟩
  ·obtain⟨M,O,P⟩:=qve T hm;rintro e w9 ⟨rfl,f⟩;have K:=J.below f J.lt;have K9:=K8.below f z8;have B9:=I.trans (f.mono I.size);have o9:=o8.below f;go_wp2_with (first
    |(refine qd5 rfl (.tmp 5) rfl (w.1.size+1) rfl ⟨(X:Int),(Y:Int),(U:Int)⟩ K9 ?_)
    |(refine q0x rfl (.tmp 2) (.tmp 35) rfl w.1.size rfl ⟨(X:Int),(Y:Int),(U:Int)⟩ _ rfl K ?_;intro wz Rz Tz)
    |fail)
   rw[<-hK] at Rz;refine bodyPost_ret (q72 Tryz.results147 rfl (q34 Rz)) rfl ?_;rw[M,O,P];refine⟨A7,n-9,c7,rfl,?_,B9.trans (Tz.Qw K.lt)⟩;exact (o9.keep λg hg hl=>Tz.block g hl (by show ¬g=w.1.size;omega)).less (by omega)
theorem qmt (a b:Kd)(w:World):(binOp .eql 30 a.v b.v).run Tryz.prog w=.ok (.bool (a.same b)) w:=by
 unfold Kd.v;rw[run_eql_struct,run_equalIn_agg w 9999 30 _ _ (by kernel_rfl) (by kernel_rfl)];unfold Program.fieldsOf;rw[Tryz.underlying30];simp[go_sem,Tryz.underlying3];unfold Kd.same;by_cases h1:a.obj=b.obj
 ·by_cases h2:a.kind=b.kind
  ·by_cases e:a.off=b.off
   ·simp[h1,h2,e]
   ·simp[h1,h2,e]
  ·simp[h1,h2]
 ·simp[h1]
theorem KB.new2 (w:World)(o:Obj)(x y z:Int)(t:TypeId):KB ((w.alloc o).alloc (.cells #[.int .i64 x,.int .i64 y,.int .i64 z] t)) (w.1.size+1) ⟨x,y,z⟩:=by
 have:=KB.new (w.alloc o) x y z t;rwa [World.size_alloc] at this
theorem q5r (x y:Operand)(xs e:Array Value)(w:World):(eqGuard .eql 30 x y (.agg xs) (.agg e)).run Tryz.prog w=.ok () w:=
 run_eqGuard_agg w .eql 30 x y xs e (by kernel_rfl)
theorem O9 (a b:Kd)(r:Bool)(h:a.same b=r)(w:World):(binOp .eql 30 (.agg #[.int .i64 a.obj,.int .i64 a.kind,.int .i64 a.off]) (.agg #[.int .i64 b.obj,.int .i64 b.kind,.int .i64 b.off])).run Tryz.prog w=.ok (.bool r) w:=by
 have:=qmt a b w;rw[h] at this;exact this
theorem q74 (a b:Kd)(r:Bool)(h:a.less b=r)(w:World) :
  Calls Tryz.prog 44 #[.agg #[.int .i64 a.obj,.int .i64 a.kind,.int .i64 a.off],.agg #[.int .i64 b.obj,.int .i64 b.kind,.int .i64 b.off]] w λe w'=>e=.returned (.bool r)/\Below w.1.size w w':=by
 have:=qku a b w;rw[h] at this;exact this
theorem q20 (a:Kd)(r:Bool)(h:a.may=r)(w:World) :
  Calls Tryz.prog 62 #[.agg #[.int .i64 a.obj,.int .i64 a.kind,.int .i64 a.off]] w λe w'=>e=.returned (.bool r)/\Below w.1.size w w':=by
 have:=qqq a w;rw[h] at this;exact this
theorem Xb (w:World)(a:Kd):KB (w.alloc (.cells #[.int .i64 a.obj,.int .i64 a.kind,.int .i64 a.off] 30)) w.1.size a/\Below w.1.size w (w.alloc (.cells #[.int .i64 a.obj,.int .i64 a.kind,.int .i64 a.off] 30)):=
 ⟨KB.new w a.obj a.kind a.off _,Qm⟩
theorem qwt (k:Kd)(y:k.may=true)(l:List UInt8):Dk (k.bytes++l)=k:=by
 obtain⟨⟨D,G⟩,⟨E,H⟩,F,I⟩:=(Kd.Ob k).1 y;have e:k.bytes++l=Zc k.obj 4++(Zc k.kind 1++(Zc k.off 4++l)):=by unfold Kd.bytes;rw[List.append_assoc,List.append_assoc]
 have p:(k.bytes++l).take 4=Zc k.obj 4:=by rw[e];exact List.take_left' (Yl _ _)
 have f:(k.bytes++l).drop 4=Zc k.kind 1++(Zc k.off 4++l):=by rw[e];exact List.drop_left' (Yl _ _)
 have u:(k.bytes++l).drop 5=Zc k.off 4++l:=by
  rw[show (5:Nat)=4+1 from rfl,<-List.drop_drop,f];exact List.drop_left' (Yl _ _)
 unfold Dk;rw[p,f,u,List.take_left' (Yl _ _),List.take_left' (Yl _ _),q8y k.obj 4 D (by omega),q8y k.kind 1 E (by omega),q8y k.off 4 F (by omega)]
theorem qqs (k:Kd)(f:k.may=true)(l:List UInt8):G8 (k.bytes++l)=k/\Wp (k.bytes++l)=l/\U9 (k.bytes++l)=0:=by
 have e:=qwt k f l;obtain⟨h1,h2,p⟩:=qve (l:=k.bytes++l) (by rw[List.length_append,Kd.Yb];omega) (by rw[e];exact f);rw[h1,h2,p,e];exact⟨rfl,List.drop_left' (Kd.Yb k),rfl⟩
theorem q52 (a:Kd)(r:Bool)(h:a.may=r)(w:World) :
  Calls Tryz.prog 26 #[.agg #[.int .i64 a.obj,.int .i64 a.kind,.int .i64 a.off]] w λe w'=>e=.returned (.bool r)/\Below w.1.size w w':=by
 have:=qig a w;rw[h] at this;exact this
theorem qwu (k:Kd):k.same k=true:=(Kd.same_iff k k).2 ⟨rfl,rfl,rfl⟩
theorem qgz (A:Option Addr)(n c:Nat)(l:List UInt8)(K:Kd)(R:List UInt8)(E:Int)(D:G8 l=K)(F:Wp l=R)(y:U9 l=E)(w:World)(h:Sl w A n c l)(hn:n<=17592186044416) :
  Calls Tryz.prog 147 #[.slice A n c] w λe w'=>∃f u p,e=.returned (.tuple #[.agg #[.int .i64 K.obj,.int .i64 K.kind,.int .i64 K.off],.slice f u p,.int .i64 E])/\Own w' w.1.size 5 f u p R/\Below w.1.size w w':=by
 have:=qqr A n c l w h hn;rw[D,F,y] at this;exact this
def Wx (ks:List Kd)(i:Nat):Bool:=(keyAt ks i).may&&(decide (i=0)||(keyAt ks (i-1)).less (keyAt ks i))
def rises (ks:List Kd):Bool:=(List.range ks.length).all (Wx ks)
theorem qqt {ks:List Kd}(h:∀j,j<ks.length->Wx ks j=true):rises ks=true:=by
 unfold rises;rw[List.all_eq_true];exact λj e=>h j (List.mem_range.1 e)
def Nd.keys (N:Nd):List Kd:=N.items.map (·.k)++N.kids.map (·.k)
def NB (w:World)(b:Nat)(l:Int)(A:Option Addr)(n c:Nat)(B:Option Addr)(m d:Nat):Prop:=∃t,w.1[b]?=some (.cells #[.int .i64 l,.slice A n c,.slice B m d] t (0,0))
section
variable {w w':World}{b:Nat}{l:Int}{A B:Option Addr}{n c m d:Nat}
theorem NB.new (w:World)(l:Int)(A:Option Addr)(n c:Nat)(B:Option Addr)(m d:Nat)(t:TypeId):NB (w.alloc (.cells #[.int .i64 l,.slice A n c,.slice B m d] t)) w.1.size l A n c B m d:=⟨t,heap_alloc_new w _⟩
theorem NB.below (H:NB w b l A n c B m d){E:Nat}(hb:Below E w w')(hB:b<E):NB w' b l A n c B m d:=by
 obtain⟨t,H⟩:=H;exact⟨t,(hb.block b hB).trans H⟩
theorem NB.lt (H:NB w b l A n c B m d):b<w.1.size:=by
 obtain⟨t,H⟩:=H;exact (Array.getElem?_eq_some_iff.1 H).1
theorem NB.c0 (H:NB w b l A n c B m d):w.cell? ⟨b,0,none⟩=some (.int .i64 l):=by
 obtain⟨t,H⟩:=H;rw[cell_of_row _ _ _ _ _ _ H];rfl
theorem NB.c1 (H:NB w b l A n c B m d):w.cell? ⟨b,1,none⟩=some (.slice A n c):=by
 obtain⟨t,H⟩:=H;rw[cell_of_row _ _ _ _ _ _ H];rfl
theorem NB.c2 (H:NB w b l A n c B m d):w.cell? ⟨b,2,none⟩=some (.slice B m d):=by
 obtain⟨t,H⟩:=H;rw[cell_of_row _ _ _ _ _ _ H];rfl
end
theorem Rh (l:Int)(r:Bool)(h:decide (l=0)=r)(A:Option Addr)(n c:Nat)(B:Option Addr)(m d:Nat)(w:World) :
  Calls Tryz.prog 73 #[.agg #[.int .i64 l,.slice A n c,.slice B m d]] w λe w'=>e=.returned (.bool r)/\Below w.1.size w w':=by
 go_enter Tryz.func73,Tryz.ntmps73
 go_wp2;go_ret;refine⟨?_,Qm⟩;rw[<-h];first|rfl|(refine congrArg (λx=>Ending.returned (Value.bool x)) ?_;rw[Bool.eq_iff_iff];simp)
theorem q35 (x a b:Int)(r:Bool)(h:decide (a<=x/\x<=b)=r)(w:World) :
  Calls Tryz.prog 153 #[.int .i64 x,.int .i64 a,.int .i64 b] w λe w'=>e=.returned (.bool r)/\w=w':=by
 subst h;go_enter Tryz.func153,Tryz.ntmps153
 go_wp2;all_goals
  go_ret;refine⟨congrArg (λx=>Ending.returned (Value.bool x)) ?_,rfl⟩;first
   |exact (decide_eq_false (by omega)).symm
   |exact decide_eq_decide.2 (by omega)
   |(rw[Bool.eq_iff_iff];simp;omega)
theorem qmu (x:Int)(w:World) :
  Calls Tryz.prog 112 #[.int .i64 x] w λe w'=>e=.returned (.int .i64 (if x=0 then 3 else 4))/\w=w':=by
 by_cases h:x=0
 ·rw[if_pos h];go_enter Tryz.func112,Tryz.ntmps112
  go_wp2;go_ret;exact⟨rfl,rfl⟩
 ·rw[if_neg h];go_enter Tryz.func112,Tryz.ntmps112
  go_wp2;go_ret;exact⟨rfl,rfl⟩
theorem q4c (x k:Int)(h:(if x=0 then 3 else 4)=k)(w:World) :
  Calls Tryz.prog 112 #[.int .i64 x] w λe w'=>e=.returned (.int .i64 k)/\w=w':=by
 subst h;exact qmu x w
theorem q2j (k:Kd)(B:Option Addr)(m d:Nat)(w:World) :
  Calls Tryz.prog 75 #[.agg #[.int .i64 k.obj,.int .i64 k.kind,.int .i64 k.off,.slice B m d]] w λe w'=>e=.returned (.agg #[.int .i64 k.obj,.int .i64 k.kind,.int .i64 k.off])/\Below w.1.size w w':=by
 go_enter Tryz.func75,Tryz.ntmps75
 go_wp2;refine bodyPost_ret (Og Tryz.results75 rfl (q34 (KB.new2 w _ k.obj k.kind k.off _))) rfl ?_;exact⟨rfl,(Qm).alloc (by simp) _⟩
theorem q2k (k:Kd)(a:Int)(w:World) :
  Calls Tryz.prog 78 #[.agg #[.int .i64 k.obj,.int .i64 k.kind,.int .i64 k.off,.int .i64 a]] w λe w'=>e=.returned (.agg #[.int .i64 k.obj,.int .i64 k.kind,.int .i64 k.off])/\Below w.1.size w w':=by
 go_enter Tryz.func78,Tryz.ntmps78
 go_wp2;refine bodyPost_ret (Og Tryz.results78 rfl (q34 (KB.new2 w _ k.obj k.kind k.off _))) rfl ?_;exact⟨rfl,(Qm).alloc (by simp) _⟩
theorem qb0 (k:Kd)(B:Option Addr)(m d:Nat)(r:Bool)(h:decide (m<=28)=r)(w:World) :
  Calls Tryz.prog 152 #[.agg #[.int .i64 k.obj,.int .i64 k.kind,.int .i64 k.off,.slice B m d]] w λe w'=>e=.returned (.bool r)/\Below w.1.size w w':=by
 go_enter Tryz.func152,Tryz.ntmps152
 go_wp2;go_ret;refine⟨?_,Qm⟩;rw[<-h];exact congrArg (λx=>Ending.returned (Value.bool x)) (decide_eq_decide.2 (by omega))
theorem qb1 (k:Kd)(a:Int)(r:Bool)(h:decide (1<=a/\a<=2047)=r)(w:World) :
  Calls Tryz.prog 155 #[.agg #[.int .i64 k.obj,.int .i64 k.kind,.int .i64 k.off,.int .i64 a]] w λe w'=>e=.returned (.bool r)/\Below w.1.size w w':=by
 go_enter Tryz.func155,Tryz.ntmps155
 go_wp2_with fail
 refine (q35 a 1 2047 r h _).mono ?_;rintro e f ⟨rfl,rfl⟩;go_wp2;go_ret;exact⟨rfl,Qm⟩
theorem NB.range {w:World}{b:Nat}{l:Int}{A B:Option Addr}{n c m d:Nat}(H:NB w b l A n c B m d):w.rangeAt b 0 [.int .i64 l,.slice A n c,.slice B m d]:=λj v e=>by
 obtain⟨t,H⟩:=H;rw[cell_of_row _ _ _ _ _ _ H,Nat.zero_add];simpa using e
theorem Ii {w:World}{b:Nat}{l:Int}{A B:Option Addr}{n c m d:Nat}(H:NB w b l A n c B m d):(loadVar 75 ⟨b,0,none⟩).run Tryz.prog w=.ok (.agg #[.int .i64 l,.slice A n c,.slice B m d]) w:=
 run_loadVar_mid w b 0 75 _ _ H.range Tryz.underlying75 rfl (by kernel_rfl)
theorem NB.new2 (w:World)(o:Obj)(l:Int)(A:Option Addr)(n c:Nat)(B:Option Addr)(m d:Nat)(t:TypeId):NB ((w.alloc o).alloc (.cells #[.int .i64 l,.slice A n c,.slice B m d] t)) (w.1.size+1) l A n c B m d:=by
 have:=NB.new (w.alloc o) l A n c B m d t;rwa [World.size_alloc] at this
def Nd.few (N:Nd):Nd:=⟨N.lvl,N.items.take 20,N.kids.take 20⟩
def Nd.least (N:Nd):Kd:=if N.keys.length=0 then ⟨0,0,0⟩ else keyAt N.keys 0
def lead (ks:List Kd)(k:Kd):Nat:=(ks.takeWhile λx=>x.less k).length
def lastTo (ks:List Kd)(k:Kd):Nat->Nat
 |0=>0
 |j+1=>if k.less (keyAt ks j)=true then lastTo ks k j else j
def Vb (ks:List Kd)(k:Kd)(i:Nat):Bool:=decide (i<ks.length)&&(keyAt ks i).same k
def Nd.Za (N:Nd)(k:Kd):Nat:=if N.lvl=0 then lead N.keys k else lastTo N.keys k N.keys.length
theorem qb2 (ks:List Kd)(k:Kd):lead ks k<=ks.length:=by
 unfold lead;induction ks with
 |nil=>simp
 |cons x ks ih=>rw[List.takeWhile_cons];split<;>simp<;>omega
theorem qih:∀(e:List Kd) (k:Kd) (j:Nat),(∀q,q<j->(keyAt e q).less k=true)->j<=e.length->(j=e.length\/(keyAt e j).less k=false)->lead e k=j
 |[],k,j,_,h2,_=>by simp at h2;subst h2;rfl
 |x::e,k,0,_,_,h3=>by
  rcases h3 with h|h
  ·simp at h
  ·have h:x.less k=false:=h;unfold lead;rw[List.takeWhile_cons,h];rfl
 |x::e,k,j+1,h1,h2,h3=>by
  have h0:x.less k=true:=h1 0 (by omega);have:=qih e k j (λq f=>h1 (q+1) (by omega)) (by simpa using h2) (by
   rcases h3 with h|h
   ·left;simpa using h
   ·right;exact h)
  unfold lead at this ⊢;rw[List.takeWhile_cons,h0];simpa using this
theorem q75 (ks:List Kd)(k:Kd)(j:Nat):lastTo ks k j=0\/lastTo ks k j<j:=by
 induction j with
 |zero=>left;rfl
 |succ j ih=>unfold lastTo;split<;>omega
theorem q5s (ks:List Kd)(k:Kd):∀j,0<lastTo ks k j->k.less (keyAt ks (lastTo ks k j))=false
 |0,h=>by cases h
 |j+1,h=>by
  unfold lastTo at h ⊢;by_cases e:k.less (keyAt ks j)=true
  ·rw[if_pos e] at h ⊢;exact q5s ks k j h
  ·rw[if_neg e];simpa using e
theorem q53 (ks:List Kd)(k:Kd):∀j q,lastTo ks k j<q->q<j->k.less (keyAt ks q)=true
 |0,q,_,h=>by cases h
 |j+1,q,h,hq=>by
  unfold lastTo at h;by_cases e:k.less (keyAt ks j)=true
  ·rw[if_pos e] at h;rcases (by omega:q<j\/q=j) with h1|rfl
   ·exact q53 ks k j q h h1
   ·exact e
  ·rw[if_neg e] at h;omega
theorem q6b:∀(e:List Kd) (k:Kd) (q:Nat),q<lead e k->(keyAt e q).less k=true
 |[],k,q,h=>by cases h
 |x::e,k,q,h=>by
  unfold lead at h;rw[List.takeWhile_cons] at h;by_cases f:x.less k=true
  ·rw[if_pos f] at h;match q with
   |0=>exact f
   |q+1=>exact q6b e k q (by unfold lead;simpa using h)
  ·rw[if_neg f] at h
   cases h
theorem qb3:∀(e:List Kd) (k:Kd),lead e k<e.length->(keyAt e (lead e k)).less k=false
 |[],k,h=>by cases h
 |x::e,k,h=>by
  unfold lead at h ⊢;rw[List.takeWhile_cons] at h ⊢;by_cases f:x.less k=true
  ·rw[if_pos f] at h ⊢;exact qb3 e k (by unfold lead;simpa using h)
  ·rw[if_neg f];show x.less k=false;simpa using f
