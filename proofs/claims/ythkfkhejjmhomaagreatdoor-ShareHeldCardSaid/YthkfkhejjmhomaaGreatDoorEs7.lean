/- Keys: the code's and the reference's Less and May; First and Last -/
import Derived.Test.YthkfkhejjmhomaaGreatDoorEs3
import Derived.Test.YthkfkhejjmhomaaGreatDoorEs5
import Derived.Deep.RegionHeld3
import Derived.Laws.StructEq
namespace Go.Proofs.YthkfkhejjmhomaaGreatDoor
open Go Go.RowKit Go.Proofs
set_option maxHeartbeats 4000000
def Kd.v (k:Kd):Value:=.agg #[.int .i64 k.obj,.int .i64 k.kind,.int .i64 k.off]
def Kd.vs (k:Kd):List Value:=[.int .i64 k.obj,.int .i64 k.kind,.int .i64 k.off]
def KB (w:World)(b:Nat)(k:Kd):Prop:=∃t,w.1[b]?=some (.cells #[.int .i64 k.obj,.int .i64 k.kind,.int .i64 k.off] t (0,0))
theorem KB.new (w:World)(x y z:Int)(t:TypeId):KB (w.alloc (.cells #[.int .i64 x,.int .i64 y,.int .i64 z] t)) w.1.size ⟨x,y,z⟩:=⟨t,heap_alloc_new w _⟩
theorem KB.below {w w':World}{b:Nat}{k:Kd}(H:KB w b k){B:Nat}(hb:Below B w w')(hB:b<B):KB w' b k:=by
 obtain⟨t,H⟩:=H;exact⟨t,(hb.block b hB).trans H⟩
theorem KB.range {w:World}{b:Nat}{k:Kd}(H:KB w b k):w.rangeAt b 0 k.vs:=λj v f=>by
 obtain⟨t,H⟩:=H;rw[cell_of_row _ _ _ _ _ _ H,Nat.zero_add];simpa [Kd.vs] using f
theorem KB.c0 {w:World}{b:Nat}{k:Kd}(H:KB w b k):w.cell? ⟨b,0,none⟩=some (.int .i64 k.obj):=H.range 0 _ rfl
theorem KB.c1 {w:World}{b:Nat}{k:Kd}(H:KB w b k):w.cell? ⟨b,1,none⟩=some (.int .i64 k.kind):=H.range 1 _ rfl
theorem KB.c2 {w:World}{b:Nat}{k:Kd}(H:KB w b k):w.cell? ⟨b,2,none⟩=some (.int .i64 k.off):=H.range 2 _ rfl
theorem q2z {w:World}{b:Nat}{k:Kd}(H:KB w b k):(loadVar 45 ⟨b,0,none⟩).run Tryz.prog w=.ok k.v w:=
 run_loadVar_mid w b 0 45 k.vs _ H.range Tryz.underlying45 rfl (by kernel_rfl)
theorem Ol {u:Func}{p:Tmp}{ty:TypeId}{y:Addr}{v:Value}{P:Program}{w:World}{f:Array Value}(h:u.results=#[.cell p ty])(E:f.getD p undef=.pointer (some y))(D:(loadVar ty y).run P w=.ok v w) :
  (results u f).run P w=.ok v w:=by
 have e:(results u f).run P w=((asAddr (f.getD p undef)).run P w).andThen λa F=>(loadVar ty a).run P F:=by
  simp only[results,h];simp[Sem.run_bind,Result.andThen];try rfl
 rw[e,E];simp[asAddr,D]
theorem Gi {y:Func}{p a:Tmp}{ty:TypeId}{u:Addr}{v:Value}{P:Program}{w:World}{f:Array Value}(h:y.results=#[.cell p ty,.tmp a])(E:f.getD p undef=.pointer (some u))(D:(loadVar ty u).run P w=.ok v w) :
  (results y f).run P w=.ok (.tuple #[v,f.getD a undef]) w:=by
 have e:(results y f).run P w=((asAddr (f.getD p undef)).run P w).andThen λu F=>((loadVar ty u).run P F).andThen λv G=>.ok (.tuple #[v,f.getD a undef]) G:=by
  simp only[results,h];simp[Sem.run_bind,Result.andThen]
 rw[e,E];simp[asAddr,D]
theorem q7j {y:Func}{p a b:Tmp}{ty:TypeId}{u:Addr}{v:Value}{P:Program}{w:World}{f:Array Value}(h:y.results=#[.cell p ty,.tmp a,.tmp b])(E:f.getD p undef=.pointer (some u))(D:(loadVar ty u).run P w=.ok v w) :
  (results y f).run P w=.ok (.tuple #[v,f.getD a undef,f.getD b undef]) w:=by
 have e:(results y f).run P w=((asAddr (f.getD p undef)).run P w).andThen λu F=>((loadVar ty u).run P F).andThen λv G=>.ok (.tuple #[v,f.getD a undef,f.getD b undef]) G:=by
  simp only[results,h];simp[Sem.run_bind,Result.andThen]
 rw[e,E];simp[asAddr,D]
theorem qle (a b:Kd)(w:World) :
  Calls Tryz.prog 55 #[.agg #[.int .i64 a.obj,.int .i64 a.kind,.int .i64 a.off],.agg #[.int .i64 b.obj,.int .i64 b.kind,.int .i64 b.off]] w λe w'=>e=.returned (.bool (a.less b))/\Below w.1.size w w':=by
 obtain⟨r,f⟩:∃r,a.less b=r:=⟨_,rfl⟩;rw[f];unfold Kd.less at f;by_cases h1:a.obj=b.obj
 ·rw[if_pos h1] at f;by_cases h2:a.kind=b.kind
  ·rw[if_pos h2] at f;go_enter Tryz.func55,Tryz.ntmps55
   go_wp2;go_ret;exact⟨by rw[<-f];rfl,(Qn).alloc (by simp) _⟩
  ·rw[if_neg h2] at f;go_enter Tryz.func55,Tryz.ntmps55
   go_wp2;go_ret;exact⟨by rw[<-f];rfl,(Qn).alloc (by simp) _⟩
 ·rw[if_neg h1] at f;go_enter Tryz.func55,Tryz.ntmps55
  go_wp2;go_ret;exact⟨by rw[<-f];rfl,(Qn).alloc (by simp) _⟩
theorem q8v (x m:Int)(w:World) :
  Calls Tryz.prog 182 #[.int .i64 x,.int .i64 m] w λe w'=>e=.returned (.bool (decide (0<=x/\x<=m)))/\w=w':=by
 go_enter Tryz.func182,Tryz.ntmps182
 go_wp2;all_goals
  go_ret;refine⟨congrArg (λx=>Ending.returned (Value.bool x)) ?_,rfl⟩;first
   |exact (decide_eq_false (by omega)).symm
   |exact decide_eq_decide.2 (by omega)
   |(rw[Bool.eq_iff_iff];simp;omega)
theorem qsb (k:Kd)(w:World) :
  Calls Tryz.prog 107 #[.agg #[.int .i64 k.obj,.int .i64 k.kind,.int .i64 k.off]] w λe w'=>e=.returned (.bool k.may)/\Below w.1.size w w':=by
 obtain⟨b,f⟩:∃b,k.may=b:=⟨_,rfl⟩;rw[f];unfold Kd.may at f;go_enter Tryz.func107,Tryz.ntmps107
 go_wp2_with fail
 refine (q8v k.obj 2147483647 _).mono ?_;by_cases h1:0<=k.obj/\k.obj<=2147483647
 ·rw[decide_eq_true h1];rintro e p ⟨rfl,rfl⟩;go_wp2_with fail
  refine (q8v k.kind 255 _).mono ?_;by_cases h2:0<=k.kind/\k.kind<=255
  ·rw[decide_eq_true h2];rintro e p ⟨rfl,rfl⟩;go_wp2_with fail
   refine (q8v k.off 2147483647 _).mono ?_;rintro e p ⟨rfl,rfl⟩;go_wp2;go_ret;exact⟨by rw[<-f];exact congrArg (λx=>Ending.returned (Value.bool x)) (by rw[Bool.eq_iff_iff];simp;omega),Qn⟩
  ·rw[decide_eq_false h2];rintro e p ⟨rfl,rfl⟩;go_wp2;go_ret;exact⟨by rw[<-f];exact congrArg (λx=>Ending.returned (Value.bool x)) (decide_eq_false (by omega)).symm,Qn⟩
 ·rw[decide_eq_false h1];rintro e p ⟨rfl,rfl⟩;go_wp2;go_ret;exact⟨by rw[<-f];exact congrArg (λx=>Ending.returned (Value.bool x)) (decide_eq_false (by omega)).symm,Qn⟩
theorem qjc (k:Kd)(w:World) :
  Calls Tryz.prog 72 #[.agg #[.int .i64 k.obj,.int .i64 k.kind,.int .i64 k.off]] w λe w'=>e=.returned (.bool k.may)/\Below w.1.size w w':=by
 obtain⟨b,f⟩:∃b,k.may=b:=⟨_,rfl⟩;rw[f];unfold Kd.may at f;go_enter Tryz.func72,Tryz.ntmps72
 go_wp2;all_goals
  go_ret;refine⟨?_,Qn⟩;rw[<-f];first
   |exact congrArg (λx=>Ending.returned (Value.bool x)) (decide_eq_false (by omega)).symm
   |exact congrArg (λx=>Ending.returned (Value.bool x)) (decide_eq_decide.2 (by omega))
theorem pin (l:List UInt8)(x n:Int)(h1:1<=n)(h2:n<=8):Bo l x n=l++Zc x n.toNat:=if_pos ⟨h1,h2⟩
theorem KB.lt {w:World}{b:Nat}{k:Kd}(H:KB w b k):b<w.1.size:=by
 obtain⟨t,H⟩:=H;exact Wx H
theorem KB.there {w:World}{b:Nat}{k:Kd}(H:KB w b k):w.there b 0 3:=λj f=>by
 obtain⟨t,H⟩:=H;refine⟨?_,by unfold World.frozen?;rw[H];simp⟩;rw[cell_of_row _ _ _ _ _ _ H,Nat.zero_add,Array.getElem?_eq_getElem (by simpa using f)];rfl
theorem KB.stored {w:World}{b:Nat}{k:Kd}(H:KB w b k)(k2:Kd):KB (w.setCells b 0 k2.vs) b k2:=by
 obtain⟨t,H⟩:=H;exact⟨t,Dz _ (Dz _ (Dz _ H))⟩
theorem KB.keep {w w':World}{b:Nat}{k:Kd}(H:KB w b k)(h:w'.1[b]?=w.1[b]?):KB w' b k:=by
 obtain⟨t,H⟩:=H;exact⟨t,h.trans H⟩
theorem KB.fz {w:World}{b:Nat}{k:Kd}(H:KB w b k)(i:Nat):w.frozen? ⟨b,i,none⟩=false:=by
 obtain⟨t,H⟩:=H;unfold World.frozen?;rw[H];simp
theorem KB.set0 {w:World}{b:Nat}{k:Kd}(H:KB w b k)(x:Int):KB (w.setCell ⟨b,0,none⟩ (.int .i64 x)) b ⟨x,k.kind,k.off⟩:=by
 obtain⟨t,H⟩:=H;exact⟨t,Dz _ H⟩
theorem KB.set1 {w:World}{b:Nat}{k:Kd}(H:KB w b k)(x:Int):KB (w.setCell ⟨b,1,none⟩ (.int .i64 x)) b ⟨k.obj,x,k.off⟩:=by
 obtain⟨t,H⟩:=H;exact⟨t,Dz _ H⟩
theorem KB.set2 {w:World}{b:Nat}{k:Kd}(H:KB w b k)(x:Int):KB (w.setCell ⟨b,2,none⟩ (.int .i64 x)) b ⟨k.obj,k.kind,x⟩:=by
 obtain⟨t,H⟩:=H;exact⟨t,Dz _ H⟩
theorem qdd {ops:Array Oper}{f:List Oper}{o:Oper}{a:Act}{w:World}{Q:Exit->Act->World->Prop}(y:o.guard=none)(x:Operand)(p:o.op=Op.load 45 x)
  (b:Nat) (D:a.eval x=.pointer (some ⟨b,0,none⟩)) (k:Kd) (H:KB w b k) (u:wpList Tryz.prog ops Q f (a.put o.dst k.v) w):wpList Tryz.prog ops Q (o::f) a w:=
 wpList_load_mid y _ x p b 0 D k.vs _ H.range Tryz.underlying45 rfl (by kernel_rfl) u
theorem q1j {ops:Array Oper}{f:List Oper}{o:Oper}{a:Act}{w:World}{Q:Exit->Act->World->Prop}(D:o.guard=none)(x y:Operand)(p:o.op=Op.store 45 x y)
  (b:Nat) (E:a.eval x=.pointer (some ⟨b,0,none⟩)) (k G:Kd) (F:a.eval y=k.v) (H:KB w b G)
  (u:∀w',KB w' b k->Turn (λg=>g=b) w w'->wpList Tryz.prog ops Q f (a.put o.dst undef) w'):wpList Tryz.prog ops Q (o::f) a w:=
 wpList_store_mid D _ x y p b 0 k.vs.toArray E F H.there (by kernel_rfl) (by simp[Kd.vs,Value.oneCell'])
  (u _ (H.stored k) (Um (S:=λg=>g=b) rfl k.vs 0 w))
theorem Own.keep {w w':World}{base n c:Nat}{e:TypeId}{A:Option Addr}{l:List UInt8}(h:Own w base e A n c l)(hk:∀g,base<=g->g<w.1.size->w'.1[g]?=w.1[g]?):Own w' base e A n c l:=by
 refine⟨h.1,?_⟩;rcases h.2 with p|⟨g,cap,f,p,h1,u,r⟩
 ·exact .inl p
 ·exact .inr ⟨g,cap,f,p,h1,(hk g h1 (Array.getElem?_eq_some_iff.1 u).1).trans u,r⟩
theorem qex (w:World)(base:Nat)(e:TypeId):Own w base e none 0 0 []:=⟨by simp,.inl ⟨rfl,rfl⟩⟩
theorem Turn.Qy {b:Nat}{w w':World}(h:Turn (λg=>g=b) w w')(hb:b<w.1.size):Below b w w':=h.below (λx f=>by omega) (by omega)
theorem qny (l:List UInt8)(k:Kd):l++Zc k.obj (4:Int).toNat++Zc k.kind (1:Int).toNat++Zc k.off (4:Int).toNat=l++k.bytes:=by
 unfold Kd.bytes;rw[List.append_assoc,List.append_assoc];rfl
theorem q7k (A:Option Addr)(k c:Nat)(l:List UInt8)(x n:Int)(w:World)(h:Sl w A k c l)(E:k<=17592186044416)(h1:1<=n)(h2:n<=8) :
  Calls Tryz.prog 180 #[.slice A k c,.int .i64 x,.int .i64 n] w λe w'=>∃p f u,e=.returned (.slice p f u)/\Own w' w.1.size 5 p f u (l++Zc x n.toNat)/\f<=k+8/\Below w.1.size w w':=by
 have h:=qaf A k c l x n w h E;rw[pin _ _ n h1 h2] at h;refine h.mono ?_;rintro e w' ⟨p,f,u,rfl,own,D⟩;refine⟨p,f,u,rfl,own,?_,D⟩;have y:=own.len;rw[List.length_append,Ya,(show l.length=k from (by assumption:Sl w A k c l).len)] at y;omega
theorem qlf (A:Option Addr)(n c:Nat)(l:List UInt8)(k:Kd)(w:World)(h:Sl w A n c l)(hn:n<=4398046511104) :
  Calls Tryz.prog 284 #[.slice A n c,.agg #[.int .i64 k.obj,.int .i64 k.kind,.int .i64 k.off]] w λe w'=>∃O W R,e=.returned (.slice O W R)/\Own w' w.1.size 5 O W R (l++k.bytes)/\Below w.1.size w w':=by
 have U:=Lib.hid h.len;go_enter Tryz.func284,Tryz.ntmps284
 go_wp2_with fail
 have F:=KB.new w k.obj k.kind k.off 45;have h1:=h.alloc (.cells #[.int .i64 k.obj,.int .i64 k.kind,.int .i64 k.off] 45);have I:Below w.1.size w (w.alloc (.cells #[.int .i64 k.obj,.int .i64 k.kind,.int .i64 k.off] 45)):=Qn;generalize w.alloc (.cells #[.int .i64 k.obj,.int .i64 k.kind,.int .i64 k.off] 45)=w1 at F h1 I ⊢;have z1:=F.lt;refine (q7k A n c l k.obj 4 w1 h1 (by omega) (by omega) (by omega)).mono ?_;rintro e w2 ⟨Y,n2,c2,rfl,y,a0,f⟩;have G:=F.below f z1;have z2:=G.lt;have q1:=G.c1;go_wp2_with fail
 refine (q7k Y n2 c2 _ k.kind 1 w2 y.sl (by omega) (by omega) (by omega)).mono ?_;rintro e X ⟨Z,n3,c3,rfl,D,a1,p⟩;have Q:=G.below p z2;have z3:=Q.lt;have q2:=Q.c2;clear q1;go_wp2_with fail
 refine (q7k Z n3 c3 _ k.off 4 X D.sl (by omega) (by omega) (by omega)).mono ?_;rw[qny];rintro e w4 ⟨A4,n4,c4,rfl,E,_,M⟩;have s2:=f.size;have s3:=p.size;have u:=I.trans ((f.trans (p.mono s2)).mono I.size);have T:w.1.size<=X.1.size:=u.size;have J:=u.trans (M.mono T);have o5:=E.less T;go_wp2;go_ret;exact⟨A4,n4,c4,rfl,o5,J⟩
def Dc (l:List UInt8):Kd:=⟨(Za (l.take 4):Int),(Za ((l.drop 4).take 1):Int),(Za ((l.drop 5).take 4):Int)⟩
def ktY (l:List UInt8):Bool:=decide (9<=l.length)&&(Dc l).may
def Gw (l:List UInt8):Kd:=if ktY l=true then Dc l else ⟨0,0,0⟩
def Wj (l:List UInt8):List UInt8:=if ktY l=true then l.drop 9 else []
def U6 (l:List UInt8):Int:=if ktY l=true then 0 else if l.length<9 then 2 else 3
theorem qvi {l:List UInt8}(h:l.length<9):Gw l=⟨0,0,0⟩/\Wj l=[]/\U6 l=2:=by
 have f:ktY l=false:=by unfold ktY;rw[decide_eq_false (by omega)];rfl
 unfold Gw Wj U6;rw[f,if_pos h];exact⟨rfl,rfl,rfl⟩
theorem Qce {l:List UInt8}(h:¬l.length<9)(hm:(Dc l).may=false):Gw l=⟨0,0,0⟩/\Wj l=[]/\U6 l=3:=by
 have f:ktY l=false:=by unfold ktY;rw[hm,Bool.and_false]
 unfold Gw Wj U6;rw[f,if_neg h];exact⟨rfl,rfl,rfl⟩
theorem qw9 {l:List UInt8}(h:¬l.length<9)(hm:(Dc l).may=true):Gw l=Dc l/\Wj l=l.drop 9/\U6 l=0:=by
 have f:ktY l=true:=by unfold ktY;rw[hm,decide_eq_true (by omega)];rfl
 unfold Gw Wj U6;rw[f];exact⟨rfl,rfl,rfl⟩
theorem Qbo (l:List UInt8):(l.drop (4:Int).toNat).drop (1:Int).toNat=l.drop 5:=by rw[List.drop_drop];rfl
theorem Qbp (l:List UInt8):(l.drop 5).drop (4:Int).toNat=l.drop 9:=by rw[List.drop_drop];rfl
theorem q5u (A:Option Addr)(k c:Nat)(l:List UInt8)(n:Int)(m:Nat)(w:World)(h:Sl w A k c l)(D:k<=17592186044416)(h1:1<=n)(u:n<=7)(hn:n<=(k:Int))(hm:m=k-n.toNat) :
  Calls Tryz.prog 151 #[.slice A k c,.int .i64 n] w λe w'=>∃f p,e=.returned (.tuple #[.int .i64 (Za (l.take n.toNat)),.slice f m p,.int .i64 0])/\Own w' w.1.size 5 f m p (l.drop n.toNat)/\Below w.1.size w w':=by
 refine (q7f A k c l n w h D h1 u hn).mono ?_;rintro e w' ⟨f,E,p,rfl,own,y⟩;have:=own.len;rw[List.length_drop,h.len] at this;obtain rfl:E=m:=by omega
 exact⟨f,p,rfl,own,y⟩
theorem qsc (A:Option Addr)(n c:Nat)(l:List UInt8)(w:World)(h:Sl w A n c l)(hn:n<=17592186044416) :
  Calls Tryz.prog 212 #[.slice A n c] w λe w'=>∃A' n' c',e=.returned (.tuple #[(Gw l).v,.slice A' n' c',.int .i64 (U6 l)])/\Own w' w.1.size 5 A' n' c' (Wj l)/\Below w.1.size w w':=by
 have E:=Lib.hid h.len;have Z:∀o,Below w.1.size w (w.alloc o):=λo=>(Below.refl _ _).alloc (Nat.le_refl _) o
 by_cases h9:n<9
 ·obtain⟨Q,R,T⟩:=qvi (l:=l) (by rw[E.out];exact h9);rw[Q,R,T];go_enter Tryz.func212,Tryz.ntmps212
  go_wp2;refine bodyPost_ret (q7j Tryz.results212 rfl (q2z (KB.new w 0 0 0 _))) rfl ?_;exact⟨_,_,_,rfl,qex _ _ _,Z _⟩
 ·have a0:¬l.length<9:=by rw[E.out];exact h9
  go_enter Tryz.func212,Tryz.ntmps212
  go_wp2_with fail
  have R2:KB ((w.alloc (.cells #[.int .i64 0,.int .i64 0,.int .i64 0] 45)).alloc (.cells #[.int .i64 0,.int .i64 0,.int .i64 0] 45)) w.1.size ⟨0,0,0⟩:=(KB.new w 0 0 0 _).below (Qn) (by simp);have K2:KB ((w.alloc (.cells #[.int .i64 0,.int .i64 0,.int .i64 0] 45)).alloc (.cells #[.int .i64 0,.int .i64 0,.int .i64 0] 45)) (w.1.size+1) ⟨0,0,0⟩:=by
   have:=KB.new (w.alloc (.cells #[.int .i64 0,.int .i64 0,.int .i64 0] 45)) 0 0 0 45;rwa [World.size_alloc] at this
  have B2:Below w.1.size w ((w.alloc (.cells #[.int .i64 0,.int .i64 0,.int .i64 0] 45)).alloc (.cells #[.int .i64 0,.int .i64 0,.int .i64 0] 45)):=(Z _).alloc (by simp) _;generalize (w.alloc (.cells #[.int .i64 0,.int .i64 0,.int .i64 0] 45)).alloc (.cells #[.int .i64 0,.int .i64 0,.int .i64 0] 45)=w2 at R2 K2 B2 ⊢;have h2:=h.below B2;have z2:=K2.lt;refine (q5u A n c l 4 (n-4) w2 h2 hn (by omega) (by omega) (by omega) rfl).mono ?_;rintro e w3 ⟨A3,c3,rfl,F,u⟩;have R3:=R2.below u R2.lt;have K3:=K2.below u z2;have B3:=B2.trans (u.mono B2.size);clear R2 K2 h2 u;have q0:=K3.c0;have W:=K3.fz 0;have o3:=F.less (show w.1.size+2<=w2.1.size by omega);obtain⟨X,hX⟩:∃X,Za (l.take (4:Int).toNat)=X:=⟨_,rfl⟩;rw[hX];clear F z2;go_wp2_with fail
  have K4:=K3.set0 (X:Int);have R4:=R3.keep (w':=w3.setCell ⟨w.1.size+1,0,none⟩ (.int .i64 (X:Int))) (Below.heap_setCell _ _ _ _ (by show w.1.size≠w.1.size+1;omega));have o4:=o3.keep (w':=w3.setCell ⟨w.1.size+1,0,none⟩ (.int .i64 (X:Int))) (λg hg _=>Below.heap_setCell _ _ _ _ (by show g≠w.1.size+1;omega));have B4:=B3.setCell (p:=⟨w.1.size+1,0,none⟩) (show w.1.size<=w.1.size+1 by omega) (.int .i64 (X:Int));clear q0 W;generalize w3.setCell ⟨w.1.size+1,0,none⟩ (.int .i64 (X:Int))=w4 at K4 R4 o4 B4 ⊢;have z4:=K4.lt;refine (q5u A3 (n-4) c3 _ 1 (n-5) w4 o4.sl (by omega) (by omega) (by omega) (by omega) rfl).mono ?_;rw[Qbo];rintro e w5 ⟨A5,c5,rfl,G,y⟩;have R5:=R4.below y R4.lt;have K5:=K4.below y z4;have B5:=B4.trans (y.mono B4.size);have q0:=K5.c1;have W:=K5.fz 1;have o5:=G.less (show w.1.size+2<=w4.1.size by omega);obtain⟨Y,hY⟩:∃Y,Za ((l.drop (4:Int).toNat).take (1:Int).toNat)=Y:=⟨_,rfl⟩;rw[hY];clear G z4 R3 K3 B3 R4 K4 B4 o3 o4 y;go_wp2_with fail
  have K6:=K5.set1 (Y:Int);have R6:=R5.keep (w':=w5.setCell ⟨w.1.size+1,1,none⟩ (.int .i64 (Y:Int))) (Below.heap_setCell _ _ _ _ (by show w.1.size≠w.1.size+1;omega));have o6:=o5.keep (w':=w5.setCell ⟨w.1.size+1,1,none⟩ (.int .i64 (Y:Int))) (λg hg _=>Below.heap_setCell _ _ _ _ (by show g≠w.1.size+1;omega));have B6:=B5.setCell (p:=⟨w.1.size+1,1,none⟩) (show w.1.size<=w.1.size+1 by omega) (.int .i64 (Y:Int));clear q0 W;generalize w5.setCell ⟨w.1.size+1,1,none⟩ (.int .i64 (Y:Int))=w6 at K6 R6 o6 B6 ⊢;have z6:=K6.lt;refine (q5u A5 (n-5) c5 _ 4 (n-9) w6 o6.sl (by omega) (by omega) (by omega) (by omega) rfl).mono ?_;rw[Qbp];rintro e w7 ⟨A7,c7,rfl,I,D⟩;have R7:=R6.below D R6.lt;have K7:=K6.below D z6;have B7:=B6.trans (D.mono B6.size);have q0:=K7.c2;have W:=K7.fz 2;have o7:=I.less (show w.1.size+2<=w6.1.size by omega);obtain⟨U,hU⟩:∃U,Za ((l.drop 5).take (4:Int).toNat)=U:=⟨_,rfl⟩;rw[hU];have hK:Dc l=⟨(X:Int),(Y:Int),(U:Int)⟩:=by rw[<-hX,<-hY,<-hU];rfl
  clear I z6 R5 K5 B5 R6 K6 B6 o5 o6 D;have K8:=K7.set2 (U:Int);have M:=R7.keep (w':=w7.setCell ⟨w.1.size+1,2,none⟩ (.int .i64 (U:Int))) (Below.heap_setCell _ _ _ _ (by show w.1.size≠w.1.size+1;omega));have o8:=o7.keep (w':=w7.setCell ⟨w.1.size+1,2,none⟩ (.int .i64 (U:Int))) (λg hg _=>Below.heap_setCell _ _ _ _ (by show g≠w.1.size+1;omega));have J:=B7.setCell (p:=⟨w.1.size+1,2,none⟩) (show w.1.size<=w.1.size+1 by omega) (.int .i64 (U:Int));go_wp2_with (first
   |(refine qdd rfl (.tmp 5) rfl (w.1.size+1) rfl ⟨(X:Int),(Y:Int),(U:Int)⟩ K8 ?_)
   |fail)
  clear q0 W K7 R7 o7 B7;generalize w7.setCell ⟨w.1.size+1,2,none⟩ (.int .i64 (U:Int))=w8 at K8 M o8 J ⊢;have z8:=K8.lt;refine (qsb ⟨(X:Int),(Y:Int),(U:Int)⟩ w8).mono ?_;obtain⟨b,hb⟩:∃b,(⟨(X:Int),(Y:Int),(U:Int)⟩:Kd).may=b:=⟨_,rfl⟩;have hm:(Dc l).may=b:=by rw[hK,hb]
  rw[hb]
  cases b
  ·obtain⟨Q,R,T⟩:=Qce a0 hm;rintro e w9 ⟨rfl,f⟩;have O:=M.below f M.lt;have B9:=J.trans (f.mono J.size);go_wp2_with (first
    |(refine q1j rfl (.tmp 2) (.tmp 34) rfl w.1.size rfl ⟨0,0,0⟩ _ rfl O ?_;intro wz Rz Tz)
    |fail)
   refine bodyPost_ret (q7j Tryz.results212 rfl (q2z Rz)) rfl ?_;rw[Q,R,T];exact⟨_,_,_,rfl,qex _ _ _,B9.trans (Tz.Qy O.lt)⟩
  ·obtain⟨Q,R,T⟩:=qw9 a0 hm;rintro e w9 ⟨rfl,f⟩;have O:=M.below f M.lt;have K9:=K8.below f z8;have B9:=J.trans (f.mono J.size);have o9:=o8.below f;go_wp2_with (first
    |(refine qdd rfl (.tmp 5) rfl (w.1.size+1) rfl ⟨(X:Int),(Y:Int),(U:Int)⟩ K9 ?_)
    |(refine q1j rfl (.tmp 2) (.tmp 35) rfl w.1.size rfl ⟨(X:Int),(Y:Int),(U:Int)⟩ _ rfl O ?_;intro wz Rz Tz)
    |fail)
   rw[<-hK] at Rz;refine bodyPost_ret (q7j Tryz.results212 rfl (q2z Rz)) rfl ?_;rw[Q,R,T];refine⟨A7,n-9,c7,rfl,?_,B9.trans (Tz.Qy O.lt)⟩;exact (o9.keep λg hg hl=>Tz.block g hl (by show ¬g=w.1.size;omega)).less (by omega)
theorem qnz (a b:Kd)(w:World):(binOp .eql 45 a.v b.v).run Tryz.prog w=.ok (.bool (a.same b)) w:=by
 unfold Kd.v;rw[run_eql_struct,run_equalIn_agg w 9999 45 _ _ (by kernel_rfl) (by kernel_rfl)];unfold Program.fieldsOf;rw[Tryz.underlying45];simp[go_sem,Tryz.underlying3];unfold Kd.same;by_cases h1:a.obj=b.obj
 ·by_cases h2:a.kind=b.kind
  ·by_cases f:a.off=b.off
   ·simp[h1,h2,f]
   ·simp[h1,h2,f]
  ·simp[h1,h2]
 ·simp[h1]
theorem KB.new2 (w:World)(o:Obj)(x y z:Int)(t:TypeId):KB ((w.alloc o).alloc (.cells #[.int .i64 x,.int .i64 y,.int .i64 z] t)) (w.1.size+1) ⟨x,y,z⟩:=by
 have:=KB.new (w.alloc o) x y z t;rwa [World.size_alloc] at this
theorem qde (x y:Operand)(xs ys:Array Value)(w:World):(eqGuard .eql 45 x y (.agg xs) (.agg ys)).run Tryz.prog w=.ok () w:=
 run_eqGuard_agg w .eql 45 x y xs ys (by kernel_rfl)
theorem qlg (a b:Kd)(r:Bool)(h:a.same b=r)(w:World):(binOp .eql 45 (.agg #[.int .i64 a.obj,.int .i64 a.kind,.int .i64 a.off]) (.agg #[.int .i64 b.obj,.int .i64 b.kind,.int .i64 b.off])).run Tryz.prog w=.ok (.bool r) w:=by
 have:=qnz a b w;rw[h] at this;exact this
theorem q7l (a b:Kd)(r:Bool)(h:a.less b=r)(w:World) :
  Calls Tryz.prog 55 #[.agg #[.int .i64 a.obj,.int .i64 a.kind,.int .i64 a.off],.agg #[.int .i64 b.obj,.int .i64 b.kind,.int .i64 b.off]] w λe w'=>e=.returned (.bool r)/\Below w.1.size w w':=by
 have:=qle a b w;rw[h] at this;exact this
theorem q2p (a:Kd)(r:Bool)(h:a.may=r)(w:World) :
  Calls Tryz.prog 107 #[.agg #[.int .i64 a.obj,.int .i64 a.kind,.int .i64 a.off]] w λe w'=>e=.returned (.bool r)/\Below w.1.size w w':=by
 have:=qsb a w;rw[h] at this;exact this
theorem Ym (w:World)(a:Kd):KB (w.alloc (.cells #[.int .i64 a.obj,.int .i64 a.kind,.int .i64 a.off] 45)) w.1.size a/\Below w.1.size w (w.alloc (.cells #[.int .i64 a.obj,.int .i64 a.kind,.int .i64 a.off] 45)):=
 ⟨KB.new w a.obj a.kind a.off _,Qn⟩
theorem qy5 (k:Kd)(D:k.may=true)(l:List UInt8):Dc (k.bytes++l)=k:=by
 obtain⟨⟨E,I⟩,⟨F,J⟩,G,M⟩:=(Kd.Qaw k).1 D;have f:k.bytes++l=Zc k.obj 4++(Zc k.kind 1++(Zc k.off 4++l)):=by unfold Kd.bytes;rw[List.append_assoc,List.append_assoc]
 have u:(k.bytes++l).take 4=Zc k.obj 4:=by rw[f];exact List.take_left' (Ya _ _)
 have p:(k.bytes++l).drop 4=Zc k.kind 1++(Zc k.off 4++l):=by rw[f];exact List.drop_left' (Ya _ _)
 have y:(k.bytes++l).drop 5=Zc k.off 4++l:=by
  rw[show (5:Nat)=4+1 from rfl,<-List.drop_drop,p];exact List.drop_left' (Ya _ _)
 unfold Dc;rw[u,p,y,List.take_left' (Ya _ _),List.take_left' (Ya _ _),q9e k.obj 4 E (by omega),q9e k.kind 1 F (by omega),q9e k.off 4 G (by omega)]
theorem qsd (k:Kd)(p:k.may=true)(l:List UInt8):Gw (k.bytes++l)=k/\Wj (k.bytes++l)=l/\U6 (k.bytes++l)=0:=by
 have f:=qy5 k p l;obtain⟨h1,h2,u⟩:=qw9 (l:=k.bytes++l) (by rw[List.length_append,Kd.Xu];omega) (by rw[f];exact p);rw[h1,h2,u,f];exact⟨rfl,List.drop_left' (Kd.Xu k),rfl⟩
theorem qh9 (a:Kd)(r:Bool)(h:a.may=r)(w:World) :
  Calls Tryz.prog 72 #[.agg #[.int .i64 a.obj,.int .i64 a.kind,.int .i64 a.off]] w λe w'=>e=.returned (.bool r)/\Below w.1.size w w':=by
 have:=qjc a w;rw[h] at this;exact this
theorem qy6 (k:Kd):k.same k=true:=(Kd.same_iff k k).2 ⟨rfl,rfl,rfl⟩
theorem qha (A:Option Addr)(n c:Nat)(l:List UInt8)(K:Kd)(R:List UInt8)(E:Int)(D:Gw l=K)(F:Wj l=R)(y:U6 l=E)(w:World)(h:Sl w A n c l)(hn:n<=17592186044416) :
  Calls Tryz.prog 212 #[.slice A n c] w λe w'=>∃f u p,e=.returned (.tuple #[.agg #[.int .i64 K.obj,.int .i64 K.kind,.int .i64 K.off],.slice f u p,.int .i64 E])/\Own w' w.1.size 5 f u p R/\Below w.1.size w w':=by
 have:=qsc A n c l w h hn;rw[D,F,y] at this;exact this
def Ws (ks:List Kd)(i:Nat):Bool:=(keyAt ks i).may&&(decide (i=0)||(keyAt ks (i-1)).less (keyAt ks i))
def rises (ks:List Kd):Bool:=(List.range ks.length).all (Ws ks)
theorem qse {ks:List Kd}(h:∀j,j<ks.length->Ws ks j=true):rises ks=true:=by
 unfold rises;rw[List.all_eq_true];exact λj f=>h j (List.mem_range.1 f)
def Nd.keys (N:Nd):List Kd:=N.items.map (·.k)++N.kids.map (·.k)
def NB (w:World)(b:Nat)(l:Int)(A:Option Addr)(n c:Nat)(B:Option Addr)(m d:Nat):Prop:=∃t,w.1[b]?=some (.cells #[.int .i64 l,.slice A n c,.slice B m d] t (0,0))
section
variable {w w':World}{b:Nat}{l:Int}{A B:Option Addr}{n c m d:Nat}
theorem NB.new (w:World)(l:Int)(A:Option Addr)(n c:Nat)(B:Option Addr)(m d:Nat)(t:TypeId):NB (w.alloc (.cells #[.int .i64 l,.slice A n c,.slice B m d] t)) w.1.size l A n c B m d:=⟨t,heap_alloc_new w _⟩
theorem NB.below (H:NB w b l A n c B m d){E:Nat}(hb:Below E w w')(hB:b<E):NB w' b l A n c B m d:=by
 obtain⟨t,H⟩:=H;exact⟨t,(hb.block b hB).trans H⟩
theorem NB.lt (H:NB w b l A n c B m d):b<w.1.size:=by
 obtain⟨t,H⟩:=H;exact (Array.getElem?_eq_some_iff.1 H).1
theorem NB.c0 (H:NB w b l A n c B m d):w.cell? ⟨b,0,none⟩=some (.int .i64 l):=by
 obtain⟨t,H⟩:=H;rw[cell_of_row _ _ _ _ _ _ H];rfl
theorem NB.c1 (H:NB w b l A n c B m d):w.cell? ⟨b,1,none⟩=some (.slice A n c):=by
 obtain⟨t,H⟩:=H;rw[cell_of_row _ _ _ _ _ _ H];rfl
theorem NB.c2 (H:NB w b l A n c B m d):w.cell? ⟨b,2,none⟩=some (.slice B m d):=by
 obtain⟨t,H⟩:=H;rw[cell_of_row _ _ _ _ _ _ H];rfl
end
theorem Rn (l:Int)(r:Bool)(h:decide (l=0)=r)(A:Option Addr)(n c:Nat)(B:Option Addr)(m d:Nat)(w:World) :
  Calls Tryz.prog 141 #[.agg #[.int .i64 l,.slice A n c,.slice B m d]] w λe w'=>e=.returned (.bool r)/\Below w.1.size w w':=by
 go_enter Tryz.func141,Tryz.ntmps141
 go_wp2;go_ret;refine⟨?_,Qn⟩;rw[<-h];first|rfl|(refine congrArg (λx=>Ending.returned (Value.bool x)) ?_;rw[Bool.eq_iff_iff];simp)
theorem q30 (x a b:Int)(r:Bool)(h:decide (a<=x/\x<=b)=r)(w:World) :
  Calls Tryz.prog 216 #[.int .i64 x,.int .i64 a,.int .i64 b] w λe w'=>e=.returned (.bool r)/\w=w':=by
 subst h;go_enter Tryz.func216,Tryz.ntmps216
 go_wp2;all_goals
  go_ret;refine⟨congrArg (λx=>Ending.returned (Value.bool x)) ?_,rfl⟩;first
   |exact (decide_eq_false (by omega)).symm
   |exact decide_eq_decide.2 (by omega)
   |(rw[Bool.eq_iff_iff];simp;omega)
theorem qo0 (x:Int)(w:World) :
  Calls Tryz.prog 140 #[.int .i64 x] w λe w'=>e=.returned (.int .i64 (if x=0 then 3 else 4))/\w=w':=by
 by_cases h:x=0
 ·rw[if_pos h];go_enter Tryz.func140,Tryz.ntmps140
  go_wp2;go_ret;exact⟨rfl,rfl⟩
 ·rw[if_neg h];go_enter Tryz.func140,Tryz.ntmps140
  go_wp2;go_ret;exact⟨rfl,rfl⟩
theorem q4m (x k:Int)(h:(if x=0 then 3 else 4)=k)(w:World) :
  Calls Tryz.prog 140 #[.int .i64 x] w λe w'=>e=.returned (.int .i64 k)/\w=w':=by
 subst h;exact qo0 x w
theorem q2h (k:Kd)(B:Option Addr)(m d:Nat)(w:World) :
  Calls Tryz.prog 170 #[.agg #[.int .i64 k.obj,.int .i64 k.kind,.int .i64 k.off,.slice B m d]] w λe w'=>e=.returned (.agg #[.int .i64 k.obj,.int .i64 k.kind,.int .i64 k.off])/\Below w.1.size w w':=by
 go_enter Tryz.func170,Tryz.ntmps170
 go_wp2;refine bodyPost_ret (Ol Tryz.results170 rfl (q2z (KB.new2 w _ k.obj k.kind k.off _))) rfl ?_;exact⟨rfl,(Qn).alloc (by simp) _⟩
theorem q2i (k:Kd)(a:Int)(w:World) :
  Calls Tryz.prog 173 #[.agg #[.int .i64 k.obj,.int .i64 k.kind,.int .i64 k.off,.int .i64 a]] w λe w'=>e=.returned (.agg #[.int .i64 k.obj,.int .i64 k.kind,.int .i64 k.off])/\Below w.1.size w w':=by
 go_enter Tryz.func173,Tryz.ntmps173
 go_wp2;refine bodyPost_ret (Ol Tryz.results173 rfl (q2z (KB.new2 w _ k.obj k.kind k.off _))) rfl ?_;exact⟨rfl,(Qn).alloc (by simp) _⟩
theorem qbf (k:Kd)(B:Option Addr)(m d:Nat)(r:Bool)(h:decide (m<=28)=r)(w:World) :
  Calls Tryz.prog 215 #[.agg #[.int .i64 k.obj,.int .i64 k.kind,.int .i64 k.off,.slice B m d]] w λe w'=>e=.returned (.bool r)/\Below w.1.size w w':=by
 go_enter Tryz.func215,Tryz.ntmps215
 go_wp2;go_ret;refine⟨?_,Qn⟩;rw[<-h];exact congrArg (λx=>Ending.returned (Value.bool x)) (decide_eq_decide.2 (by omega))
theorem qbg (k:Kd)(a:Int)(r:Bool)(h:decide (1<=a/\a<=2047)=r)(w:World) :
  Calls Tryz.prog 218 #[.agg #[.int .i64 k.obj,.int .i64 k.kind,.int .i64 k.off,.int .i64 a]] w λe w'=>e=.returned (.bool r)/\Below w.1.size w w':=by
 go_enter Tryz.func218,Tryz.ntmps218
 go_wp2_with fail
 refine (q30 a 1 2047 r h _).mono ?_;rintro e f ⟨rfl,rfl⟩;go_wp2;go_ret;exact⟨rfl,Qn⟩
section
variable {P:Program}{t e:TypeId}{s b:Nat}{z:Value}(w:World)
end
theorem Fp:Aa Tryz.prog 67 3 1 8 (.int .i64 0):=⟨Tryz.underlying67,by kernel_rfl,rfl,by omega⟩
def iv (z:Int):List Value:=[.int .i64 z]
def Vw (w:World)(A:Option Addr)(n c:Nat)(zs:List Int):Prop:=Js w 1 A n c (zs.map iv)
theorem Oi (w:World)(x:Int):Js (w.alloc (.cells #[.int .i64 x] 3)) 1 (some ⟨w.1.size,0,none⟩) 1 1 [iv x]:=(q1q w 3 1 (iv x) _ rfl rfl).Kt (by omega)
theorem qdf (x:Int):∀y∈[iv x],∀u∈y,u.oneCell'=true:=by
 intro y p u f;obtain rfl:y=iv x:=by simpa using p
 simp[iv] at f;subst f;rfl
def Y4 (x:Qg):Option Int:=if x.k.kind=3/\x.v.length=3/\Yy x.v 0=1 then some (256*(Yy x.v 1:Int)+(Yy x.v 2:Int)) else none
def Nd.named (N:Nd):List Int:=N.kids.map (·.a)++N.items.filterMap Y4
def Kw (N:Nd)(j:Nat):List (List Value):=((N.kids.take j).map (·.a)).map iv
def Jk (N:Nd)(j:Nat):List (List Value):=(N.kids.map (·.a)++(N.items.take j).filterMap Y4).map iv
theorem qbh (N:Nd)(j:Nat)(h:j<N.kids.length):Kw N (j+1)=Kw N j++[iv (Qh N.kids j).a]:=by
 unfold Kw;rw[List.take_succ_eq_append_getElem h,List.map_append,List.map_append];have:=q11 h;rw[List.getElem?_eq_getElem h] at this;rw[Option.some.inj this];rfl
theorem q8w (N:Nd):Kw N N.kids.length=Jk N 0:=by
 unfold Kw Jk;rw[List.take_length];simp
theorem qdg (N:Nd)(j:Nat)(h:j<N.items.length)(x:Int)(f:Y4 (Qz N.items j)=some x):Jk N (j+1)=Jk N j++[iv x]:=by
 unfold Jk;have:=q1x h;rw[List.getElem?_eq_getElem h] at this;rw[List.take_succ_eq_append_getElem h,Option.some.inj this,List.filterMap_append,<-List.append_assoc,List.map_append];simp[f]
theorem qhb (N:Nd)(j:Nat)(h:j<N.items.length)(f:Y4 (Qz N.items j)=none):Jk N (j+1)=Jk N j:=by
 unfold Jk;have:=q1x h;rw[List.getElem?_eq_getElem h] at this;rw[List.take_succ_eq_append_getElem h,Option.some.inj this,List.filterMap_append];simp[f]
theorem q8x (N:Nd):Jk N N.items.length=N.named.map iv:=by
 unfold Jk Nd.named;rw[List.take_length]
def sumTo:Nat->(Nat->Nat)->Nat
 |0,_=>0
 |n+1,f=>sumTo n f+f n
theorem q1t {f g:Nat->Nat}:∀{n:Nat},(∀b,b<n->f b=g b)->sumTo n f=sumTo n g
 |0,_=>rfl
 |n+1,h=>by
  unfold sumTo;rw[q1t (n:=n) (λb p=>h b (by omega)),h n (by omega)]
theorem q5v {f:Nat->Nat}:∀{n:Nat},(∀b,b<n->f b=0)->sumTo n f=0
 |0,_=>rfl
 |n+1,h=>by
  unfold sumTo;rw[q5v (n:=n) (λb p=>h b (by omega)),h n (by omega)]
theorem q7m {f g:Nat->Nat}{i:Nat}:∀{n:Nat},(∀b,b<n->b≠i->f b=g b)->i<n->sumTo n g+f i=sumTo n f+g i
 |0,_,hi=>by omega
 |n+1,h,hi=>by
  unfold sumTo;by_cases e:i=n
  ·subst e;rw[q1t (n:=i) (λb p=>h b (by omega) (by omega))];omega
  ·have:=q7m (n:=n) (λb p hn=>h b (by omega) hn) (by omega);have:=h n (by omega) (by omega);omega
theorem qhc {f:Nat->Nat}:∀{n:Nat},0<sumTo n f->∃b,b<n/\0<f b
 |0,h=>by cases h
 |n+1,h=>by
  unfold sumTo at h;by_cases e:0<f n
  ·exact⟨n,by omega,e⟩
  ·obtain⟨b,h1,h2⟩:=qhc (n:=n) (f:=f) (by omega);exact⟨b,by omega,h2⟩
theorem qey {f:Nat->Nat}{i:Nat}:∀{n:Nat},i<n->f i<=sumTo n f
 |0,h=>by omega
 |n+1,h=>by
  unfold sumTo;by_cases e:i=n
  ·subst e;omega
  ·have:=qey (f:=f) (n:=n) (i:=i) (by omega);omega
def refs (K:Nat->List Int)(most:Nat)(out:Nat->Nat)(a:Nat):Nat:=sumTo most λb=>if 1<=out b then (K b).count (a:Int) else 0
structure Jv (K:Nat->List Int)(roots:List Int)(most:Nat)(out:Nat->Nat)(todo:List Int):Prop where
 zero:out 0=0
 eq:∀a:Nat,0<a->a<most->out a+todo.count (a:Int)=roots.count (a:Int)+refs K most out a
structure Jz (n:Nat)(cnt:Nat->Nat)(K:Nat->List Int)(H:List Int):Prop where
 eq:∀a:Nat,0<a->a<n->cnt a=H.count (a:Int)+refs K n cnt a
section
variable {n:Nat}{cnt:Nat->Nat}{K:Nat->List Int}{H:List Int}
theorem Jz.perm (h:Jz n cnt K H){H':List Int}(hH:∀a:Nat,0<a->a<n->H'.count (a:Int)=H.count (a:Int)):Jz n cnt K H':=
 ⟨λa h1 h2=>by rw[hH a h1 h2];exact h.eq a h1 h2⟩
theorem q5w {K K':Nat->List Int}{cnt cnt':Nat->Nat}{n a:Nat}(h:∀b,b<n->(1<=cnt b↔1<=cnt' b)/\(1<=cnt b->K' b=K b)):refs K' n cnt' a=refs K n cnt a:=
 q1t λb p=>by
  obtain⟨h1,h2⟩:=h b p;by_cases e:1<=cnt b
  ·rw[if_pos e,if_pos (h1.1 e),h2 e]
  ·rw[if_neg e,if_neg (λf=>e (h1.2 f))]
theorem Jz.same (h:Jz n cnt K H){cnt':Nat->Nat}{K':Nat->List Int}(hc:∀b,b<n->cnt' b=cnt b)(hK:∀b,b<n->1<=cnt b->K' b=K b):Jz n cnt' K' H:=
 ⟨λa h1 h2=>by
  rw[hc a h2,h.eq a h1 h2];congr 1
  exact (q5w λb f=>⟨by rw[hc b f],hK b f⟩).symm⟩
theorem qjd {K K':Nat->List Int}{cnt cnt':Nat->Nat}{n i a:Nat}(D:i<n)(y:∀b,b<n->b≠i->cnt' b=cnt b)(u:∀b,b<n->b≠i->K' b=K b) :
  refs K' n cnt' a+(if 1<=cnt i then (K i).count (a:Int) else 0)=refs K n cnt a+(if 1<=cnt' i then (K' i).count (a:Int) else 0):=
 q7m (f:=λb=>if 1<=cnt b then (K b).count (a:Int) else 0) (g:=λb=>if 1<=cnt' b then (K' b).count (a:Int) else 0)
  (λb p hn=>by
   show (if 1<=cnt b then (K b).count (a:Int) else 0)=(if 1<=cnt' b then (K' b).count (a:Int) else 0);rw[y b p hn,u b p hn]) D
theorem Jz.put (h:Jz n cnt K H){c:Nat}{ks H0:List Int}{cnt':Nat->Nat}{K':Nat->List Int}(hc0:0<c)(hc:c<n)(hz:cnt c=0)(hH:∀a:Nat,0<a->a<n->H.count (a:Int)=ks.count (a:Int)+H0.count (a:Int))
  (h1:cnt' c=1) (h2:∀b,b<n->b≠c->cnt' b=cnt b) (h3:K' c=ks) (h4:∀b,b<n->b≠c->K' b=K b):Jz n cnt' K' ((c:Int)::H0):=by
 refine⟨λa f p=>?_⟩;have y:=qjd (a:=a) hc h2 h4;rw[if_neg (show ¬1<=cnt c by omega),if_pos (show 1<=cnt' c by omega),h3] at y;have D:=h.eq a f p;have E:=hH a f p;rw[List.count_cons];by_cases e:a=c
 ·subst e;rw[if_pos (by simp),h1];omega
 ·rw[if_neg (by intro u;have:=eq_of_beq u;omega),h2 a p e];omega
theorem Jz.ref (h:Jz n cnt K H){c:Nat}{cnt':Nat->Nat}(hc:1<=cnt c)(h1:cnt' c=cnt c+1)(h2:∀b,b<n->b≠c->cnt' b=cnt b):Jz n cnt' K ((c:Int)::H):=by
 refine⟨λa f p=>?_⟩;have D:refs K n cnt' a=refs K n cnt a:=q5w λb y=>⟨by
  by_cases e:b=c
  ·subst e;omega
  ·rw[h2 b y e],λ_=>rfl⟩
 have E:=h.eq a f p;rw[List.count_cons,D];by_cases e:a=c
 ·subst e;rw[if_pos (by simp),h1];omega
 ·rw[if_neg (by intro u;have:=eq_of_beq u;omega),h2 a p e];omega
theorem Jz.Qj (h:Jz n cnt K H){c:Nat}{H0:List Int}{cnt':Nat->Nat}(hH:∀a:Nat,0<a->a<n->H.count (a:Int)=((c:Int)::H0).count (a:Int))(hc:2<=cnt c)(h1:cnt' c+1=cnt c)(h2:∀b,b<n->b≠c->cnt' b=cnt b):Jz n cnt' K H0:=by
 refine⟨λa f p=>?_⟩;have E:refs K n cnt' a=refs K n cnt a:=q5w λb D=>⟨by
  by_cases e:b=c
  ·subst e;omega
  ·rw[h2 b D e],λ_=>rfl⟩
 have F:=h.eq a f p;have u:=hH a f p;rw[List.count_cons] at u;rw[E];by_cases e:a=c
 ·subst e;rw[if_pos (by simp)] at u;omega
 ·rw[if_neg (by intro y;have:=eq_of_beq y;omega)] at u;rw[h2 a p e];omega
theorem Jz.last (h:Jz n cnt K H){c:Nat}{H0:List Int}{cnt':Nat->Nat}(hc0:0<c)(hcn:c<n)(hH:∀a:Nat,0<a->a<n->H.count (a:Int)=((c:Int)::H0).count (a:Int))(hc:cnt c=1)(h1:cnt' c=0)(h2:∀b,b<n->b≠c->cnt' b=cnt b):Jz n cnt' K (K c++H0):=by
 refine⟨λa f p=>?_⟩;have D:=qjd (a:=a) (K:=K) (K':=K) hcn h2 (λ_ _ _=>rfl);rw[if_pos (show 1<=cnt c by omega),if_neg (show ¬1<=cnt' c by omega)] at D;have E:=h.eq a f p;have u:=hH a f p;rw[List.count_cons] at u;rw[List.count_append];by_cases e:a=c
 ·subst e;rw[if_pos (by simp)] at u;omega
 ·rw[if_neg (by intro y;have:=eq_of_beq y;omega)] at u;rw[h2 a p e];omega
theorem Jz.set (h:Jz n cnt K H){c:Nat}{ks H0:List Int}{K':Nat->List Int}(hcn:c<n)(hc:1<=cnt c)(hH:∀a:Nat,0<a->a<n->H.count (a:Int)=ks.count (a:Int)+H0.count (a:Int))(h3:K' c=ks)(h4:∀b,b<n->b≠c->K' b=K b):Jz n cnt K' (K c++H0):=by
 refine⟨λa f p=>?_⟩;have u:=qjd (a:=a) (cnt:=cnt) (cnt':=cnt) hcn (λ_ _ _=>rfl) h4;rw[if_pos hc,if_pos hc,h3] at u;have y:=h.eq a f p;have D:=hH a f p;rw[List.count_append];omega
theorem Jz.named (h:Jz n cnt K H){b c:Nat}(hc0:0<c)(hcn:c<n)(hb:b<n)(h1:1<=cnt b)(hm:(c:Int)∈K b):1<=cnt c:=by
 have h2:=h.eq c hc0 hcn;have p:=qey (f:=λb=>if 1<=cnt b then (K b).count (c:Int) else 0) hb;have u:0<(K b).count (c:Int):=List.count_pos_iff.2 hm;rw[if_pos h1] at p;have e:refs K n cnt c=sumTo n λb=>if 1<=cnt b then (K b).count (c:Int) else 0:=rfl
 omega
theorem Jz.by_ (h:Jz n cnt K H){c:Nat}(hc0:0<c)(hcn:c<n)(h1:1<=cnt c):(c:Int)∈H\/∃b,b<n/\1<=cnt b/\(c:Int)∈K b:=by
 have h2:=h.eq c hc0 hcn;by_cases e:0<H.count (c:Int)
 ·exact .inl (List.count_pos_iff.1 e)
 ·obtain⟨b,y,p⟩:=qhc (f:=λb=>if 1<=cnt b then (K b).count (c:Int) else 0) (n:=n) (by
   have e:refs K n cnt c=sumTo n λb=>if 1<=cnt b then (K b).count (c:Int) else 0:=rfl
   omega)
  have p:0<(if 1<=cnt b then (K b).count (c:Int) else 0):=p;by_cases u:1<=cnt b
  ·rw[if_pos u] at p;exact .inr ⟨b,y,u,List.count_pos_iff.1 p⟩
  ·rw[if_neg u] at p
   cases p
theorem Jz.reached (h:Jz n cnt K H){B:Nat}(Gx:Nat->Nat)(hlev:∀b a:Nat,b<n->1<=cnt b->(a:Int)∈K b->Gx a<Gx b)(hB:∀b,Gx b<=B)(h0:cnt 0=0){S:Nat->Prop}(hS:∀a:Nat,0<a->a<n->(a:Int)∈H->S a)
  (hK:∀b a:Nat,0<b->b<n->0<a->a<n->1<=cnt b->S b->(a:Int)∈K b->S a):∀L a,B-Gx a<=L->0<a->a<n->1<=cnt a->S a:=by
 intro L;induction L using Nat.strongRecOn with
 |ind L ih=>
  intro a I f D h1;rcases h.by_ f D h1 with h2|⟨b,E,p,y⟩
  ·exact hS a f D h2
  ·have F:=hlev b a E p y;have G:=hB b;have u:0<b:=by
    rcases Nat.eq_zero_or_pos b with e|e
    ·subst e;omega
    ·exact e
   exact hK b a u E f D p (ih (B-Gx b) (by omega) b (Nat.le_refl _) u E p) y
end
theorem q6j {f:Nat->Nat}{k:Nat}:∀{n:Nat},(∀b,b<n->f b<=k)->sumTo n f<=k*n
 |0,_=>Nat.zero_le _
 |n+1,h=>by
  unfold sumTo;have h1:=q6j (n:=n) (f:=f) (k:=k) (λb p=>h b (by omega));have h2:=h n (by omega);rw[Nat.mul_succ];omega
theorem qdh {K:Nat->List Int}{most k:Nat}{out:Nat->Nat}(f:∀b,b<most->(K b).length<=k)(a:Nat):refs K most out a<=k*most:=
 q6j λb p=>by
  by_cases e:1<=out b
  ·rw[if_pos e];exact Nat.le_trans List.count_le_length (f b p)
  ·rw[if_neg e];exact Nat.zero_le _
