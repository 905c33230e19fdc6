/- Keys: the code's and the reference's Less and May; First and Last -/
import Derived.Test.YthkfkhejjmhomaaGreatDoorDb3
import Derived.Test.YthkfkhejjmhomaaGreatDoorDb4
import Derived.Deep.RegionHeld3
import Derived.Laws.StructEq
namespace Go.Proofs.YthkfkhejjmhomaaGreatDoor
open Go Go.RowKit Go.Proofs
set_option maxHeartbeats 2000000
def Kd.v (k:Kd):Value:=.agg #[.int .i64 k.obj,.int .i64 k.kind,.int .i64 k.off]
def Kd.vs (k:Kd):List Value:=[.int .i64 k.obj,.int .i64 k.kind,.int .i64 k.off]
def KB (w:World)(b:Nat)(k:Kd):Prop:=∃t,w.1[b]?=some (.cells #[.int .i64 k.obj,.int .i64 k.kind,.int .i64 k.off] t (0,0))
theorem KB.new (w:World)(x y z:Int)(t:TypeId):KB (w.alloc (.cells #[.int .i64 x,.int .i64 y,.int .i64 z] t)) w.1.size ⟨x,y,z⟩:=⟨t,heap_alloc_new w _⟩
theorem KB.below {w w':World}{b:Nat}{k:Kd}(H:KB w b k){B:Nat}(hb:Below B w w')(hB:b<B):KB w' b k:=by
 obtain⟨t,H⟩:=H;exact⟨t,(hb.block b hB).trans H⟩
theorem KB.range {w:World}{b:Nat}{k:Kd}(H:KB w b k):w.rangeAt b 0 k.vs:=λj v d=>by
 obtain⟨t,H⟩:=H;rw[cell_of_row _ _ _ _ _ _ H,Nat.zero_add];simpa [Kd.vs] using d
theorem KB.c0 {w:World}{b:Nat}{k:Kd}(H:KB w b k):w.cell? ⟨b,0,none⟩=some (.int .i64 k.obj):=H.range 0 _ rfl
theorem KB.c1 {w:World}{b:Nat}{k:Kd}(H:KB w b k):w.cell? ⟨b,1,none⟩=some (.int .i64 k.kind):=H.range 1 _ rfl
theorem KB.c2 {w:World}{b:Nat}{k:Kd}(H:KB w b k):w.cell? ⟨b,2,none⟩=some (.int .i64 k.off):=H.range 2 _ rfl
theorem Tm {w:World}{b:Nat}{k:Kd}(H:KB w b k):(loadVar 45 ⟨b,0,none⟩).run Tryz.prog w=.ok k.v w:=
 run_loadVar_mid w b 0 45 k.vs _ H.range Tryz.underlying45 rfl (by kernel_rfl)
theorem Ny {f:Func}{p:Tmp}{ty:TypeId}{m:Addr}{v:Value}{P:Program}{w:World}{d:Array Value}(h:f.results=#[.cell p ty])(y:d.getD p undef=.pointer (some m))(u:(loadVar ty m).run P w=.ok v w) :
  (results f d).run P w=.ok v w:=by
 have e:(results f d).run P w=((asAddr (d.getD p undef)).run P w).andThen λa A=>(loadVar ty a).run P A:=by
  simp only[results,h];simp[Sem.run_bind,Result.andThen];try rfl
 rw[e,y];simp[asAddr,u]
theorem Ak {m:Func}{p a:Tmp}{ty:TypeId}{f:Addr}{v:Value}{P:Program}{w:World}{d:Array Value}(h:m.results=#[.cell p ty,.tmp a])(y:d.getD p undef=.pointer (some f))(u:(loadVar ty f).run P w=.ok v w) :
  (results m d).run P w=.ok (.tuple #[v,d.getD a undef]) w:=by
 have e:(results m d).run P w=((asAddr (d.getD p undef)).run P w).andThen λf A=>((loadVar ty f).run P A).andThen λv B=>.ok (.tuple #[v,d.getD a undef]) B:=by
  simp only[results,h];simp[Sem.run_bind,Result.andThen]
 rw[e,y];simp[asAddr,u]
theorem q6r {m:Func}{p a b:Tmp}{ty:TypeId}{f:Addr}{v:Value}{P:Program}{w:World}{d:Array Value}(h:m.results=#[.cell p ty,.tmp a,.tmp b])(y:d.getD p undef=.pointer (some f))(u:(loadVar ty f).run P w=.ok v w) :
  (results m d).run P w=.ok (.tuple #[v,d.getD a undef,d.getD b undef]) w:=by
 have e:(results m d).run P w=((asAddr (d.getD p undef)).run P w).andThen λf A=>((loadVar ty f).run P A).andThen λv B=>.ok (.tuple #[v,d.getD a undef,d.getD b undef]) B:=by
  simp only[results,h];simp[Sem.run_bind,Result.andThen]
 rw[e,y];simp[asAddr,u]
theorem qkt (a b:Kd)(w:World) :
  Calls Tryz.prog 55 #[.agg #[.int .i64 a.obj,.int .i64 a.kind,.int .i64 a.off],.agg #[.int .i64 b.obj,.int .i64 b.kind,.int .i64 b.off]] w λe f=>e=.returned (.bool (a.less b))/\Below w.1.size w f:=by
 obtain⟨r,d⟩:∃r,a.less b=r:=⟨_,rfl⟩;rw[d];unfold Kd.less at d;by_cases h1:a.obj=b.obj
 ·rw[if_pos h1] at d;by_cases h2:a.kind=b.kind
  ·rw[if_pos h2] at d;go_enter Tryz.func55,Tryz.ntmps55
   go_wp2;go_ret;exact⟨by rw[<-d];rfl,(Qk).alloc (by simp) _⟩
  ·rw[if_neg h2] at d;go_enter Tryz.func55,Tryz.ntmps55
   go_wp2;go_ret;exact⟨by rw[<-d];rfl,(Qk).alloc (by simp) _⟩
 ·rw[if_neg h1] at d;go_enter Tryz.func55,Tryz.ntmps55
  go_wp2;go_ret;exact⟨by rw[<-d];rfl,(Qk).alloc (by simp) _⟩
theorem q7w (x m:Int)(w:World) :
  Calls Tryz.prog 182 #[.int .i64 x,.int .i64 m] w λe d=>e=.returned (.bool (decide (0<=x/\x<=m)))/\w=d:=by
 go_enter Tryz.func182,Tryz.ntmps182
 go_wp2;all_goals
  go_ret;refine⟨congrArg (λx=>Ending.returned (Value.bool x)) ?_,rfl⟩;first
   |exact (decide_eq_false (by omega)).symm
   |exact decide_eq_decide.2 (by omega)
   |(rw[Bool.eq_iff_iff];simp;omega)
theorem qrn (k:Kd)(w:World) :
  Calls Tryz.prog 107 #[.agg #[.int .i64 k.obj,.int .i64 k.kind,.int .i64 k.off]] w λe m=>e=.returned (.bool k.may)/\Below w.1.size w m:=by
 obtain⟨b,d⟩:∃b,k.may=b:=⟨_,rfl⟩;rw[d];unfold Kd.may at d;go_enter Tryz.func107,Tryz.ntmps107
 go_wp2_with fail
 refine (q7w k.obj 2147483647 _).mono ?_;by_cases h1:0<=k.obj/\k.obj<=2147483647
 ·rw[decide_eq_true h1];rintro e f ⟨rfl,rfl⟩;go_wp2_with fail
  refine (q7w k.kind 255 _).mono ?_;by_cases h2:0<=k.kind/\k.kind<=255
  ·rw[decide_eq_true h2];rintro e f ⟨rfl,rfl⟩;go_wp2_with fail
   refine (q7w k.off 2147483647 _).mono ?_;rintro e f ⟨rfl,rfl⟩;go_wp2;go_ret;exact⟨by rw[<-d];exact congrArg (λx=>Ending.returned (Value.bool x)) (by rw[Bool.eq_iff_iff];simp;omega),Qk⟩
  ·rw[decide_eq_false h2];rintro e f ⟨rfl,rfl⟩;go_wp2;go_ret;exact⟨by rw[<-d];exact congrArg (λx=>Ending.returned (Value.bool x)) (decide_eq_false (by omega)).symm,Qk⟩
 ·rw[decide_eq_false h1];rintro e f ⟨rfl,rfl⟩;go_wp2;go_ret;exact⟨by rw[<-d];exact congrArg (λx=>Ending.returned (Value.bool x)) (decide_eq_false (by omega)).symm,Qk⟩
theorem pin (l:List UInt8)(x n:Int)(h1:1<=n)(h2:n<=8):Aa l x n=l++Qy x n.toNat:=if_pos ⟨h1,h2⟩
theorem KB.lt {w:World}{b:Nat}{k:Kd}(H:KB w b k):b<w.1.size:=by
 obtain⟨t,H⟩:=H;exact Kw H
theorem KB.there {w:World}{b:Nat}{k:Kd}(H:KB w b k):w.there b 0 3:=λj d=>by
 obtain⟨t,H⟩:=H;refine⟨?_,by unfold World.frozen?;rw[H];simp⟩;rw[cell_of_row _ _ _ _ _ _ H,Nat.zero_add,Array.getElem?_eq_getElem (by simpa using d)];rfl
theorem KB.stored {w:World}{b:Nat}{k:Kd}(H:KB w b k)(k2:Kd):KB (w.setCells b 0 k2.vs) b k2:=by
 obtain⟨t,H⟩:=H;exact⟨t,D7 _ (D7 _ (D7 _ H))⟩
theorem KB.keep {w w':World}{b:Nat}{k:Kd}(H:KB w b k)(h:w'.1[b]?=w.1[b]?):KB w' b k:=by
 obtain⟨t,H⟩:=H;exact⟨t,h.trans H⟩
theorem KB.fz {w:World}{b:Nat}{k:Kd}(H:KB w b k)(i:Nat):w.frozen? ⟨b,i,none⟩=false:=by
 obtain⟨t,H⟩:=H;unfold World.frozen?;rw[H];simp
theorem KB.set0 {w:World}{b:Nat}{k:Kd}(H:KB w b k)(x:Int):KB (w.setCell ⟨b,0,none⟩ (.int .i64 x)) b ⟨x,k.kind,k.off⟩:=by
 obtain⟨t,H⟩:=H;exact⟨t,D7 _ H⟩
theorem KB.set1 {w:World}{b:Nat}{k:Kd}(H:KB w b k)(x:Int):KB (w.setCell ⟨b,1,none⟩ (.int .i64 x)) b ⟨k.obj,x,k.off⟩:=by
 obtain⟨t,H⟩:=H;exact⟨t,D7 _ H⟩
theorem KB.set2 {w:World}{b:Nat}{k:Kd}(H:KB w b k)(x:Int):KB (w.setCell ⟨b,2,none⟩ (.int .i64 x)) b ⟨k.obj,k.kind,x⟩:=by
 obtain⟨t,H⟩:=H;exact⟨t,D7 _ H⟩
theorem qco {e:Array Oper}{d:List Oper}{o:Oper}{a:Act}{w:World}{Q:Exit->Act->World->Prop}(p:o.guard=none)(x:Operand)(f:o.op=Op.load 45 x)
  (b:Nat) (u:a.eval x=.pointer (some ⟨b,0,none⟩)) (k:Kd) (H:KB w b k) (m:wpList Tryz.prog e Q d (a.put o.dst k.v) w):wpList Tryz.prog e Q (o::d) a w:=
 wpList_load_mid p _ x f b 0 u k.vs _ H.range Tryz.underlying45 rfl (by kernel_rfl) m
theorem q1d {e:Array Oper}{d:List Oper}{o:Oper}{a:Act}{w:World}{Q:Exit->Act->World->Prop}(u:o.guard=none)(x y:Operand)(f:o.op=Op.store 45 x y)
  (b:Nat) (A:a.eval x=.pointer (some ⟨b,0,none⟩)) (k D:Kd) (B:a.eval y=k.v) (H:KB w b D)
  (p:∀m,KB m b k->Turn (λg=>g=b) w m->wpList Tryz.prog e Q d (a.put o.dst undef) m):wpList Tryz.prog e Q (o::d) a w:=
 wpList_store_mid u _ x y f b 0 k.vs.toArray A B H.there (by kernel_rfl) (by simp[Kd.vs,Value.oneCell'])
  (p _ (H.stored k) (Vb (S:=λg=>g=b) rfl k.vs 0 w))
theorem Own.keep {w w':World}{base n c:Nat}{e:TypeId}{A:Option Addr}{l:List UInt8}(h:Own w base e A n c l)(hk:∀g,base<=g->g<w.1.size->w'.1[g]?=w.1[g]?):Own w' base e A n c l:=by
 refine⟨h.1,?_⟩;rcases h.2 with f|⟨g,cap,d,f,h1,m,r⟩
 ·exact .inl f
 ·exact .inr ⟨g,cap,d,f,h1,(hk g h1 (Array.getElem?_eq_some_iff.1 m).1).trans m,r⟩
theorem qec (w:World)(base:Nat)(e:TypeId):Own w base e none 0 0 []:=⟨by simp,.inl ⟨rfl,rfl⟩⟩
theorem Turn.Q9 {b:Nat}{w w':World}(h:Turn (λg=>g=b) w w')(hb:b<w.1.size):Below b w w':=h.below (λx d=>by omega) (by omega)
theorem qn0 (l:List UInt8)(k:Kd):l++Qy k.obj (4:Int).toNat++Qy k.kind (1:Int).toNat++Qy k.off (4:Int).toNat=l++k.bytes:=by
 unfold Kd.bytes;rw[List.append_assoc,List.append_assoc];rfl
theorem q6s (A:Option Addr)(k c:Nat)(l:List UInt8)(x n:Int)(w:World)(h:Sl w A k c l)(B:k<=17592186044416)(h1:1<=n)(h2:n<=8) :
  Calls Tryz.prog 180 #[.slice A k c,.int .i64 x,.int .i64 n] w λe p=>∃f d m,e=.returned (.slice f d m)/\Own p w.1.size 5 f d m (l++Qy x n.toNat)/\d<=k+8/\Below w.1.size w p:=by
 have h:=q79 A k c l x n w h B;rw[pin _ _ n h1 h2] at h;refine h.mono ?_;rintro e p ⟨f,d,m,rfl,own,y⟩;refine⟨f,d,m,rfl,own,?_,y⟩;have u:=own.len;rw[List.length_append,Xf,(show l.length=k from (by assumption:Sl w A k c l).len)] at u;omega
theorem qku (A:Option Addr)(n c:Nat)(l:List UInt8)(k:Kd)(w:World)(h:Sl w A n c l)(hn:n<=4398046511104) :
  Calls Tryz.prog 284 #[.slice A n c,.agg #[.int .i64 k.obj,.int .i64 k.kind,.int .i64 k.off]] w λe P=>∃H O J,e=.returned (.slice H O J)/\Own P w.1.size 5 H O J (l++k.bytes)/\Below w.1.size w P:=by
 have M:=Lib.hid h.len;go_enter Tryz.func284,Tryz.ntmps284
 go_wp2_with fail
 have B:=KB.new w k.obj k.kind k.off 45;have h1:=h.alloc (.cells #[.int .i64 k.obj,.int .i64 k.kind,.int .i64 k.off] 45);have E:Below w.1.size w (w.alloc (.cells #[.int .i64 k.obj,.int .i64 k.kind,.int .i64 k.off] 45)):=Qk;generalize w.alloc (.cells #[.int .i64 k.obj,.int .i64 k.kind,.int .i64 k.off] 45)=w1 at B h1 E ⊢;have z1:=B.lt;refine (q6s A n c l k.obj 4 w1 h1 (by omega) (by omega) (by omega)).mono ?_;rintro e w2 ⟨R,Y,c2,rfl,p,W,d⟩;have D:=B.below d z1;have z2:=D.lt;have q1:=D.c1;go_wp2_with fail
 refine (q6s R Y c2 _ k.kind 1 w2 p.sl (by omega) (by omega) (by omega)).mono ?_;rintro e Q ⟨T,Z,c3,rfl,u,X,f⟩;have I:=D.below f z2;have z3:=I.lt;have q2:=I.c2;clear q1;go_wp2_with fail
 refine (q6s T Z c3 _ k.off 4 Q u.sl (by omega) (by omega) (by omega)).mono ?_;rw[qn0];rintro e w4 ⟨U,n4,c4,rfl,y,_,G⟩;have s2:=d.size;have s3:=f.size;have m:=E.trans ((d.trans (f.mono s2)).mono E.size);have K:w.1.size<=Q.1.size:=m.size;have F:=m.trans (G.mono K);have o5:=y.less K;go_wp2;go_ret;exact⟨U,n4,c4,rfl,o5,F⟩
def Dn (l:List UInt8):Kd:=⟨(Qw (l.take 4):Int),(Qw ((l.drop 4).take 1):Int),(Qw ((l.drop 5).take 4):Int)⟩
def ktY (l:List UInt8):Bool:=decide (9<=l.length)&&(Dn l).may
def G8 (l:List UInt8):Kd:=if ktY l=true then Dn l else ⟨0,0,0⟩
def Wj (l:List UInt8):List UInt8:=if ktY l=true then l.drop 9 else []
def Gf (l:List UInt8):Int:=if ktY l=true then 0 else if l.length<9 then 2 else 3
theorem qva {l:List UInt8}(h:l.length<9):G8 l=⟨0,0,0⟩/\Wj l=[]/\Gf l=2:=by
 have d:ktY l=false:=by unfold ktY;rw[decide_eq_false (by omega)];rfl
 unfold G8 Wj Gf;rw[d,if_pos h];exact⟨rfl,rfl,rfl⟩
theorem Qb1 {l:List UInt8}(h:¬l.length<9)(hm:(Dn l).may=false):G8 l=⟨0,0,0⟩/\Wj l=[]/\Gf l=3:=by
 have d:ktY l=false:=by unfold ktY;rw[hm,Bool.and_false]
 unfold G8 Wj Gf;rw[d,if_neg h];exact⟨rfl,rfl,rfl⟩
theorem qw5 {l:List UInt8}(h:¬l.length<9)(hm:(Dn l).may=true):G8 l=Dn l/\Wj l=l.drop 9/\Gf l=0:=by
 have d:ktY l=true:=by unfold ktY;rw[hm,decide_eq_true (by omega)];rfl
 unfold G8 Wj Gf;rw[d];exact⟨rfl,rfl,rfl⟩
theorem Qa8 (l:List UInt8):(l.drop (4:Int).toNat).drop (1:Int).toNat=l.drop 5:=by rw[List.drop_drop];rfl
theorem Qa9 (l:List UInt8):(l.drop 5).drop (4:Int).toNat=l.drop 9:=by rw[List.drop_drop];rfl
theorem q5d (A:Option Addr)(k c:Nat)(l:List UInt8)(n:Int)(m:Nat)(w:World)(h:Sl w A k c l)(B:k<=17592186044416)(h1:1<=n)(u:n<=7)(hn:n<=(k:Int))(hm:m=k-n.toNat) :
  Calls Tryz.prog 151 #[.slice A k c,.int .i64 n] w λe p=>∃d f,e=.returned (.tuple #[.int .i64 (Qw (l.take n.toNat)),.slice d m f,.int .i64 0])/\Own p w.1.size 5 d m f (l.drop n.toNat)/\Below w.1.size w p:=by
 refine (q5b A k c l n w h B h1 u hn).mono ?_;rintro e p ⟨d,D,f,rfl,own,y⟩;have:=own.len;rw[List.length_drop,h.len] at this;obtain rfl:D=m:=by omega
 exact⟨d,f,rfl,own,y⟩
theorem qro (A:Option Addr)(n c:Nat)(l:List UInt8)(w:World)(h:Sl w A n c l)(hn:n<=17592186044416) :
  Calls Tryz.prog 212 #[.slice A n c] w λe w'=>∃A' n' c',e=.returned (.tuple #[(G8 l).v,.slice A' n' c',.int .i64 (Gf l)])/\Own w' w.1.size 5 A' n' c' (Wj l)/\Below w.1.size w w':=by
 have y:=Lib.hid h.len;have O:∀o,Below w.1.size w (w.alloc o):=λo=>(Below.refl _ _).alloc (Nat.le_refl _) o
 by_cases h9:n<9
 ·obtain⟨I,J,K⟩:=qva (l:=l) (by rw[y.out];exact h9);rw[I,J,K];go_enter Tryz.func212,Tryz.ntmps212
  go_wp2;refine bodyPost_ret (q6r Tryz.results212 rfl (Tm (KB.new w 0 0 0 _))) rfl ?_;exact⟨_,_,_,rfl,qec _ _ _,O _⟩
 ·have P:¬l.length<9:=by rw[y.out];exact h9
  go_enter Tryz.func212,Tryz.ntmps212
  go_wp2_with fail
  have R2:KB ((w.alloc (.cells #[.int .i64 0,.int .i64 0,.int .i64 0] 45)).alloc (.cells #[.int .i64 0,.int .i64 0,.int .i64 0] 45)) w.1.size ⟨0,0,0⟩:=(KB.new w 0 0 0 _).below (Qk) (by simp);have Z:KB ((w.alloc (.cells #[.int .i64 0,.int .i64 0,.int .i64 0] 45)).alloc (.cells #[.int .i64 0,.int .i64 0,.int .i64 0] 45)) (w.1.size+1) ⟨0,0,0⟩:=by
   have:=KB.new (w.alloc (.cells #[.int .i64 0,.int .i64 0,.int .i64 0] 45)) 0 0 0 45;rwa [World.size_alloc] at this
  have R:Below w.1.size w ((w.alloc (.cells #[.int .i64 0,.int .i64 0,.int .i64 0] 45)).alloc (.cells #[.int .i64 0,.int .i64 0,.int .i64 0] 45)):=(O _).alloc (by simp) _;generalize (w.alloc (.cells #[.int .i64 0,.int .i64 0,.int .i64 0] 45)).alloc (.cells #[.int .i64 0,.int .i64 0,.int .i64 0] 45)=w2 at R2 Z R ⊢;have h2:=h.below R;have z2:=Z.lt;refine (q5d A n c l 4 (n-4) w2 h2 hn (by omega) (by omega) (by omega) rfl).mono ?_;rintro e w3 ⟨A3,c3,rfl,B,f⟩;have R3:=R2.below f R2.lt;have K3:=Z.below f z2;have B3:=R.trans (f.mono R.size);clear R2 Z h2 f;have Q:=K3.c0;have M:=K3.fz 0;have o3:=B.less (show w.1.size+2<=w2.1.size by omega);obtain⟨X,hX⟩:∃X,Qw (l.take (4:Int).toNat)=X:=⟨_,rfl⟩;rw[hX];clear B z2;go_wp2_with fail
  have K4:=K3.set0 (X:Int);have R4:=R3.keep (w':=w3.setCell ⟨w.1.size+1,0,none⟩ (.int .i64 (X:Int))) (Below.heap_setCell _ _ _ _ (by show w.1.size≠w.1.size+1;omega));have o4:=o3.keep (w':=w3.setCell ⟨w.1.size+1,0,none⟩ (.int .i64 (X:Int))) (λg hg _=>Below.heap_setCell _ _ _ _ (by show g≠w.1.size+1;omega));have T:=B3.setCell (p:=⟨w.1.size+1,0,none⟩) (show w.1.size<=w.1.size+1 by omega) (.int .i64 (X:Int));clear Q M;generalize w3.setCell ⟨w.1.size+1,0,none⟩ (.int .i64 (X:Int))=w4 at K4 R4 o4 T ⊢;have z4:=K4.lt;refine (q5d A3 (n-4) c3 _ 1 (n-5) w4 o4.sl (by omega) (by omega) (by omega) (by omega) rfl).mono ?_;rw[Qa8];rintro e w5 ⟨A5,c5,rfl,D,m⟩;have R5:=R4.below m R4.lt;have K5:=K4.below m z4;have B5:=T.trans (m.mono T.size);have Q:=K5.c1;have M:=K5.fz 1;have o5:=D.less (show w.1.size+2<=w4.1.size by omega);obtain⟨Y,hY⟩:∃Y,Qw ((l.drop (4:Int).toNat).take (1:Int).toNat)=Y:=⟨_,rfl⟩;rw[hY];clear D z4 R3 K3 B3 R4 K4 T o3 o4 m;go_wp2_with fail
  have K6:=K5.set1 (Y:Int);have R6:=R5.keep (w':=w5.setCell ⟨w.1.size+1,1,none⟩ (.int .i64 (Y:Int))) (Below.heap_setCell _ _ _ _ (by show w.1.size≠w.1.size+1;omega));have o6:=o5.keep (w':=w5.setCell ⟨w.1.size+1,1,none⟩ (.int .i64 (Y:Int))) (λg hg _=>Below.heap_setCell _ _ _ _ (by show g≠w.1.size+1;omega));have W:=B5.setCell (p:=⟨w.1.size+1,1,none⟩) (show w.1.size<=w.1.size+1 by omega) (.int .i64 (Y:Int));clear Q M;generalize w5.setCell ⟨w.1.size+1,1,none⟩ (.int .i64 (Y:Int))=w6 at K6 R6 o6 W ⊢;have z6:=K6.lt;refine (q5d A5 (n-5) c5 _ 4 (n-9) w6 o6.sl (by omega) (by omega) (by omega) (by omega) rfl).mono ?_;rw[Qa9];rintro e w7 ⟨A7,c7,rfl,E,u⟩;have R7:=R6.below u R6.lt;have K7:=K6.below u z6;have B7:=W.trans (u.mono W.size);have Q:=K7.c2;have M:=K7.fz 2;have o7:=E.less (show w.1.size+2<=w6.1.size by omega);obtain⟨U,hU⟩:∃U,Qw ((l.drop 5).take (4:Int).toNat)=U:=⟨_,rfl⟩;rw[hU];have hK:Dn l=⟨(X:Int),(Y:Int),(U:Int)⟩:=by rw[<-hX,<-hY,<-hU];rfl
  clear E z6 R5 K5 B5 R6 K6 W o5 o6 u;have K8:=K7.set2 (U:Int);have G:=R7.keep (w':=w7.setCell ⟨w.1.size+1,2,none⟩ (.int .i64 (U:Int))) (Below.heap_setCell _ _ _ _ (by show w.1.size≠w.1.size+1;omega));have o8:=o7.keep (w':=w7.setCell ⟨w.1.size+1,2,none⟩ (.int .i64 (U:Int))) (λg hg _=>Below.heap_setCell _ _ _ _ (by show g≠w.1.size+1;omega));have F:=B7.setCell (p:=⟨w.1.size+1,2,none⟩) (show w.1.size<=w.1.size+1 by omega) (.int .i64 (U:Int));go_wp2_with (first
   |(refine qco rfl (.tmp 5) rfl (w.1.size+1) rfl ⟨(X:Int),(Y:Int),(U:Int)⟩ K8 ?_)
   |fail)
  clear Q M K7 R7 o7 B7;generalize w7.setCell ⟨w.1.size+1,2,none⟩ (.int .i64 (U:Int))=w8 at K8 G o8 F ⊢;have z8:=K8.lt;refine (qrn ⟨(X:Int),(Y:Int),(U:Int)⟩ w8).mono ?_;obtain⟨b,hb⟩:∃b,(⟨(X:Int),(Y:Int),(U:Int)⟩:Kd).may=b:=⟨_,rfl⟩;have hm:(Dn l).may=b:=by rw[hK,hb]
  rw[hb]
  cases b
  ·obtain⟨I,J,K⟩:=Qb1 P hm;rintro e w9 ⟨rfl,d⟩;have H:=G.below d G.lt;have B9:=F.trans (d.mono F.size);go_wp2_with (first
    |(refine q1d rfl (.tmp 2) (.tmp 34) rfl w.1.size rfl ⟨0,0,0⟩ _ rfl H ?_;intro wz Rz Tz)
    |fail)
   refine bodyPost_ret (q6r Tryz.results212 rfl (Tm Rz)) rfl ?_;rw[I,J,K];exact⟨_,_,_,rfl,qec _ _ _,B9.trans (Tz.Q9 H.lt)⟩
  ·obtain⟨I,J,K⟩:=qw5 P hm;rintro e w9 ⟨rfl,d⟩;have H:=G.below d G.lt;have K9:=K8.below d z8;have B9:=F.trans (d.mono F.size);have o9:=o8.below d;go_wp2_with (first
    |(refine qco rfl (.tmp 5) rfl (w.1.size+1) rfl ⟨(X:Int),(Y:Int),(U:Int)⟩ K9 ?_)
    |(refine q1d rfl (.tmp 2) (.tmp 35) rfl w.1.size rfl ⟨(X:Int),(Y:Int),(U:Int)⟩ _ rfl H ?_;intro wz Rz Tz)
    |fail)
   rw[<-hK] at Rz;refine bodyPost_ret (q6r Tryz.results212 rfl (Tm Rz)) rfl ?_;rw[I,J,K];refine⟨A7,n-9,c7,rfl,?_,B9.trans (Tz.Q9 H.lt)⟩;exact (o9.keep λg hg hl=>Tz.block g hl (by show ¬g=w.1.size;omega)).less (by omega)
theorem qn1 (a b:Kd)(w:World):(binOp .eql 45 a.v b.v).run Tryz.prog w=.ok (.bool (a.same b)) w:=by
 unfold Kd.v;rw[run_eql_struct,run_equalIn_agg w 9999 45 _ _ (by kernel_rfl) (by kernel_rfl)];unfold Program.fieldsOf;rw[Tryz.underlying45];simp[go_sem,Tryz.underlying3];unfold Kd.same;by_cases h1:a.obj=b.obj
 ·by_cases h2:a.kind=b.kind
  ·by_cases d:a.off=b.off
   ·simp[h1,h2,d]
   ·simp[h1,h2,d]
  ·simp[h1,h2]
 ·simp[h1]
theorem KB.new2 (w:World)(o:Obj)(x y z:Int)(t:TypeId):KB ((w.alloc o).alloc (.cells #[.int .i64 x,.int .i64 y,.int .i64 z] t)) (w.1.size+1) ⟨x,y,z⟩:=by
 have:=KB.new (w.alloc o) x y z t;rwa [World.size_alloc] at this
theorem qcp (x y:Operand)(xs d:Array Value)(w:World):(eqGuard .eql 45 x y (.agg xs) (.agg d)).run Tryz.prog w=.ok () w:=
 run_eqGuard_agg w .eql 45 x y xs d (by kernel_rfl)
theorem qkv (a b:Kd)(r:Bool)(h:a.same b=r)(w:World):(binOp .eql 45 (.agg #[.int .i64 a.obj,.int .i64 a.kind,.int .i64 a.off]) (.agg #[.int .i64 b.obj,.int .i64 b.kind,.int .i64 b.off])).run Tryz.prog w=.ok (.bool r) w:=by
 have:=qn1 a b w;rw[h] at this;exact this
theorem q6t (a b:Kd)(r:Bool)(h:a.less b=r)(w:World) :
  Calls Tryz.prog 55 #[.agg #[.int .i64 a.obj,.int .i64 a.kind,.int .i64 a.off],.agg #[.int .i64 b.obj,.int .i64 b.kind,.int .i64 b.off]] w λe d=>e=.returned (.bool r)/\Below w.1.size w d:=by
 have:=qkt a b w;rw[h] at this;exact this
theorem q2d (a:Kd)(r:Bool)(h:a.may=r)(w:World) :
  Calls Tryz.prog 107 #[.agg #[.int .i64 a.obj,.int .i64 a.kind,.int .i64 a.off]] w λe d=>e=.returned (.bool r)/\Below w.1.size w d:=by
 have:=qrn a w;rw[h] at this;exact this
theorem Y1 (w:World)(a:Kd):KB (w.alloc (.cells #[.int .i64 a.obj,.int .i64 a.kind,.int .i64 a.off] 45)) w.1.size a/\Below w.1.size w (w.alloc (.cells #[.int .i64 a.obj,.int .i64 a.kind,.int .i64 a.off] 45)):=
 ⟨KB.new w a.obj a.kind a.off _,Qk⟩
theorem Qa4 (w:World)(a b:Kd):KB ((w.alloc (.cells #[.int .i64 a.obj,.int .i64 a.kind,.int .i64 a.off] 45)).alloc (.cells #[.int .i64 b.obj,.int .i64 b.kind,.int .i64 b.off] 45)) w.1.size a/\KB ((w.alloc (.cells #[.int .i64 a.obj,.int .i64 a.kind,.int .i64 a.off] 45)).alloc (.cells #[.int .i64 b.obj,.int .i64 b.kind,.int .i64 b.off] 45)) (w.1.size+1) b/\Below w.1.size w ((w.alloc (.cells #[.int .i64 a.obj,.int .i64 a.kind,.int .i64 a.off] 45)).alloc (.cells #[.int .i64 b.obj,.int .i64 b.kind,.int .i64 b.off] 45)):=
 ⟨(KB.new w a.obj a.kind a.off _).below (Qk) (by simp),KB.new2 w _ b.obj b.kind b.off _,(Qk).alloc (by simp) _⟩
theorem qy5 (k:Kd)(p:k.may=true)(l:List UInt8):Dn (k.bytes++l)=k:=by
 obtain⟨⟨u,B⟩,⟨y,D⟩,A,E⟩:=(Kd.Ba k).1 p;have d:k.bytes++l=Qy k.obj 4++(Qy k.kind 1++(Qy k.off 4++l)):=by unfold Kd.bytes;rw[List.append_assoc,List.append_assoc]
 have f:(k.bytes++l).take 4=Qy k.obj 4:=by rw[d];exact List.take_left' (Xf _ _)
 have e:(k.bytes++l).drop 4=Qy k.kind 1++(Qy k.off 4++l):=by rw[d];exact List.drop_left' (Xf _ _)
 have m:(k.bytes++l).drop 5=Qy k.off 4++l:=by
  rw[show (5:Nat)=4+1 from rfl,<-List.drop_drop,e];exact List.drop_left' (Xf _ _)
 unfold Dn;rw[f,e,m,List.take_left' (Xf _ _),List.take_left' (Xf _ _),q4v k.obj 4 u (by omega),q4v k.kind 1 y (by omega),q4v k.off 4 A (by omega)]
theorem qrp (k:Kd)(e:k.may=true)(l:List UInt8):G8 (k.bytes++l)=k/\Wj (k.bytes++l)=l/\Gf (k.bytes++l)=0:=by
 have d:=qy5 k e l;obtain⟨h1,h2,f⟩:=qw5 (l:=k.bytes++l) (by rw[List.length_append,Kd.Xv];omega) (by rw[d];exact e);rw[h1,h2,f,d];exact⟨rfl,List.drop_left' (Kd.Xv k),rfl⟩
theorem qy6 (k:Kd):k.same k=true:=(Kd.same_iff k k).2 ⟨rfl,rfl,rfl⟩
theorem qgf (A:Option Addr)(n c:Nat)(l:List UInt8)(K:Kd)(R:List UInt8)(E:Int)(y:G8 l=K)(B:Wj l=R)(u:Gf l=E)(w:World)(h:Sl w A n c l)(hn:n<=17592186044416) :
  Calls Tryz.prog 212 #[.slice A n c] w λe p=>∃d m f,e=.returned (.tuple #[.agg #[.int .i64 K.obj,.int .i64 K.kind,.int .i64 K.off],.slice d m f,.int .i64 E])/\Own p w.1.size 5 d m f R/\Below w.1.size w p:=by
 have:=qro A n c l w h hn;rw[y,B,u] at this;exact this
