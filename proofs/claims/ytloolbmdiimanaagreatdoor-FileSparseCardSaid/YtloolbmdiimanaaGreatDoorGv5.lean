/- Keys: the code's and the reference's Less and May; First and Last -/
import Derived.Test.YtloolbmdiimanaaGreatDoorGv3
import Derived.Test.YtloolbmdiimanaaGreatDoorGv4
import Derived.Deep.RegionHeld3
import Derived.Laws.StructEq
namespace Go.Proofs.YtloolbmdiimanaaGreatDoor
open Go Go.RowKit Go.Proofs Tryz
set_option maxHeartbeats 2000000
def Kd.v (k:Kd):Value:=.agg #[.int .i64 k.obj,.int .i64 k.kind,.int .i64 k.off]
def Kd.vs (k:Kd):LV:=[.int .i64 k.obj,.int .i64 k.kind,.int .i64 k.off]
def KB (w:WD)(b:Nat)(k:Kd):Prop:=∃t,w.1[b]?=some (.cells #[.int .i64 k.obj,.int .i64 k.kind,.int .i64 k.off] t (0,0))
theorem KB.new (w:WD)(x y z:Int)(t:TypeId):KB (w.alloc (.cells #[.int .i64 x,.int .i64 y,.int .i64 z] t)) w.1.size ⟨x,y,z⟩:=⟨t,BE w _⟩
theorem KB.below {w w':WD}{b:Nat}{k:Kd}(H:KB w b k){B:Nat}(hb:Below B w w')(hB:b<B):KB w' b k:=by
 obtain⟨t,H⟩:=H;exact⟨t,(hb.block b hB).trans H⟩
theorem KB.range {w:WD}{b:Nat}{k:Kd}(H:KB w b k):w.rangeAt b 0 k.vs:=λj v d=>by
 obtain⟨t,H⟩:=H;rw[cell_of_row _ _ _ _ _ _ H,AT];simpa [Kd.vs] using d
theorem KB.c0 {w:WD}{b:Nat}{k:Kd}(H:KB w b k):w.cell? ⟨b,0,none⟩=some (.int .i64 k.obj):=H.range 0 _ rfl
theorem KB.c1 {w:WD}{b:Nat}{k:Kd}(H:KB w b k):w.cell? ⟨b,1,none⟩=some (.int .i64 k.kind):=H.range 1 _ rfl
theorem KB.c2 {w:WD}{b:Nat}{k:Kd}(H:KB w b k):w.cell? ⟨b,2,none⟩=some (.int .i64 k.off):=H.range 2 _ rfl
theorem q2w {w:WD}{b:Nat}{k:Kd}(H:KB w b k):(loadVar 81 ⟨b,0,none⟩).run prog w=.ok k.v w:=
 run_loadVar_mid w b 0 81 k.vs _ H.range underlying81 rfl (by kernel_rfl)
theorem Oc {f:Func}{p:Tmp}{ty:TypeId}{g:Addr}{v:Value}{P:Program}{w:WD}{d:Array Value}(h:f.results=#[.cell p ty])(u:d.getD p undef=.pointer (some g))(m:(loadVar ty g).run P w=.ok v w) :
  (results f d).run P w=.ok v w:=by
 have e:(results f d).run P w=((asAddr (d.getD p undef)).run P w).andThen λa y=>(loadVar ty a).run P y:=by
  simp only[results,h];simp[Sem.run_bind,Result.andThen];try rfl
 rw[e,u];simp[asAddr,m]
theorem Ag {g:Func}{p a:Tmp}{ty:TypeId}{f:Addr}{v:Value}{P:Program}{w:WD}{d:Array Value}(h:g.results=#[.cell p ty,.tmp a])(u:d.getD p undef=.pointer (some f))(m:(loadVar ty f).run P w=.ok v w) :
  (results g d).run P w=.ok (.tuple #[v,d.getD a undef]) w:=by
 have e:(results g d).run P w=((asAddr (d.getD p undef)).run P w).andThen λf y=>((loadVar ty f).run P y).andThen λv A=>.ok (.tuple #[v,d.getD a undef]) A:=by
  simp only[results,h];simp[Sem.run_bind,Result.andThen]
 rw[e,u];simp[asAddr,m]
theorem q77 {g:Func}{p a b:Tmp}{ty:TypeId}{f:Addr}{v:Value}{P:Program}{w:WD}{d:Array Value}(h:g.results=#[.cell p ty,.tmp a,.tmp b])(u:d.getD p undef=.pointer (some f))(m:(loadVar ty f).run P w=.ok v w) :
  (results g d).run P w=.ok (.tuple #[v,d.getD a undef,d.getD b undef]) w:=by
 have e:(results g d).run P w=((asAddr (d.getD p undef)).run P w).andThen λf y=>((loadVar ty f).run P y).andThen λv A=>.ok (.tuple #[v,d.getD a undef,d.getD b undef]) A:=by
  simp only[results,h];simp[Sem.run_bind,Result.andThen]
 rw[e,u];simp[asAddr,m]
theorem qlc (a b:Kd)(w:WD) :
  Calls prog 51 #[.agg #[.int .i64 a.obj,.int .i64 a.kind,.int .i64 a.off],.agg #[.int .i64 b.obj,.int .i64 b.kind,.int .i64 b.off]] w λe f=>e=.returned (.bool (a.less b))/\Below w.1.size w f:=by
 obtain⟨r,d⟩:∃r,a.less b=r:=⟨_,rfl⟩;rw[d];unfold Kd.less at d;by_cases h1:a.obj=b.obj
 ·rw[AA h1] at d;by_cases h2:a.kind=b.kind
  ·rw[AA h2] at d;go_enter func51,ntmps51
   go_wp2;go_ret;exact⟨by rw[<-d];rfl,(Ql).alloc (by simp) _⟩
  ·rw[AB h2] at d;go_enter func51,ntmps51
   go_wp2;go_ret;exact⟨by rw[<-d];rfl,(Ql).alloc (by simp) _⟩
 ·rw[AB h1] at d;go_enter func51,ntmps51
  go_wp2;go_ret;exact⟨by rw[<-d];rfl,(Ql).alloc (by simp) _⟩
theorem q88 (x m:Int)(w:WD) :
  Calls prog 138 #[.int .i64 x,.int .i64 m] w λe d=>e=.returned (.bool (decide (0<=x/\x<=m)))/\w=d:=by
 go_enter func138,ntmps138
 go_wp2;all_goals
  go_ret;refine⟨congrArg (λx=>Ending.returned (Value.bool x)) ?_,rfl⟩;first
   |exact (AH (by omega)).symm
   |exact decide_eq_decide.2 (by omega)
   |(rw[Bool.eq_iff_iff];simp;omega)
theorem qrr (k:Kd)(w:WD) :
  Calls prog 111 #[.agg #[.int .i64 k.obj,.int .i64 k.kind,.int .i64 k.off]] w λe g=>e=.returned (.bool k.may)/\Below w.1.size w g:=by
 obtain⟨b,d⟩:∃b,k.may=b:=⟨_,rfl⟩;rw[d];unfold Kd.may at d;go_enter func111,ntmps111
 go_wp2_with fail
 refine (q88 k.obj 2147483647 _).mono ?_;by_cases h1:0<=k.obj/\k.obj<=2147483647
 ·rw[AL h1];rintro e f ⟨rfl,rfl⟩;go_wp2_with fail
  refine (q88 k.kind 255 _).mono ?_;by_cases h2:0<=k.kind/\k.kind<=255
  ·rw[AL h2];rintro e f ⟨rfl,rfl⟩;go_wp2_with fail
   refine (q88 k.off 2147483647 _).mono ?_;rintro e f ⟨rfl,rfl⟩;go_wp2;go_ret;exact⟨by rw[<-d];exact congrArg (λx=>Ending.returned (Value.bool x)) (by rw[Bool.eq_iff_iff];simp;omega),Ql⟩
  ·rw[AH h2];rintro e f ⟨rfl,rfl⟩;go_wp2;go_ret;exact⟨by rw[<-d];exact congrArg (λx=>Ending.returned (Value.bool x)) (AH (by omega)).symm,Ql⟩
 ·rw[AH h1];rintro e f ⟨rfl,rfl⟩;go_wp2;go_ret;exact⟨by rw[<-d];exact congrArg (λx=>Ending.returned (Value.bool x)) (AH (by omega)).symm,Ql⟩
theorem pin (l:LU)(x n:Int)(h1:1<=n)(h2:n<=8):G5 l x n=l++Q8 x n.toNat:=AA ⟨h1,h2⟩
theorem KB.lt {w:WD}{b:Nat}{k:Kd}(H:KB w b k):b<w.1.size:=by
 obtain⟨t,H⟩:=H;exact Kw H
theorem KB.there {w:WD}{b:Nat}{k:Kd}(H:KB w b k):w.there b 0 3:=λj d=>by
 obtain⟨t,H⟩:=H;refine⟨?_,by unfold World.frozen?;rw[H];simp⟩;rw[cell_of_row _ _ _ _ _ _ H,AT,Array.getElem?_eq_getElem (by simpa using d)];rfl
theorem KB.stored {w:WD}{b:Nat}{k:Kd}(H:KB w b k)(k2:Kd):KB (w.setCells b 0 k2.vs) b k2:=by
 obtain⟨t,H⟩:=H;exact⟨t,D6 _ (D6 _ (D6 _ H))⟩
theorem KB.keep {w w':WD}{b:Nat}{k:Kd}(H:KB w b k)(h:w'.1[b]?=w.1[b]?):KB w' b k:=by
 obtain⟨t,H⟩:=H;exact⟨t,h.trans H⟩
theorem KB.fz {w:WD}{b:Nat}{k:Kd}(H:KB w b k)(i:Nat):w.frozen? ⟨b,i,none⟩=false:=by
 obtain⟨t,H⟩:=H;unfold World.frozen?;rw[H];simp
theorem KB.set0 {w:WD}{b:Nat}{k:Kd}(H:KB w b k)(x:Int):KB (w.setCell ⟨b,0,none⟩ (.int .i64 x)) b ⟨x,k.kind,k.off⟩:=by
 obtain⟨t,H⟩:=H;exact⟨t,D6 _ H⟩
theorem KB.set1 {w:WD}{b:Nat}{k:Kd}(H:KB w b k)(x:Int):KB (w.setCell ⟨b,1,none⟩ (.int .i64 x)) b ⟨k.obj,x,k.off⟩:=by
 obtain⟨t,H⟩:=H;exact⟨t,D6 _ H⟩
theorem KB.set2 {w:WD}{b:Nat}{k:Kd}(H:KB w b k)(x:Int):KB (w.setCell ⟨b,2,none⟩ (.int .i64 x)) b ⟨k.obj,k.kind,x⟩:=by
 obtain⟨t,H⟩:=H;exact⟨t,D6 _ H⟩
theorem qdg {e:Array Oper}{d:List Oper}{o:Oper}{a:Act}{w:WD}{Q:Exit->Act->WD->Prop}(m:o.guard=none)(x:Operand)(f:o.op=Op.load 81 x)
  (b:Nat) (p:a.eval x=.pointer (some ⟨b,0,none⟩)) (k:Kd) (H:KB w b k) (g:wpList prog e Q d (a.put o.dst k.v) w):wpList prog e Q (o::d) a w:=
 wpList_load_mid m _ x f b 0 p k.vs _ H.range underlying81 rfl (by kernel_rfl) g
theorem q1i {e:Array Oper}{d:List Oper}{o:Oper}{a:Act}{w:WD}{Q:Exit->Act->WD->Prop}(u:o.guard=none)(x y:Operand)(f:o.op=Op.store 81 x y)
  (b:Nat) (A:a.eval x=.pointer (some ⟨b,0,none⟩)) (k D:Kd) (B:a.eval y=k.v) (H:KB w b D)
  (p:∀m,KB m b k->Turn (λg=>g=b) w m->wpList prog e Q d (a.put o.dst undef) m):wpList prog e Q (o::d) a w:=
 wpList_store_mid u _ x y f b 0 k.vs.toArray A B H.there (by kernel_rfl) (by simp[Kd.vs,Value.oneCell'])
  (p _ (H.stored k) (Us (S:=λg=>g=b) rfl k.vs 0 w))
theorem Own.keep {w w':WD}{base n c:Nat}{e:TypeId}{A:OA}{l:LU}(h:Own w base e A n c l)(hk:∀g,base<=g->g<w.1.size->w'.1[g]?=w.1[g]?):Own w' base e A n c l:=by
 refine⟨h.1,?_⟩;rcases h.2 with f|⟨g,cap,d,f,h1,m,r⟩
 ·exact .inl f
 ·exact .inr ⟨g,cap,d,f,h1,(hk g h1 (Array.getElem?_eq_some_iff.1 m).1).trans m,r⟩
theorem qf1 (w:WD)(base:Nat)(e:TypeId):Own w base e none 0 0 []:=⟨by simp,.inl ⟨rfl,rfl⟩⟩
theorem Turn.Q9 {b:Nat}{w w':WD}(h:Turn (λg=>g=b) w w')(hb:b<w.1.size):Below b w w':=h.below (λx d=>by omega) (by omega)
theorem qnh (l:LU)(k:Kd):l++Q8 k.obj (4:Int).toNat++Q8 k.kind (1:Int).toNat++Q8 k.off (4:Int).toNat=l++k.bytes:=by
 unfold Kd.bytes;rw[AM,AM];rfl
theorem q78 (A:OA)(k c:Nat)(l:LU)(x n:Int)(w:WD)(h:Sl w A k c l)(y:k<=17592186044416)(h1:1<=n)(h2:n<=8) :
  Calls prog 65 #[.slice A k c,.int .i64 x,.int .i64 n] w λe m=>∃f d g,e=.returned (.slice f d g)/\Own m w.1.size 5 f d g (l++Q8 x n.toNat)/\d<=k+8/\Below w.1.size w m:=by
 have h:=q7r A k c l x n w h y;rw[pin _ _ n h1 h2] at h;refine h.mono ?_;rintro e m ⟨f,d,g,rfl,own,u⟩;refine⟨f,d,g,rfl,own,?_,u⟩;have p:=own.len;rw[AD,Xz,(show l.length=k from (by assumption:Sl w A k c l).len)] at p;omega
theorem qld (A:OA)(n c:Nat)(l:LU)(k:Kd)(w:WD)(h:Sl w A n c l)(hn:n<=4398046511104) :
  Calls prog 192 #[.slice A n c,.agg #[.int .i64 k.obj,.int .i64 k.kind,.int .i64 k.off]] w λe O=>∃G M I,e=.returned (.slice G M I)/\Own O w.1.size 5 G M I (l++k.bytes)/\Below w.1.size w O:=by
 have K:=HI h.len;go_enter func192,ntmps192
 go_wp2_with fail
 have y:=KB.new w k.obj k.kind k.off 81;have h1:=h.alloc (.cells #[.int .i64 k.obj,.int .i64 k.kind,.int .i64 k.off] 81);have D:Below w.1.size w (w.alloc (.cells #[.int .i64 k.obj,.int .i64 k.kind,.int .i64 k.off] 81)):=Ql;generalize w.alloc (.cells #[.int .i64 k.obj,.int .i64 k.kind,.int .i64 k.off] 81)=w1 at y h1 D ⊢;have z1:=y.lt;refine (q78 A n c l k.obj 4 w1 h1 (by omega) (by omega) (by omega)).mono ?_;rintro e w2 ⟨Q,X,c2,rfl,m,U,d⟩;have B:=y.below d z1;have z2:=B.lt;have q1:=B.c1;go_wp2_with fail
 refine (q78 Q X c2 _ k.kind 1 w2 m.sl (by omega) (by omega) (by omega)).mono ?_;rintro e P ⟨R,Y,c3,rfl,p,W,f⟩;have H:=B.below f z2;have z3:=H.lt;have q2:=H.c2;clear q1;go_wp2_with fail
 refine (q78 R Y c3 _ k.off 4 P p.sl (by omega) (by omega) (by omega)).mono ?_;rw[qnh];rintro e w4 ⟨T,Z,c4,rfl,u,_,F⟩;have s2:=d.size;have s3:=f.size;have g:=D.trans ((d.trans (f.mono s2)).mono D.size);have J:w.1.size<=P.1.size:=g.size;have E:=g.trans (F.mono J);have o5:=u.less J;go_wp2;go_ret;exact⟨T,Z,c4,rfl,o5,E⟩
def Dh (l:LU):Kd:=⟨(Qq (l.take 4):Int),(Qq ((l.drop 4).take 1):Int),(Qq ((l.drop 5).take 4):Int)⟩
def ktY (l:LU):Bool:=decide (9<=l.length)&&(Dh l).may
def Gx (l:LU):Kd:=if ktY l=true then Dh l else ⟨0,0,0⟩
def Wl (l:LU):LU:=if ktY l=true then l.drop 9 else []
def U8 (l:LU):Int:=if ktY l=true then 0 else if l.length<9 then 2 else 3
theorem qv6 {l:LU}(h:l.length<9):Gx l=⟨0,0,0⟩/\Wl l=[]/\U8 l=2:=by
 have d:ktY l=false:=by unfold ktY;rw[AH (by omega)];rfl
 unfold Gx Wl U8;rw[d,AA h];exact⟨rfl,rfl,rfl⟩
theorem Qb4 {l:LU}(h:¬l.length<9)(hm:(Dh l).may=false):Gx l=⟨0,0,0⟩/\Wl l=[]/\U8 l=3:=by
 have d:ktY l=false:=by unfold ktY;rw[hm,Bool.and_false]
 unfold Gx Wl U8;rw[d,AB h];exact⟨rfl,rfl,rfl⟩
theorem qvy {l:LU}(h:¬l.length<9)(hm:(Dh l).may=true):Gx l=Dh l/\Wl l=l.drop 9/\U8 l=0:=by
 have d:ktY l=true:=by unfold ktY;rw[hm,AL (by omega)];rfl
 unfold Gx Wl U8;rw[d];exact⟨rfl,rfl,rfl⟩
theorem Qbe (l:LU):(l.drop (4:Int).toNat).drop (1:Int).toNat=l.drop 5:=by rw[List.drop_drop];rfl
theorem Qbf (l:LU):(l.drop 5).drop (4:Int).toNat=l.drop 9:=by rw[List.drop_drop];rfl
theorem q5o (A:OA)(k c:Nat)(l:LU)(n:Int)(m:Nat)(w:WD)(h:Sl w A k c l)(y:k<=17592186044416)(h1:1<=n)(p:n<=7)(hn:n<=(k:Int))(hm:m=k-n.toNat) :
  Calls prog 54 #[.slice A k c,.int .i64 n] w λe g=>∃d f,e=.returned (.tuple #[.int .i64 (Qq (l.take n.toNat)),.slice d m f,.int .i64 0])/\Own g w.1.size 5 d m f (l.drop n.toNat)/\Below w.1.size w g:=by
 refine (q4a A k c l n w h y h1 p hn).mono ?_;rintro e g ⟨d,B,f,rfl,own,u⟩;have:=own.len;rw[AS,h.len] at this;obtain rfl:B=m:=by omega
 exact⟨d,f,rfl,own,u⟩
theorem qrs (A:OA)(n c:Nat)(l:LU)(w:WD)(h:Sl w A n c l)(hn:n<=17592186044416) :
  Calls prog 148 #[.slice A n c] w λe w'=>∃A' n' c',e=.returned (.tuple #[(Gx l).v,.slice A' n' c',.int .i64 (U8 l)])/\Own w' w.1.size 5 A' n' c' (Wl l)/\Below w.1.size w w':=by
 have y:=HI h.len;have O:∀o,Below w.1.size w (w.alloc o):=λo=>(AI _ _).alloc (AE _) o
 by_cases h9:n<9
 ·obtain⟨I,J,K⟩:=qv6 (l:=l) (by rw[y.out];exact h9);rw[I,J,K];go_enter func148,ntmps148
  go_wp2;refine bodyPost_ret (q77 Tryz.results148 rfl (q2w (KB.new w 0 0 0 _))) rfl ?_;exact⟨_,_,_,rfl,qf1 _ _ _,O _⟩
 ·have P:¬l.length<9:=by rw[y.out];exact h9
  go_enter func148,ntmps148
  go_wp2_with fail
  have R2:KB ((w.alloc (.cells #[.int .i64 0,.int .i64 0,.int .i64 0] 81)).alloc (.cells #[.int .i64 0,.int .i64 0,.int .i64 0] 81)) w.1.size ⟨0,0,0⟩:=(KB.new w 0 0 0 _).below (Ql) (by simp);have Z:KB ((w.alloc (.cells #[.int .i64 0,.int .i64 0,.int .i64 0] 81)).alloc (.cells #[.int .i64 0,.int .i64 0,.int .i64 0] 81)) (w.1.size+1) ⟨0,0,0⟩:=by
   have:=KB.new (w.alloc (.cells #[.int .i64 0,.int .i64 0,.int .i64 0] 81)) 0 0 0 81;rwa [BH] at this
  have R:Below w.1.size w ((w.alloc (.cells #[.int .i64 0,.int .i64 0,.int .i64 0] 81)).alloc (.cells #[.int .i64 0,.int .i64 0,.int .i64 0] 81)):=(O _).alloc (by simp) _;generalize (w.alloc (.cells #[.int .i64 0,.int .i64 0,.int .i64 0] 81)).alloc (.cells #[.int .i64 0,.int .i64 0,.int .i64 0] 81)=w2 at R2 Z R ⊢;have h2:=h.below R;have z2:=Z.lt;refine (q5o A n c l 4 (n-4) w2 h2 hn (by omega) (by omega) (by omega) rfl).mono ?_;rintro e w3 ⟨A3,c3,rfl,B,f⟩;have R3:=R2.below f R2.lt;have K3:=Z.below f z2;have B3:=R.trans (f.mono R.size);clear R2 Z h2 f;have Q:=K3.c0;have M:=K3.fz 0;have o3:=B.less (show w.1.size+2<=w2.1.size by omega);obtain⟨X,hX⟩:∃X,Qq (l.take (4:Int).toNat)=X:=⟨_,rfl⟩;rw[hX];clear B z2;go_wp2_with fail
  have K4:=K3.set0 (X:Int);have R4:=R3.keep (w':=w3.setCell ⟨w.1.size+1,0,none⟩ (.int .i64 (X:Int))) (Below.heap_setCell _ _ _ _ (by show w.1.size≠w.1.size+1;omega));have o4:=o3.keep (w':=w3.setCell ⟨w.1.size+1,0,none⟩ (.int .i64 (X:Int))) (λg hg _=>Below.heap_setCell _ _ _ _ (by show g≠w.1.size+1;omega));have T:=B3.setCell (p:=⟨w.1.size+1,0,none⟩) (show w.1.size<=w.1.size+1 by omega) (.int .i64 (X:Int));clear Q M;generalize w3.setCell ⟨w.1.size+1,0,none⟩ (.int .i64 (X:Int))=w4 at K4 R4 o4 T ⊢;have z4:=K4.lt;refine (q5o A3 (n-4) c3 _ 1 (n-5) w4 o4.sl (by omega) (by omega) (by omega) (by omega) rfl).mono ?_;rw[Qbe];rintro e w5 ⟨A5,c5,rfl,D,m⟩;have R5:=R4.below m R4.lt;have K5:=K4.below m z4;have B5:=T.trans (m.mono T.size);have Q:=K5.c1;have M:=K5.fz 1;have o5:=D.less (show w.1.size+2<=w4.1.size by omega);obtain⟨Y,hY⟩:∃Y,Qq ((l.drop (4:Int).toNat).take (1:Int).toNat)=Y:=⟨_,rfl⟩;rw[hY];clear D z4 R3 K3 B3 R4 K4 T o3 o4 m;go_wp2_with fail
  have K6:=K5.set1 (Y:Int);have R6:=R5.keep (w':=w5.setCell ⟨w.1.size+1,1,none⟩ (.int .i64 (Y:Int))) (Below.heap_setCell _ _ _ _ (by show w.1.size≠w.1.size+1;omega));have o6:=o5.keep (w':=w5.setCell ⟨w.1.size+1,1,none⟩ (.int .i64 (Y:Int))) (λg hg _=>Below.heap_setCell _ _ _ _ (by show g≠w.1.size+1;omega));have W:=B5.setCell (p:=⟨w.1.size+1,1,none⟩) (show w.1.size<=w.1.size+1 by omega) (.int .i64 (Y:Int));clear Q M;generalize w5.setCell ⟨w.1.size+1,1,none⟩ (.int .i64 (Y:Int))=w6 at K6 R6 o6 W ⊢;have z6:=K6.lt;refine (q5o A5 (n-5) c5 _ 4 (n-9) w6 o6.sl (by omega) (by omega) (by omega) (by omega) rfl).mono ?_;rw[Qbf];rintro e w7 ⟨A7,c7,rfl,E,u⟩;have R7:=R6.below u R6.lt;have K7:=K6.below u z6;have B7:=W.trans (u.mono W.size);have Q:=K7.c2;have M:=K7.fz 2;have o7:=E.less (show w.1.size+2<=w6.1.size by omega);obtain⟨U,hU⟩:∃U,Qq ((l.drop 5).take (4:Int).toNat)=U:=⟨_,rfl⟩;rw[hU];have hK:Dh l=⟨(X:Int),(Y:Int),(U:Int)⟩:=by rw[<-hX,<-hY,<-hU];rfl
  clear E z6 R5 K5 B5 R6 K6 W o5 o6 u;have K8:=K7.set2 (U:Int);have G:=R7.keep (w':=w7.setCell ⟨w.1.size+1,2,none⟩ (.int .i64 (U:Int))) (Below.heap_setCell _ _ _ _ (by show w.1.size≠w.1.size+1;omega));have o8:=o7.keep (w':=w7.setCell ⟨w.1.size+1,2,none⟩ (.int .i64 (U:Int))) (λg hg _=>Below.heap_setCell _ _ _ _ (by show g≠w.1.size+1;omega));have F:=B7.setCell (p:=⟨w.1.size+1,2,none⟩) (show w.1.size<=w.1.size+1 by omega) (.int .i64 (U:Int));go_wp2_with (first
   |(refine qdg rfl (.tmp 5) rfl (w.1.size+1) rfl ⟨(X:Int),(Y:Int),(U:Int)⟩ K8 ?_)
   |fail)
  clear Q M K7 R7 o7 B7;generalize w7.setCell ⟨w.1.size+1,2,none⟩ (.int .i64 (U:Int))=w8 at K8 G o8 F ⊢;have z8:=K8.lt;refine (qrr ⟨(X:Int),(Y:Int),(U:Int)⟩ w8).mono ?_;obtain⟨b,hb⟩:∃b,(⟨(X:Int),(Y:Int),(U:Int)⟩:Kd).may=b:=⟨_,rfl⟩;have hm:(Dh l).may=b:=by rw[hK,hb]
  rw[hb]
  cases b
  ·obtain⟨I,J,K⟩:=Qb4 P hm;rintro e w9 ⟨rfl,d⟩;have H:=G.below d G.lt;have B9:=F.trans (d.mono F.size);go_wp2_with (first
    |(refine q1i rfl (.tmp 2) (.tmp 34) rfl w.1.size rfl ⟨0,0,0⟩ _ rfl H ?_;intro wz Rz Tz)
    |fail)
   refine bodyPost_ret (q77 Tryz.results148 rfl (q2w Rz)) rfl ?_;rw[I,J,K];exact⟨_,_,_,rfl,qf1 _ _ _,B9.trans (Tz.Q9 H.lt)⟩
  ·obtain⟨I,J,K⟩:=qvy P hm;rintro e w9 ⟨rfl,d⟩;have H:=G.below d G.lt;have K9:=K8.below d z8;have B9:=F.trans (d.mono F.size);have o9:=o8.below d;go_wp2_with (first
    |(refine qdg rfl (.tmp 5) rfl (w.1.size+1) rfl ⟨(X:Int),(Y:Int),(U:Int)⟩ K9 ?_)
    |(refine q1i rfl (.tmp 2) (.tmp 35) rfl w.1.size rfl ⟨(X:Int),(Y:Int),(U:Int)⟩ _ rfl H ?_;intro wz Rz Tz)
    |fail)
   rw[<-hK] at Rz;refine bodyPost_ret (q77 Tryz.results148 rfl (q2w Rz)) rfl ?_;rw[I,J,K];refine⟨A7,n-9,c7,rfl,?_,B9.trans (Tz.Q9 H.lt)⟩;exact (o9.keep λg hg hl=>Tz.block g hl (by show ¬g=w.1.size;omega)).less (by omega)
theorem qni (a b:Kd)(w:WD):(binOp .eql 81 a.v b.v).run prog w=.ok (.bool (a.same b)) w:=by
 unfold Kd.v;rw[run_eql_struct,run_equalIn_agg w 9999 81 _ _ (by kernel_rfl) (by kernel_rfl)];unfold Program.fieldsOf;rw[underlying81];simp[go_sem,underlying3];unfold Kd.same;by_cases h1:a.obj=b.obj
 ·by_cases h2:a.kind=b.kind
  ·by_cases d:a.off=b.off
   ·simp[h1,h2,d]
   ·simp[h1,h2,d]
  ·simp[h1,h2]
 ·simp[h1]
theorem KB.new2 (w:WD)(o:Obj)(x y z:Int)(t:TypeId):KB ((w.alloc o).alloc (.cells #[.int .i64 x,.int .i64 y,.int .i64 z] t)) (w.1.size+1) ⟨x,y,z⟩:=by
 have:=KB.new (w.alloc o) x y z t;rwa [BH] at this
theorem qdh (x y:Operand)(xs d:Array Value)(w:WD):(eqGuard .eql 81 x y (.agg xs) (.agg d)).run prog w=.ok () w:=
 run_eqGuard_agg w .eql 81 x y xs d (by kernel_rfl)
theorem qle (a b:Kd)(r:Bool)(h:a.same b=r)(w:WD):(binOp .eql 81 (.agg #[.int .i64 a.obj,.int .i64 a.kind,.int .i64 a.off]) (.agg #[.int .i64 b.obj,.int .i64 b.kind,.int .i64 b.off])).run prog w=.ok (.bool r) w:=by
 have:=qni a b w;rw[h] at this;exact this
theorem q79 (a b:Kd)(r:Bool)(h:a.less b=r)(w:WD) :
  Calls prog 51 #[.agg #[.int .i64 a.obj,.int .i64 a.kind,.int .i64 a.off],.agg #[.int .i64 b.obj,.int .i64 b.kind,.int .i64 b.off]] w λe d=>e=.returned (.bool r)/\Below w.1.size w d:=by
 have:=qlc a b w;rw[h] at this;exact this
theorem q2m (a:Kd)(r:Bool)(h:a.may=r)(w:WD) :
  Calls prog 111 #[.agg #[.int .i64 a.obj,.int .i64 a.kind,.int .i64 a.off]] w λe d=>e=.returned (.bool r)/\Below w.1.size w d:=by
 have:=qrr a w;rw[h] at this;exact this
theorem Y3 (w:WD)(a:Kd):KB (w.alloc (.cells #[.int .i64 a.obj,.int .i64 a.kind,.int .i64 a.off] 81)) w.1.size a/\Below w.1.size w (w.alloc (.cells #[.int .i64 a.obj,.int .i64 a.kind,.int .i64 a.off] 81)):=
 ⟨KB.new w a.obj a.kind a.off _,Ql⟩
theorem Qa9 (w:WD)(a b:Kd):KB ((w.alloc (.cells #[.int .i64 a.obj,.int .i64 a.kind,.int .i64 a.off] 81)).alloc (.cells #[.int .i64 b.obj,.int .i64 b.kind,.int .i64 b.off] 81)) w.1.size a/\KB ((w.alloc (.cells #[.int .i64 a.obj,.int .i64 a.kind,.int .i64 a.off] 81)).alloc (.cells #[.int .i64 b.obj,.int .i64 b.kind,.int .i64 b.off] 81)) (w.1.size+1) b/\Below w.1.size w ((w.alloc (.cells #[.int .i64 a.obj,.int .i64 a.kind,.int .i64 a.off] 81)).alloc (.cells #[.int .i64 b.obj,.int .i64 b.kind,.int .i64 b.off] 81)):=
 ⟨(KB.new w a.obj a.kind a.off _).below (Ql) (by simp),KB.new2 w _ b.obj b.kind b.off _,(Ql).alloc (by simp) _⟩
theorem qxt (k:Kd)(m:k.may=true)(l:LU):Dh (k.bytes++l)=k:=by
 obtain⟨⟨p,A⟩,⟨u,B⟩,y,D⟩:=(Kd.Qan k).1 m;have d:k.bytes++l=Q8 k.obj 4++(Q8 k.kind 1++(Q8 k.off 4++l)):=by unfold Kd.bytes;rw[AM,AM]
 have f:(k.bytes++l).take 4=Q8 k.obj 4:=by rw[d];exact List.take_left' (Xz _ _)
 have e:(k.bytes++l).drop 4=Q8 k.kind 1++(Q8 k.off 4++l):=by rw[d];exact List.drop_left' (Xz _ _)
 have g:(k.bytes++l).drop 5=Q8 k.off 4++l:=by
  rw[show (5:Nat)=4+1 from rfl,<-List.drop_drop,e];exact List.drop_left' (Xz _ _)
 unfold Dh;rw[f,e,g,List.take_left' (Xz _ _),List.take_left' (Xz _ _),q6s k.obj 4 p (by omega),q6s k.kind 1 u (by omega),q6s k.off 4 y (by omega)]
theorem qrt (k:Kd)(e:k.may=true)(l:LU):Gx (k.bytes++l)=k/\Wl (k.bytes++l)=l/\U8 (k.bytes++l)=0:=by
 have d:=qxt k e l;obtain⟨h1,h2,f⟩:=qvy (l:=k.bytes++l) (by rw[AD,Kd.X0];omega) (by rw[d];exact e);rw[h1,h2,f,d];exact⟨rfl,List.drop_left' (Kd.X0 k),rfl⟩
theorem qxu (k:Kd):k.same k=true:=(Kd.same_iff k k).2 ⟨rfl,rfl,rfl⟩
theorem qh7 (A:OA)(n c:Nat)(l:LU)(K:Kd)(R:LU)(E:Int)(u:Gx l=K)(y:Wl l=R)(p:U8 l=E)(w:WD)(h:Sl w A n c l)(hn:n<=17592186044416) :
  Calls prog 148 #[.slice A n c] w λe m=>∃d g f,e=.returned (.tuple #[.agg #[.int .i64 K.obj,.int .i64 K.kind,.int .i64 K.off],.slice d g f,.int .i64 E])/\Own m w.1.size 5 d g f R/\Below w.1.size w m:=by
 have:=qrs A n c l w h hn;rw[u,y,p] at this;exact this
