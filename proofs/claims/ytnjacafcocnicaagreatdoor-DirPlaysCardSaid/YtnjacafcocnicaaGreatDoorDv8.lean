/- Keys: the code's and the reference's Less and May; First and Last -/
import Derived.Test.YtnjacafcocnicaaGreatDoorDv3
import Derived.Test.YtnjacafcocnicaaGreatDoorDv5
import Derived.Deep.RegionHeld3
import Derived.Laws.StructEq
namespace Go.Proofs.YtnjacafcocnicaaGreatDoor
open Go Go.RowKit Go.Proofs Tryz
set_option maxHeartbeats 2000000
def Kd.v (k:Kd):Value:=.agg #[.int .i64 k.obj,.int .i64 k.kind,.int .i64 k.off]
def Kd.vs (k:Kd):LV:=[.int .i64 k.obj,.int .i64 k.kind,.int .i64 k.off]
def KB (w:WD)(b:Nat)(k:Kd):Prop:=∃t,w.1[b]?=some (.cells #[.int .i64 k.obj,.int .i64 k.kind,.int .i64 k.off] t (0,0))
theorem KB.new (w:WD)(x y z:Int)(t:TypeId):KB (w.alloc (.cells #[.int .i64 x,.int .i64 y,.int .i64 z] t)) w.1.size ⟨x,y,z⟩:=⟨t,BE w _⟩
theorem KB.below {w w':WD}{b:Nat}{k:Kd}(H:KB w b k){B:Nat}(hb:Below B w w')(hB:b<B):KB w' b k:=by
 obtain⟨t,H⟩:=H;exact⟨t,(hb.block b hB).trans H⟩
theorem KB.range {w:WD}{b:Nat}{k:Kd}(H:KB w b k):w.rangeAt b 0 k.vs:=λj v f=>by
 obtain⟨t,H⟩:=H;rw[cell_of_row _ _ _ _ _ _ H,AT];simpa [Kd.vs] using f
theorem KB.c0 {w:WD}{b:Nat}{k:Kd}(H:KB w b k):w.cell? ⟨b,0,none⟩=some (.int .i64 k.obj):=H.range 0 _ rfl
theorem KB.c1 {w:WD}{b:Nat}{k:Kd}(H:KB w b k):w.cell? ⟨b,1,none⟩=some (.int .i64 k.kind):=H.range 1 _ rfl
theorem KB.c2 {w:WD}{b:Nat}{k:Kd}(H:KB w b k):w.cell? ⟨b,2,none⟩=some (.int .i64 k.off):=H.range 2 _ rfl
theorem q3e {w:WD}{b:Nat}{k:Kd}(H:KB w b k):(loadVar 45 ⟨b,0,none⟩).run prog w=.ok k.v w:=
 run_loadVar_mid w b 0 45 k.vs _ H.range underlying45 rfl (by kernel_rfl)
theorem Rh {q:Func}{p:Tmp}{ty:TypeId}{u:Addr}{v:Value}{P:Program}{w:WD}{f:Array Value}(h:q.results=#[.cell p ty])(D:f.getD p undef=.pointer (some u))(y:(loadVar ty u).run P w=.ok v w) :
  (results q f).run P w=.ok v w:=by
 have e:(results q f).run P w=((asAddr (f.getD p undef)).run P w).andThen λa E=>(loadVar ty a).run P E:=by
  simp only[results,h];simp[Sem.run_bind,Result.andThen];try rfl
 rw[e,D];simp[asAddr,y]
theorem Bl {u:Func}{p a:Tmp}{ty:TypeId}{q:Addr}{v:Value}{P:Program}{w:WD}{f:Array Value}(h:u.results=#[.cell p ty,.tmp a])(D:f.getD p undef=.pointer (some q))(y:(loadVar ty q).run P w=.ok v w) :
  (results u f).run P w=.ok (.tuple #[v,f.getD a undef]) w:=by
 have e:(results u f).run P w=((asAddr (f.getD p undef)).run P w).andThen λq E=>((loadVar ty q).run P E).andThen λv F=>.ok (.tuple #[v,f.getD a undef]) F:=by
  simp only[results,h];simp[Sem.run_bind,Result.andThen]
 rw[e,D];simp[asAddr,y]
theorem q7k {u:Func}{p a b:Tmp}{ty:TypeId}{q:Addr}{v:Value}{P:Program}{w:WD}{f:Array Value}(h:u.results=#[.cell p ty,.tmp a,.tmp b])(D:f.getD p undef=.pointer (some q))(y:(loadVar ty q).run P w=.ok v w) :
  (results u f).run P w=.ok (.tuple #[v,f.getD a undef,f.getD b undef]) w:=by
 have e:(results u f).run P w=((asAddr (f.getD p undef)).run P w).andThen λq E=>((loadVar ty q).run P E).andThen λv F=>.ok (.tuple #[v,f.getD a undef,f.getD b undef]) F:=by
  simp only[results,h];simp[Sem.run_bind,Result.andThen]
 rw[e,D];simp[asAddr,y]
theorem qna (a b:Kd)(w:WD) :
  Calls prog 33 #[.agg #[.int .i64 a.obj,.int .i64 a.kind,.int .i64 a.off],.agg #[.int .i64 b.obj,.int .i64 b.kind,.int .i64 b.off]] w λe w'=>e=.returned (.bool (a.less b))/\Below w.1.size w w':=by
 obtain⟨r,f⟩:∃r,a.less b=r:=⟨_,rfl⟩;rw[f];unfold Kd.less at f;by_cases h1:a.obj=b.obj
 ·rw[AA h1] at f;by_cases h2:a.kind=b.kind
  ·rw[AA h2] at f;go_enter func33,ntmps33
   go_wp2;go_ret;exact⟨by rw[<-f];rfl,(Qi).alloc (by simp) _⟩
  ·rw[AB h2] at f;go_enter func33,ntmps33
   go_wp2;go_ret;exact⟨by rw[<-f];rfl,(Qi).alloc (by simp) _⟩
 ·rw[AB h1] at f;go_enter func33,ntmps33
  go_wp2;go_ret;exact⟨by rw[<-f];rfl,(Qi).alloc (by simp) _⟩
theorem q8v (x m:Int)(w:WD) :
  Calls prog 128 #[.int .i64 x,.int .i64 m] w λe w'=>e=.returned (.bool (decide (0<=x/\x<=m)))/\w=w':=by
 go_enter func128,ntmps128
 go_wp2;all_goals
  go_ret;refine⟨congrArg (λx=>Ending.returned (Value.bool x)) ?_,rfl⟩;first
   |exact (AH (by omega)).symm
   |exact decide_eq_decide.2 (by omega)
   |(rw[Bool.eq_iff_iff];simp;omega)
theorem qu6 (k:Kd)(w:WD) :
  Calls prog 69 #[.agg #[.int .i64 k.obj,.int .i64 k.kind,.int .i64 k.off]] w λe w'=>e=.returned (.bool k.may)/\Below w.1.size w w':=by
 obtain⟨b,f⟩:∃b,k.may=b:=⟨_,rfl⟩;rw[f];unfold Kd.may at f;go_enter func69,ntmps69
 go_wp2_with fail
 refine (q8v k.obj 2147483647 _).mono ?_;by_cases h1:0<=k.obj/\k.obj<=2147483647
 ·rw[AL h1];rintro e p ⟨rfl,rfl⟩;go_wp2_with fail
  refine (q8v k.kind 255 _).mono ?_;by_cases h2:0<=k.kind/\k.kind<=255
  ·rw[AL h2];rintro e p ⟨rfl,rfl⟩;go_wp2_with fail
   refine (q8v k.off 2147483647 _).mono ?_;rintro e p ⟨rfl,rfl⟩;go_wp2;go_ret;exact⟨by rw[<-f];exact congrArg (λx=>Ending.returned (Value.bool x)) (by rw[Bool.eq_iff_iff];simp;omega),Qi⟩
  ·rw[AH h2];rintro e p ⟨rfl,rfl⟩;go_wp2;go_ret;exact⟨by rw[<-f];exact congrArg (λx=>Ending.returned (Value.bool x)) (AH (by omega)).symm,Qi⟩
 ·rw[AH h1];rintro e p ⟨rfl,rfl⟩;go_wp2;go_ret;exact⟨by rw[<-f];exact congrArg (λx=>Ending.returned (Value.bool x)) (AH (by omega)).symm,Qi⟩
theorem pin (l:LU)(x n:Int)(h1:1<=n)(h2:n<=8):Uw l x n=l++Qx x n.toNat:=AA ⟨h1,h2⟩
theorem KB.lt {w:WD}{b:Nat}{k:Kd}(H:KB w b k):b<w.1.size:=by
 obtain⟨t,H⟩:=H;exact Ky H
theorem KB.there {w:WD}{b:Nat}{k:Kd}(H:KB w b k):w.there b 0 3:=λj f=>by
 obtain⟨t,H⟩:=H;refine⟨?_,by unfold World.frozen?;rw[H];simp⟩;rw[cell_of_row _ _ _ _ _ _ H,AT,Array.getElem?_eq_getElem (by simpa using f)];rfl
theorem KB.stored {w:WD}{b:Nat}{k:Kd}(H:KB w b k)(k2:Kd):KB (w.setCells b 0 k2.vs) b k2:=by
 obtain⟨t,H⟩:=H;exact⟨t,Fv _ (Fv _ (Fv _ H))⟩
theorem KB.keep {w w':WD}{b:Nat}{k:Kd}(H:KB w b k)(h:w'.1[b]?=w.1[b]?):KB w' b k:=by
 obtain⟨t,H⟩:=H;exact⟨t,h.trans H⟩
theorem KB.fz {w:WD}{b:Nat}{k:Kd}(H:KB w b k)(i:Nat):w.frozen? ⟨b,i,none⟩=false:=by
 obtain⟨t,H⟩:=H;unfold World.frozen?;rw[H];simp
theorem KB.set0 {w:WD}{b:Nat}{k:Kd}(H:KB w b k)(x:Int):KB (w.setCell ⟨b,0,none⟩ (.int .i64 x)) b ⟨x,k.kind,k.off⟩:=by
 obtain⟨t,H⟩:=H;exact⟨t,Fv _ H⟩
theorem KB.set1 {w:WD}{b:Nat}{k:Kd}(H:KB w b k)(x:Int):KB (w.setCell ⟨b,1,none⟩ (.int .i64 x)) b ⟨k.obj,x,k.off⟩:=by
 obtain⟨t,H⟩:=H;exact⟨t,Fv _ H⟩
theorem KB.set2 {w:WD}{b:Nat}{k:Kd}(H:KB w b k)(x:Int):KB (w.setCell ⟨b,2,none⟩ (.int .i64 x)) b ⟨k.obj,k.kind,x⟩:=by
 obtain⟨t,H⟩:=H;exact⟨t,Fv _ H⟩
theorem qe2 {p:Array Oper}{f:List Oper}{o:Oper}{a:Act}{w:WD}{Q:Exit->Act->WD->Prop}(y:o.guard=none)(x:Operand)(q:o.op=Op.load 45 x)
  (b:Nat) (D:a.eval x=.pointer (some ⟨b,0,none⟩)) (k:Kd) (H:KB w b k) (u:wpList prog p Q f (a.put o.dst k.v) w):wpList prog p Q (o::f) a w:=
 wpList_load_mid y _ x q b 0 D k.vs _ H.range underlying45 rfl (by kernel_rfl) u
theorem q1i {p:Array Oper}{f:List Oper}{o:Oper}{a:Act}{w:WD}{Q:Exit->Act->WD->Prop}(D:o.guard=none)(x y:Operand)(q:o.op=Op.store 45 x y)
  (b:Nat) (E:a.eval x=.pointer (some ⟨b,0,none⟩)) (k G:Kd) (F:a.eval y=k.v) (H:KB w b G)
  (u:∀w',KB w' b k->Turn (λg=>g=b) w w'->wpList prog p Q f (a.put o.dst undef) w'):wpList prog p Q (o::f) a w:=
 wpList_store_mid D _ x y q b 0 k.vs.toArray E F H.there (by kernel_rfl) (by simp[Kd.vs,Value.oneCell'])
  (u _ (H.stored k) (Vp (S:=λg=>g=b) rfl k.vs 0 w))
theorem Own.keep {w w':WD}{base n c:Nat}{e:TypeId}{A:OA}{l:LU}(h:Own w base e A n c l)(hk:∀g,base<=g->g<w.1.size->w'.1[g]?=w.1[g]?):Own w' base e A n c l:=by
 refine⟨h.1,?_⟩;rcases h.2 with p|⟨g,cap,f,p,h1,q,r⟩
 ·exact .inl p
 ·exact .inr ⟨g,cap,f,p,h1,(hk g h1 (Array.getElem?_eq_some_iff.1 q).1).trans q,r⟩
theorem qfs (w:WD)(base:Nat)(e:TypeId):Own w base e none 0 0 []:=⟨by simp,.inl ⟨rfl,rfl⟩⟩
theorem Turn.Za {b:Nat}{w w':WD}(h:Turn (λg=>g=b) w w')(hb:b<w.1.size):Below b w w':=h.below (λx f=>by omega) (by omega)
theorem qpj (l:LU)(k:Kd):l++Qx k.obj (4:Int).toNat++Qx k.kind (1:Int).toNat++Qx k.off (4:Int).toNat=l++k.bytes:=by
 unfold Kd.bytes;rw[AM,AM];rfl
theorem q7l (A:OA)(k c:Nat)(l:LU)(x n:Int)(w:WD)(h:Sl w A k c l)(D:k<=17592186044416)(h1:1<=n)(h2:n<=8) :
  Calls prog 126 #[.slice A k c,.int .i64 x,.int .i64 n] w λe w'=>∃p f q,e=.returned (.slice p f q)/\Own w' w.1.size 5 p f q (l++Qx x n.toNat)/\f<=k+8/\Below w.1.size w w':=by
 have h:=q7t A k c l x n w h D;rw[pin _ _ n h1 h2] at h;refine h.mono ?_;rintro e w' ⟨p,f,q,rfl,own,y⟩;refine⟨p,f,q,rfl,own,?_,y⟩;have u:=own.len;rw[AD,J8,(show l.length=k from (by assumption:Sl w A k c l).len)] at u;omega
theorem qnb (A:OA)(n c:Nat)(l:LU)(k:Kd)(w:WD)(h:Sl w A n c l)(hn:n<=4398046511104) :
  Calls prog 234 #[.slice A n c,.agg #[.int .i64 k.obj,.int .i64 k.kind,.int .i64 k.off]] w λe w'=>∃M U Q,e=.returned (.slice M U Q)/\Own w' w.1.size 5 M U Q (l++k.bytes)/\Below w.1.size w w':=by
 have T:=HI h.len;go_enter func234,ntmps234
 go_wp2_with fail
 have E:=KB.new w k.obj k.kind k.off 45;have h1:=h.alloc (.cells #[.int .i64 k.obj,.int .i64 k.kind,.int .i64 k.off] 45);have G:Below w.1.size w (w.alloc (.cells #[.int .i64 k.obj,.int .i64 k.kind,.int .i64 k.off] 45)):=Qi;generalize w.alloc (.cells #[.int .i64 k.obj,.int .i64 k.kind,.int .i64 k.off] 45)=w1 at E h1 G ⊢;have z1:=E.lt;refine (q7l A n c l k.obj 4 w1 h1 (by omega) (by omega) (by omega)).mono ?_;rintro e w2 ⟨W,n2,c2,rfl,u,Z,f⟩;have F:=E.below f z1;have z2:=F.lt;have q1:=F.c1;go_wp2_with fail
 refine (q7l W n2 c2 _ k.kind 1 w2 u.sl (by omega) (by omega) (by omega)).mono ?_;rintro e V ⟨X,n3,c3,rfl,y,a1,p⟩;have O:=F.below p z2;have z3:=O.lt;have q2:=O.c2;clear q1;go_wp2_with fail
 refine (q7l X n3 c3 _ k.off 4 V y.sl (by omega) (by omega) (by omega)).mono ?_;rw[qpj];rintro e w4 ⟨Y,n4,c4,rfl,D,_,J⟩;have s2:=f.size;have s3:=p.size;have q:=G.trans ((f.trans (p.mono s2)).mono G.size);have R:w.1.size<=V.1.size:=q.size;have I:=q.trans (J.mono R);have o5:=D.less R;go_wp2;go_ret;exact⟨Y,n4,c4,rfl,o5,I⟩
def Eo (l:LU):Kd:=⟨(Qq (l.take 4):Int),(Qq ((l.drop 4).take 1):Int),(Qq ((l.drop 5).take 4):Int)⟩
def ktY (l:LU):Bool:=decide (9<=l.length)&&(Eo l).may
def Ba (l:LU):Kd:=if ktY l=true then Eo l else ⟨0,0,0⟩
def Kt (l:LU):LU:=if ktY l=true then l.drop 9 else []
def Gz (l:LU):Int:=if ktY l=true then 0 else if l.length<9 then 2 else 3
theorem qy4 {l:LU}(h:l.length<9):Ba l=⟨0,0,0⟩/\Kt l=[]/\Gz l=2:=by
 have f:ktY l=false:=by unfold ktY;rw[AH (by omega)];rfl
 unfold Ba Kt Gz;rw[f,AA h];exact⟨rfl,rfl,rfl⟩
theorem Qcm {l:LU}(h:¬l.length<9)(hm:(Eo l).may=false):Ba l=⟨0,0,0⟩/\Kt l=[]/\Gz l=3:=by
 have f:ktY l=false:=by unfold ktY;rw[hm,Bool.and_false]
 unfold Ba Kt Gz;rw[f,AB h];exact⟨rfl,rfl,rfl⟩
theorem qz5 {l:LU}(h:¬l.length<9)(hm:(Eo l).may=true):Ba l=Eo l/\Kt l=l.drop 9/\Gz l=0:=by
 have f:ktY l=true:=by unfold ktY;rw[hm,AL (by omega)];rfl
 unfold Ba Kt Gz;rw[f];exact⟨rfl,rfl,rfl⟩
theorem Qbx (l:LU):(l.drop (4:Int).toNat).drop (1:Int).toNat=l.drop 5:=by rw[List.drop_drop];rfl
theorem Qby (l:LU):(l.drop 5).drop (4:Int).toNat=l.drop 9:=by rw[List.drop_drop];rfl
theorem q5z (A:OA)(k c:Nat)(l:LU)(n:Int)(m:Nat)(w:WD)(h:Sl w A k c l)(y:k<=17592186044416)(h1:1<=n)(q:n<=7)(hn:n<=(k:Int))(hm:m=k-n.toNat) :
  Calls prog 154 #[.slice A k c,.int .i64 n] w λe w'=>∃f p,e=.returned (.tuple #[.int .i64 (Qq (l.take n.toNat)),.slice f m p,.int .i64 0])/\Own w' w.1.size 5 f m p (l.drop n.toNat)/\Below w.1.size w w':=by
 refine (q5n A k c l n w h y h1 q hn).mono ?_;rintro e w' ⟨f,D,p,rfl,own,u⟩;have:=own.len;rw[AS,h.len] at this;obtain rfl:D=m:=by omega
 exact⟨f,p,rfl,own,u⟩
theorem qu7 (A:OA)(n c:Nat)(l:LU)(w:WD)(h:Sl w A n c l)(hn:n<=17592186044416) :
  Calls prog 162 #[.slice A n c] w λe w'=>∃A' n' c',e=.returned (.tuple #[(Ba l).v,.slice A' n' c',.int .i64 (Gz l)])/\Own w' w.1.size 5 A' n' c' (Kt l)/\Below w.1.size w w':=by
 have D:=HI h.len;have V:∀o,Below w.1.size w (w.alloc o):=λo=>(AI _ _).alloc (AE _) o
 by_cases h9:n<9
 ·obtain⟨O,Q,R⟩:=qy4 (l:=l) (by rw[D.out];exact h9);rw[O,Q,R];go_enter func162,ntmps162
  go_wp2;refine bodyPost_ret (q7k Tryz.results162 rfl (q3e (KB.new w 0 0 0 _))) rfl ?_;exact⟨_,_,_,rfl,qfs _ _ _,V _⟩
 ·have W:¬l.length<9:=by rw[D.out];exact h9
  go_enter func162,ntmps162
  go_wp2_with fail
  have R2:KB ((w.alloc (.cells #[.int .i64 0,.int .i64 0,.int .i64 0] 45)).alloc (.cells #[.int .i64 0,.int .i64 0,.int .i64 0] 45)) w.1.size ⟨0,0,0⟩:=(KB.new w 0 0 0 _).below (Qi) (by simp);have K2:KB ((w.alloc (.cells #[.int .i64 0,.int .i64 0,.int .i64 0] 45)).alloc (.cells #[.int .i64 0,.int .i64 0,.int .i64 0] 45)) (w.1.size+1) ⟨0,0,0⟩:=by
   have:=KB.new (w.alloc (.cells #[.int .i64 0,.int .i64 0,.int .i64 0] 45)) 0 0 0 45;rwa [BH] at this
  have B2:Below w.1.size w ((w.alloc (.cells #[.int .i64 0,.int .i64 0,.int .i64 0] 45)).alloc (.cells #[.int .i64 0,.int .i64 0,.int .i64 0] 45)):=(V _).alloc (by simp) _;generalize (w.alloc (.cells #[.int .i64 0,.int .i64 0,.int .i64 0] 45)).alloc (.cells #[.int .i64 0,.int .i64 0,.int .i64 0] 45)=w2 at R2 K2 B2 ⊢;have h2:=h.below B2;have z2:=K2.lt;refine (q5z A n c l 4 (n-4) w2 h2 hn (by omega) (by omega) (by omega) rfl).mono ?_;rintro e w3 ⟨A3,c3,rfl,E,q⟩;have R3:=R2.below q R2.lt;have K3:=K2.below q z2;have B3:=B2.trans (q.mono B2.size);clear R2 K2 h2 q;have Z:=K3.c0;have T:=K3.fz 0;have o3:=E.less (show w.1.size+2<=w2.1.size by omega);obtain⟨X,hX⟩:∃X,Qq (l.take (4:Int).toNat)=X:=⟨_,rfl⟩;rw[hX];clear E z2;go_wp2_with fail
  have K4:=K3.set0 (X:Int);have R4:=R3.keep (w':=w3.setCell ⟨w.1.size+1,0,none⟩ (.int .i64 (X:Int))) (Below.heap_setCell _ _ _ _ (by show w.1.size≠w.1.size+1;omega));have o4:=o3.keep (w':=w3.setCell ⟨w.1.size+1,0,none⟩ (.int .i64 (X:Int))) (λg hg _=>Below.heap_setCell _ _ _ _ (by show g≠w.1.size+1;omega));have B4:=B3.setCell (p:=⟨w.1.size+1,0,none⟩) (show w.1.size<=w.1.size+1 by omega) (.int .i64 (X:Int));clear Z T;generalize w3.setCell ⟨w.1.size+1,0,none⟩ (.int .i64 (X:Int))=w4 at K4 R4 o4 B4 ⊢;have z4:=K4.lt;refine (q5z A3 (n-4) c3 _ 1 (n-5) w4 o4.sl (by omega) (by omega) (by omega) (by omega) rfl).mono ?_;rw[Qbx];rintro e w5 ⟨A5,c5,rfl,F,u⟩;have R5:=R4.below u R4.lt;have K5:=K4.below u z4;have B5:=B4.trans (u.mono B4.size);have Z:=K5.c1;have T:=K5.fz 1;have o5:=F.less (show w.1.size+2<=w4.1.size by omega);obtain⟨Y,hY⟩:∃Y,Qq ((l.drop (4:Int).toNat).take (1:Int).toNat)=Y:=⟨_,rfl⟩;rw[hY];clear F z4 R3 K3 B3 R4 K4 B4 o3 o4 u;go_wp2_with fail
  have K6:=K5.set1 (Y:Int);have R6:=R5.keep (w':=w5.setCell ⟨w.1.size+1,1,none⟩ (.int .i64 (Y:Int))) (Below.heap_setCell _ _ _ _ (by show w.1.size≠w.1.size+1;omega));have o6:=o5.keep (w':=w5.setCell ⟨w.1.size+1,1,none⟩ (.int .i64 (Y:Int))) (λg hg _=>Below.heap_setCell _ _ _ _ (by show g≠w.1.size+1;omega));have B6:=B5.setCell (p:=⟨w.1.size+1,1,none⟩) (show w.1.size<=w.1.size+1 by omega) (.int .i64 (Y:Int));clear Z T;generalize w5.setCell ⟨w.1.size+1,1,none⟩ (.int .i64 (Y:Int))=w6 at K6 R6 o6 B6 ⊢;have z6:=K6.lt;refine (q5z A5 (n-5) c5 _ 4 (n-9) w6 o6.sl (by omega) (by omega) (by omega) (by omega) rfl).mono ?_;rw[Qby];rintro e w7 ⟨A7,c7,rfl,G,y⟩;have R7:=R6.below y R6.lt;have K7:=K6.below y z6;have B7:=B6.trans (y.mono B6.size);have Z:=K7.c2;have T:=K7.fz 2;have o7:=G.less (show w.1.size+2<=w6.1.size by omega);obtain⟨U,hU⟩:∃U,Qq ((l.drop 5).take (4:Int).toNat)=U:=⟨_,rfl⟩;rw[hU];have hK:Eo l=⟨(X:Int),(Y:Int),(U:Int)⟩:=by rw[<-hX,<-hY,<-hU];rfl
  clear G z6 R5 K5 B5 R6 K6 B6 o5 o6 y;have K8:=K7.set2 (U:Int);have J:=R7.keep (w':=w7.setCell ⟨w.1.size+1,2,none⟩ (.int .i64 (U:Int))) (Below.heap_setCell _ _ _ _ (by show w.1.size≠w.1.size+1;omega));have o8:=o7.keep (w':=w7.setCell ⟨w.1.size+1,2,none⟩ (.int .i64 (U:Int))) (λg hg _=>Below.heap_setCell _ _ _ _ (by show g≠w.1.size+1;omega));have I:=B7.setCell (p:=⟨w.1.size+1,2,none⟩) (show w.1.size<=w.1.size+1 by omega) (.int .i64 (U:Int));go_wp2_with (first
   |(refine qe2 rfl (.tmp 5) rfl (w.1.size+1) rfl ⟨(X:Int),(Y:Int),(U:Int)⟩ K8 ?_)
   |fail)
  clear Z T K7 R7 o7 B7;generalize w7.setCell ⟨w.1.size+1,2,none⟩ (.int .i64 (U:Int))=w8 at K8 J o8 I ⊢;have z8:=K8.lt;refine (qu6 ⟨(X:Int),(Y:Int),(U:Int)⟩ w8).mono ?_;obtain⟨b,hb⟩:∃b,(⟨(X:Int),(Y:Int),(U:Int)⟩:Kd).may=b:=⟨_,rfl⟩;have hm:(Eo l).may=b:=by rw[hK,hb]
  rw[hb]
  cases b
  ·obtain⟨O,Q,R⟩:=Qcm W hm;rintro e w9 ⟨rfl,f⟩;have M:=J.below f J.lt;have B9:=I.trans (f.mono I.size);go_wp2_with (first
    |(refine q1i rfl (.tmp 2) (.tmp 34) rfl w.1.size rfl ⟨0,0,0⟩ _ rfl M ?_;intro wz Rz Tz)
    |fail)
   refine bodyPost_ret (q7k Tryz.results162 rfl (q3e Rz)) rfl ?_;rw[O,Q,R];exact⟨_,_,_,rfl,qfs _ _ _,B9.trans (Tz.Za M.lt)⟩
  ·obtain⟨O,Q,R⟩:=qz5 W hm;rintro e w9 ⟨rfl,f⟩;have M:=J.below f J.lt;have K9:=K8.below f z8;have B9:=I.trans (f.mono I.size);have o9:=o8.below f;go_wp2_with (first
    |(refine qe2 rfl (.tmp 5) rfl (w.1.size+1) rfl ⟨(X:Int),(Y:Int),(U:Int)⟩ K9 ?_)
    |(refine q1i rfl (.tmp 2) (.tmp 35) rfl w.1.size rfl ⟨(X:Int),(Y:Int),(U:Int)⟩ _ rfl M ?_;intro wz Rz Tz)
    |fail)
   rw[<-hK] at Rz;refine bodyPost_ret (q7k Tryz.results162 rfl (q3e Rz)) rfl ?_;rw[O,Q,R];refine⟨A7,n-9,c7,rfl,?_,B9.trans (Tz.Za M.lt)⟩;exact (o9.keep λg hg hl=>Tz.block g hl (by show ¬g=w.1.size;omega)).less (by omega)
theorem qpk (a b:Kd)(w:WD):(binOp .eql 45 a.v b.v).run prog w=.ok (.bool (a.same b)) w:=by
 unfold Kd.v;rw[run_eql_struct,run_equalIn_agg w 9999 45 _ _ (by kernel_rfl) (by kernel_rfl)];unfold Program.fieldsOf;rw[underlying45];simp[go_sem,underlying3];unfold Kd.same;by_cases h1:a.obj=b.obj
 ·by_cases h2:a.kind=b.kind
  ·by_cases f:a.off=b.off
   ·simp[h1,h2,f]
   ·simp[h1,h2,f]
  ·simp[h1,h2]
 ·simp[h1]
theorem KB.new2 (w:WD)(o:Obj)(x y z:Int)(t:TypeId):KB ((w.alloc o).alloc (.cells #[.int .i64 x,.int .i64 y,.int .i64 z] t)) (w.1.size+1) ⟨x,y,z⟩:=by
 have:=KB.new (w.alloc o) x y z t;rwa [BH] at this
theorem qe3 (x y:Operand)(xs f:Array Value)(w:WD):(eqGuard .eql 45 x y (.agg xs) (.agg f)).run prog w=.ok () w:=
 run_eqGuard_agg w .eql 45 x y xs f (by kernel_rfl)
theorem qnc (a b:Kd)(r:Bool)(h:a.same b=r)(w:WD):(binOp .eql 45 (.agg #[.int .i64 a.obj,.int .i64 a.kind,.int .i64 a.off]) (.agg #[.int .i64 b.obj,.int .i64 b.kind,.int .i64 b.off])).run prog w=.ok (.bool r) w:=by
 have:=qpk a b w;rw[h] at this;exact this
theorem q7m (a b:Kd)(r:Bool)(h:a.less b=r)(w:WD) :
  Calls prog 33 #[.agg #[.int .i64 a.obj,.int .i64 a.kind,.int .i64 a.off],.agg #[.int .i64 b.obj,.int .i64 b.kind,.int .i64 b.off]] w λe w'=>e=.returned (.bool r)/\Below w.1.size w w':=by
 have:=qna a b w;rw[h] at this;exact this
theorem q2x (a:Kd)(r:Bool)(h:a.may=r)(w:WD) :
  Calls prog 69 #[.agg #[.int .i64 a.obj,.int .i64 a.kind,.int .i64 a.off]] w λe w'=>e=.returned (.bool r)/\Below w.1.size w w':=by
 have:=qu6 a w;rw[h] at this;exact this
theorem Ws (w:WD)(a:Kd):KB (w.alloc (.cells #[.int .i64 a.obj,.int .i64 a.kind,.int .i64 a.off] 45)) w.1.size a/\Below w.1.size w (w.alloc (.cells #[.int .i64 a.obj,.int .i64 a.kind,.int .i64 a.off] 45)):=
 ⟨KB.new w a.obj a.kind a.off _,Qi⟩
theorem Qbt (w:WD)(a b:Kd):KB ((w.alloc (.cells #[.int .i64 a.obj,.int .i64 a.kind,.int .i64 a.off] 45)).alloc (.cells #[.int .i64 b.obj,.int .i64 b.kind,.int .i64 b.off] 45)) w.1.size a/\KB ((w.alloc (.cells #[.int .i64 a.obj,.int .i64 a.kind,.int .i64 a.off] 45)).alloc (.cells #[.int .i64 b.obj,.int .i64 b.kind,.int .i64 b.off] 45)) (w.1.size+1) b/\Below w.1.size w ((w.alloc (.cells #[.int .i64 a.obj,.int .i64 a.kind,.int .i64 a.off] 45)).alloc (.cells #[.int .i64 b.obj,.int .i64 b.kind,.int .i64 b.off] 45)):=
 ⟨(KB.new w a.obj a.kind a.off _).below (Qi) (by simp),KB.new2 w _ b.obj b.kind b.off _,(Qi).alloc (by simp) _⟩
theorem qBe (k:Kd)(y:k.may=true)(l:LU):Eo (k.bytes++l)=k:=by
 obtain⟨⟨D,G⟩,⟨E,I⟩,F,J⟩:=(Kd.Cc k).1 y;have f:k.bytes++l=Qx k.obj 4++(Qx k.kind 1++(Qx k.off 4++l)):=by unfold Kd.bytes;rw[AM,AM]
 have q:(k.bytes++l).take 4=Qx k.obj 4:=by rw[f];exact List.take_left' (J8 _ _)
 have p:(k.bytes++l).drop 4=Qx k.kind 1++(Qx k.off 4++l):=by rw[f];exact List.drop_left' (J8 _ _)
 have u:(k.bytes++l).drop 5=Qx k.off 4++l:=by
  rw[show (5:Nat)=4+1 from rfl,<-List.drop_drop,p];exact List.drop_left' (J8 _ _)
 unfold Eo;rw[q,p,u,List.take_left' (J8 _ _),List.take_left' (J8 _ _),q57 k.obj 4 D (by omega),q57 k.kind 1 E (by omega),q57 k.off 4 F (by omega)]
theorem qu8 (k:Kd)(p:k.may=true)(l:LU):Ba (k.bytes++l)=k/\Kt (k.bytes++l)=l/\Gz (k.bytes++l)=0:=by
 have f:=qBe k p l;obtain⟨h1,h2,q⟩:=qz5 (l:=k.bytes++l) (by rw[AD,Kd.Yj];omega) (by rw[f];exact p);rw[h1,h2,q,f];exact⟨rfl,List.drop_left' (Kd.Yj k),rfl⟩
theorem qBf (k:Kd):k.same k=true:=(Kd.same_iff k k).2 ⟨rfl,rfl,rfl⟩
theorem qii (A:OA)(n c:Nat)(l:LU)(K:Kd)(R:LU)(E:Int)(y:Ba l=K)(D:Kt l=R)(u:Gz l=E)(w:WD)(h:Sl w A n c l)(hn:n<=17592186044416) :
  Calls prog 162 #[.slice A n c] w λe w'=>∃f q p,e=.returned (.tuple #[.agg #[.int .i64 K.obj,.int .i64 K.kind,.int .i64 K.off],.slice f q p,.int .i64 E])/\Own w' w.1.size 5 f q p R/\Below w.1.size w w':=by
 have:=qu7 A n c l w h hn;rw[y,D,u] at this;exact this
def Kz (ks:List Kd)(i:Nat):Bool:=(keyAt ks i).may&&(decide (i=0)||(keyAt ks (i-1)).less (keyAt ks i))
def rises (ks:List Kd):Bool:=(List.range ks.length).all (Kz ks)
theorem qu9 {ks:List Kd}(h:∀j,j<ks.length->Kz ks j=true):rises ks=true:=by
 unfold rises;rw[List.all_eq_true];exact λj f=>h j (List.mem_range.1 f)
def Nd.keys (N:Nd):List Kd:=N.items.map (·.k)++N.kids.map (·.k)
def NB (w:WD)(b:Nat)(l:Int)(A:OA)(n c:Nat)(B:OA)(m d:Nat):Prop:=∃t,w.1[b]?=some (.cells #[.int .i64 l,.slice A n c,.slice B m d] t (0,0))
section
variable {w w':WD}{b:Nat}{l:Int}{A B:OA}{n c m d:Nat}
theorem NB.new (w:WD)(l:Int)(A:OA)(n c:Nat)(B:OA)(m d:Nat)(t:TypeId):NB (w.alloc (.cells #[.int .i64 l,.slice A n c,.slice B m d] t)) w.1.size l A n c B m d:=⟨t,BE w _⟩
theorem NB.below (H:NB w b l A n c B m d){E:Nat}(hb:Below E w w')(hB:b<E):NB w' b l A n c B m d:=by
 obtain⟨t,H⟩:=H;exact⟨t,(hb.block b hB).trans H⟩
theorem NB.lt (H:NB w b l A n c B m d):b<w.1.size:=by
 obtain⟨t,H⟩:=H;exact (Array.getElem?_eq_some_iff.1 H).1
theorem NB.c0 (H:NB w b l A n c B m d):w.cell? ⟨b,0,none⟩=some (.int .i64 l):=by
 obtain⟨t,H⟩:=H;rw[cell_of_row _ _ _ _ _ _ H];rfl
theorem NB.c1 (H:NB w b l A n c B m d):w.cell? ⟨b,1,none⟩=some (.slice A n c):=by
 obtain⟨t,H⟩:=H;rw[cell_of_row _ _ _ _ _ _ H];rfl
theorem NB.c2 (H:NB w b l A n c B m d):w.cell? ⟨b,2,none⟩=some (.slice B m d):=by
 obtain⟨t,H⟩:=H;rw[cell_of_row _ _ _ _ _ _ H];rfl
end
section
variable {P:Program}{t e:TypeId}{s b:Nat}{z:Value}(w:WD)
end
theorem Qch:Eh prog 108 3 1 8 (.int .i64 0):=⟨underlying108,by kernel_rfl,rfl,by omega⟩
def iv (z:Int):LV:=[.int .i64 z]
theorem qnd (w:WD)(x:Int):Jp (w.alloc (.cells #[.int .i64 x] 3)) 1 (some ⟨w.1.size,0,none⟩) 1 1 [iv x]:=(q1n w 3 1 (iv x) _ rfl rfl).Gn (by omega)
theorem qz6 (x:Int):∀y∈[iv x],∀u∈y,u.oneCell'=true:=by
 intro y p u f;obtain rfl:y=iv x:=by simpa using p
 simp[iv] at f;subst f;rfl
def Vz (x:Qc):Option Int:=if x.k.kind=3/\x.v.length=3/\Vd x.v 0=1 then some (256*(Vd x.v 1:Int)+(Vd x.v 2:Int)) else none
def Nd.named (N:Nd):LI:=N.kids.map (·.a)++N.items.filterMap Vz
def U4 (N:Nd)(j:Nat):List (LV):=((N.kids.take j).map (·.a)).map iv
def Yf (N:Nd)(j:Nat):List (LV):=(N.kids.map (·.a)++(N.items.take j).filterMap Vz).map iv
theorem qkn (N:Nd)(j:Nat)(h:j<N.kids.length):U4 N (j+1)=U4 N j++[iv (Qk N.kids j).a]:=by
 unfold U4;rw[List.take_succ_eq_append_getElem h,List.map_append,List.map_append];have:=q16 h;rw[AC h] at this;rw[OI this];rfl
theorem qe4 (N:Nd):U4 N N.kids.length=Yf N 0:=by
 unfold U4 Yf;rw[List.take_length];simp
theorem qpl (N:Nd)(j:Nat)(h:j<N.items.length)(x:Int)(f:Vz (Zc N.items j)=some x):Yf N (j+1)=Yf N j++[iv x]:=by
 unfold Yf;have:=q22 h;rw[AC h] at this;rw[List.take_succ_eq_append_getElem h,OI this,List.filterMap_append,<-AM,List.map_append];simp[f]
theorem qua (N:Nd)(j:Nat)(h:j<N.items.length)(f:Vz (Zc N.items j)=none):Yf N (j+1)=Yf N j:=by
 unfold Yf;have:=q22 h;rw[AC h] at this;rw[List.take_succ_eq_append_getElem h,OI this,List.filterMap_append];simp[f]
theorem qe5 (N:Nd):Yf N N.items.length=N.named.map iv:=by
 unfold Yf Nd.named;rw[List.take_length]
def sumTo:Nat->(Nat->Nat)->Nat
 |0,_=>0
 |n+1,f=>sumTo n f+f n
theorem q6q {f g:Nat->Nat}:∀{n:Nat},(∀b,b<n->f b=g b)->sumTo n f=sumTo n g
 |0,_=>rfl
 |n+1,h=>by
  unfold sumTo;rw[q6q (n:=n) (λb p=>h b (by omega)),h n (by omega)]
theorem qe6 {f:Nat->Nat}:∀{n:Nat},(∀b,b<n->f b=0)->sumTo n f=0
 |0,_=>rfl
 |n+1,h=>by
  unfold sumTo;rw[qe6 (n:=n) (λb p=>h b (by omega)),h n (by omega)]
theorem qij {f g:Nat->Nat}{i:Nat}:∀{n:Nat},(∀b,b<n->b≠i->f b=g b)->i<n->sumTo n g+f i=sumTo n f+g i
 |0,_,hi=>by omega
 |n+1,h,hi=>by
  unfold sumTo;by_cases e:i=n
  ·subst e;rw[q6q (n:=i) (λb p=>h b (by omega) (by omega))];omega
  ·have:=qij (n:=n) (λb p hn=>h b (by omega) hn) (by omega);have:=h n (by omega) (by omega);omega
theorem qik {f:Nat->Nat}:∀{n:Nat},0<sumTo n f->∃b,b<n/\0<f b
 |0,h=>by cases h
 |n+1,h=>by
  unfold sumTo at h;by_cases e:0<f n
  ·exact⟨n,by omega,e⟩
  ·obtain⟨b,h1,h2⟩:=qik (n:=n) (f:=f) (by omega);exact⟨b,by omega,h2⟩
theorem qft {f:Nat->Nat}{i:Nat}:∀{n:Nat},i<n->f i<=sumTo n f
 |0,h=>by omega
 |n+1,h=>by
  unfold sumTo;by_cases e:i=n
  ·subst e;omega
  ·have:=qft (f:=f) (n:=n) (i:=i) (by omega);omega
def refs (K:Nat->LI)(most:Nat)(out:Nat->Nat)(a:Nat):Nat:=sumTo most λb=>if 1<=out b then (K b).count (a:Int) else 0
structure Qc3 (K:Nat->LI)(roots:LI)(most:Nat)(out:Nat->Nat)(todo:LI):Prop where
 zero:out 0=0
 eq:∀a:Nat,0<a->a<most->out a+todo.count (a:Int)=roots.count (a:Int)+refs K most out a
structure Xb (n:Nat)(cnt:Nat->Nat)(K:Nat->LI)(H:LI):Prop where
 eq:∀a:Nat,0<a->a<n->cnt a=H.count (a:Int)+refs K n cnt a
section
variable {n:Nat}{cnt:Nat->Nat}{K:Nat->LI}{H:LI}
theorem Xb.perm (h:Xb n cnt K H){H':LI}(hH:∀a:Nat,0<a->a<n->H'.count (a:Int)=H.count (a:Int)):Xb n cnt K H':=
 ⟨λa h1 h2=>by rw[hH a h1 h2];exact h.eq a h1 h2⟩
theorem q8w {K K':Nat->LI}{cnt cnt':Nat->Nat}{n a:Nat}(h:∀b,b<n->(1<=cnt b↔1<=cnt' b)/\(1<=cnt b->K' b=K b)):refs K' n cnt' a=refs K n cnt a:=
 q6q λb p=>by
  obtain⟨h1,h2⟩:=h b p;by_cases e:1<=cnt b
  ·rw[AA e,AA (h1.1 e),h2 e]
  ·rw[AB e,AB (λf=>e (h1.2 f))]
theorem Xb.same (h:Xb n cnt K H){cnt':Nat->Nat}{K':Nat->LI}(hc:∀b,b<n->cnt' b=cnt b)(hK:∀b,b<n->1<=cnt b->K' b=K b):Xb n cnt' K' H:=
 ⟨λa h1 h2=>by
  rw[hc a h2,h.eq a h1 h2];congr 1
  exact (q8w λb f=>⟨by rw[hc b f],hK b f⟩).symm⟩
theorem qko {K K':Nat->LI}{cnt cnt':Nat->Nat}{n i a:Nat}(hi:i<n)(u:∀b,b<n->b≠i->cnt' b=cnt b)(q:∀b,b<n->b≠i->K' b=K b) :
  refs K' n cnt' a+(if 1<=cnt i then (K i).count (a:Int) else 0)=refs K n cnt a+(if 1<=cnt' i then (K' i).count (a:Int) else 0):=
 qij (f:=λb=>if 1<=cnt b then (K b).count (a:Int) else 0) (g:=λb=>if 1<=cnt' b then (K' b).count (a:Int) else 0)
  (λb p hn=>by
   show (if 1<=cnt b then (K b).count (a:Int) else 0)=(if 1<=cnt' b then (K' b).count (a:Int) else 0);rw[u b p hn,q b p hn]) hi
theorem Xb.put (h:Xb n cnt K H){c:Nat}{ks H0:LI}{cnt':Nat->Nat}{K':Nat->LI}(hc0:0<c)(hc:c<n)(hz:cnt c=0)(hH:∀a:Nat,0<a->a<n->H.count (a:Int)=ks.count (a:Int)+H0.count (a:Int))
  (h1:cnt' c=1) (h2:∀b,b<n->b≠c->cnt' b=cnt b) (h3:K' c=ks) (h4:∀b,b<n->b≠c->K' b=K b):Xb n cnt' K' ((c:Int)::H0):=by
 refine⟨λa f p=>?_⟩;have u:=qko (a:=a) hc h2 h4;rw[AB (show ¬1<=cnt c by omega),AA (show 1<=cnt' c by omega),h3] at u;have y:=h.eq a f p;have D:=hH a f p;rw[List.count_cons];by_cases e:a=c
 ·subst e;rw[AA (by simp),h1];omega
 ·rw[AB (by intro q;have:=eq_of_beq q;omega),h2 a p e];omega
theorem Xb.ref (h:Xb n cnt K H){c:Nat}{cnt':Nat->Nat}(hc:1<=cnt c)(h1:cnt' c=cnt c+1)(h2:∀b,b<n->b≠c->cnt' b=cnt b):Xb n cnt' K ((c:Int)::H):=by
 refine⟨λa f p=>?_⟩;have y:refs K n cnt' a=refs K n cnt a:=q8w λb u=>⟨by
  by_cases e:b=c
  ·subst e;omega
  ·rw[h2 b u e],λ_=>rfl⟩
 have D:=h.eq a f p;rw[List.count_cons,y];by_cases e:a=c
 ·subst e;rw[AA (by simp),h1];omega
 ·rw[AB (by intro q;have:=eq_of_beq q;omega),h2 a p e];omega
theorem Xb.Qw (h:Xb n cnt K H){c:Nat}{H0:LI}{cnt':Nat->Nat}(hH:∀a:Nat,0<a->a<n->H.count (a:Int)=((c:Int)::H0).count (a:Int))(hc:2<=cnt c)(h1:cnt' c+1=cnt c)(h2:∀b,b<n->b≠c->cnt' b=cnt b):Xb n cnt' K H0:=by
 refine⟨λa f p=>?_⟩;have D:refs K n cnt' a=refs K n cnt a:=q8w λb y=>⟨by
  by_cases e:b=c
  ·subst e;omega
  ·rw[h2 b y e],λ_=>rfl⟩
 have E:=h.eq a f p;have q:=hH a f p;rw[List.count_cons] at q;rw[D];by_cases e:a=c
 ·subst e;rw[AA (by simp)] at q;omega
 ·rw[AB (by intro u;have:=eq_of_beq u;omega)] at q;rw[h2 a p e];omega
theorem Xb.last (h:Xb n cnt K H){c:Nat}{H0:LI}{cnt':Nat->Nat}(hc0:0<c)(hcn:c<n)(hH:∀a:Nat,0<a->a<n->H.count (a:Int)=((c:Int)::H0).count (a:Int))(hc:cnt c=1)(h1:cnt' c=0)(h2:∀b,b<n->b≠c->cnt' b=cnt b):Xb n cnt' K (K c++H0):=by
 refine⟨λa f p=>?_⟩;have y:=qko (a:=a) (K:=K) (K':=K) hcn h2 (λ_ _ _=>rfl);rw[AA (show 1<=cnt c by omega),AB (show ¬1<=cnt' c by omega)] at y;have D:=h.eq a f p;have q:=hH a f p;rw[List.count_cons] at q;rw[A_];by_cases e:a=c
 ·subst e;rw[AA (by simp)] at q;omega
 ·rw[AB (by intro u;have:=eq_of_beq u;omega)] at q;rw[h2 a p e];omega
theorem Xb.set (h:Xb n cnt K H){c:Nat}{ks H0:LI}{K':Nat->LI}(hcn:c<n)(hc:1<=cnt c)(hH:∀a:Nat,0<a->a<n->H.count (a:Int)=ks.count (a:Int)+H0.count (a:Int))(h3:K' c=ks)(h4:∀b,b<n->b≠c->K' b=K b):Xb n cnt K' (K c++H0):=by
 refine⟨λa f p=>?_⟩;have q:=qko (a:=a) (cnt:=cnt) (cnt':=cnt) hcn (λ_ _ _=>rfl) h4;rw[AA hc,AA hc,h3] at q;have u:=h.eq a f p;have y:=hH a f p;rw[A_];omega
theorem Xb.named (h:Xb n cnt K H){b c:Nat}(hc0:0<c)(hcn:c<n)(hb:b<n)(h1:1<=cnt b)(hm:(c:Int)∈K b):1<=cnt c:=by
 have h2:=h.eq c hc0 hcn;have p:=qft (f:=λb=>if 1<=cnt b then (K b).count (c:Int) else 0) hb;have q:0<(K b).count (c:Int):=List.count_pos_iff.2 hm;rw[AA h1] at p;have e:refs K n cnt c=sumTo n λb=>if 1<=cnt b then (K b).count (c:Int) else 0:=rfl
 omega
theorem Xb.by_ (h:Xb n cnt K H){c:Nat}(hc0:0<c)(hcn:c<n)(h1:1<=cnt c):(c:Int)∈H\/∃b,b<n/\1<=cnt b/\(c:Int)∈K b:=by
 have h2:=h.eq c hc0 hcn;by_cases e:0<H.count (c:Int)
 ·exact .inl (List.count_pos_iff.1 e)
 ·obtain⟨b,u,p⟩:=qik (f:=λb=>if 1<=cnt b then (K b).count (c:Int) else 0) (n:=n) (by
   have e:refs K n cnt c=sumTo n λb=>if 1<=cnt b then (K b).count (c:Int) else 0:=rfl
   omega)
  have p:0<(if 1<=cnt b then (K b).count (c:Int) else 0):=p;by_cases q:1<=cnt b
  ·rw[AA q] at p;exact .inr ⟨b,u,q,List.count_pos_iff.1 p⟩
  ·rw[AB q] at p
   cases p
theorem Xb.reached (h:Xb n cnt K H){B:Nat}(Sm:Nat->Nat)(hlev:∀b a:Nat,b<n->1<=cnt b->(a:Int)∈K b->Sm a<Sm b)(hB:∀b,Sm b<=B)(h0:cnt 0=0){S:NP}(hS:∀a:Nat,0<a->a<n->(a:Int)∈H->S a)
  (hK:∀b a:Nat,0<b->b<n->0<a->a<n->1<=cnt b->S b->(a:Int)∈K b->S a):∀L a,B-Sm a<=L->0<a->a<n->1<=cnt a->S a:=by
 intro L;induction L using Nat.strongRecOn with
 |ind L ih=>
  intro a G f y h1;rcases h.by_ f y h1 with h2|⟨b,D,p,u⟩
  ·exact hS a f y h2
  ·have E:=hlev b a D p u;have F:=hB b;have q:0<b:=by
    rcases Nat.eq_zero_or_pos b with e|e
    ·subst e;omega
    ·exact e
   exact hK b a q D f y p (ih (B-Sm b) (by omega) b (AE _) q D p) u
end
theorem q1c (l:Int)(r:Bool)(h:decide (l=0)=r)(A:OA)(n c:Nat)(B:OA)(m d:Nat)(w:WD) :
  Calls prog 108 #[.agg #[.int .i64 l,.slice A n c,.slice B m d]] w λe w'=>e=.returned (.bool r)/\Below w.1.size w w':=by
 go_enter func108,ntmps108
 go_wp2;go_ret;refine⟨?_,Qi⟩;rw[<-h];first|rfl|(refine congrArg (λx=>Ending.returned (Value.bool x)) ?_;rw[Bool.eq_iff_iff];simp)
theorem q3f (x a b:Int)(r:Bool)(h:decide (a<=x/\x<=b)=r)(w:WD) :
  Calls prog 166 #[.int .i64 x,.int .i64 a,.int .i64 b] w λe w'=>e=.returned (.bool r)/\w=w':=by
 subst h;go_enter func166,ntmps166
 go_wp2;all_goals
  go_ret;refine⟨congrArg (λx=>Ending.returned (Value.bool x)) ?_,rfl⟩;first
   |exact (AH (by omega)).symm
   |exact decide_eq_decide.2 (by omega)
   |(rw[Bool.eq_iff_iff];simp;omega)
theorem qpm (x:Int)(w:WD) :
  Calls prog 107 #[.int .i64 x] w λe w'=>e=.returned (.int .i64 (if x=0 then 3 else 4))/\w=w':=by
 by_cases h:x=0
 ·rw[AA h];go_enter func107,ntmps107
  go_wp2;go_ret;exact⟨rfl,rfl⟩
 ·rw[AB h];go_enter func107,ntmps107
  go_wp2;go_ret;exact⟨rfl,rfl⟩
theorem q4j (x k:Int)(h:(if x=0 then 3 else 4)=k)(w:WD) :
  Calls prog 107 #[.int .i64 x] w λe w'=>e=.returned (.int .i64 k)/\w=w':=by
 subst h;exact qpm x w
theorem q2o (k:Kd)(B:OA)(m d:Nat)(w:WD) :
  Calls prog 116 #[.agg #[.int .i64 k.obj,.int .i64 k.kind,.int .i64 k.off,.slice B m d]] w λe w'=>e=.returned (.agg #[.int .i64 k.obj,.int .i64 k.kind,.int .i64 k.off])/\Below w.1.size w w':=by
 go_enter func116,ntmps116
 go_wp2;refine bodyPost_ret (Rh Tryz.results116 rfl (q3e (KB.new2 w _ k.obj k.kind k.off _))) rfl ?_;exact⟨rfl,(Qi).alloc (by simp) _⟩
theorem q2p (k:Kd)(a:Int)(w:WD) :
  Calls prog 119 #[.agg #[.int .i64 k.obj,.int .i64 k.kind,.int .i64 k.off,.int .i64 a]] w λe w'=>e=.returned (.agg #[.int .i64 k.obj,.int .i64 k.kind,.int .i64 k.off])/\Below w.1.size w w':=by
 go_enter func119,ntmps119
 go_wp2;refine bodyPost_ret (Rh Tryz.results119 rfl (q3e (KB.new2 w _ k.obj k.kind k.off _))) rfl ?_;exact⟨rfl,(Qi).alloc (by simp) _⟩
theorem qc1 (k:Kd)(B:OA)(m d:Nat)(r:Bool)(h:decide (m<=28)=r)(w:WD) :
  Calls prog 165 #[.agg #[.int .i64 k.obj,.int .i64 k.kind,.int .i64 k.off,.slice B m d]] w λe w'=>e=.returned (.bool r)/\Below w.1.size w w':=by
 go_enter func165,ntmps165
 go_wp2;go_ret;refine⟨?_,Qi⟩;rw[<-h];exact congrArg (λx=>Ending.returned (Value.bool x)) (decide_eq_decide.2 (by omega))
theorem qc2 (k:Kd)(a:Int)(r:Bool)(h:decide (1<=a/\a<=2047)=r)(w:WD) :
  Calls prog 168 #[.agg #[.int .i64 k.obj,.int .i64 k.kind,.int .i64 k.off,.int .i64 a]] w λe w'=>e=.returned (.bool r)/\Below w.1.size w w':=by
 go_enter func168,ntmps168
 go_wp2_with fail
 refine (q3f a 1 2047 r h _).mono ?_;rintro e f ⟨rfl,rfl⟩;go_wp2;go_ret;exact⟨rfl,Qi⟩
theorem qc3 {f:Nat->Nat}{k:Nat}:∀{n:Nat},(∀b,b<n->f b<=k)->sumTo n f<=k*n
 |0,_=>AW _
 |n+1,h=>by
  unfold sumTo;have h1:=qc3 (n:=n) (f:=f) (k:=k) (λb p=>h b (by omega));have h2:=h n (by omega);rw[Nat.mul_succ];omega
theorem qpn {K:Nat->LI}{most k:Nat}{out:Nat->Nat}(f:∀b,b<most->(K b).length<=k)(a:Nat):refs K most out a<=k*most:=
 qc3 λb p=>by
  by_cases e:1<=out b
  ·rw[AA e];exact AZ List.count_le_length (f b p)
  ·rw[AB e];exact AW _
