/- The code's node: takeItem and takeKid -/
import Derived.Test.YthkfkhejjmhomaaGreatDoorDz9
namespace Go.Proofs.YthkfkhejjmhomaaGreatDoor
open Go Go.RowKit Go.Proofs
set_option maxHeartbeats 8000000
set_option maxRecDepth 100000
def RB (w:World)(b:Nat)(r:List Value):Prop:=∃t,w.1[b]?=some (.cells r.toArray t (0,0))
section
variable {w w':World}{b:Nat}{r:List Value}
theorem RB.new (w:World)(r:List Value)(t:TypeId):RB (w.alloc (.cells r.toArray t)) w.1.size r:=⟨t,heap_alloc_new w _⟩
theorem RB.below (H:RB w b r){B:Nat}(hb:Below B w w')(hB:b<B):RB w' b r:=by
 obtain⟨t,H⟩:=H;exact⟨t,(hb.block b hB).trans H⟩
theorem RB.keep (H:RB w b r)(h:w'.1[b]?=w.1[b]?):RB w' b r:=by
 obtain⟨t,H⟩:=H;exact⟨t,h.trans H⟩
theorem RB.lt (H:RB w b r):b<w.1.size:=by
 obtain⟨t,H⟩:=H;exact (Array.getElem?_eq_some_iff.1 H).1
theorem RB.range (H:RB w b r):w.rangeAt b 0 r:=λj v d=>by
 obtain⟨t,H⟩:=H;rw[cell_of_row _ _ _ _ _ _ H,Nat.zero_add];simpa using d
theorem RB.there (H:RB w b r):w.there b 0 r.length:=λj d=>by
 obtain⟨t,H⟩:=H;refine⟨?_,by unfold World.frozen?;rw[H];simp⟩;rw[cell_of_row _ _ _ _ _ _ H,Nat.zero_add,Array.getElem?_eq_getElem (by simpa using d)];rfl
theorem RB.Quh {x0 x1 x2 x3:Value}(H:RB w b r)(h4:r.length=4):RB (w.setCells b 0 [x0,x1,x2,x3]) b [x0,x1,x2,x3]:=by
 obtain⟨t,H⟩:=H;match r,h4 with
 |[a0,a1,a2,a3],_=>exact⟨t,setCell_at _ (setCell_at _ (setCell_at _ (setCell_at _ H)))⟩
end
def zit:List Value:=[.int .i64 0,.int .i64 0,.int .i64 0,.slice none 0 0]
def Zdo:List Value:=[.int .i64 0,.int .i64 0,.int .i64 0,.int .i64 0]
theorem Qmx {w:World}{b:Nat}{k:Kd}{V:Option Addr}{p q:Nat}(H:RB w b (Yp k V p q)):(loadVar 50 ⟨b,0,none⟩).run Tryz.prog w=.ok (.agg #[.int .i64 k.obj,.int .i64 k.kind,.int .i64 k.off,.slice V p q]) w:=
 run_loadVar_mid w b 0 50 _ _ H.range Tryz.underlying50 rfl (by kernel_rfl)
theorem Qfm {w:World}{b:Nat}{x:Qk}(H:RB w b x.vs):(loadVar 148 ⟨b,0,none⟩).run Tryz.prog w=.ok (.agg #[.int .i64 x.k.obj,.int .i64 x.k.kind,.int .i64 x.k.off,.int .i64 x.a]) w:=
 run_loadVar_mid w b 0 148 _ _ H.range Tryz.underlying148 rfl (by kernel_rfl)
theorem Qdi {e:Array Oper}{d:List Oper}{o:Oper}{a:Act}{w:World}{Q:Exit->Act->World->Prop}(z:o.guard=none)(x y:Operand)(f:o.op=Op.store 50 x y)
  (b:Nat) (A:a.eval x=.pointer (some ⟨b,0,none⟩)) (k:Kd) (V:Option Addr) (p q:Nat) (B:a.eval y=.agg #[.int .i64 k.obj,.int .i64 k.kind,.int .i64 k.off,.slice V p q]) {r:List Value} (H:RB w b r) (m:r.length=4)
  (u:∀w',RB w' b (Yp k V p q)->Turn (λg=>g=b) w w'->wpList Tryz.prog e Q d (a.put o.dst undef) w'):wpList Tryz.prog e Q (o::d) a w:=
 wpList_store_mid z _ x y f b 0 #[.int .i64 k.obj,.int .i64 k.kind,.int .i64 k.off,.slice V p q] A B (by have:=H.there;rw[m] at this;exact this) (by kernel_rfl) (by simp[Value.oneCell'])
  (u _ (H.Quh m) (Gg (S:=λg=>g=b) rfl _ 0 w))
theorem Qah {e:Array Oper}{d:List Oper}{o:Oper}{a:Act}{w:World}{Q:Exit->Act->World->Prop}(q:o.guard=none)(x y:Operand)(f:o.op=Op.store 148 x y)
  (b:Nat) (u:a.eval x=.pointer (some ⟨b,0,none⟩)) (z:Qk) (A:a.eval y=.agg #[.int .i64 z.k.obj,.int .i64 z.k.kind,.int .i64 z.k.off,.int .i64 z.a]) {r:List Value} (H:RB w b r) (m:r.length=4)
  (p:∀w',RB w' b z.vs->Turn (λg=>g=b) w w'->wpList Tryz.prog e Q d (a.put o.dst undef) w'):wpList Tryz.prog e Q (o::d) a w:=
 wpList_store_mid q _ x y f b 0 #[.int .i64 z.k.obj,.int .i64 z.k.kind,.int .i64 z.k.off,.int .i64 z.a] u A (by have:=H.there;rw[m] at this;exact this) (by kernel_rfl) (by simp[Value.oneCell'])
  (p _ (H.Quh m) (Gg (S:=λg=>g=b) rfl _ 0 w))
theorem Zb6 (A:Option Addr)(k c:Nat)(l:List UInt8)(S R:List UInt8)(E:Int)(y:H7 l=S)(u:H6 l=R)(q:Hz l=E)(w:World)(h:Sl w A k c l)(B:k<=17592186044416) :
  Calls Tryz.prog 156 #[.slice A k c] w λe w'=>∃f p c2,e=.returned (.tuple #[.string ⟨S.toArray⟩,.slice f p c2,.int .i64 E])/\Sl w' f p c2 R/\(∀d,f=some d->w.1.size<=d.block)/\Below w.1.size w w':=by
 subst y u q;by_cases g:Qbz l 1
 ·have m:U5 l=true:=decide_eq_true g;unfold H7 H6 Hz;rw[m,if_pos rfl,if_pos rfl,if_pos rfl];refine (Qec A k c l w h B g).mono ?_;rintro e w' ⟨f,p,c2,rfl,own,z⟩;exact⟨_,_,_,rfl,own.sl,λd h=>(own.block d h).1,z⟩
 ·have m:U5 l=false:=decide_eq_false g;unfold H7 H6 Hz;rw[m,if_neg (by simp),if_neg (by simp),if_neg (by simp)];refine (Qf2 A k c l w h g).mono ?_;rintro e w' ⟨rfl,rfl⟩;exact⟨_,_,_,rfl,Sm _,λd h=>(by cases h),Below.refl _ _⟩
theorem Zb5 (A:Option Addr)(k c:Nat)(l:List UInt8)(V:Int)(R:List UInt8)(E:Int)(u:Hy l=V)(q:Hw l=R)(p:Hu l=E)(w:World)(h:Sl w A k c l)(z:k<=17592186044416) :
  Calls Tryz.prog 151 #[.slice A k c,.int .i64 2] w λe w'=>∃f m c2,e=.returned (.tuple #[.int .i64 V,.slice f m c2,.int .i64 E])/\Sl w' f m c2 R/\(∀d,f=some d->w.1.size<=d.block)/\Below w.1.size w w':=by
 subst u q p;have F:=h.len;by_cases G:2<=k
 ·have g:U4 l=true:=decide_eq_true (by omega);unfold Hy Hw Hu;rw[g,if_pos rfl,if_pos rfl,if_pos rfl];refine (Qby A k c l 2 w h z (by omega) (by omega) (by omega)).mono ?_;rintro e w' ⟨B,H,D,rfl,own,y⟩;exact⟨_,_,_,rfl,own.sl,λd h=>(own.block d h).1,y⟩
 ·have g:U4 l=false:=decide_eq_false (by omega);unfold Hy Hw Hu;rw[g,if_neg (by simp),if_neg (by simp),if_neg (by simp)];refine (Qj6 A k c 2 w (by omega) (by omega) (by omega)).mono ?_;rintro e w' ⟨rfl,rfl⟩;exact⟨_,_,_,rfl,Sm _,λd h=>(by cases h),Below.refl _ _⟩
def Zfn (l:List UInt8)(w:World)(e:Ending)(w':World):Prop:=
 ∃V p q f g c2,e=.returned (.tuple #[.agg #[.int .i64 (U9 l).obj,.int .i64 (U9 l).kind,.int .i64 (U9 l).off,.slice V p q],.slice f g c2,.int .i64 0])/\Sl w' V p q (H7 (Y6 l))/\Sl w' f g c2 (H6 (Y6 l))/\
  (∀d,V=some d->w.1.size<=d.block)/\(∀d,f=some d->w.1.size<=d.block)/\Below w.1.size w w'
def Zfm (zero:Value)(w:World)(e:Ending)(w':World):Prop:=
 ∃E:Int,E≠0/\e=.returned (.tuple #[zero,.slice none 0 0,.int .i64 E])/\Below w.1.size w w'
def Zf4:Value:=.agg #[.int .i64 0,.int .i64 0,.int .i64 0,.slice none 0 0]
def Zd1:Value:=.agg #[.int .i64 0,.int .i64 0,.int .i64 0,.int .i64 0]
def Qqx (l:List UInt8)(w:World)(e:Ending)(w':World):Prop:=(Bq l=0/\Hz (Y6 l)=0/\Zfn l w e w')\/(¬(Bq l=0/\Hz (Y6 l)=0)/\Zfm Zf4 w e w')
theorem Zf2 {l M A z:List UInt8}{K:Kd}{w w':World}(E:U9 l=K)(F:Y6 l=M)(f:Bq l=0)(u:H7 M=A)(m:H6 M=z)(g:Hz M=0){V:Option Addr}{p q:Nat}{e:Option Addr}{y c2:Nat}(H:Sl w' V p q A)(I:Sl w' e y c2 z)
  (B:∀d,V=some d->w.1.size<=d.block) (D:∀d,e=some d->w.1.size<=d.block) (G:Below w.1.size w w') :
  Qqx l w (.returned (.tuple #[.agg #[.int .i64 K.obj,.int .i64 K.kind,.int .i64 K.off,.slice V p q],.slice e y c2,.int .i64 0])) w':=by
 subst E F u m;exact .inl ⟨f,g,V,p,q,e,y,c2,rfl,H,I,B,D,G⟩
theorem Zdy {l M:List UInt8}{w w':World}{f g E:Int}(p:Y6 l=M)(d:Bq l=f)(e:Hz M=g)(h:¬(f=0/\g=0))(m:E≠0)(q:Below w.1.size w w') :
  Qqx l w (.returned (.tuple #[.agg #[.int .i64 0,.int .i64 0,.int .i64 0,.slice none 0 0],.slice none 0 0,.int .i64 E])) w':=by
 subst p d e;exact .inr ⟨h,E,m,rfl,q⟩
theorem Qkf (A:Option Addr)(n c:Nat)(l:List UInt8)(w:World)(h:Sl w A n c l)(hn:n<=100000) :
  Calls Tryz.prog 143 #[.slice A n c] w λe w'=>Qqx l w e w':=by
 have a6:=h.len;obtain⟨K,hK⟩:∃x,U9 l=x:=⟨_,rfl⟩;obtain⟨M,hM⟩:∃x,Y6 l=x:=⟨_,rfl⟩;obtain⟨E1,W⟩:∃x,Bq l=x:=⟨_,rfl⟩;obtain⟨R,D⟩:∃x,H7 M=x:=⟨_,rfl⟩;obtain⟨R2,Z⟩:∃x,H6 M=x:=⟨_,rfl⟩;obtain⟨E2,Y⟩:∃x,Hz M=x:=⟨_,rfl⟩;have b7:M.length<=100000:=by have:=Qy7 l;rw[hM] at this;omega
 have b3:R.length<=100000:=by have:=Zfc M;rw[D] at this;omega
 have HK:=Lib.hid hK;have HM:=Lib.hid hM;have p:=Lib.hid W;have P:=Lib.hid D;have O:=Lib.hid Z;have q:=Lib.hid Y;clear hK hM W D Z Y a6;have R1:RB (w.alloc (.cells #[.int .i64 0,.int .i64 0,.int .i64 0,.slice none 0 0] 50)) w.1.size zit:=RB.new w zit _;have U:Below w.1.size w (w.alloc (.cells #[.int .i64 0,.int .i64 0,.int .i64 0,.slice none 0 0] 50)):=Ib;go_enter Tryz.func143,Tryz.ntmps143
 go_wp2_with fail
 generalize w.alloc (.cells #[.int .i64 0,.int .i64 0,.int .i64 0,.slice none 0 0] 50)=w1 at R1 U ⊢;refine (Qlh A n c l K M E1 HK.out HM.out p.out w1 (h.below U) (by omega)).mono ?_;rintro e v ⟨A2,n2,c2,rfl,m,E⟩;have b9:n2<=100000:=by have:=m.len;omega
 have V:Below v.1.size v (v.alloc (.cells #[.int .i64 K.obj,.int .i64 K.kind,.int .i64 K.off] 45)):=Ib;have K2:=KB.new v K.obj K.kind K.off 45;have u:=R1.below E R1.lt;have B2:=U.trans (E.mono U.size);have y:=u.below V u.lt;have J:=B2.trans (V.mono B2.size);have s3:=m.sl.below V;have c6:w.1.size<v.1.size:=u.lt;clear u B2 R1 U E m;by_cases d:E1=0
 ·subst d;go_wp2_with fail
  generalize v.alloc (.cells #[.int .i64 K.obj,.int .i64 K.kind,.int .i64 K.off] 45)=w3 at K2 y J s3 V ⊢;refine (Zb6 A2 n2 c2 M R R2 E2 P.out O.out q.out w3 s3 (by omega)).mono ?_;rintro e I ⟨A4,n4,c4,rfl,s4,a2,F⟩;have G:=y.below F y.lt;have K4:=K2.below F K2.lt;have B4:=J.trans (F.mono J.size);have a7:w.1.size<=w3.1.size:=J.size;have c7:w.1.size<w3.1.size:=y.lt;clear K2 y s3 V;by_cases f:E2=0
  ·subst f;obtain⟨X,hX⟩:∃X,(⟨R.toArray⟩:ByteArray)=X:=⟨_,rfl⟩;have a1:X.data.toList=R:=by rw[<-hX]
   have b8:X.size<=100000:=by rw[<-hX];show R.toArray.size<=_;simpa using b3
   have b6:=Zea X;have a8:=Qjy I 5 X (by unfold maxLen;omega);have B:=Qd7 I 5 X;rw[a1] at a8;rw[hX];have k0:=K4.c0;have k1:=K4.c1;have k2:=K4.c2;have R5:=G.below B G.lt;have B5:=B4.trans (B.mono B4.size);have s5:=s4.below B;have zX:w.1.size<I.1.size:=G.lt;clear hX a1 G s4;go_wp2_with (first
    |(refine Qdi rfl (.tmp 2) (.tmp 31) rfl w.1.size rfl K (some ⟨I.1.size,0,none⟩) X.size (grownCap I X.size 0 5) rfl R5 rfl ?_;intro w6 Q z)
    |fail)
   have b2:∀g,Xq A4=some g->w3.1.size<=g:=λg H=>by
    cases A4 with
    |none=>cases H
    |some T=>have:=a2 T rfl;have e:T.block=g:=Option.some.inj H;omega
   have b0:=a8.turned z (λg H e=>by have e1:I.1.size=g:=Option.some.inj H;omega);have s6:=s5.turned z (λg H e=>by have:=b2 g H;omega);have B6:=B5.trans (z.I9 R5.lt);refine bodyPost_ret (Qcf Tryz.results143 rfl (Qmx Q)) rfl ?_;exact Zf2 HK.out HM.out p.out P.out O.out q.out b0 s6 (λT h=>by injection h with h;rw[<-h];exact Nat.le_of_lt zX) (λT h=>Nat.le_trans a7 (a2 T h)) B6
  ·have b4:decide (E2=0)=false:=decide_eq_false f;have b5:(E2==0)=false:=by simp[f]
   go_wp2_with (first
    |(refine Qdi rfl (.tmp 2) (.tmp 26) rfl w.1.size rfl ⟨0,0,0⟩ none 0 0 rfl G rfl ?_;intro w6 Q z)
    |fail)
   refine bodyPost_ret (Qcf Tryz.results143 rfl (Qmx Q)) rfl ?_;exact Zdy HM.out p.out q.out (λh=>f h.2) f (B4.trans (z.I9 G.lt))
 ·have b4:decide (E1=0)=false:=decide_eq_false d;have b5:(E1==0)=false:=by simp[d]
  go_wp2_with (first
   |(refine Qdi rfl (.tmp 2) (.tmp 16) rfl w.1.size rfl ⟨0,0,0⟩ none 0 0 rfl y rfl ?_;intro w6 Q z)
   |fail)
  refine bodyPost_ret (Qcf Tryz.results143 rfl (Qmx Q)) rfl ?_;exact Zdy HM.out p.out q.out (λh=>d h.1) d (J.trans (z.I9 y.lt))
def Zfo (l:List UInt8)(w:World)(e:Ending)(w':World):Prop:=
 ∃d g c2,e=.returned (.tuple #[.agg #[.int .i64 (U9 l).obj,.int .i64 (U9 l).kind,.int .i64 (U9 l).off,.int .i64 (Hy (Y6 l))],.slice d g c2,.int .i64 0])/\Sl w' d g c2 (Hw (Y6 l))/\
  (∀f,d=some f->w.1.size<=f.block)/\Below w.1.size w w'
def Qqy (l:List UInt8)(w:World)(e:Ending)(w':World):Prop:=(Bq l=0/\Hu (Y6 l)=0/\Zfo l w e w')\/(¬(Bq l=0/\Hu (Y6 l)=0)/\Zfm Zd1 w e w')
theorem Zf3 {l M q:List UInt8}{K:Kd}{u:Int}{w w':World}(A:U9 l=K)(B:Y6 l=M)(e:Bq l=0)(m:Hy M=u)(g:Hw M=q)(f:Hu M=0){d:Option Addr}{p c2:Nat}(E:Sl w' d p c2 q)
  (z:∀y,d=some y->w.1.size<=y.block) (D:Below w.1.size w w') :
  Qqy l w (.returned (.tuple #[.agg #[.int .i64 K.obj,.int .i64 K.kind,.int .i64 K.off,.int .i64 u],.slice d p c2,.int .i64 0])) w':=by
 subst A B m g;exact .inl ⟨e,f,d,p,c2,rfl,E,z,D⟩
theorem Zdz {l M:List UInt8}{w w':World}{f g E:Int}(p:Y6 l=M)(d:Bq l=f)(e:Hu M=g)(h:¬(f=0/\g=0))(m:E≠0)(q:Below w.1.size w w') :
  Qqy l w (.returned (.tuple #[.agg #[.int .i64 0,.int .i64 0,.int .i64 0,.int .i64 0],.slice none 0 0,.int .i64 E])) w':=by
 subst p d e;exact .inr ⟨h,E,m,rfl,q⟩
theorem Qmr (A:Option Addr)(n c:Nat)(l:List UInt8)(w:World)(h:Sl w A n c l)(hn:n<=100000) :
  Calls Tryz.prog 145 #[.slice A n c] w λe w'=>Qqy l w e w':=by
 have U:=h.len;obtain⟨K,hK⟩:∃x,U9 l=x:=⟨_,rfl⟩;obtain⟨M,hM⟩:∃x,Y6 l=x:=⟨_,rfl⟩;obtain⟨W,O⟩:∃x,Bq l=x:=⟨_,rfl⟩;obtain⟨S2,R⟩:∃x,Hy M=x:=⟨_,rfl⟩;obtain⟨R2,Q⟩:∃x,Hw M=x:=⟨_,rfl⟩;obtain⟨X,P⟩:∃x,Hu M=x:=⟨_,rfl⟩;have a7:M.length<=100000:=by have:=Qy7 l;rw[hM] at this;omega
 have HK:=Lib.hid hK;have Y:=Lib.hid hM;have p:=Lib.hid O;have G:=Lib.hid R;have F:=Lib.hid Q;have q:=Lib.hid P;clear hK hM O R Q P U;have R1:RB (w.alloc (.cells #[.int .i64 0,.int .i64 0,.int .i64 0,.int .i64 0] 148)) w.1.size Zdo:=RB.new w Zdo _;have I:Below w.1.size w (w.alloc (.cells #[.int .i64 0,.int .i64 0,.int .i64 0,.int .i64 0] 148)):=Ib;go_enter Tryz.func145,Tryz.ntmps145
 go_wp2_with fail
 generalize w.alloc (.cells #[.int .i64 0,.int .i64 0,.int .i64 0,.int .i64 0] 148)=w1 at R1 I ⊢;refine (Qlh A n c l K M W HK.out Y.out p.out w1 (h.below I) (by omega)).mono ?_;rintro e v ⟨A2,n2,c2,rfl,m,z⟩;have a8:n2<=100000:=by have:=m.len;omega
 have J:Below v.1.size v (v.alloc (.cells #[.int .i64 K.obj,.int .i64 K.kind,.int .i64 K.off] 45)):=Ib;have Z:=KB.new v K.obj K.kind K.off 45;have u:=R1.below z R1.lt;have B2:=I.trans (z.mono I.size);have y:=u.below J u.lt;have E:=B2.trans (J.mono B2.size);have s3:=m.sl.below J;have b0:w.1.size<v.1.size:=u.lt;clear u B2 R1 I z m;by_cases d:W=0
 ·subst d;go_wp2_with fail
  generalize v.alloc (.cells #[.int .i64 K.obj,.int .i64 K.kind,.int .i64 K.off] 45)=w3 at Z y E s3 J ⊢;refine (Zb5 A2 n2 c2 M S2 R2 X G.out F.out q.out w3 s3 (by omega)).mono ?_;rintro e w4 ⟨A4,n4,c4,rfl,s4,T,B⟩;have R4:=y.below B y.lt;have K4:=Z.below B Z.lt;have B4:=E.trans (B.mono E.size);have V:w.1.size<=w3.1.size:=E.size;have b2:w.1.size<w3.1.size:=y.lt;clear Z y s3 J;by_cases f:X=0
  ·subst f;have k0:=K4.c0;have k1:=K4.c1;have k2:=K4.c2;go_wp2_with (first
    |(refine Qah rfl (.tmp 2) (.tmp 30) rfl w.1.size rfl ⟨K,S2⟩ rfl R4 rfl ?_;intro w6 H D)
    |fail)
   have a1:∀g,Xq A4=some g->w3.1.size<=g:=λg hg=>by
    cases A4 with
    |none=>cases hg
    |some ad=>have:=T ad rfl;have e:ad.block=g:=Option.some.inj hg;omega
   have s6:=s4.turned D (λg hg e=>by have:=a1 g hg;omega);have B6:=B4.trans (D.I9 R4.lt);refine bodyPost_ret (Qcf Tryz.results145 rfl (Qfm H)) rfl ?_;exact Zf3 HK.out Y.out p.out G.out F.out q.out s6 (λad h=>Nat.le_trans V (T ad h)) B6
  ·have a2:decide (X=0)=false:=decide_eq_false f;have a6:(X==0)=false:=by simp[f]
   go_wp2_with (first
    |(refine Qah rfl (.tmp 2) (.tmp 26) rfl w.1.size rfl ⟨⟨0,0,0⟩,0⟩ rfl R4 rfl ?_;intro w6 H D)
    |fail)
   refine bodyPost_ret (Qcf Tryz.results145 rfl (Qfm H)) rfl ?_;exact Zdz Y.out p.out q.out (λh=>f h.2) f (B4.trans (D.I9 R4.lt))
 ·have a2:decide (W=0)=false:=decide_eq_false d;have a6:(W==0)=false:=by simp[d]
  go_wp2_with (first
   |(refine Qah rfl (.tmp 2) (.tmp 16) rfl w.1.size rfl ⟨⟨0,0,0⟩,0⟩ rfl y rfl ?_;intro w6 H D)
   |fail)
  refine bodyPost_ret (Qcf Tryz.results145 rfl (Qfm H)) rfl ?_;exact Zdz Y.out p.out q.out (λh=>d h.1) d (E.trans (D.I9 y.lt))
theorem Qy8 {r:List UInt8}(h:Bq r=0):(Y6 r).length+9<=r.length:=by
 unfold Bq at h;split at h
 ·rename_i d;have:=(of_decide_eq_true (Bool.and_eq_true ..▸d).1);unfold Y6;rw[if_pos d,List.length_drop];omega
 ·split at h<;>omega
theorem Zfd {r:List UInt8}(h:Hz r=0):(H6 r).length+1<=r.length:=by
 unfold Hz at h;split at h
 ·rename_i d;have:=(of_decide_eq_true d).1;unfold H6 Kw;rw[if_pos d,List.length_drop];omega
 ·omega
theorem Ze9 {r:List UInt8}(h:Hu r=0):(Hw r).length+1<=r.length:=by
 unfold Hu at h;split at h
 ·rename_i d;have:=of_decide_eq_true d;unfold Hw;rw[if_pos d,List.length_drop];omega
 ·omega
theorem Zdi {xs:List Qq}{r:List UInt8}(h1:Bq r=0)(h2:Hz (Y6 r)=0):Y2 ⟨0,xs,[]⟩ r=some (⟨0,xs++[⟨U9 r,H7 (Y6 r)⟩],[]⟩,H6 (Y6 r)):=by
 unfold Y2;rw[if_pos h1,if_pos rfl,if_pos h2]
theorem Qsv {xs:List Qq}{r:List UInt8}(h:¬(Bq r=0/\Hz (Y6 r)=0)):Y2 ⟨0,xs,[]⟩ r=none:=by
 unfold Y2;by_cases h1:Bq r=0
 ·rw[if_pos h1,if_pos rfl,if_neg (λh2=>h ⟨h1,h2⟩)]
 ·rw[if_neg h1]
theorem Za6 {l:Int}(d:l≠0){xs:List Qk}{r:List UInt8}(h1:Bq r=0)(h2:Hu (Y6 r)=0):Y2 ⟨l,[],xs⟩ r=some (⟨l,[],xs++[⟨U9 r,Hy (Y6 r)⟩]⟩,Hw (Y6 r)):=by
 unfold Y2;rw[if_pos h1,if_neg d,if_pos h2]
theorem Qqe {l:Int}(d:l≠0){xs:List Qk}{r:List UInt8}(h:¬(Bq r=0/\Hu (Y6 r)=0)):Y2 ⟨l,[],xs⟩ r=none:=by
 unfold Y2;by_cases h1:Bq r=0
 ·rw[if_pos h1,if_neg d,if_neg (λh2=>h ⟨h1,h2⟩)]
 ·rw[if_neg h1]
def Qqv (A:Option Addr)(body:List UInt8)(cnt:Nat)(w:World)(e:Ending)(w':World):Prop:=
 (∃p r f c1 d m c2,Ky 0 body cnt=some (⟨0,p,[]⟩,r)/\e=.returned (.tuple #[.slice f cnt c1,.slice d m c2,.int .i64 0])/\cnt<=1000/\Zn w' w.1.size f cnt c1 p/\Sl w' d m c2 r/\(∀g,Xq d=some g->Xq A=some g\/w.1.size<=g)/\Below w.1.size w w')\/
 (∃E:Int,E≠0/\Ky 0 body cnt=none/\e=.returned (.tuple #[.slice none 0 0,.slice none 0 0,.int .i64 E])/\Below w.1.size w w')
def Qqw (l:Int)(A:Option Addr)(body:List UInt8)(cnt:Nat)(w:World)(e:Ending)(w':World):Prop:=
 (∃p r f c1 d m c2,Ky l body cnt=some (⟨l,[],p⟩,r)/\e=.returned (.tuple #[.slice f cnt c1,.slice d m c2,.int .i64 0])/\cnt<=1000/\Qr w' w.1.size 148 4 f cnt c1 (p.map Qk.vs)/\Sl w' d m c2 r/\(∀g,Xq d=some g->Xq A=some g\/w.1.size<=g)/\Below w.1.size w w')\/
 (∃E:Int,E≠0/\Ky l body cnt=none/\e=.returned (.tuple #[.slice none 0 0,.slice none 0 0,.int .i64 E])/\Below w.1.size w w')
theorem Qw6 {A:Option Addr}{body:List UInt8}{cnt:Nat}{w w':World}{xs:List Qq}{r:List UInt8}{e:Option Addr}{c1:Nat}{d:Option Addr}{f c2:Nat}(h1:Ky 0 body cnt=some (⟨0,xs,[]⟩,r))(h0:cnt<=1000)(h2:Zn w' w.1.size e cnt c1 xs)(m:Sl w' d f c2 r)(p:∀g,Xq d=some g->Xq A=some g\/w.1.size<=g)(q:Below w.1.size w w') :
  Qqv A body cnt w (.returned (.tuple #[.slice e cnt c1,.slice d f c2,.int .i64 0])) w':=.inl ⟨xs,r,e,c1,d,f,c2,h1,rfl,h0,h2,m,p,q⟩
theorem Qw5 {A:Option Addr}{body:List UInt8}{cnt:Nat}{w w':World}{E:Int}(d:E≠0)(h1:Ky 0 body cnt=none)(e:Below w.1.size w w') :
  Qqv A body cnt w (.returned (.tuple #[.slice none 0 0,.slice none 0 0,.int .i64 E])) w':=.inr ⟨E,d,h1,rfl,e⟩
theorem Qw8 {l:Int}{A:Option Addr}{body:List UInt8}{cnt:Nat}{w w':World}{xs:List Qk}{r:List UInt8}{e:Option Addr}{c1:Nat}{d:Option Addr}{f c2:Nat}(h1:Ky l body cnt=some (⟨l,[],xs⟩,r))(h0:cnt<=1000)(h2:Qr w' w.1.size 148 4 e cnt c1 (xs.map Qk.vs))(m:Sl w' d f c2 r)(p:∀g,Xq d=some g->Xq A=some g\/w.1.size<=g)(q:Below w.1.size w w') :
  Qqw l A body cnt w (.returned (.tuple #[.slice e cnt c1,.slice d f c2,.int .i64 0])) w':=.inl ⟨xs,r,e,c1,d,f,c2,h1,rfl,h0,h2,m,p,q⟩
theorem Qw7 {l:Int}{A:Option Addr}{body:List UInt8}{cnt:Nat}{w w':World}{E:Int}(d:E≠0)(h1:Ky l body cnt=none)(e:Below w.1.size w w') :
  Qqw l A body cnt w (.returned (.tuple #[.slice none 0 0,.slice none 0 0,.int .i64 E])) w':=.inr ⟨E,d,h1,rfl,e⟩
theorem Qrb (body:List UInt8)(cnt:Nat)(A:Option Addr)(k c:Nat)(w:World)(h:Sl w A k c body)(hk:k<=1000)(d7:cnt<=100000) :
  Calls Tryz.prog 142 #[.slice A k c,.int .i64 (cnt:Int),.func (.func 143) #[] #[]] w λe w'=>Qqv A body cnt w e w':=by
 go_enter Tryz.func142,Tryz.ntmps142
 go_wp2_with fail
 go_loopw [0,9,14] (λt0 t9 a2 wr=>∃(j:Nat) (xs:List Qq) (r:List UInt8) (Rr:Option Addr) (p q:Nat) (P:Option Addr) (c':Nat),j<=cnt/\a2=.int .i64 (j:Int)/\t0=.slice Rr p q/\t9=.slice P j c'/\
  Ky 0 body j=some (⟨0,xs,[]⟩,r)/\Sl wr Rr p q r/\p+10*j<=k/\(r≠[]->∀g,Xq Rr=some g->Xq P≠some g)/\(∀g,Xq Rr=some g->Xq A=some g\/w.1.size<=g)/\Zn wr w.1.size P j c' xs/\Below w.1.size w wr) (λ_ _ a2 _=>cnt-(intOf a2).toNat)
 case atStart=>exact⟨0,[],body,A,k,c,none,0,Nat.zero_le _,rfl,rfl,rfl,rfl,h,by omega,(λ_ _ _ h=>by cases h),(λg d=>.inl d),Ob _ _,Below.refl _ _⟩
 case round=>
  obtain⟨j,xs,r,Rr,p,q,P,c',hj,rfl,rfl,rfl,O,J,hp,b1,H,f,U⟩:=hrel;by_cases d3:j<cnt
  ·have m:=Lib.hid (Qbv 0 body j _ r O);have I:∀x,Ky 0 body (j+1)=x->x=none->Ky 0 body cnt=none:=λx h1 h2=>Qgt _ _ _ _ (h1.trans h2) d3
   have y:=Lib.hid I;clear I O;have u:∀g,Xq P=some g->g<wr.1.size:=λg d=>(f.Zx g d).2
   have D:∀g,Xq P=some g->w.1.size<=g:=λg d=>(f.Zx g d).1
   have d5:=J.len;go_wp2_with fail
   refine (Qkf Rr p q r wr J (by omega)).mono ?_;rintro e v (⟨h1,h2,b7⟩|⟨b3,E,hE,rfl,z⟩)
   ·have Y:=Qy8 h1;have Z:=Zfd h2;have a6:=Lib.hid (Zdi (xs:=xs) h1 h2);have b4:=Lib.hid (m.out.trans a6.out);clear m a6 y h1 h2;obtain⟨V,F,G,A2,n2,c2,rfl,a1,s2,fV,f2,z⟩:=b7;obtain⟨S,hS⟩:∃S,H7 (Y6 r)=S:=⟨_,rfl⟩;obtain⟨R2,W⟩:∃S,H6 (Y6 r)=S:=⟨_,rfl⟩;rw[hS] at a1;obtain⟨K,hK⟩:∃K,U9 r=K:=⟨_,rfl⟩;have d2:=s2.len;have d4:n2+10*(j+1)<=k:=by omega
    rw[W] at s2;have b5:Ky 0 body (j+1)=some (⟨0,xs++[⟨K,S⟩],[]⟩,R2):=by rw[b4.out,hK,hS,W]
    have c9:=Lib.hid b5;clear b5 b4;rw[hK];clear hK hS W d2 Y Z d5 hp;have bY:Below v.1.size v ((v.alloc (.cells #[.int .i64 K.obj,.int .i64 K.kind,.int .i64 K.off,.slice V F G] 50)).alloc (.cells #[.int .i64 K.obj,.int .i64 K.kind,.int .i64 K.off,.slice V F G] 50)):=(Ib).alloc (by simp) _;have T:Zg ((v.alloc (.cells #[.int .i64 K.obj,.int .i64 K.kind,.int .i64 K.off,.slice V F G] 50)).alloc (.cells #[.int .i64 K.obj,.int .i64 K.kind,.int .i64 K.off,.slice V F G] 50)) 4 (some ⟨v.1.size+1,0,none⟩) 1 1 [Yp K V F G]:=by
     have:=(Np (v.alloc (.cells #[.int .i64 K.obj,.int .i64 K.kind,.int .i64 K.off,.slice V F G] 50)) 50 4 (Yp K V F G) _ rfl rfl).Hr (by omega);rwa [World.size_alloc] at this
    have d6:wr.1.size<=v.1.size:=z.size;have b6:w.1.size<=wr.1.size:=U.size;have R:=(f.below z).below bY;have s3:=s2.below bY;have W3:=U.trans ((z.trans (bY.mono z.size)).mono U.size);have zY:w.1.size<=((v.alloc (.cells #[.int .i64 K.obj,.int .i64 K.kind,.int .i64 K.off,.slice V F G] 50)).alloc (.cells #[.int .i64 K.obj,.int .i64 K.kind,.int .i64 K.off,.slice V F G] 50)).1.size:=Nat.le_trans (Nat.le_trans b6 d6) bY.size;have d8:((v.alloc (.cells #[.int .i64 K.obj,.int .i64 K.kind,.int .i64 K.off,.slice V F G] 50)).alloc (.cells #[.int .i64 K.obj,.int .i64 K.kind,.int .i64 K.off,.slice V F G] 50)).1.size=v.1.size+2:=by simp
    have Q:R2≠[]->∀g,Xq A2=some g->g<v.1.size:=λhl g d=>s2.Zx hl g d
    have M:∀g,Xq A2=some g->wr.1.size<=g:=λg d=>by
     cases A2 with
     |none=>cases d
     |some ad=>have:=f2 ad rfl;have e:ad.block=g:=Option.some.inj d;omega
    have c7:=a1.below bY;have b8:S≠[]->∀g,Xq V=some g->w.1.size<=g/\Xq P≠some g:=λ_ g d=>by
     cases V with
     |none=>cases d
     |some ad=>
      have h1:=fV ad rfl;have h2:ad.block=g:=Option.some.inj d;exact⟨by omega,λe=>by have:=u g e;omega⟩
    have d1:j<=1000:=by omega
    clear H f J s2 U z b1 a1 fV f2;go_wp2_with (first
     |(at_builtin;refine Qdg rfl _ _ rfl w.1.size P j c' xs rfl R (some ⟨v.1.size+1,0,none⟩) 1 ⟨K,S⟩ V F G rfl T c7 b8 (Nat.le_trans d1 (by decide)) zY ?_)
     |fail)
    intro A6 c6 v6 b9 T7 a7;have s7:=s3.turned' T7 (λ_ g d e=>by have h1:=u g e;have h2:=M g d;omega);have W7:=W3.trans (T7.below (B:=w.1.size) (λx hx=>D x hx) zY);have b2:R2≠[]->∀g,Xq A2=some g->Xq A6≠some g:=λhl g d e=>by
     have h1:=Q hl g d;have h2:=M g d;rcases a7 with h3|h3
     ·have:=u g (h3.symm.trans e);omega
     ·rw[h3] at e;have:=Option.some.inj e;omega
    have X:∀g,Xq A2=some g->Xq A=some g\/w.1.size<=g:=λg d=>.inr (Nat.le_trans b6 (M g d))
    clear R s3 W3 T bY c7 b8 u D M Q a7;go_wp2;exact⟨⟨j+1,xs++[⟨K,S⟩],R2,A2,n2,c2,A6,c6,by omega,by go_num,rfl,rfl,c9.out,s7,d4,b2,X,b9,W7⟩,by simp[intOf];omega⟩
   ·have b0:=Lib.hid (y.out _ m.out (Qsv b3));have a8:=U.trans (z.mono U.size);have d9:decide (E=0)=false:=decide_eq_false hE;have e0:(E==0)=false:=by simp[hE]
    have d0:Below w.1.size w (v.alloc (.cells #[.int .i64 0,.int .i64 0,.int .i64 0,.slice none 0 0] 50)):=a8.alloc a8.size _;clear H m y b3 f J b1 u D;unfold Zf4;go_wp2;go_ret3;exact Qw5 hE b0.out d0
  ·obtain rfl:j=cnt:=by omega
   have c8:=Lib.hid O;clear O;go_wp2;go_ret3;exact Qw6 c8.out (by omega) f J H U
theorem Qrc (l:Int)(hl:l≠0)(body:List UInt8)(cnt:Nat)(A:Option Addr)(k c:Nat)(w:World)(h:Sl w A k c body)(hk:k<=1000)(d5:cnt<=100000) :
  Calls Tryz.prog 144 #[.slice A k c,.int .i64 (cnt:Int),.func (.func 145) #[] #[]] w λe w'=>Qqw l A body cnt w e w':=by
 go_enter Tryz.func144,Tryz.ntmps144
 go_wp2_with fail
 go_loopw [0,9,14] (λt0 t9 a6 wr=>∃(j:Nat) (U:List Qk) (r:List UInt8) (Rr:Option Addr) (p q:Nat) (W:Option Addr) (c':Nat),j<=cnt/\a6=.int .i64 (j:Int)/\t0=.slice Rr p q/\t9=.slice W j c'/\
  Ky l body j=some (⟨l,[],U⟩,r)/\Sl wr Rr p q r/\p+10*j<=k/\(r≠[]->∀g,Xq Rr=some g->Xq W≠some g)/\(∀g,Xq Rr=some g->Xq A=some g\/w.1.size<=g)/\Qr wr w.1.size 148 4 W j c' (U.map Qk.vs)/\Below w.1.size w wr) (λ_ _ a6 _=>cnt-(intOf a6).toNat)
 case atStart=>exact⟨0,[],body,A,k,c,none,0,Nat.zero_le _,rfl,rfl,rfl,rfl,h,by omega,(λ_ _ _ h=>by cases h),(λg m=>.inl m),Lp _ _ _ _,Below.refl _ _⟩
 case round=>
  obtain⟨j,U,r,Rr,p,q,W,c',hj,rfl,rfl,rfl,P,J,hp,b2,H,d,X⟩:=hrel;by_cases d1:j<cnt
  ·have f:=Lib.hid (Qbv l body j _ r P);have I:∀x,Ky l body (j+1)=x->x=none->Ky l body cnt=none:=λx h1 h2=>Qgt _ _ _ _ (h1.trans h2) d1
   have z:=Lib.hid I;clear I P;have G:∀g,Xq W=some g->g<wr.1.size:=λg m=>(d.Zx g m).2
   have F:∀g,Xq W=some g->w.1.size<=g:=λg m=>(d.Zx g m).1
   have d3:=J.len;go_wp2_with fail
   refine (Qmr Rr p q r wr J (by omega)).mono ?_;rintro e v (⟨h1,h2,b8⟩|⟨b4,E,hE,rfl,D⟩)
   ·have a1:=Qy8 h1;have a2:=Ze9 h2;have a7:=Lib.hid (Za6 hl (xs:=U) h1 h2);have b5:=Lib.hid (f.out.trans a7.out);clear f a7 z h1 h2;obtain⟨A2,n2,c2,rfl,s2,f2,D⟩:=b8;obtain⟨V,hS⟩:∃S,Hy (Y6 r)=S:=⟨_,rfl⟩;obtain⟨R2,Y⟩:∃S,Hw (Y6 r)=S:=⟨_,rfl⟩;obtain⟨K,hK⟩:∃K,U9 r=K:=⟨_,rfl⟩;have d0:=s2.len;have d2:n2+10*(j+1)<=k:=by omega
    rw[Y] at s2;have b6:Ky l body (j+1)=some (⟨l,[],U++[⟨K,V⟩]⟩,R2):=by rw[b5.out,hK,hS,Y]
    have c7:=Lib.hid b6;clear b6 b5;rw[hK,hS];clear hK hS Y d0 a1 a2 d3 hp;have bY:Below v.1.size v ((v.alloc (.cells #[.int .i64 K.obj,.int .i64 K.kind,.int .i64 K.off,.int .i64 V] 148)).alloc (.cells #[.int .i64 K.obj,.int .i64 K.kind,.int .i64 K.off,.int .i64 V] 148)):=(Ib).alloc (by simp) _;have T:Zg ((v.alloc (.cells #[.int .i64 K.obj,.int .i64 K.kind,.int .i64 K.off,.int .i64 V] 148)).alloc (.cells #[.int .i64 K.obj,.int .i64 K.kind,.int .i64 K.off,.int .i64 V] 148)) 4 (some ⟨v.1.size+1,0,none⟩) 1 1 [(⟨K,V⟩:Qk).vs]:=by
     have:=(Np (v.alloc (.cells #[.int .i64 K.obj,.int .i64 K.kind,.int .i64 K.off,.int .i64 V] 148)) 148 4 ((⟨K,V⟩:Qk).vs) _ rfl rfl).Hr (by omega);rwa [World.size_alloc] at this
    have d4:wr.1.size<=v.1.size:=D.size;have b7:w.1.size<=wr.1.size:=X.size;have R:=(d.below D).below bY;have s3:=s2.below bY;have W3:=X.trans ((D.trans (bY.mono D.size)).mono X.size);have zY:w.1.size<=((v.alloc (.cells #[.int .i64 K.obj,.int .i64 K.kind,.int .i64 K.off,.int .i64 V] 148)).alloc (.cells #[.int .i64 K.obj,.int .i64 K.kind,.int .i64 K.off,.int .i64 V] 148)).1.size:=Nat.le_trans (Nat.le_trans b7 d4) bY.size;have d6:((v.alloc (.cells #[.int .i64 K.obj,.int .i64 K.kind,.int .i64 K.off,.int .i64 V] 148)).alloc (.cells #[.int .i64 K.obj,.int .i64 K.kind,.int .i64 K.off,.int .i64 V] 148)).1.size=v.1.size+2:=by simp
    have Q:R2≠[]->∀g,Xq A2=some g->g<v.1.size:=λhl g m=>s2.Zx hl g m
    have O:∀g,Xq A2=some g->wr.1.size<=g:=λg m=>by
     cases A2 with
     |none=>cases m
     |some ad=>have:=f2 ad rfl;have e:ad.block=g:=Option.some.inj m;omega
    have c9:j+1<=1000000:=by omega
    have one:∀y∈[(⟨K,V⟩:Qk).vs],∀u∈y,u.oneCell'=true:=by
     intro y hy u hu;obtain rfl:y=(⟨K,V⟩:Qk).vs:=by simpa using hy
     simp[Qk.vs] at hu;rcases hu with rfl|rfl|rfl|rfl<;>rfl
    clear H d J s2 X D b2 f2;go_wp2_with (first
     |(at_builtin;refine Qbh _ Zbs rfl _ _ rfl w.1.size W j c' (U.map Qk.vs) rfl R (some ⟨v.1.size+1,0,none⟩) 1 1 [(⟨K,V⟩:Qk).vs] rfl T (by omega) one c9 (by omega) zY ?_)
     |fail)
    intro A6 c6 v6 M T7 a8 _;have M:Qr v6 w.1.size 148 4 A6 (j+1) c6 ((U++[(⟨K,V⟩:Qk)]).map Qk.vs):=by rw[List.map_append];exact M
    have s7:=s3.turned' T7 (λ_ g m e=>by have h1:=G g e;have h2:=O g m;omega);have W7:=W3.trans (T7.below (B:=w.1.size) (λx hx=>F x hx) zY);have b3:R2≠[]->∀g,Xq A2=some g->Xq A6≠some g:=λhl g m e=>by
     have h1:=Q hl g m;have h2:=O g m;rcases a8 with h3|h3
     ·have:=G g (h3.symm.trans e);omega
     ·rw[h3] at e;have:=Option.some.inj e;omega
    have Z:∀g,Xq A2=some g->Xq A=some g\/w.1.size<=g:=λg m=>.inr (Nat.le_trans b7 (O g m))
    clear R s3 W3 T bY one G F O Q a8;go_wp2;exact⟨⟨j+1,U++[⟨K,V⟩],R2,A2,n2,c2,A6,c6,by omega,by go_num,rfl,rfl,c7.out,s7,d2,b3,Z,M,W7⟩,by simp[intOf];omega⟩
   ·have b1:=Lib.hid (z.out _ f.out (Qqe hl b4));have b0:=X.trans (D.mono X.size);have d7:decide (E=0)=false:=decide_eq_false hE;have d8:(E==0)=false:=by simp[hE]
    have c8:Below w.1.size w (v.alloc (.cells #[.int .i64 0,.int .i64 0,.int .i64 0,.int .i64 0] 148)):=b0.alloc b0.size _;clear H f z b4 d J b2 G F;unfold Zd1;go_wp2;go_ret3;exact Qw7 hE b1.out c8
  ·obtain rfl:j=cnt:=by omega
   have b9:=Lib.hid P;clear P;go_wp2;go_ret3;exact Qw8 b9.out (by omega) d J H X
