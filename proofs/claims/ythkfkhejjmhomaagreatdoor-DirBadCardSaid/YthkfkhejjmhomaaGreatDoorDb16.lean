/- The code's node: takeItem and takeKid -/
import Derived.Test.YthkfkhejjmhomaaGreatDoorDb15
namespace Go.Proofs.YthkfkhejjmhomaaGreatDoor
open Go Go.RowKit Go.Proofs
set_option maxHeartbeats 8000000
set_option maxRecDepth 100000
def RB (w:World)(b:Nat)(r:List Value):Prop:=∃t,w.1[b]?=some (.cells r.toArray t (0,0))
section
variable {w w':World}{b:Nat}{r:List Value}
theorem RB.new (w:World)(r:List Value)(t:TypeId):RB (w.alloc (.cells r.toArray t)) w.1.size r:=⟨t,heap_alloc_new w _⟩
theorem RB.below (H:RB w b r){B:Nat}(hb:Below B w w')(hB:b<B):RB w' b r:=by
 obtain⟨t,H⟩:=H;exact⟨t,(hb.block b hB).trans H⟩
theorem RB.keep (H:RB w b r)(h:w'.1[b]?=w.1[b]?):RB w' b r:=by
 obtain⟨t,H⟩:=H;exact⟨t,h.trans H⟩
theorem RB.lt (H:RB w b r):b<w.1.size:=by
 obtain⟨t,H⟩:=H;exact (Array.getElem?_eq_some_iff.1 H).1
theorem RB.range (H:RB w b r):w.rangeAt b 0 r:=λj v d=>by
 obtain⟨t,H⟩:=H;rw[cell_of_row _ _ _ _ _ _ H,Nat.zero_add];simpa using d
theorem RB.there (H:RB w b r):w.there b 0 r.length:=λj d=>by
 obtain⟨t,H⟩:=H;refine⟨?_,by unfold World.frozen?;rw[H];simp⟩;rw[cell_of_row _ _ _ _ _ _ H,Nat.zero_add,Array.getElem?_eq_getElem (by simpa using d)];rfl
theorem RB.Nz {x0 x1 x2 x3:Value}(H:RB w b r)(h4:r.length=4):RB (w.setCells b 0 [x0,x1,x2,x3]) b [x0,x1,x2,x3]:=by
 obtain⟨t,H⟩:=H;match r,h4 with
 |[a0,a1,a2,a3],_=>exact⟨t,D7 _ (D7 _ (D7 _ (D7 _ H)))⟩
end
def zit:List Value:=[.int .i64 0,.int .i64 0,.int .i64 0,.slice none 0 0]
def Qao:List Value:=[.int .i64 0,.int .i64 0,.int .i64 0,.int .i64 0]
theorem qh5 {w:World}{b:Nat}{k:Kd}{V:Option Addr}{p q:Nat}(H:RB w b (Vm k V p q)):(loadVar 50 ⟨b,0,none⟩).run Tryz.prog w=.ok (.agg #[.int .i64 k.obj,.int .i64 k.kind,.int .i64 k.off,.slice V p q]) w:=
 run_loadVar_mid w b 0 50 _ _ H.range Tryz.underlying50 rfl (by kernel_rfl)
theorem q8u {w:World}{b:Nat}{x:Qj}(H:RB w b x.vs):(loadVar 148 ⟨b,0,none⟩).run Tryz.prog w=.ok (.agg #[.int .i64 x.k.obj,.int .i64 x.k.kind,.int .i64 x.k.off,.int .i64 x.a]) w:=
 run_loadVar_mid w b 0 148 _ _ H.range Tryz.underlying148 rfl (by kernel_rfl)
theorem q5p {e:Array Oper}{d:List Oper}{o:Oper}{a:Act}{w:World}{Q:Exit->Act->World->Prop}(A:o.guard=none)(x y:Operand)(f:o.op=Op.store 50 x y)
  (b:Nat) (B:a.eval x=.pointer (some ⟨b,0,none⟩)) (k:Kd) (V:Option Addr) (p q:Nat) (D:a.eval y=.agg #[.int .i64 k.obj,.int .i64 k.kind,.int .i64 k.off,.slice V p q]) {r:List Value} (H:RB w b r) (m:r.length=4)
  (u:∀w',RB w' b (Vm k V p q)->Turn (λg=>g=b) w w'->wpList Tryz.prog e Q d (a.put o.dst undef) w'):wpList Tryz.prog e Q (o::d) a w:=
 wpList_store_mid A _ x y f b 0 #[.int .i64 k.obj,.int .i64 k.kind,.int .i64 k.off,.slice V p q] B D (by have:=H.there;rw[m] at this;exact this) (by kernel_rfl) (by simp[Value.oneCell'])
  (u _ (H.Nz m) (Vb (S:=λg=>g=b) rfl _ 0 w))
theorem q2t {e:Array Oper}{d:List Oper}{o:Oper}{a:Act}{w:World}{Q:Exit->Act->World->Prop}(u:o.guard=none)(x y:Operand)(f:o.op=Op.store 148 x y)
  (b:Nat) (A:a.eval x=.pointer (some ⟨b,0,none⟩)) (z:Qj) (B:a.eval y=.agg #[.int .i64 z.k.obj,.int .i64 z.k.kind,.int .i64 z.k.off,.int .i64 z.a]) {r:List Value} (H:RB w b r) (m:r.length=4)
  (p:∀w',RB w' b z.vs->Turn (λg=>g=b) w w'->wpList Tryz.prog e Q d (a.put o.dst undef) w'):wpList Tryz.prog e Q (o::d) a w:=
 wpList_store_mid u _ x y f b 0 #[.int .i64 z.k.obj,.int .i64 z.k.kind,.int .i64 z.k.off,.int .i64 z.a] A B (by have:=H.there;rw[m] at this;exact this) (by kernel_rfl) (by simp[Value.oneCell'])
  (p _ (H.Nz m) (Vb (S:=λg=>g=b) rfl _ 0 w))
theorem qwm (A:Option Addr)(k c:Nat)(l:List UInt8)(S R:List UInt8)(E:Int)(D:Io l=S)(B:Nc l=R)(y:Ib l=E)(w:World)(h:Sl w A k c l)(G:k<=17592186044416) :
  Calls Tryz.prog 156 #[.slice A k c] w λe w'=>∃f u c2,e=.returned (.tuple #[.string ⟨S.toArray⟩,.slice f u c2,.int .i64 E])/\Sl w' f u c2 R/\(∀d,f=some d->w.1.size<=d.block)/\Below w.1.size w w':=by
 subst D B y;by_cases m:Vg l 1
 ·have p:ttY l=true:=decide_eq_true m;unfold Io Nc Ib;rw[p,if_pos rfl,if_pos rfl,if_pos rfl];refine (q6n A k c l w h G m).mono ?_;rintro e w' ⟨f,u,c2,rfl,own,F⟩;exact⟨_,_,_,rfl,own.sl,λd h=>(own.block d h).1,F⟩
 ·have p:ttY l=false:=decide_eq_false m;unfold Io Nc Ib;rw[p,if_neg (by simp),if_neg (by simp),if_neg (by simp)];refine (q8h A k c l w h m).mono ?_;rintro e w' ⟨rfl,rfl⟩;exact⟨_,_,_,rfl,Ik _,λd h=>(by cases h),Below.refl _ _⟩
theorem qwn (A:Option Addr)(k c:Nat)(l:List UInt8)(V:Int)(R:List UInt8)(E:Int)(B:O0 l=V)(y:Nb l=R)(u:Ia l=E)(w:World)(h:Sl w A k c l)(F:k<=17592186044416) :
  Calls Tryz.prog 151 #[.slice A k c,.int .i64 2] w λe w'=>∃f p c2,e=.returned (.tuple #[.int .i64 V,.slice f p c2,.int .i64 E])/\Sl w' f p c2 R/\(∀d,f=some d->w.1.size<=d.block)/\Below w.1.size w w':=by
 subst B y u;have I:=h.len;by_cases J:2<=k
 ·have m:t2Y l=true:=decide_eq_true (by omega);unfold O0 Nb Ia;rw[m,if_pos rfl,if_pos rfl,if_pos rfl];refine (q5b A k c l 2 w h F (by omega) (by omega) (by omega)).mono ?_;rintro e w' ⟨G,K,H,rfl,own,D⟩;exact⟨_,_,_,rfl,own.sl,λd h=>(own.block d h).1,D⟩
 ·have m:t2Y l=false:=decide_eq_false (by omega);unfold O0 Nb Ia;rw[m,if_neg (by simp),if_neg (by simp),if_neg (by simp)];refine (qcb A k c 2 w (by omega) (by omega) (by omega)).mono ?_;rintro e w' ⟨rfl,rfl⟩;exact⟨_,_,_,rfl,Ik _,λd h=>(by cases h),Below.refl _ _⟩
def Qbw (l:List UInt8)(w:World)(e:Ending)(w':World):Prop:=
 ∃V p q f m c2,e=.returned (.tuple #[.agg #[.int .i64 (G8 l).obj,.int .i64 (G8 l).kind,.int .i64 (G8 l).off,.slice V p q],.slice f m c2,.int .i64 0])/\Sl w' V p q (Io (Wj l))/\Sl w' f m c2 (Nc (Wj l))/\
  (∀d,V=some d->w.1.size<=d.block)/\(∀d,f=some d->w.1.size<=d.block)/\Below w.1.size w w'
def Qbv (zero:Value)(w:World)(e:Ending)(w':World):Prop:=
 ∃E:Int,E≠0/\e=.returned (.tuple #[zero,.slice none 0 0,.int .i64 E])/\Below w.1.size w w'
def Qck:Value:=.agg #[.int .i64 0,.int .i64 0,.int .i64 0,.slice none 0 0]
def Qay:Value:=.agg #[.int .i64 0,.int .i64 0,.int .i64 0,.int .i64 0]
def Iy (l:List UInt8)(w:World)(e:Ending)(w':World):Prop:=(Gf l=0/\Ib (Wj l)=0/\Qbw l w e w')\/(¬(Gf l=0/\Ib (Wj l)=0)/\Qbv Qck w e w')
theorem Qci {l M D B:List UInt8}{K:Kd}{w w':World}(G:G8 l=K)(H:Wj l=M)(f:Gf l=0)(y:Io M=D)(u:Nc M=B)(m:Ib M=0){V:Option Addr}{p q:Nat}{e:Option Addr}{A c2:Nat}(J:Sl w' V p q D)(O:Sl w' e A c2 B)
  (E:∀d,V=some d->w.1.size<=d.block) (F:∀d,e=some d->w.1.size<=d.block) (I:Below w.1.size w w') :
  Iy l w (.returned (.tuple #[.agg #[.int .i64 K.obj,.int .i64 K.kind,.int .i64 K.off,.slice V p q],.slice e A c2,.int .i64 0])) w':=by
 subst G H y u;exact .inl ⟨f,m,V,p,q,e,A,c2,rfl,J,O,E,F,I⟩
theorem qyk {l M:List UInt8}{w w':World}{f m E:Int}(u:Wj l=M)(d:Gf l=f)(e:Ib M=m)(h:¬(f=0/\m=0))(p:E≠0)(y:Below w.1.size w w') :
  Iy l w (.returned (.tuple #[.agg #[.int .i64 0,.int .i64 0,.int .i64 0,.slice none 0 0],.slice none 0 0,.int .i64 E])) w':=by
 subst u d e;exact .inr ⟨h,E,p,rfl,y⟩
theorem qd9 (A:Option Addr)(n c:Nat)(l:List UInt8)(w:World)(h:Sl w A n c l)(hn:n<=100000) :
  Calls Tryz.prog 143 #[.slice A n c] w λe w'=>Iy l w e w':=by
 have b0:=h.len;obtain⟨K,hK⟩:∃x,G8 l=x:=⟨_,rfl⟩;obtain⟨M,hM⟩:∃x,Wj l=x:=⟨_,rfl⟩;obtain⟨E1,a1⟩:∃x,Gf l=x:=⟨_,rfl⟩;obtain⟨U,F⟩:∃x,Io M=x:=⟨_,rfl⟩;obtain⟨R2,a6⟩:∃x,Nc M=x:=⟨_,rfl⟩;obtain⟨E2,a2⟩:∃x,Ib M=x:=⟨_,rfl⟩;have c6:M.length<=100000:=by have:=qvs l;rw[hM] at this;omega
 have b6:U.length<=100000:=by have:=qyj M;rw[F] at this;omega
 have HK:=Lib.hid hK;have HM:=Lib.hid hM;have p:=Lib.hid a1;have R:=Lib.hid F;have Q:=Lib.hid a6;have u:=Lib.hid a2;clear hK hM a1 F a6 a2 b0;have R1:RB (w.alloc (.cells #[.int .i64 0,.int .i64 0,.int .i64 0,.slice none 0 0] 50)) w.1.size zit:=RB.new w zit _;have Y:Below w.1.size w (w.alloc (.cells #[.int .i64 0,.int .i64 0,.int .i64 0,.slice none 0 0] 50)):=Qk;go_enter Tryz.func143,Tryz.ntmps143
 go_wp2_with fail
 generalize w.alloc (.cells #[.int .i64 0,.int .i64 0,.int .i64 0,.slice none 0 0] 50)=w1 at R1 Y ⊢;refine (qgf A n c l K M E1 HK.out HM.out p.out w1 (h.below Y) (by omega)).mono ?_;rintro e v ⟨A2,n2,c2,rfl,m,G⟩;have c8:n2<=100000:=by have:=m.len;omega
 have Z:Below v.1.size v (v.alloc (.cells #[.int .i64 K.obj,.int .i64 K.kind,.int .i64 K.off] 45)):=Qk;have K2:=KB.new v K.obj K.kind K.off 45;have y:=R1.below G R1.lt;have B2:=Y.trans (G.mono Y.size);have B:=y.below Z y.lt;have P:=B2.trans (Z.mono B2.size);have s3:=m.sl.below Z;have c9:w.1.size<v.1.size:=y.lt;clear y B2 R1 Y G m;by_cases d:E1=0
 ·subst d;go_wp2_with fail
  generalize v.alloc (.cells #[.int .i64 K.obj,.int .i64 K.kind,.int .i64 K.off] 45)=w3 at K2 B P s3 Z ⊢;refine (qwm A2 n2 c2 M U R2 E2 R.out Q.out u.out w3 s3 (by omega)).mono ?_;rintro e O ⟨A4,n4,c4,rfl,s4,a8,H⟩;have I:=B.below H B.lt;have K4:=K2.below H K2.lt;have B4:=P.trans (H.mono P.size);have b2:w.1.size<=w3.1.size:=P.size;have d0:w.1.size<w3.1.size:=B.lt;clear K2 B s3 Z;by_cases f:E2=0
  ·subst f;obtain⟨X,hX⟩:∃X,(⟨U.toArray⟩:ByteArray)=X:=⟨_,rfl⟩;have a7:X.data.toList=U:=by rw[<-hX]
   have c7:X.size<=100000:=by rw[<-hX];show U.toArray.size<=_;simpa using b6
   have b9:=Qa5 X;have b3:=qbb O 5 X (by unfold maxLen;omega);have E:=q67 O 5 X;rw[a7] at b3;rw[hX];have k0:=K4.c0;have k1:=K4.c1;have k2:=K4.c2;have R5:=I.below E I.lt;have B5:=B4.trans (E.mono B4.size);have s5:=s4.below E;have zX:w.1.size<O.1.size:=I.lt;clear hX a7 I s4;go_wp2_with (first
    |(refine q5p rfl (.tmp 2) (.tmp 31) rfl w.1.size rfl K (some ⟨O.1.size,0,none⟩) X.size (grownCap O X.size 0 5) rfl R5 rfl ?_;intro w6 T D)
    |fail)
   have b5:∀g,q01 A4=some g->w3.1.size<=g:=λg J=>by
    cases A4 with
    |none=>cases J
    |some W=>have:=a8 W rfl;have e:W.block=g:=Option.some.inj J;omega
   have b4:=b3.turned D (λg J e=>by have e1:O.1.size=g:=Option.some.inj J;omega);have s6:=s5.turned D (λg J e=>by have:=b5 g J;omega);have B6:=B5.trans (D.Q9 R5.lt);refine bodyPost_ret (q6r Tryz.results143 rfl (qh5 T)) rfl ?_;exact Qci HK.out HM.out p.out R.out Q.out u.out b4 s6 (λW h=>by injection h with h;rw[<-h];exact Nat.le_of_lt zX) (λW h=>Nat.le_trans b2 (a8 W h)) B6
  ·have b7:decide (E2=0)=false:=decide_eq_false f;have b8:(E2==0)=false:=by simp[f]
   go_wp2_with (first
    |(refine q5p rfl (.tmp 2) (.tmp 26) rfl w.1.size rfl ⟨0,0,0⟩ none 0 0 rfl I rfl ?_;intro w6 T D)
    |fail)
   refine bodyPost_ret (q6r Tryz.results143 rfl (qh5 T)) rfl ?_;exact qyk HM.out p.out u.out (λh=>f h.2) f (B4.trans (D.Q9 I.lt))
 ·have b7:decide (E1=0)=false:=decide_eq_false d;have b8:(E1==0)=false:=by simp[d]
  go_wp2_with (first
   |(refine q5p rfl (.tmp 2) (.tmp 16) rfl w.1.size rfl ⟨0,0,0⟩ none 0 0 rfl B rfl ?_;intro w6 T D)
   |fail)
  refine bodyPost_ret (q6r Tryz.results143 rfl (qh5 T)) rfl ?_;exact qyk HM.out p.out u.out (λh=>d h.1) d (P.trans (D.Q9 B.lt))
def Qbx (l:List UInt8)(w:World)(e:Ending)(w':World):Prop:=
 ∃d m c2,e=.returned (.tuple #[.agg #[.int .i64 (G8 l).obj,.int .i64 (G8 l).kind,.int .i64 (G8 l).off,.int .i64 (O0 (Wj l))],.slice d m c2,.int .i64 0])/\Sl w' d m c2 (Nb (Wj l))/\
  (∀f,d=some f->w.1.size<=f.block)/\Below w.1.size w w'
def Iz (l:List UInt8)(w:World)(e:Ending)(w':World):Prop:=(Gf l=0/\Ia (Wj l)=0/\Qbx l w e w')\/(¬(Gf l=0/\Ia (Wj l)=0)/\Qbv Qay w e w')
theorem Qcj {l M y:List UInt8}{K:Kd}{A:Int}{w w':World}(E:G8 l=K)(F:Wj l=M)(e:Gf l=0)(p:O0 M=A)(m:Nb M=y)(f:Ia M=0){d:Option Addr}{u c2:Nat}(H:Sl w' d u c2 y)
  (D:∀B,d=some B->w.1.size<=B.block) (G:Below w.1.size w w') :
  Iz l w (.returned (.tuple #[.agg #[.int .i64 K.obj,.int .i64 K.kind,.int .i64 K.off,.int .i64 A],.slice d u c2,.int .i64 0])) w':=by
 subst E F p m;exact .inl ⟨e,f,d,u,c2,rfl,H,D,G⟩
theorem qyl {l M:List UInt8}{w w':World}{f m E:Int}(u:Wj l=M)(d:Gf l=f)(e:Ia M=m)(h:¬(f=0/\m=0))(p:E≠0)(y:Below w.1.size w w') :
  Iz l w (.returned (.tuple #[.agg #[.int .i64 0,.int .i64 0,.int .i64 0,.int .i64 0],.slice none 0 0,.int .i64 E])) w':=by
 subst u d e;exact .inr ⟨h,E,p,rfl,y⟩
theorem qer (A:Option Addr)(n c:Nat)(l:List UInt8)(w:World)(h:Sl w A n c l)(hn:n<=100000) :
  Calls Tryz.prog 145 #[.slice A n c] w λe w'=>Iz l w e w':=by
 have X:=h.len;obtain⟨K,hK⟩:∃x,G8 l=x:=⟨_,rfl⟩;obtain⟨M,hM⟩:∃x,Wj l=x:=⟨_,rfl⟩;obtain⟨Z,Q⟩:∃x,Gf l=x:=⟨_,rfl⟩;obtain⟨S2,U⟩:∃x,O0 M=x:=⟨_,rfl⟩;obtain⟨R2,T⟩:∃x,Nb M=x:=⟨_,rfl⟩;obtain⟨E2,R⟩:∃x,Ia M=x:=⟨_,rfl⟩;have a7:M.length<=100000:=by have:=qvs l;rw[hM] at this;omega
 have HK:=Lib.hid hK;have HM:=Lib.hid hM;have p:=Lib.hid Q;have I:=Lib.hid U;have H:=Lib.hid T;have u:=Lib.hid R;clear hK hM Q U T R X;have R1:RB (w.alloc (.cells #[.int .i64 0,.int .i64 0,.int .i64 0,.int .i64 0] 148)) w.1.size Qao:=RB.new w Qao _;have O:Below w.1.size w (w.alloc (.cells #[.int .i64 0,.int .i64 0,.int .i64 0,.int .i64 0] 148)):=Qk;go_enter Tryz.func145,Tryz.ntmps145
 go_wp2_with fail
 generalize w.alloc (.cells #[.int .i64 0,.int .i64 0,.int .i64 0,.int .i64 0] 148)=w1 at R1 O ⊢;refine (qgf A n c l K M Z HK.out HM.out p.out w1 (h.below O) (by omega)).mono ?_;rintro e v ⟨A2,n2,c2,rfl,m,D⟩;have a8:n2<=100000:=by have:=m.len;omega
 have P:Below v.1.size v (v.alloc (.cells #[.int .i64 K.obj,.int .i64 K.kind,.int .i64 K.off] 45)):=Qk;have K2:=KB.new v K.obj K.kind K.off 45;have y:=R1.below D R1.lt;have B2:=O.trans (D.mono O.size);have B:=y.below P y.lt;have G:=B2.trans (P.mono B2.size);have s3:=m.sl.below P;have b0:w.1.size<v.1.size:=y.lt;clear y B2 R1 O D m;by_cases d:Z=0
 ·subst d;go_wp2_with fail
  generalize v.alloc (.cells #[.int .i64 K.obj,.int .i64 K.kind,.int .i64 K.off] 45)=w3 at K2 B G s3 P ⊢;refine (qwn A2 n2 c2 M S2 R2 E2 I.out H.out u.out w3 s3 (by omega)).mono ?_;rintro e w4 ⟨A4,n4,c4,rfl,s4,W,E⟩;have R4:=B.below E B.lt;have K4:=K2.below E K2.lt;have B4:=G.trans (E.mono G.size);have Y:w.1.size<=w3.1.size:=G.size;have b2:w.1.size<w3.1.size:=B.lt;clear K2 B s3 P;by_cases f:E2=0
  ·subst f;have k0:=K4.c0;have k1:=K4.c1;have k2:=K4.c2;go_wp2_with (first
    |(refine q2t rfl (.tmp 2) (.tmp 30) rfl w.1.size rfl ⟨K,S2⟩ rfl R4 rfl ?_;intro w6 J F)
    |fail)
   have a1:∀g,q01 A4=some g->w3.1.size<=g:=λg hg=>by
    cases A4 with
    |none=>cases hg
    |some ad=>have:=W ad rfl;have e:ad.block=g:=Option.some.inj hg;omega
   have s6:=s4.turned F (λg hg e=>by have:=a1 g hg;omega);have B6:=B4.trans (F.Q9 R4.lt);refine bodyPost_ret (q6r Tryz.results145 rfl (q8u J)) rfl ?_;exact Qcj HK.out HM.out p.out I.out H.out u.out s6 (λad h=>Nat.le_trans Y (W ad h)) B6
  ·have a2:decide (E2=0)=false:=decide_eq_false f;have a6:(E2==0)=false:=by simp[f]
   go_wp2_with (first
    |(refine q2t rfl (.tmp 2) (.tmp 26) rfl w.1.size rfl ⟨⟨0,0,0⟩,0⟩ rfl R4 rfl ?_;intro w6 J F)
    |fail)
   refine bodyPost_ret (q6r Tryz.results145 rfl (q8u J)) rfl ?_;exact qyl HM.out p.out u.out (λh=>f h.2) f (B4.trans (F.Q9 R4.lt))
 ·have a2:decide (Z=0)=false:=decide_eq_false d;have a6:(Z==0)=false:=by simp[d]
  go_wp2_with (first
   |(refine q2t rfl (.tmp 2) (.tmp 16) rfl w.1.size rfl ⟨⟨0,0,0⟩,0⟩ rfl B rfl ?_;intro w6 J F)
   |fail)
  refine bodyPost_ret (q6r Tryz.results145 rfl (q8u J)) rfl ?_;exact qyl HM.out p.out u.out (λh=>d h.1) d (G.trans (F.Q9 B.lt))
theorem qvu {r:List UInt8}(h:Gf r=0):(Wj r).length+9<=r.length:=by
 unfold Gf at h;split at h
 ·rename_i d;have:=(of_decide_eq_true (Bool.and_eq_true ..▸d).1);unfold Wj;rw[if_pos d,List.length_drop];omega
 ·split at h<;>omega
theorem qym {r:List UInt8}(h:Ib r=0):(Nc r).length+1<=r.length:=by
 unfold Ib at h;split at h
 ·rename_i d;have:=(of_decide_eq_true d).1;unfold Nc Yg;rw[if_pos d,List.length_drop];omega
 ·omega
theorem qyn {r:List UInt8}(h:Ia r=0):(Nb r).length+1<=r.length:=by
 unfold Ia at h;split at h
 ·rename_i d;have:=of_decide_eq_true d;unfold Nb;rw[if_pos d,List.length_drop];omega
 ·omega
theorem qwo {xs:List Qb}{r:List UInt8}(h1:Gf r=0)(h2:Ib (Wj r)=0):Xb ⟨0,xs,[]⟩ r=some (⟨0,xs++[⟨G8 r,Io (Wj r)⟩],[]⟩,Nc (Wj r)):=by
 unfold Xb;rw[if_pos h1,if_pos rfl,if_pos h2]
theorem qld {xs:List Qb}{r:List UInt8}(h:¬(Gf r=0/\Ib (Wj r)=0)):Xb ⟨0,xs,[]⟩ r=none:=by
 unfold Xb;by_cases h1:Gf r=0
 ·rw[if_pos h1,if_pos rfl,if_neg (λh2=>h ⟨h1,h2⟩)]
 ·rw[if_neg h1]
theorem qst {l:Int}(d:l≠0){xs:List Qj}{r:List UInt8}(h1:Gf r=0)(h2:Ia (Wj r)=0):Xb ⟨l,[],xs⟩ r=some (⟨l,[],xs++[⟨G8 r,O0 (Wj r)⟩]⟩,Nb (Wj r)):=by
 unfold Xb;rw[if_pos h1,if_neg d,if_pos h2]
theorem qh6 {l:Int}(d:l≠0){xs:List Qj}{r:List UInt8}(h:¬(Gf r=0/\Ia (Wj r)=0)):Xb ⟨l,[],xs⟩ r=none:=by
 unfold Xb;by_cases h1:Gf r=0
 ·rw[if_pos h1,if_neg d,if_neg (λh2=>h ⟨h1,h2⟩)]
 ·rw[if_neg h1]
def Ir (A:Option Addr)(body:List UInt8)(cnt:Nat)(w:World)(e:Ending)(w':World):Prop:=
 (∃p r f c1 d m c2,Jr 0 body cnt=some (⟨0,p,[]⟩,r)/\e=.returned (.tuple #[.slice f cnt c1,.slice d m c2,.int .i64 0])/\cnt<=1000/\J4 w' w.1.size f cnt c1 p/\Sl w' d m c2 r/\(∀g,q01 d=some g->q01 A=some g\/w.1.size<=g)/\Below w.1.size w w')\/
 (∃E:Int,E≠0/\Jr 0 body cnt=none/\e=.returned (.tuple #[.slice none 0 0,.slice none 0 0,.int .i64 E])/\Below w.1.size w w')
def Iw (l:Int)(A:Option Addr)(body:List UInt8)(cnt:Nat)(w:World)(e:Ending)(w':World):Prop:=
 (∃p r f c1 d m c2,Jr l body cnt=some (⟨l,[],p⟩,r)/\e=.returned (.tuple #[.slice f cnt c1,.slice d m c2,.int .i64 0])/\cnt<=1000/\Qr w' w.1.size 148 4 f cnt c1 (p.map Qj.vs)/\Sl w' d m c2 r/\(∀g,q01 d=some g->q01 A=some g\/w.1.size<=g)/\Below w.1.size w w')\/
 (∃E:Int,E≠0/\Jr l body cnt=none/\e=.returned (.tuple #[.slice none 0 0,.slice none 0 0,.int .i64 E])/\Below w.1.size w w')
theorem qnt {A:Option Addr}{body:List UInt8}{cnt:Nat}{w w':World}{xs:List Qb}{r:List UInt8}{e:Option Addr}{c1:Nat}{d:Option Addr}{f c2:Nat}(h1:Jr 0 body cnt=some (⟨0,xs,[]⟩,r))(h0:cnt<=1000)(h2:J4 w' w.1.size e cnt c1 xs)(m:Sl w' d f c2 r)(p:∀g,q01 d=some g->q01 A=some g\/w.1.size<=g)(u:Below w.1.size w w') :
  Ir A body cnt w (.returned (.tuple #[.slice e cnt c1,.slice d f c2,.int .i64 0])) w':=.inl ⟨xs,r,e,c1,d,f,c2,h1,rfl,h0,h2,m,p,u⟩
theorem qnu {A:Option Addr}{body:List UInt8}{cnt:Nat}{w w':World}{E:Int}(d:E≠0)(h1:Jr 0 body cnt=none)(e:Below w.1.size w w') :
  Ir A body cnt w (.returned (.tuple #[.slice none 0 0,.slice none 0 0,.int .i64 E])) w':=.inr ⟨E,d,h1,rfl,e⟩
theorem qnv {l:Int}{A:Option Addr}{body:List UInt8}{cnt:Nat}{w w':World}{xs:List Qj}{r:List UInt8}{e:Option Addr}{c1:Nat}{d:Option Addr}{f c2:Nat}(h1:Jr l body cnt=some (⟨l,[],xs⟩,r))(h0:cnt<=1000)(h2:Qr w' w.1.size 148 4 e cnt c1 (xs.map Qj.vs))(m:Sl w' d f c2 r)(p:∀g,q01 d=some g->q01 A=some g\/w.1.size<=g)(u:Below w.1.size w w') :
  Iw l A body cnt w (.returned (.tuple #[.slice e cnt c1,.slice d f c2,.int .i64 0])) w':=.inl ⟨xs,r,e,c1,d,f,c2,h1,rfl,h0,h2,m,p,u⟩
theorem qnw {l:Int}{A:Option Addr}{body:List UInt8}{cnt:Nat}{w w':World}{E:Int}(d:E≠0)(h1:Jr l body cnt=none)(e:Below w.1.size w w') :
  Iw l A body cnt w (.returned (.tuple #[.slice none 0 0,.slice none 0 0,.int .i64 E])) w':=.inr ⟨E,d,h1,rfl,e⟩
theorem qle (body:List UInt8)(cnt:Nat)(A:Option Addr)(k c:Nat)(w:World)(h:Sl w A k c body)(hk:k<=1000)(d8:cnt<=100000) :
  Calls Tryz.prog 142 #[.slice A k c,.int .i64 (cnt:Int),.func (.func 143) #[] #[]] w λe w'=>Ir A body cnt w e w':=by
 go_enter Tryz.func142,Tryz.ntmps142
 go_wp2_with fail
 go_loopw [0,9,14] (λt0 t9 a6 wr=>∃(j:Nat) (xs:List Qb) (r:List UInt8) (Rr:Option Addr) (p q:Nat) (Q:Option Addr) (c':Nat),j<=cnt/\a6=.int .i64 (j:Int)/\t0=.slice Rr p q/\t9=.slice Q j c'/\
  Jr 0 body j=some (⟨0,xs,[]⟩,r)/\Sl wr Rr p q r/\p+10*j<=k/\(r≠[]->∀g,q01 Rr=some g->q01 Q≠some g)/\(∀g,q01 Rr=some g->q01 A=some g\/w.1.size<=g)/\J4 wr w.1.size Q j c' xs/\Below w.1.size w wr) (λ_ _ a6 _=>cnt-(intOf a6).toNat)
 case atStart=>exact⟨0,[],body,A,k,c,none,0,Nat.zero_le _,rfl,rfl,rfl,rfl,h,by omega,(λ_ _ _ h=>by cases h),(λg d=>.inl d),Ox _ _,Below.refl _ _⟩
 case round=>
  obtain⟨j,xs,r,Rr,p,q,Q,c',hj,rfl,rfl,rfl,P,M,hp,b2,I,f,W⟩:=hrel;by_cases d4:j<cnt
  ·have m:=Lib.hid (q49 0 body j _ r P);have J:∀x,Jr 0 body (j+1)=x->x=none->Jr 0 body cnt=none:=λx h1 h2=>q9j _ _ _ _ (h1.trans h2) d4
   have y:=Lib.hid J;clear J P;have u:∀g,q01 Q=some g->g<wr.1.size:=λg d=>(f.Qc g d).2
   have F:∀g,q01 Q=some g->w.1.size<=g:=λg d=>(f.Qc g d).1
   have d6:=M.len;go_wp2_with fail
   refine (qd9 Rr p q r wr M (by omega)).mono ?_;rintro e v (⟨h1,h2,b8⟩|⟨b4,E,hE,rfl,D⟩)
   ·have Z:=qvu h1;have a1:=qym h2;have a7:=Lib.hid (qwo (xs:=xs) h1 h2);have b5:=Lib.hid (m.out.trans a7.out);clear m a7 y h1 h2;obtain⟨V,G,H,A2,n2,c2,rfl,a2,s2,fV,f2,D⟩:=b8;obtain⟨S,hS⟩:∃S,Io (Wj r)=S:=⟨_,rfl⟩;obtain⟨R2,X⟩:∃S,Nc (Wj r)=S:=⟨_,rfl⟩;rw[hS] at a2;obtain⟨K,hK⟩:∃K,G8 r=K:=⟨_,rfl⟩;have d3:=s2.len;have d5:n2+10*(j+1)<=k:=by omega
    rw[X] at s2;have b6:Jr 0 body (j+1)=some (⟨0,xs++[⟨K,S⟩],[]⟩,R2):=by rw[b5.out,hK,hS,X]
    have d0:=Lib.hid b6;clear b6 b5;rw[hK];clear hK hS X d3 Z a1 d6 hp;have bY:Below v.1.size v ((v.alloc (.cells #[.int .i64 K.obj,.int .i64 K.kind,.int .i64 K.off,.slice V G H] 50)).alloc (.cells #[.int .i64 K.obj,.int .i64 K.kind,.int .i64 K.off,.slice V G H] 50)):=(Qk).alloc (by simp) _;have U:Jq ((v.alloc (.cells #[.int .i64 K.obj,.int .i64 K.kind,.int .i64 K.off,.slice V G H] 50)).alloc (.cells #[.int .i64 K.obj,.int .i64 K.kind,.int .i64 K.off,.slice V G H] 50)) 4 (some ⟨v.1.size+1,0,none⟩) 1 1 [Vm K V G H]:=by
     have:=(q1i (v.alloc (.cells #[.int .i64 K.obj,.int .i64 K.kind,.int .i64 K.off,.slice V G H] 50)) 50 4 (Vm K V G H) _ rfl rfl).Uo (by omega);rwa [World.size_alloc] at this
    have d7:wr.1.size<=v.1.size:=D.size;have b7:w.1.size<=wr.1.size:=W.size;have T:=(f.below D).below bY;have s3:=s2.below bY;have W3:=W.trans ((D.trans (bY.mono D.size)).mono W.size);have zY:w.1.size<=((v.alloc (.cells #[.int .i64 K.obj,.int .i64 K.kind,.int .i64 K.off,.slice V G H] 50)).alloc (.cells #[.int .i64 K.obj,.int .i64 K.kind,.int .i64 K.off,.slice V G H] 50)).1.size:=Nat.le_trans (Nat.le_trans b7 d7) bY.size;have d9:((v.alloc (.cells #[.int .i64 K.obj,.int .i64 K.kind,.int .i64 K.off,.slice V G H] 50)).alloc (.cells #[.int .i64 K.obj,.int .i64 K.kind,.int .i64 K.off,.slice V G H] 50)).1.size=v.1.size+2:=by simp
    have R:R2≠[]->∀g,q01 A2=some g->g<v.1.size:=λhl g d=>s2.Qc hl g d
    have O:∀g,q01 A2=some g->wr.1.size<=g:=λg d=>by
     cases A2 with
     |none=>cases d
     |some ad=>have:=f2 ad rfl;have e:ad.block=g:=Option.some.inj d;omega
    have c8:=a2.below bY;have b9:S≠[]->∀g,q01 V=some g->w.1.size<=g/\q01 Q≠some g:=λ_ g d=>by
     cases V with
     |none=>cases d
     |some ad=>
      have h1:=fV ad rfl;have h2:ad.block=g:=Option.some.inj d;exact⟨by omega,λe=>by have:=u g e;omega⟩
    have d2:j<=1000:=by omega
    clear I f M s2 W D b2 a2 fV f2;go_wp2_with (first
     |(at_builtin;refine q5k rfl _ _ rfl w.1.size Q j c' xs rfl T (some ⟨v.1.size+1,0,none⟩) 1 ⟨K,S⟩ V G H rfl U c8 b9 (Nat.le_trans d2 (by decide)) zY ?_)
     |fail)
    intro A6 c6 v6 c7 T7 a8;have s7:=s3.turned' T7 (λ_ g d e=>by have h1:=u g e;have h2:=O g d;omega);have W7:=W3.trans (T7.below (B:=w.1.size) (λx hx=>F x hx) zY);have b3:R2≠[]->∀g,q01 A2=some g->q01 A6≠some g:=λhl g d e=>by
     have h1:=R hl g d;have h2:=O g d;rcases a8 with h3|h3
     ·have:=u g (h3.symm.trans e);omega
     ·rw[h3] at e;have:=Option.some.inj e;omega
    have Y:∀g,q01 A2=some g->q01 A=some g\/w.1.size<=g:=λg d=>.inr (Nat.le_trans b7 (O g d))
    clear T s3 W3 U bY c8 b9 u F O R a8;go_wp2;exact⟨⟨j+1,xs++[⟨K,S⟩],R2,A2,n2,c2,A6,c6,by omega,by go_num,rfl,rfl,d0.out,s7,d5,b3,Y,c7,W7⟩,by simp[intOf];omega⟩
   ·have b1:=Lib.hid (y.out _ m.out (qld b4));have b0:=W.trans (D.mono W.size);have e0:decide (E=0)=false:=decide_eq_false hE;have e1:(E==0)=false:=by simp[hE]
    have d1:Below w.1.size w (v.alloc (.cells #[.int .i64 0,.int .i64 0,.int .i64 0,.slice none 0 0] 50)):=b0.alloc b0.size _;clear I m y b4 f M b2 u F;unfold Qck;go_wp2;go_ret3;exact qnu hE b1.out d1
  ·obtain rfl:j=cnt:=by omega
   have c9:=Lib.hid P;clear P;go_wp2;go_ret3;exact qnt c9.out (by omega) f M I W
theorem qlf (l:Int)(hl:l≠0)(body:List UInt8)(cnt:Nat)(A:Option Addr)(k c:Nat)(w:World)(h:Sl w A k c body)(hk:k<=1000)(d6:cnt<=100000) :
  Calls Tryz.prog 144 #[.slice A k c,.int .i64 (cnt:Int),.func (.func 145) #[] #[]] w λe w'=>Iw l A body cnt w e w':=by
 go_enter Tryz.func144,Tryz.ntmps144
 go_wp2_with fail
 go_loopw [0,9,14] (λt0 t9 a7 wr=>∃(j:Nat) (W:List Qj) (r:List UInt8) (Rr:Option Addr) (p q:Nat) (X:Option Addr) (c':Nat),j<=cnt/\a7=.int .i64 (j:Int)/\t0=.slice Rr p q/\t9=.slice X j c'/\
  Jr l body j=some (⟨l,[],W⟩,r)/\Sl wr Rr p q r/\p+10*j<=k/\(r≠[]->∀g,q01 Rr=some g->q01 X≠some g)/\(∀g,q01 Rr=some g->q01 A=some g\/w.1.size<=g)/\Qr wr w.1.size 148 4 X j c' (W.map Qj.vs)/\Below w.1.size w wr) (λ_ _ a7 _=>cnt-(intOf a7).toNat)
 case atStart=>exact⟨0,[],body,A,k,c,none,0,Nat.zero_le _,rfl,rfl,rfl,rfl,h,by omega,(λ_ _ _ h=>by cases h),(λg m=>.inl m),Lu _ _ _ _,Below.refl _ _⟩
 case round=>
  obtain⟨j,W,r,Rr,p,q,X,c',hj,rfl,rfl,rfl,Q,M,hp,b3,I,d,Y⟩:=hrel;by_cases d2:j<cnt
  ·have f:=Lib.hid (q49 l body j _ r Q);have J:∀x,Jr l body (j+1)=x->x=none->Jr l body cnt=none:=λx h1 h2=>q9j _ _ _ _ (h1.trans h2) d2
   have D:=Lib.hid J;clear J Q;have H:∀g,q01 X=some g->g<wr.1.size:=λg m=>(d.Qc g m).2
   have G:∀g,q01 X=some g->w.1.size<=g:=λg m=>(d.Qc g m).1
   have d4:=M.len;go_wp2_with fail
   refine (qer Rr p q r wr M (by omega)).mono ?_;rintro e v (⟨h1,h2,b9⟩|⟨b5,E,hE,rfl,F⟩)
   ·have a2:=qvu h1;have a6:=qyn h2;have a8:=Lib.hid (qst hl (xs:=W) h1 h2);have b6:=Lib.hid (f.out.trans a8.out);clear f a8 D h1 h2;obtain⟨A2,n2,c2,rfl,s2,f2,F⟩:=b9;obtain⟨V,hS⟩:∃S,O0 (Wj r)=S:=⟨_,rfl⟩;obtain⟨R2,Z⟩:∃S,Nb (Wj r)=S:=⟨_,rfl⟩;obtain⟨K,hK⟩:∃K,G8 r=K:=⟨_,rfl⟩;have d1:=s2.len;have d3:n2+10*(j+1)<=k:=by omega
    rw[Z] at s2;have b7:Jr l body (j+1)=some (⟨l,[],W++[⟨K,V⟩]⟩,R2):=by rw[b6.out,hK,hS,Z]
    have c8:=Lib.hid b7;clear b7 b6;rw[hK,hS];clear hK hS Z d1 a2 a6 d4 hp;have bY:Below v.1.size v ((v.alloc (.cells #[.int .i64 K.obj,.int .i64 K.kind,.int .i64 K.off,.int .i64 V] 148)).alloc (.cells #[.int .i64 K.obj,.int .i64 K.kind,.int .i64 K.off,.int .i64 V] 148)):=(Qk).alloc (by simp) _;have U:Jq ((v.alloc (.cells #[.int .i64 K.obj,.int .i64 K.kind,.int .i64 K.off,.int .i64 V] 148)).alloc (.cells #[.int .i64 K.obj,.int .i64 K.kind,.int .i64 K.off,.int .i64 V] 148)) 4 (some ⟨v.1.size+1,0,none⟩) 1 1 [(⟨K,V⟩:Qj).vs]:=by
     have:=(q1i (v.alloc (.cells #[.int .i64 K.obj,.int .i64 K.kind,.int .i64 K.off,.int .i64 V] 148)) 148 4 ((⟨K,V⟩:Qj).vs) _ rfl rfl).Uo (by omega);rwa [World.size_alloc] at this
    have d5:wr.1.size<=v.1.size:=F.size;have b8:w.1.size<=wr.1.size:=Y.size;have T:=(d.below F).below bY;have s3:=s2.below bY;have W3:=Y.trans ((F.trans (bY.mono F.size)).mono Y.size);have zY:w.1.size<=((v.alloc (.cells #[.int .i64 K.obj,.int .i64 K.kind,.int .i64 K.off,.int .i64 V] 148)).alloc (.cells #[.int .i64 K.obj,.int .i64 K.kind,.int .i64 K.off,.int .i64 V] 148)).1.size:=Nat.le_trans (Nat.le_trans b8 d5) bY.size;have d7:((v.alloc (.cells #[.int .i64 K.obj,.int .i64 K.kind,.int .i64 K.off,.int .i64 V] 148)).alloc (.cells #[.int .i64 K.obj,.int .i64 K.kind,.int .i64 K.off,.int .i64 V] 148)).1.size=v.1.size+2:=by simp
    have R:R2≠[]->∀g,q01 A2=some g->g<v.1.size:=λhl g m=>s2.Qc hl g m
    have P:∀g,q01 A2=some g->wr.1.size<=g:=λg m=>by
     cases A2 with
     |none=>cases m
     |some ad=>have:=f2 ad rfl;have e:ad.block=g:=Option.some.inj m;omega
    have d0:j+1<=1000000:=by omega
    have one:∀y∈[(⟨K,V⟩:Qj).vs],∀u∈y,u.oneCell'=true:=by
     intro y hy u hu;obtain rfl:y=(⟨K,V⟩:Qj).vs:=by simpa using hy
     simp[Qj.vs] at hu;rcases hu with rfl|rfl|rfl|rfl<;>rfl
    clear I d M s2 Y F b3 f2;go_wp2_with (first
     |(at_builtin;refine qab _ Qaf rfl _ _ rfl w.1.size X j c' (W.map Qj.vs) rfl T (some ⟨v.1.size+1,0,none⟩) 1 1 [(⟨K,V⟩:Qj).vs] rfl U (by omega) one d0 (by omega) zY ?_)
     |fail)
    intro A6 c6 v6 O T7 b0 _;have O:Qr v6 w.1.size 148 4 A6 (j+1) c6 ((W++[(⟨K,V⟩:Qj)]).map Qj.vs):=by rw[List.map_append];exact O
    have s7:=s3.turned' T7 (λ_ g m e=>by have h1:=H g e;have h2:=P g m;omega);have W7:=W3.trans (T7.below (B:=w.1.size) (λx hx=>G x hx) zY);have b4:R2≠[]->∀g,q01 A2=some g->q01 A6≠some g:=λhl g m e=>by
     have h1:=R hl g m;have h2:=P g m;rcases b0 with h3|h3
     ·have:=H g (h3.symm.trans e);omega
     ·rw[h3] at e;have:=Option.some.inj e;omega
    have a1:∀g,q01 A2=some g->q01 A=some g\/w.1.size<=g:=λg m=>.inr (Nat.le_trans b8 (P g m))
    clear T s3 W3 U bY one H G P R b0;go_wp2;exact⟨⟨j+1,W++[⟨K,V⟩],R2,A2,n2,c2,A6,c6,by omega,by go_num,rfl,rfl,c8.out,s7,d3,b4,a1,O,W7⟩,by simp[intOf];omega⟩
   ·have b2:=Lib.hid (D.out _ f.out (qh6 hl b5));have b1:=Y.trans (F.mono Y.size);have d8:decide (E=0)=false:=decide_eq_false hE;have d9:(E==0)=false:=by simp[hE]
    have c9:Below w.1.size w (v.alloc (.cells #[.int .i64 0,.int .i64 0,.int .i64 0,.int .i64 0] 148)):=b1.alloc b1.size _;clear I f D b5 d M b3 H G;unfold Qay;go_wp2;go_ret3;exact qnw hE b2.out c9
  ·obtain rfl:j=cnt:=by omega
   have c7:=Lib.hid Q;clear Q;go_wp2;go_ret3;exact qnv c7.out (by omega) d M I Y
