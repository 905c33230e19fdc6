/- The code's node: takeItem and takeKid -/
import Derived.Test.YtloolbmdiimanaaGreatDoorGv14
namespace Go.Proofs.YtloolbmdiimanaaGreatDoor
open Go Go.RowKit Go.Proofs Tryz
set_option maxHeartbeats 8000000
set_option maxRecDepth 100000
def RB (w:WD)(b:Nat)(r:LV):Prop:=∃t,w.1[b]?=some (.cells r.toArray t (0,0))
section
variable {w w':WD}{b:Nat}{r:LV}
theorem RB.new (w:WD)(r:LV)(t:TypeId):RB (w.alloc (.cells r.toArray t)) w.1.size r:=⟨t,BE w _⟩
theorem RB.below (H:RB w b r){B:Nat}(hb:Below B w w')(hB:b<B):RB w' b r:=by
 obtain⟨t,H⟩:=H;exact⟨t,(hb.block b hB).trans H⟩
theorem RB.keep (H:RB w b r)(h:w'.1[b]?=w.1[b]?):RB w' b r:=by
 obtain⟨t,H⟩:=H;exact⟨t,h.trans H⟩
theorem RB.lt (H:RB w b r):b<w.1.size:=by
 obtain⟨t,H⟩:=H;exact (Array.getElem?_eq_some_iff.1 H).1
theorem RB.range (H:RB w b r):w.rangeAt b 0 r:=λj v d=>by
 obtain⟨t,H⟩:=H;rw[cell_of_row _ _ _ _ _ _ H,AT];simpa using d
theorem RB.there (H:RB w b r):w.there b 0 r.length:=λj d=>by
 obtain⟨t,H⟩:=H;refine⟨?_,by unfold World.frozen?;rw[H];simp⟩;rw[cell_of_row _ _ _ _ _ _ H,AT,Array.getElem?_eq_getElem (by simpa using d)];rfl
theorem RB.Oe {x0 x1 x2 x3:Value}(H:RB w b r)(h4:r.length=4):RB (w.setCells b 0 [x0,x1,x2,x3]) b [x0,x1,x2,x3]:=by
 obtain⟨t,H⟩:=H;match r,h4 with
 |[a0,a1,a2,a3],_=>exact⟨t,D6 _ (D6 _ (D6 _ (D6 _ H)))⟩
end
def zit:LV:=[.int .i64 0,.int .i64 0,.int .i64 0,.slice none 0 0]
def Qau:LV:=[.int .i64 0,.int .i64 0,.int .i64 0,.int .i64 0]
theorem qhu {w:WD}{b:Nat}{k:Kd}{V:OA}{p q:Nat}(H:RB w b (Vg k V p q)):(loadVar 84 ⟨b,0,none⟩).run prog w=.ok (.agg #[.int .i64 k.obj,.int .i64 k.kind,.int .i64 k.off,.slice V p q]) w:=
 run_loadVar_mid w b 0 84 _ _ H.range underlying84 rfl (by kernel_rfl)
theorem q96 {w:WD}{b:Nat}{x:Qk}(H:RB w b x.vs):(loadVar 159 ⟨b,0,none⟩).run prog w=.ok (.agg #[.int .i64 x.k.obj,.int .i64 x.k.kind,.int .i64 x.k.off,.int .i64 x.a]) w:=
 run_loadVar_mid w b 0 159 _ _ H.range underlying159 rfl (by kernel_rfl)
theorem q65 {e:Array Oper}{d:List Oper}{o:Oper}{a:Act}{w:WD}{Q:Exit->Act->WD->Prop}(A:o.guard=none)(x y:Operand)(f:o.op=Op.store 84 x y)
  (b:Nat) (B:a.eval x=.pointer (some ⟨b,0,none⟩)) (k:Kd) (V:OA) (p q:Nat) (D:a.eval y=.agg #[.int .i64 k.obj,.int .i64 k.kind,.int .i64 k.off,.slice V p q]) {r:LV} (H:RB w b r) (m:r.length=4)
  (u:∀w',RB w' b (Vg k V p q)->Turn (λg=>g=b) w w'->wpList prog e Q d (a.put o.dst undef) w'):wpList prog e Q (o::d) a w:=
 wpList_store_mid A _ x y f b 0 #[.int .i64 k.obj,.int .i64 k.kind,.int .i64 k.off,.slice V p q] B D (by have:=H.there;rw[m] at this;exact this) (by kernel_rfl) (by simp[Value.oneCell'])
  (u _ (H.Oe m) (Us (S:=λg=>g=b) rfl _ 0 w))
theorem q31 {e:Array Oper}{d:List Oper}{o:Oper}{a:Act}{w:WD}{Q:Exit->Act->WD->Prop}(u:o.guard=none)(x y:Operand)(f:o.op=Op.store 159 x y)
  (b:Nat) (A:a.eval x=.pointer (some ⟨b,0,none⟩)) (z:Qk) (B:a.eval y=.agg #[.int .i64 z.k.obj,.int .i64 z.k.kind,.int .i64 z.k.off,.int .i64 z.a]) {r:LV} (H:RB w b r) (m:r.length=4)
  (p:∀w',RB w' b z.vs->Turn (λg=>g=b) w w'->wpList prog e Q d (a.put o.dst undef) w'):wpList prog e Q (o::d) a w:=
 wpList_store_mid u _ x y f b 0 #[.int .i64 z.k.obj,.int .i64 z.k.kind,.int .i64 z.k.off,.int .i64 z.a] A B (by have:=H.there;rw[m] at this;exact this) (by kernel_rfl) (by simp[Value.oneCell'])
  (p _ (H.Oe m) (Us (S:=λg=>g=b) rfl _ 0 w))
theorem qwi (A:OA)(k c:Nat)(l:LU)(S R:LU)(E:Int)(B:Lc l=S)(y:Nj l=R)(u:Ir l=E)(w:WD)(h:Sl w A k c l)(F:k<=17592186044416) :
  Calls prog 149 #[.slice A k c] w λe w'=>∃f p c2,e=.returned (.tuple #[.string ⟨S.toArray⟩,.slice f p c2,.int .i64 E])/\Sl w' f p c2 R/\(∀d,f=some d->w.1.size<=d.block)/\Below w.1.size w w':=by
 subst B y u;by_cases g:Gt l 1
 ·have m:ttY l=true:=AL g;unfold Lc Nj Ir;rw[m,AA rfl,AA rfl,AA rfl];refine (qer A k c l w h F g).mono ?_;rintro e w' ⟨f,p,c2,rfl,own,D⟩;exact⟨_,_,_,rfl,own.sl,λd h=>(own.block d h).1,D⟩
 ·have m:ttY l=false:=AH g;unfold Lc Nj Ir;rw[m,AB (by simp),AB (by simp),AB (by simp)];refine (qgw A k c l w h g).mono ?_;rintro e w' ⟨rfl,rfl⟩;exact⟨_,_,_,rfl,G6 _,λd h=>(by cases h),AI _ _⟩
theorem qwj (A:OA)(k c:Nat)(l:LU)(V:Int)(R:LU)(E:Int)(y:Pm l=V)(u:Nh l=R)(p:Iq l=E)(w:WD)(h:Sl w A k c l)(D:k<=17592186044416) :
  Calls prog 54 #[.slice A k c,.int .i64 2] w λe w'=>∃f m c2,e=.returned (.tuple #[.int .i64 V,.slice f m c2,.int .i64 E])/\Sl w' f m c2 R/\(∀d,f=some d->w.1.size<=d.block)/\Below w.1.size w w':=by
 subst y u p;have H:=h.len;by_cases I:2<=k
 ·have g:t2Y l=true:=AL (by omega);unfold Pm Nh Iq;rw[g,AA rfl,AA rfl,AA rfl];refine (q4a A k c l 2 w h D (by omega) (by omega) (by omega)).mono ?_;rintro e w' ⟨F,J,G,rfl,own,B⟩;exact⟨_,_,_,rfl,own.sl,λd h=>(own.block d h).1,B⟩
 ·have g:t2Y l=false:=AH (by omega);unfold Pm Nh Iq;rw[g,AB (by simp),AB (by simp),AB (by simp)];refine (q82 A k c 2 w (by omega) (by omega) (by omega)).mono ?_;rintro e w' ⟨rfl,rfl⟩;exact⟨_,_,_,rfl,G6 _,λd h=>(by cases h),AI _ _⟩
def Qbz (l:LU)(w:WD)(e:Ending)(w':WD):Prop:=
 ∃V p q f g c2,e=.returned (.tuple #[.agg #[.int .i64 (Gx l).obj,.int .i64 (Gx l).kind,.int .i64 (Gx l).off,.slice V p q],.slice f g c2,.int .i64 0])/\Sl w' V p q (Lc (Wl l))/\Sl w' f g c2 (Nj (Wl l))/\
  (∀d,V=some d->w.1.size<=d.block)/\(∀d,f=some d->w.1.size<=d.block)/\Below w.1.size w w'
def Qby (zero:Value)(w:WD)(e:Ending)(w':WD):Prop:=
 ∃E:Int,E≠0/\e=.returned (.tuple #[zero,.slice none 0 0,.int .i64 E])/\Below w.1.size w w'
def Qcj:Value:=.agg #[.int .i64 0,.int .i64 0,.int .i64 0,.slice none 0 0]
def Qa4:Value:=.agg #[.int .i64 0,.int .i64 0,.int .i64 0,.int .i64 0]
def Lm (l:LU)(w:WD)(e:Ending)(w':WD):Prop:=(U8 l=0/\Ir (Wl l)=0/\Qbz l w e w')\/(¬(U8 l=0/\Ir (Wl l)=0)/\Qby Qcj w e w')
theorem Qch {l M B A:LU}{K:Kd}{w w':WD}(F:Gx l=K)(G:Wl l=M)(f:U8 l=0)(u:Lc M=B)(m:Nj M=A)(g:Ir M=0){V:OA}{p q:Nat}{e:OA}{y c2:Nat}(I:Sl w' V p q B)(J:Sl w' e y c2 A)
  (D:∀d,V=some d->w.1.size<=d.block) (E:∀d,e=some d->w.1.size<=d.block) (H:Below w.1.size w w') :
  Lm l w (.returned (.tuple #[.agg #[.int .i64 K.obj,.int .i64 K.kind,.int .i64 K.off,.slice V p q],.slice e y c2,.int .i64 0])) w':=by
 subst F G u m;exact .inl ⟨f,g,V,p,q,e,y,c2,rfl,I,J,D,E,H⟩
theorem qyc {l M:LU}{w w':WD}{f g E:Int}(p:Wl l=M)(d:U8 l=f)(e:Ir M=g)(h:¬(f=0/\g=0))(m:E≠0)(u:Below w.1.size w w') :
  Lm l w (.returned (.tuple #[.agg #[.int .i64 0,.int .i64 0,.int .i64 0,.slice none 0 0],.slice none 0 0,.int .i64 E])) w':=by
 subst p d e;exact .inr ⟨h,E,m,rfl,u⟩
theorem qe4 (A:OA)(n c:Nat)(l:LU)(w:WD)(h:Sl w A n c l)(hn:n<=100000) :
  Calls prog 118 #[.slice A n c] w λe w'=>Lm l w e w':=by
 have a5:=h.len;obtain⟨K,hK⟩:∃x,Gx l=x:=⟨_,rfl⟩;obtain⟨M,hM⟩:∃x,Wl l=x:=⟨_,rfl⟩;obtain⟨E1,a0⟩:∃x,U8 l=x:=⟨_,rfl⟩;obtain⟨U,F⟩:∃x,Lc M=x:=⟨_,rfl⟩;obtain⟨R2,a2⟩:∃x,Nj M=x:=⟨_,rfl⟩;obtain⟨E2,a1⟩:∃x,Ir M=x:=⟨_,rfl⟩;have b5:M.length<=100000:=by have:=qvk l;rw[hM] at this;omega
 have b0:U.length<=100000:=by have:=qyb M;rw[F] at this;omega
 have HK:=HI hK;have HM:=HI hM;have p:=HI a0;have R:=HI F;have Q:=HI a2;have u:=HI a1;clear hK hM a0 F a2 a1 a5;have R1:RB (w.alloc (.cells #[.int .i64 0,.int .i64 0,.int .i64 0,.slice none 0 0] 84)) w.1.size zit:=RB.new w zit _;have Y:Below w.1.size w (w.alloc (.cells #[.int .i64 0,.int .i64 0,.int .i64 0,.slice none 0 0] 84)):=Ql;go_enter func118,ntmps118
 go_wp2_with fail
 generalize w.alloc (.cells #[.int .i64 0,.int .i64 0,.int .i64 0,.slice none 0 0] 84)=w1 at R1 Y ⊢;refine (qh7 A n c l K M E1 HK.out HM.out p.out w1 (h.below Y) (by omega)).mono ?_;rintro e v ⟨A2,n2,c2,rfl,m,G⟩;have b7:n2<=100000:=by have:=m.len;omega
 have Z:Below v.1.size v (v.alloc (.cells #[.int .i64 K.obj,.int .i64 K.kind,.int .i64 K.off] 81)):=Ql;have K2:=KB.new v K.obj K.kind K.off 81;have y:=R1.below G R1.lt;have B2:=Y.trans (G.mono Y.size);have B:=y.below Z y.lt;have P:=B2.trans (Z.mono B2.size);have s3:=m.sl.below Z;have b8:w.1.size<v.1.size:=y.lt;clear y B2 R1 Y G m;by_cases d:E1=0
 ·subst d;go_wp2_with fail
  generalize v.alloc (.cells #[.int .i64 K.obj,.int .i64 K.kind,.int .i64 K.off] 81)=w3 at K2 B P s3 Z ⊢;refine (qwi A2 n2 c2 M U R2 E2 R.out Q.out u.out w3 s3 (by omega)).mono ?_;rintro e O ⟨A4,n4,c4,rfl,s4,a4,H⟩;have I:=B.below H B.lt;have K4:=K2.below H K2.lt;have B4:=P.trans (H.mono P.size);have a6:w.1.size<=w3.1.size:=P.size;have b9:w.1.size<w3.1.size:=B.lt;clear K2 B s3 Z;by_cases f:E2=0
  ·subst f;obtain⟨X,hX⟩:∃X,(⟨U.toArray⟩:ByteArray)=X:=⟨_,rfl⟩;have a3:X.data.toList=U:=by rw[<-hX]
   have b6:X.size<=100000:=by rw[<-hX];show U.toArray.size<=_;simpa using b0
   have b4:=Qbb X;have a7:=qbz O 5 X (by unfold maxLen;omega);have E:=q6j O 5 X;rw[a3] at a7;rw[hX];have k0:=K4.c0;have k1:=K4.c1;have k2:=K4.c2;have R5:=I.below E I.lt;have B5:=B4.trans (E.mono B4.size);have s5:=s4.below E;have zX:w.1.size<O.1.size:=I.lt;clear hX a3 I s4;go_wp2_with (first
    |(refine q65 rfl (.tmp 2) (.tmp 31) rfl w.1.size rfl K (some ⟨O.1.size,0,none⟩) X.size (grownCap O X.size 0 5) rfl R5 rfl ?_;intro w6 T D)
    |fail)
   have a9:∀g,q01 A4=some g->w3.1.size<=g:=λg J=>by
    cases A4 with
    |none=>cases J
    |some W=>have:=a4 W rfl;have e:W.block=g:=OI J;omega
   have a8:=a7.turned D (λg J e=>by have e1:O.1.size=g:=OI J;omega);have s6:=s5.turned D (λg J e=>by have:=a9 g J;omega);have B6:=B5.trans (D.Q9 R5.lt);refine bodyPost_ret (q77 Tryz.results118 rfl (qhu T)) rfl ?_;exact Qch HK.out HM.out p.out R.out Q.out u.out a8 s6 (λW h=>by injection h with h;rw[<-h];exact Nat.le_of_lt zX) (λW h=>AZ a6 (a4 W h)) B6
  ·have b2:decide (E2=0)=false:=AH f;have b3:(E2==0)=false:=by simp[f]
   go_wp2_with (first
    |(refine q65 rfl (.tmp 2) (.tmp 26) rfl w.1.size rfl ⟨0,0,0⟩ none 0 0 rfl I rfl ?_;intro w6 T D)
    |fail)
   refine bodyPost_ret (q77 Tryz.results118 rfl (qhu T)) rfl ?_;exact qyc HM.out p.out u.out (λh=>f h.2) f (B4.trans (D.Q9 I.lt))
 ·have b2:decide (E1=0)=false:=AH d;have b3:(E1==0)=false:=by simp[d]
  go_wp2_with (first
   |(refine q65 rfl (.tmp 2) (.tmp 16) rfl w.1.size rfl ⟨0,0,0⟩ none 0 0 rfl B rfl ?_;intro w6 T D)
   |fail)
  refine bodyPost_ret (q77 Tryz.results118 rfl (qhu T)) rfl ?_;exact qyc HM.out p.out u.out (λh=>d h.1) d (P.trans (D.Q9 B.lt))
def Qb0 (l:LU)(w:WD)(e:Ending)(w':WD):Prop:=
 ∃d g c2,e=.returned (.tuple #[.agg #[.int .i64 (Gx l).obj,.int .i64 (Gx l).kind,.int .i64 (Gx l).off,.int .i64 (Pm (Wl l))],.slice d g c2,.int .i64 0])/\Sl w' d g c2 (Nh (Wl l))/\
  (∀f,d=some f->w.1.size<=f.block)/\Below w.1.size w w'
def Lp (l:LU)(w:WD)(e:Ending)(w':WD):Prop:=(U8 l=0/\Iq (Wl l)=0/\Qb0 l w e w')\/(¬(U8 l=0/\Iq (Wl l)=0)/\Qby Qa4 w e w')
theorem Qci {l M u:LU}{K:Kd}{y:Int}{w w':WD}(D:Gx l=K)(E:Wl l=M)(e:U8 l=0)(m:Pm M=y)(g:Nh M=u)(f:Iq M=0){d:OA}{p c2:Nat}(G:Sl w' d p c2 u)
  (B:∀A,d=some A->w.1.size<=A.block) (F:Below w.1.size w w') :
  Lp l w (.returned (.tuple #[.agg #[.int .i64 K.obj,.int .i64 K.kind,.int .i64 K.off,.int .i64 y],.slice d p c2,.int .i64 0])) w':=by
 subst D E m g;exact .inl ⟨e,f,d,p,c2,rfl,G,B,F⟩
theorem qyd {l M:LU}{w w':WD}{f g E:Int}(p:Wl l=M)(d:U8 l=f)(e:Iq M=g)(h:¬(f=0/\g=0))(m:E≠0)(u:Below w.1.size w w') :
  Lp l w (.returned (.tuple #[.agg #[.int .i64 0,.int .i64 0,.int .i64 0,.int .i64 0],.slice none 0 0,.int .i64 E])) w':=by
 subst p d e;exact .inr ⟨h,E,m,rfl,u⟩
theorem qfl (A:OA)(n c:Nat)(l:LU)(w:WD)(h:Sl w A n c l)(hn:n<=100000) :
  Calls prog 120 #[.slice A n c] w λe w'=>Lp l w e w':=by
 have X:=h.len;obtain⟨K,hK⟩:∃x,Gx l=x:=⟨_,rfl⟩;obtain⟨M,hM⟩:∃x,Wl l=x:=⟨_,rfl⟩;obtain⟨Z,Q⟩:∃x,U8 l=x:=⟨_,rfl⟩;obtain⟨S2,U⟩:∃x,Pm M=x:=⟨_,rfl⟩;obtain⟨R2,T⟩:∃x,Nh M=x:=⟨_,rfl⟩;obtain⟨E2,R⟩:∃x,Iq M=x:=⟨_,rfl⟩;have a3:M.length<=100000:=by have:=qvk l;rw[hM] at this;omega
 have HK:=HI hK;have HM:=HI hM;have p:=HI Q;have I:=HI U;have H:=HI T;have u:=HI R;clear hK hM Q U T R X;have R1:RB (w.alloc (.cells #[.int .i64 0,.int .i64 0,.int .i64 0,.int .i64 0] 159)) w.1.size Qau:=RB.new w Qau _;have O:Below w.1.size w (w.alloc (.cells #[.int .i64 0,.int .i64 0,.int .i64 0,.int .i64 0] 159)):=Ql;go_enter func120,ntmps120
 go_wp2_with fail
 generalize w.alloc (.cells #[.int .i64 0,.int .i64 0,.int .i64 0,.int .i64 0] 159)=w1 at R1 O ⊢;refine (qh7 A n c l K M Z HK.out HM.out p.out w1 (h.below O) (by omega)).mono ?_;rintro e v ⟨A2,n2,c2,rfl,m,D⟩;have a4:n2<=100000:=by have:=m.len;omega
 have P:Below v.1.size v (v.alloc (.cells #[.int .i64 K.obj,.int .i64 K.kind,.int .i64 K.off] 81)):=Ql;have K2:=KB.new v K.obj K.kind K.off 81;have y:=R1.below D R1.lt;have B2:=O.trans (D.mono O.size);have B:=y.below P y.lt;have G:=B2.trans (P.mono B2.size);have s3:=m.sl.below P;have a5:w.1.size<v.1.size:=y.lt;clear y B2 R1 O D m;by_cases d:Z=0
 ·subst d;go_wp2_with fail
  generalize v.alloc (.cells #[.int .i64 K.obj,.int .i64 K.kind,.int .i64 K.off] 81)=w3 at K2 B G s3 P ⊢;refine (qwj A2 n2 c2 M S2 R2 E2 I.out H.out u.out w3 s3 (by omega)).mono ?_;rintro e w4 ⟨A4,n4,c4,rfl,s4,W,E⟩;have R4:=B.below E B.lt;have K4:=K2.below E K2.lt;have B4:=G.trans (E.mono G.size);have Y:w.1.size<=w3.1.size:=G.size;have a6:w.1.size<w3.1.size:=B.lt;clear K2 B s3 P;by_cases f:E2=0
  ·subst f;have k0:=K4.c0;have k1:=K4.c1;have k2:=K4.c2;go_wp2_with (first
    |(refine q31 rfl (.tmp 2) (.tmp 30) rfl w.1.size rfl ⟨K,S2⟩ rfl R4 rfl ?_;intro w6 J F)
    |fail)
   have a0:∀g,q01 A4=some g->w3.1.size<=g:=λg hg=>by
    cases A4 with
    |none=>cases hg
    |some ad=>have:=W ad rfl;have e:ad.block=g:=OI hg;omega
   have s6:=s4.turned F (λg hg e=>by have:=a0 g hg;omega);have B6:=B4.trans (F.Q9 R4.lt);refine bodyPost_ret (q77 Tryz.results120 rfl (q96 J)) rfl ?_;exact Qci HK.out HM.out p.out I.out H.out u.out s6 (λad h=>AZ Y (W ad h)) B6
  ·have a1:decide (E2=0)=false:=AH f;have a2:(E2==0)=false:=by simp[f]
   go_wp2_with (first
    |(refine q31 rfl (.tmp 2) (.tmp 26) rfl w.1.size rfl ⟨⟨0,0,0⟩,0⟩ rfl R4 rfl ?_;intro w6 J F)
    |fail)
   refine bodyPost_ret (q77 Tryz.results120 rfl (q96 J)) rfl ?_;exact qyd HM.out p.out u.out (λh=>f h.2) f (B4.trans (F.Q9 R4.lt))
 ·have a1:decide (Z=0)=false:=AH d;have a2:(Z==0)=false:=by simp[d]
  go_wp2_with (first
   |(refine q31 rfl (.tmp 2) (.tmp 16) rfl w.1.size rfl ⟨⟨0,0,0⟩,0⟩ rfl B rfl ?_;intro w6 J F)
   |fail)
  refine bodyPost_ret (q77 Tryz.results120 rfl (q96 J)) rfl ?_;exact qyd HM.out p.out u.out (λh=>d h.1) d (G.trans (F.Q9 B.lt))
theorem qvm {r:LU}(h:U8 r=0):(Wl r).length+9<=r.length:=by
 unfold U8 at h;split at h
 ·rename_i d;have:=(AK (BN ..▸d).1);unfold Wl;rw[AA d,AS];omega
 ·split at h<;>omega
theorem qye {r:LU}(h:Ir r=0):(Nj r).length+1<=r.length:=by
 unfold Ir at h;split at h
 ·rename_i d;have:=(AK d).1;unfold Nj Uz;rw[AA d,AS];omega
 ·omega
theorem qyf {r:LU}(h:Iq r=0):(Nh r).length+1<=r.length:=by
 unfold Iq at h;split at h
 ·rename_i d;have:=AK d;unfold Nh;rw[AA d,AS];omega
 ·omega
theorem qwk {xs:List Qb}{r:LU}(h1:U8 r=0)(h2:Ir (Wl r)=0):Xa ⟨0,xs,[]⟩ r=some (⟨0,xs++[⟨Gx r,Lc (Wl r)⟩],[]⟩,Nj (Wl r)):=by
 unfold Xa;rw[AA h1,AA rfl,AA h2]
theorem qlw {xs:List Qb}{r:LU}(h:¬(U8 r=0/\Ir (Wl r)=0)):Xa ⟨0,xs,[]⟩ r=none:=by
 unfold Xa;by_cases h1:U8 r=0
 ·rw[AA h1,AA rfl,AB (λh2=>h ⟨h1,h2⟩)]
 ·rw[AB h1]
theorem qt2 {l:Int}(d:l≠0){xs:List Qk}{r:LU}(h1:U8 r=0)(h2:Iq (Wl r)=0):Xa ⟨l,[],xs⟩ r=some (⟨l,[],xs++[⟨Gx r,Pm (Wl r)⟩]⟩,Nh (Wl r)):=by
 unfold Xa;rw[AA h1,AB d,AA h2]
theorem qhv {l:Int}(d:l≠0){xs:List Qk}{r:LU}(h:¬(U8 r=0/\Iq (Wl r)=0)):Xa ⟨l,[],xs⟩ r=none:=by
 unfold Xa;by_cases h1:U8 r=0
 ·rw[AA h1,AB d,AB (λh2=>h ⟨h1,h2⟩)]
 ·rw[AB h1]
def Lj (A:OA)(body:LU)(cnt:Nat)(w:WD)(e:Ending)(w':WD):Prop:=
 (∃p r f c1 d m c2,Js 0 body cnt=some (⟨0,p,[]⟩,r)/\e=.returned (.tuple #[.slice f cnt c1,.slice d m c2,.int .i64 0])/\cnt<=1000/\J5 w' w.1.size f cnt c1 p/\Sl w' d m c2 r/\(∀g,q01 d=some g->q01 A=some g\/w.1.size<=g)/\Below w.1.size w w')\/
 (∃E:Int,E≠0/\Js 0 body cnt=none/\e=.returned (.tuple #[.slice none 0 0,.slice none 0 0,.int .i64 E])/\Below w.1.size w w')
def Ll (l:Int)(A:OA)(body:LU)(cnt:Nat)(w:WD)(e:Ending)(w':WD):Prop:=
 (∃p r f c1 d m c2,Js l body cnt=some (⟨l,[],p⟩,r)/\e=.returned (.tuple #[.slice f cnt c1,.slice d m c2,.int .i64 0])/\cnt<=1000/\Qz w' w.1.size 159 4 f cnt c1 (p.map Qk.vs)/\Sl w' d m c2 r/\(∀g,q01 d=some g->q01 A=some g\/w.1.size<=g)/\Below w.1.size w w')\/
 (∃E:Int,E≠0/\Js l body cnt=none/\e=.returned (.tuple #[.slice none 0 0,.slice none 0 0,.int .i64 E])/\Below w.1.size w w')
theorem qoc {A:OA}{body:LU}{cnt:Nat}{w w':WD}{xs:List Qb}{r:LU}{e:OA}{c1:Nat}{d:OA}{f c2:Nat}(h1:Js 0 body cnt=some (⟨0,xs,[]⟩,r))(h0:cnt<=1000)(h2:J5 w' w.1.size e cnt c1 xs)(m:Sl w' d f c2 r)(p:∀g,q01 d=some g->q01 A=some g\/w.1.size<=g)(u:Below w.1.size w w') :
  Lj A body cnt w (.returned (.tuple #[.slice e cnt c1,.slice d f c2,.int .i64 0])) w':=.inl ⟨xs,r,e,c1,d,f,c2,h1,rfl,h0,h2,m,p,u⟩
theorem qod {A:OA}{body:LU}{cnt:Nat}{w w':WD}{E:Int}(d:E≠0)(h1:Js 0 body cnt=none)(e:Below w.1.size w w') :
  Lj A body cnt w (.returned (.tuple #[.slice none 0 0,.slice none 0 0,.int .i64 E])) w':=.inr ⟨E,d,h1,rfl,e⟩
theorem qoe {l:Int}{A:OA}{body:LU}{cnt:Nat}{w w':WD}{xs:List Qk}{r:LU}{e:OA}{c1:Nat}{d:OA}{f c2:Nat}(h1:Js l body cnt=some (⟨l,[],xs⟩,r))(h0:cnt<=1000)(h2:Qz w' w.1.size 159 4 e cnt c1 (xs.map Qk.vs))(m:Sl w' d f c2 r)(p:∀g,q01 d=some g->q01 A=some g\/w.1.size<=g)(u:Below w.1.size w w') :
  Ll l A body cnt w (.returned (.tuple #[.slice e cnt c1,.slice d f c2,.int .i64 0])) w':=.inl ⟨xs,r,e,c1,d,f,c2,h1,rfl,h0,h2,m,p,u⟩
theorem qof {l:Int}{A:OA}{body:LU}{cnt:Nat}{w w':WD}{E:Int}(d:E≠0)(h1:Js l body cnt=none)(e:Below w.1.size w w') :
  Ll l A body cnt w (.returned (.tuple #[.slice none 0 0,.slice none 0 0,.int .i64 E])) w':=.inr ⟨E,d,h1,rfl,e⟩
theorem qlx (body:LU)(cnt:Nat)(A:OA)(k c:Nat)(w:WD)(h:Sl w A k c body)(hk:k<=1000)(d5:cnt<=100000) :
  Calls prog 117 #[.slice A k c,.int .i64 (cnt:Int),.func (.func 118) #[] #[]] w λe w'=>Lj A body cnt w e w':=by
 go_enter func117,ntmps117
 go_wp2_with fail
 go_loopw [0,9,14] (λt0 t9 a2 wr=>∃(j:Nat) (xs:List Qb) (r:LU) (Rr:OA) (p q:Nat) (Q:OA) (c':Nat),j<=cnt/\a2=.int .i64 (j:Int)/\t0=.slice Rr p q/\t9=.slice Q j c'/\
  Js 0 body j=some (⟨0,xs,[]⟩,r)/\Sl wr Rr p q r/\p+10*j<=k/\(r≠[]->∀g,q01 Rr=some g->q01 Q≠some g)/\(∀g,q01 Rr=some g->q01 A=some g\/w.1.size<=g)/\J5 wr w.1.size Q j c' xs/\Below w.1.size w wr) (λ_ _ a2 _=>cnt-(intOf a2).toNat)
 case atStart=>exact⟨0,[],body,A,k,c,none,0,AW _,rfl,rfl,rfl,rfl,h,by omega,(λ_ _ _ h=>by cases h),(λg d=>.inl d),P6 _ _,AI _ _⟩
 case round=>
  obtain⟨j,xs,r,Rr,p,q,Q,c',hj,rfl,rfl,rfl,P,M,hp,a7,I,f,W⟩:=hrel;by_cases d1:j<cnt
  ·have m:=HI (q4m 0 body j _ r P);have J:∀x,Js 0 body (j+1)=x->x=none->Js 0 body cnt=none:=λx h1 h2=>qa5 _ _ _ _ (h1.trans h2) d1
   have y:=HI J;clear J P;have u:∀g,q01 Q=some g->g<wr.1.size:=λg d=>(f.Qc g d).2
   have F:∀g,q01 Q=some g->w.1.size<=g:=λg d=>(f.Qc g d).1
   have d3:=M.len;go_wp2_with fail
   refine (qe4 Rr p q r wr M (by omega)).mono ?_;rintro e v (⟨h1,h2,b3⟩|⟨a9,E,hE,rfl,D⟩)
   ·have Z:=qvm h1;have a0:=qye h2;have a3:=HI (qwk (xs:=xs) h1 h2);have b0:=HI (m.out.trans a3.out);clear m a3 y h1 h2;obtain⟨V,G,H,A2,n2,c2,rfl,a1,s2,fV,f2,D⟩:=b3;obtain⟨S,hS⟩:∃S,Lc (Wl r)=S:=⟨_,rfl⟩;obtain⟨R2,X⟩:∃S,Nj (Wl r)=S:=⟨_,rfl⟩;rw[hS] at a1;obtain⟨K,hK⟩:∃K,Gx r=K:=⟨_,rfl⟩;have d0:=s2.len;have d2:n2+10*(j+1)<=k:=by omega
    rw[X] at s2;have b1:Js 0 body (j+1)=some (⟨0,xs++[⟨K,S⟩],[]⟩,R2):=by rw[b0.out,hK,hS,X]
    have b8:=HI b1;clear b1 b0;rw[hK];clear hK hS X d0 Z a0 d3 hp;have bY:Below v.1.size v ((v.alloc (.cells #[.int .i64 K.obj,.int .i64 K.kind,.int .i64 K.off,.slice V G H] 84)).alloc (.cells #[.int .i64 K.obj,.int .i64 K.kind,.int .i64 K.off,.slice V G H] 84)):=(Ql).alloc (by simp) _;have U:Jy ((v.alloc (.cells #[.int .i64 K.obj,.int .i64 K.kind,.int .i64 K.off,.slice V G H] 84)).alloc (.cells #[.int .i64 K.obj,.int .i64 K.kind,.int .i64 K.off,.slice V G H] 84)) 4 (some ⟨v.1.size+1,0,none⟩) 1 1 [Vg K V G H]:=by
     have:=(q1n (v.alloc (.cells #[.int .i64 K.obj,.int .i64 K.kind,.int .i64 K.off,.slice V G H] 84)) 84 4 (Vg K V G H) _ rfl rfl).Um (by omega);rwa [BH] at this
    have d4:wr.1.size<=v.1.size:=D.size;have b2:w.1.size<=wr.1.size:=W.size;have T:=(f.below D).below bY;have s3:=s2.below bY;have W3:=W.trans ((D.trans (bY.mono D.size)).mono W.size);have zY:w.1.size<=((v.alloc (.cells #[.int .i64 K.obj,.int .i64 K.kind,.int .i64 K.off,.slice V G H] 84)).alloc (.cells #[.int .i64 K.obj,.int .i64 K.kind,.int .i64 K.off,.slice V G H] 84)).1.size:=AZ (AZ b2 d4) bY.size;have d6:((v.alloc (.cells #[.int .i64 K.obj,.int .i64 K.kind,.int .i64 K.off,.slice V G H] 84)).alloc (.cells #[.int .i64 K.obj,.int .i64 K.kind,.int .i64 K.off,.slice V G H] 84)).1.size=v.1.size+2:=by simp
    have R:R2≠[]->∀g,q01 A2=some g->g<v.1.size:=λhl g d=>s2.Qc hl g d
    have O:∀g,q01 A2=some g->wr.1.size<=g:=λg d=>by
     cases A2 with
     |none=>cases d
     |some ad=>have:=f2 ad rfl;have e:ad.block=g:=OI d;omega
    have b6:=a1.below bY;have b4:S≠[]->∀g,q01 V=some g->w.1.size<=g/\q01 Q≠some g:=λ_ g d=>by
     cases V with
     |none=>cases d
     |some ad=>
      have h1:=fV ad rfl;have h2:ad.block=g:=OI d;exact⟨by omega,λe=>by have:=u g e;omega⟩
    have c9:j<=1000:=by omega
    clear I f M s2 W D a7 a1 fV f2;go_wp2_with (first
     |(at_builtin;refine q5w rfl _ _ rfl w.1.size Q j c' xs rfl T (some ⟨v.1.size+1,0,none⟩) 1 ⟨K,S⟩ V G H rfl U b6 b4 (AZ c9 (by decide)) zY ?_)
     |fail)
    intro A6 c6 v6 b5 T7 a4;have s7:=s3.turned' T7 (λ_ g d e=>by have h1:=u g e;have h2:=O g d;omega);have W7:=W3.trans (T7.below (B:=w.1.size) (λx hx=>F x hx) zY);have a8:R2≠[]->∀g,q01 A2=some g->q01 A6≠some g:=λhl g d e=>by
     have h1:=R hl g d;have h2:=O g d;rcases a4 with h3|h3
     ·have:=u g (h3.symm.trans e);omega
     ·rw[h3] at e;have:=OI e;omega
    have Y:∀g,q01 A2=some g->q01 A=some g\/w.1.size<=g:=λg d=>.inr (AZ b2 (O g d))
    clear T s3 W3 U bY b6 b4 u F O R a4;go_wp2;exact⟨⟨j+1,xs++[⟨K,S⟩],R2,A2,n2,c2,A6,c6,by omega,by go_num,rfl,rfl,b8.out,s7,d2,a8,Y,b5,W7⟩,by simp[intOf];omega⟩
   ·have a6:=HI (y.out _ m.out (qlw a9));have a5:=W.trans (D.mono W.size);have d7:decide (E=0)=false:=AH hE;have d8:(E==0)=false:=by simp[hE]
    have b9:Below w.1.size w (v.alloc (.cells #[.int .i64 0,.int .i64 0,.int .i64 0,.slice none 0 0] 84)):=a5.alloc a5.size _;clear I m y a9 f M a7 u F;unfold Qcj;go_wp2;go_ret3;exact qod hE a6.out b9
  ·obtain rfl:j=cnt:=by omega
   have b7:=HI P;clear P;go_wp2;go_ret3;exact qoc b7.out (by omega) f M I W
theorem qly (l:Int)(hl:l≠0)(body:LU)(cnt:Nat)(A:OA)(k c:Nat)(w:WD)(h:Sl w A k c body)(hk:k<=1000)(d3:cnt<=100000) :
  Calls prog 119 #[.slice A k c,.int .i64 (cnt:Int),.func (.func 120) #[] #[]] w λe w'=>Ll l A body cnt w e w':=by
 go_enter func119,ntmps119
 go_wp2_with fail
 go_loopw [0,9,14] (λt0 t9 a3 wr=>∃(j:Nat) (W:List Qk) (r:LU) (Rr:OA) (p q:Nat) (X:OA) (c':Nat),j<=cnt/\a3=.int .i64 (j:Int)/\t0=.slice Rr p q/\t9=.slice X j c'/\
  Js l body j=some (⟨l,[],W⟩,r)/\Sl wr Rr p q r/\p+10*j<=k/\(r≠[]->∀g,q01 Rr=some g->q01 X≠some g)/\(∀g,q01 Rr=some g->q01 A=some g\/w.1.size<=g)/\Qz wr w.1.size 159 4 X j c' (W.map Qk.vs)/\Below w.1.size w wr) (λ_ _ a3 _=>cnt-(intOf a3).toNat)
 case atStart=>exact⟨0,[],body,A,k,c,none,0,AW _,rfl,rfl,rfl,rfl,h,by omega,(λ_ _ _ h=>by cases h),(λg m=>.inl m),I5 _ _ _ _,AI _ _⟩
 case round=>
  obtain⟨j,W,r,Rr,p,q,X,c',hj,rfl,rfl,rfl,Q,M,hp,a8,I,d,Y⟩:=hrel;by_cases c9:j<cnt
  ·have f:=HI (q4m l body j _ r Q);have J:∀x,Js l body (j+1)=x->x=none->Js l body cnt=none:=λx h1 h2=>qa5 _ _ _ _ (h1.trans h2) c9
   have D:=HI J;clear J Q;have H:∀g,q01 X=some g->g<wr.1.size:=λg m=>(d.Qc g m).2
   have G:∀g,q01 X=some g->w.1.size<=g:=λg m=>(d.Qc g m).1
   have d1:=M.len;go_wp2_with fail
   refine (qfl Rr p q r wr M (by omega)).mono ?_;rintro e v (⟨h1,h2,b4⟩|⟨b0,E,hE,rfl,F⟩)
   ·have a1:=qvm h1;have a2:=qyf h2;have a4:=HI (qt2 hl (xs:=W) h1 h2);have b1:=HI (f.out.trans a4.out);clear f a4 D h1 h2;obtain⟨A2,n2,c2,rfl,s2,f2,F⟩:=b4;obtain⟨V,hS⟩:∃S,Pm (Wl r)=S:=⟨_,rfl⟩;obtain⟨R2,Z⟩:∃S,Nh (Wl r)=S:=⟨_,rfl⟩;obtain⟨K,hK⟩:∃K,Gx r=K:=⟨_,rfl⟩;have b9:=s2.len;have d0:n2+10*(j+1)<=k:=by omega
    rw[Z] at s2;have b2:Js l body (j+1)=some (⟨l,[],W++[⟨K,V⟩]⟩,R2):=by rw[b1.out,hK,hS,Z]
    have b6:=HI b2;clear b2 b1;rw[hK,hS];clear hK hS Z b9 a1 a2 d1 hp;have bY:Below v.1.size v ((v.alloc (.cells #[.int .i64 K.obj,.int .i64 K.kind,.int .i64 K.off,.int .i64 V] 159)).alloc (.cells #[.int .i64 K.obj,.int .i64 K.kind,.int .i64 K.off,.int .i64 V] 159)):=(Ql).alloc (by simp) _;have U:Jy ((v.alloc (.cells #[.int .i64 K.obj,.int .i64 K.kind,.int .i64 K.off,.int .i64 V] 159)).alloc (.cells #[.int .i64 K.obj,.int .i64 K.kind,.int .i64 K.off,.int .i64 V] 159)) 4 (some ⟨v.1.size+1,0,none⟩) 1 1 [(⟨K,V⟩:Qk).vs]:=by
     have:=(q1n (v.alloc (.cells #[.int .i64 K.obj,.int .i64 K.kind,.int .i64 K.off,.int .i64 V] 159)) 159 4 ((⟨K,V⟩:Qk).vs) _ rfl rfl).Um (by omega);rwa [BH] at this
    have d2:wr.1.size<=v.1.size:=F.size;have b3:w.1.size<=wr.1.size:=Y.size;have T:=(d.below F).below bY;have s3:=s2.below bY;have W3:=Y.trans ((F.trans (bY.mono F.size)).mono Y.size);have zY:w.1.size<=((v.alloc (.cells #[.int .i64 K.obj,.int .i64 K.kind,.int .i64 K.off,.int .i64 V] 159)).alloc (.cells #[.int .i64 K.obj,.int .i64 K.kind,.int .i64 K.off,.int .i64 V] 159)).1.size:=AZ (AZ b3 d2) bY.size;have d4:((v.alloc (.cells #[.int .i64 K.obj,.int .i64 K.kind,.int .i64 K.off,.int .i64 V] 159)).alloc (.cells #[.int .i64 K.obj,.int .i64 K.kind,.int .i64 K.off,.int .i64 V] 159)).1.size=v.1.size+2:=by simp
    have R:R2≠[]->∀g,q01 A2=some g->g<v.1.size:=λhl g m=>s2.Qc hl g m
    have P:∀g,q01 A2=some g->wr.1.size<=g:=λg m=>by
     cases A2 with
     |none=>cases m
     |some ad=>have:=f2 ad rfl;have e:ad.block=g:=OI m;omega
    have b8:j+1<=1000000:=by omega
    have one:∀y∈[(⟨K,V⟩:Qk).vs],∀u∈y,u.oneCell'=true:=by
     intro y hy u hu;obtain rfl:y=(⟨K,V⟩:Qk).vs:=by simpa using hy
     simp[Qk.vs] at hu;rcases hu with rfl|rfl|rfl|rfl<;>rfl
    clear I d M s2 Y F a8 f2;go_wp2_with (first
     |(at_builtin;refine q47 _ Qah rfl _ _ rfl w.1.size X j c' (W.map Qk.vs) rfl T (some ⟨v.1.size+1,0,none⟩) 1 1 [(⟨K,V⟩:Qk).vs] rfl U (by omega) one b8 (by omega) zY ?_)
     |fail)
    intro A6 c6 v6 O T7 a5 _;have O:Qz v6 w.1.size 159 4 A6 (j+1) c6 ((W++[(⟨K,V⟩:Qk)]).map Qk.vs):=by rw[List.map_append];exact O
    have s7:=s3.turned' T7 (λ_ g m e=>by have h1:=H g e;have h2:=P g m;omega);have W7:=W3.trans (T7.below (B:=w.1.size) (λx hx=>G x hx) zY);have a9:R2≠[]->∀g,q01 A2=some g->q01 A6≠some g:=λhl g m e=>by
     have h1:=R hl g m;have h2:=P g m;rcases a5 with h3|h3
     ·have:=H g (h3.symm.trans e);omega
     ·rw[h3] at e;have:=OI e;omega
    have a0:∀g,q01 A2=some g->q01 A=some g\/w.1.size<=g:=λg m=>.inr (AZ b3 (P g m))
    clear T s3 W3 U bY one H G P R a5;go_wp2;exact⟨⟨j+1,W++[⟨K,V⟩],R2,A2,n2,c2,A6,c6,by omega,by go_num,rfl,rfl,b6.out,s7,d0,a9,a0,O,W7⟩,by simp[intOf];omega⟩
   ·have a7:=HI (D.out _ f.out (qhv hl b0));have a6:=Y.trans (F.mono Y.size);have d5:decide (E=0)=false:=AH hE;have d6:(E==0)=false:=by simp[hE]
    have b7:Below w.1.size w (v.alloc (.cells #[.int .i64 0,.int .i64 0,.int .i64 0,.int .i64 0] 159)):=a6.alloc a6.size _;clear I f D b0 d M a8 H G;unfold Qa4;go_wp2;go_ret3;exact qof hE a7.out b7
  ·obtain rfl:j=cnt:=by omega
   have b5:=HI Q;clear Q;go_wp2;go_ret3;exact qoe b5.out (by omega) d M I Y
