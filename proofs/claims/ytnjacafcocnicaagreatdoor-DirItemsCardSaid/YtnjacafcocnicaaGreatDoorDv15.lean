/- The code's node: takeItem and takeKid -/
import Derived.Test.YtnjacafcocnicaaGreatDoorDv10
namespace Go.Proofs.YtnjacafcocnicaaGreatDoor
open Go Go.RowKit Go.Proofs Tryz
set_option maxHeartbeats 8000000
set_option maxRecDepth 100000
def RB (w:WD)(b:Nat)(r:LV):Prop:=∃t,w.1[b]?=some (.cells r.toArray t (0,0))
section
variable {w w':WD}{b:Nat}{r:LV}
theorem RB.new (w:WD)(r:LV)(t:TypeId):RB (w.alloc (.cells r.toArray t)) w.1.size r:=⟨t,BE w _⟩
theorem RB.below (H:RB w b r){B:Nat}(hb:Below B w w')(hB:b<B):RB w' b r:=by
 obtain⟨t,H⟩:=H;exact⟨t,(hb.block b hB).trans H⟩
theorem RB.keep (H:RB w b r)(h:w'.1[b]?=w.1[b]?):RB w' b r:=by
 obtain⟨t,H⟩:=H;exact⟨t,h.trans H⟩
theorem RB.lt (H:RB w b r):b<w.1.size:=by
 obtain⟨t,H⟩:=H;exact (Array.getElem?_eq_some_iff.1 H).1
theorem RB.range (H:RB w b r):w.rangeAt b 0 r:=λj v e=>by
 obtain⟨t,H⟩:=H;rw[cell_of_row _ _ _ _ _ _ H,AT];simpa using e
theorem RB.there (H:RB w b r):w.there b 0 r.length:=λj e=>by
 obtain⟨t,H⟩:=H;refine⟨?_,by unfold World.frozen?;rw[H];simp⟩;rw[cell_of_row _ _ _ _ _ _ H,AT,Array.getElem?_eq_getElem (by simpa using e)];rfl
theorem RB.Rj {x0 x1 x2 x3:Value}(H:RB w b r)(h4:r.length=4):RB (w.setCells b 0 [x0,x1,x2,x3]) b [x0,x1,x2,x3]:=by
 obtain⟨t,H⟩:=H;match r,h4 with
 |[a0,a1,a2,a3],_=>exact⟨t,Fv _ (Fv _ (Fv _ (Fv _ H)))⟩
end
def zit:LV:=[.int .i64 0,.int .i64 0,.int .i64 0,.slice none 0 0]
def Qbd:LV:=[.int .i64 0,.int .i64 0,.int .i64 0,.int .i64 0]
theorem qj6 {w:WD}{b:Nat}{k:Kd}{V:OA}{p q:Nat}(H:RB w b (Vx k V p q)):(loadVar 50 ⟨b,0,none⟩).run prog w=.ok (.agg #[.int .i64 k.obj,.int .i64 k.kind,.int .i64 k.off,.slice V p q]) w:=
 run_loadVar_mid w b 0 50 _ _ H.range underlying50 rfl (by kernel_rfl)
theorem q9t {w:WD}{b:Nat}{x:Qn}(H:RB w b x.vs):(loadVar 125 ⟨b,0,none⟩).run prog w=.ok (.agg #[.int .i64 x.k.obj,.int .i64 x.k.kind,.int .i64 x.k.off,.int .i64 x.a]) w:=
 run_loadVar_mid w b 0 125 _ _ H.range underlying125 rfl (by kernel_rfl)
theorem q6c {f:Array Oper}{e:List Oper}{o:Oper}{a:Act}{w:WD}{Q:Exit->Act->WD->Prop}(B:o.guard=none)(x y:Operand)(m:o.op=Op.store 50 x y)
  (b:Nat) (D:a.eval x=.pointer (some ⟨b,0,none⟩)) (k:Kd) (V:OA) (p q:Nat) (E:a.eval y=.agg #[.int .i64 k.obj,.int .i64 k.kind,.int .i64 k.off,.slice V p q]) {r:LV} (H:RB w b r) (u:r.length=4)
  (A:∀w',RB w' b (Vx k V p q)->Turn (λg=>g=b) w w'->wpList prog f Q e (a.put o.dst undef) w'):wpList prog f Q (o::e) a w:=
 wpList_store_mid B _ x y m b 0 #[.int .i64 k.obj,.int .i64 k.kind,.int .i64 k.off,.slice V p q] D E (by have:=H.there;rw[u] at this;exact this) (by kernel_rfl) (by simp[Value.oneCell'])
  (A _ (H.Rj u) (Vp (S:=λg=>g=b) rfl _ 0 w))
theorem q3h {f:Array Oper}{e:List Oper}{o:Oper}{a:Act}{w:WD}{Q:Exit->Act->WD->Prop}(u:o.guard=none)(x y:Operand)(m:o.op=Op.store 125 x y)
  (b:Nat) (A:a.eval x=.pointer (some ⟨b,0,none⟩)) (z:Qn) (B:a.eval y=.agg #[.int .i64 z.k.obj,.int .i64 z.k.kind,.int .i64 z.k.off,.int .i64 z.a]) {r:LV} (H:RB w b r) (p:r.length=4)
  (q:∀w',RB w' b z.vs->Turn (λg=>g=b) w w'->wpList prog f Q e (a.put o.dst undef) w'):wpList prog f Q (o::e) a w:=
 wpList_store_mid u _ x y m b 0 #[.int .i64 z.k.obj,.int .i64 z.k.kind,.int .i64 z.k.off,.int .i64 z.a] A B (by have:=H.there;rw[p] at this;exact this) (by kernel_rfl) (by simp[Value.oneCell'])
  (q _ (H.Rj p) (Vp (S:=λg=>g=b) rfl _ 0 w))
theorem qzo (A:OA)(k c:Nat)(l:LU)(S R:LU)(E:Int)(D:Oh l=S)(B:Pv l=R)(y:Nl l=E)(w:WD)(h:Sl w A k c l)(G:k<=17592186044416) :
  Calls prog 92 #[.slice A k c] w λe w'=>∃m u c2,e=.returned (.tuple #[.string ⟨S.toArray⟩,.slice m u c2,.int .i64 E])/\Sl w' m u c2 R/\(∀f,m=some f->w.1.size<=f.block)/\Below w.1.size w w':=by
 subst D B y;by_cases p:Yt l 1
 ·have q:ttY l=true:=AL p;unfold Oh Pv Nl;rw[q,AA rfl,AA rfl,AA rfl];refine (q79 A k c l w h G p).mono ?_;rintro e w' ⟨m,u,c2,rfl,own,F⟩;exact⟨_,_,_,rfl,own.sl,λf h=>(own.block f h).1,F⟩
 ·have q:ttY l=false:=AH p;unfold Oh Pv Nl;rw[q,AB (by simp),AB (by simp),AB (by simp)];refine (q9a A k c l w h p).mono ?_;rintro e w' ⟨rfl,rfl⟩;exact⟨_,_,_,rfl,Il _,λf h=>(by cases h),AI _ _⟩
theorem qzp (A:OA)(k c:Nat)(l:LU)(V:Int)(R:LU)(E:Int)(B:Ti l=V)(y:Pq l=R)(u:Nk l=E)(w:WD)(h:Sl w A k c l)(F:k<=17592186044416) :
  Calls prog 154 #[.slice A k c,.int .i64 2] w λe w'=>∃m q c2,e=.returned (.tuple #[.int .i64 V,.slice m q c2,.int .i64 E])/\Sl w' m q c2 R/\(∀f,m=some f->w.1.size<=f.block)/\Below w.1.size w w':=by
 subst B y u;have I:=h.len;by_cases J:2<=k
 ·have p:t2Y l=true:=AL (by omega);unfold Ti Pq Nk;rw[p,AA rfl,AA rfl,AA rfl];refine (q5n A k c l 2 w h F (by omega) (by omega) (by omega)).mono ?_;rintro e w' ⟨G,K,H,rfl,own,D⟩;exact⟨_,_,_,rfl,own.sl,λf h=>(own.block f h).1,D⟩
 ·have p:t2Y l=false:=AH (by omega);unfold Ti Pq Nk;rw[p,AB (by simp),AB (by simp),AB (by simp)];refine (qdf A k c 2 w (by omega) (by omega) (by omega)).mono ?_;rintro e w' ⟨rfl,rfl⟩;exact⟨_,_,_,rfl,Il _,λf h=>(by cases h),AI _ _⟩
def Qcj (l:LU)(w:WD)(e:Ending)(w':WD):Prop:=
 ∃V p q m u c2,e=.returned (.tuple #[.agg #[.int .i64 (Ba l).obj,.int .i64 (Ba l).kind,.int .i64 (Ba l).off,.slice V p q],.slice m u c2,.int .i64 0])/\Sl w' V p q (Oh (Kt l))/\Sl w' m u c2 (Pv (Kt l))/\
  (∀f,V=some f->w.1.size<=f.block)/\(∀f,m=some f->w.1.size<=f.block)/\Below w.1.size w w'
def Qci (zero:Value)(w:WD)(e:Ending)(w':WD):Prop:=
 ∃E:Int,E≠0/\e=.returned (.tuple #[zero,.slice none 0 0,.int .i64 E])/\Below w.1.size w w'
def Qc2:Value:=.agg #[.int .i64 0,.int .i64 0,.int .i64 0,.slice none 0 0]
def Qbo:Value:=.agg #[.int .i64 0,.int .i64 0,.int .i64 0,.int .i64 0]
def Oq (l:LU)(w:WD)(e:Ending)(w':WD):Prop:=(Gz l=0/\Nl (Kt l)=0/\Qcj l w e w')\/(¬(Gz l=0/\Nl (Kt l)=0)/\Qci Qc2 w e w')
theorem Qc0 {l M E D:LU}{K:Kd}{w w':WD}(H:Ba l=K)(I:Kt l=M)(m:Gz l=0)(A:Oh M=E)(y:Pv M=D)(u:Nl M=0){V:OA}{p q:Nat}{f:OA}{B c2:Nat}(O:Sl w' V p q E)(P:Sl w' f B c2 D)
  (F:∀e,V=some e->w.1.size<=e.block) (G:∀e,f=some e->w.1.size<=e.block) (J:Below w.1.size w w') :
  Oq l w (.returned (.tuple #[.agg #[.int .i64 K.obj,.int .i64 K.kind,.int .i64 K.off,.slice V p q],.slice f B c2,.int .i64 0])) w':=by
 subst H I A y;exact .inl ⟨m,u,V,p,q,f,B,c2,rfl,O,P,F,G,J⟩
theorem qBt {l M:LU}{w w':WD}{m p E:Int}(u:Kt l=M)(e:Gz l=m)(f:Nl M=p)(h:¬(m=0/\p=0))(q:E≠0)(y:Below w.1.size w w') :
  Oq l w (.returned (.tuple #[.agg #[.int .i64 0,.int .i64 0,.int .i64 0,.slice none 0 0],.slice none 0 0,.int .i64 E])) w':=by
 subst u e f;exact .inr ⟨h,E,q,rfl,y⟩
theorem qek (A:OA)(n c:Nat)(l:LU)(w:WD)(h:Sl w A n c l)(hn:n<=100000) :
  Calls prog 110 #[.slice A n c] w λe w'=>Oq l w e w':=by
 have a8:=h.len;obtain⟨K,hK⟩:∃x,Ba l=x:=⟨_,rfl⟩;obtain⟨M,hM⟩:∃x,Kt l=x:=⟨_,rfl⟩;obtain⟨E1,Z⟩:∃x,Gz l=x:=⟨_,rfl⟩;obtain⟨U,F⟩:∃x,Oh M=x:=⟨_,rfl⟩;obtain⟨R2,a2⟩:∃x,Pv M=x:=⟨_,rfl⟩;obtain⟨E2,a1⟩:∃x,Nl M=x:=⟨_,rfl⟩;have b9:M.length<=100000:=by have:=qyi l;rw[hM] at this;omega
 have b5:U.length<=100000:=by have:=qBm M;rw[F] at this;omega
 have HK:=HI hK;have HM:=HI hM;have q:=HI Z;have R:=HI F;have Q:=HI a2;have u:=HI a1;clear hK hM Z F a2 a1 a8;have R1:RB (w.alloc (.cells #[.int .i64 0,.int .i64 0,.int .i64 0,.slice none 0 0] 50)) w.1.size zit:=RB.new w zit _;have W:Below w.1.size w (w.alloc (.cells #[.int .i64 0,.int .i64 0,.int .i64 0,.slice none 0 0] 50)):=Qi;go_enter func110,ntmps110
 go_wp2_with fail
 generalize w.alloc (.cells #[.int .i64 0,.int .i64 0,.int .i64 0,.slice none 0 0] 50)=w1 at R1 W ⊢;refine (qii A n c l K M E1 HK.out HM.out q.out w1 (h.below W) (by omega)).mono ?_;rintro e v ⟨A2,n2,c2,rfl,p,G⟩;have c7:n2<=100000:=by have:=p.len;omega
 have Y:Below v.1.size v (v.alloc (.cells #[.int .i64 K.obj,.int .i64 K.kind,.int .i64 K.off] 45)):=Qi;have K2:=KB.new v K.obj K.kind K.off 45;have y:=R1.below G R1.lt;have B2:=W.trans (G.mono W.size);have B:=y.below Y y.lt;have P:=B2.trans (Y.mono B2.size);have s3:=p.sl.below Y;have c8:w.1.size<v.1.size:=y.lt;clear y B2 R1 W G p;by_cases f:E1=0
 ·subst f;go_wp2_with fail
  generalize v.alloc (.cells #[.int .i64 K.obj,.int .i64 K.kind,.int .i64 K.off] 45)=w3 at K2 B P s3 Y ⊢;refine (qzo A2 n2 c2 M U R2 E2 R.out Q.out u.out w3 s3 (by omega)).mono ?_;rintro e O ⟨A4,n4,c4,rfl,s4,a7,H⟩;have I:=B.below H B.lt;have K4:=K2.below H K2.lt;have B4:=P.trans (H.mono P.size);have b0:w.1.size<=w3.1.size:=P.size;have c9:w.1.size<w3.1.size:=B.lt;clear K2 B s3 Y;by_cases m:E2=0
  ·subst m;obtain⟨X,hX⟩:∃X,(⟨U.toArray⟩:ByteArray)=X:=⟨_,rfl⟩;have a6:X.data.toList=U:=by rw[<-hX]
   have c6:X.size<=100000:=by rw[<-hX];show U.toArray.size<=_;simpa using b5
   have b8:=Qbu X;have b2:=q7s O 5 X (by unfold maxLen;omega);have E:=q42 O 5 X;rw[a6] at b2;rw[hX];have k0:=K4.c0;have k1:=K4.c1;have k2:=K4.c2;have R5:=I.below E I.lt;have B5:=B4.trans (E.mono B4.size);have s5:=s4.below E;have zX:w.1.size<O.1.size:=I.lt;clear hX a6 I s4;go_wp2_with (first
    |(refine q6c rfl (.tmp 2) (.tmp 31) rfl w.1.size rfl K (some ⟨O.1.size,0,none⟩) X.size (grownCap O X.size 0 5) rfl R5 rfl ?_;intro w6 T D)
    |fail)
   have b4:∀g,q01 A4=some g->w3.1.size<=g:=λg J=>by
    cases A4 with
    |none=>cases J
    |some V=>have:=a7 V rfl;have e:V.block=g:=OI J;omega
   have b3:=b2.turned D (λg J e=>by have e1:O.1.size=g:=OI J;omega);have s6:=s5.turned D (λg J e=>by have:=b4 g J;omega);have B6:=B5.trans (D.Za R5.lt);refine bodyPost_ret (q7k Tryz.results110 rfl (qj6 T)) rfl ?_;exact Qc0 HK.out HM.out q.out R.out Q.out u.out b3 s6 (λV h=>by injection h with h;rw[<-h];exact Nat.le_of_lt zX) (λV h=>AZ b0 (a7 V h)) B6
  ·have b6:decide (E2=0)=false:=AH m;have b7:(E2==0)=false:=by simp[m]
   go_wp2_with (first
    |(refine q6c rfl (.tmp 2) (.tmp 26) rfl w.1.size rfl ⟨0,0,0⟩ none 0 0 rfl I rfl ?_;intro w6 T D)
    |fail)
   refine bodyPost_ret (q7k Tryz.results110 rfl (qj6 T)) rfl ?_;exact qBt HM.out q.out u.out (λh=>m h.2) m (B4.trans (D.Za I.lt))
 ·have b6:decide (E1=0)=false:=AH f;have b7:(E1==0)=false:=by simp[f]
  go_wp2_with (first
   |(refine q6c rfl (.tmp 2) (.tmp 16) rfl w.1.size rfl ⟨0,0,0⟩ none 0 0 rfl B rfl ?_;intro w6 T D)
   |fail)
  refine bodyPost_ret (q7k Tryz.results110 rfl (qj6 T)) rfl ?_;exact qBt HM.out q.out u.out (λh=>f h.1) f (P.trans (D.Za B.lt))
def Qck (l:LU)(w:WD)(e:Ending)(w':WD):Prop:=
 ∃f p c2,e=.returned (.tuple #[.agg #[.int .i64 (Ba l).obj,.int .i64 (Ba l).kind,.int .i64 (Ba l).off,.int .i64 (Ti (Kt l))],.slice f p c2,.int .i64 0])/\Sl w' f p c2 (Pq (Kt l))/\
  (∀m,f=some m->w.1.size<=m.block)/\Below w.1.size w w'
def Ot (l:LU)(w:WD)(e:Ending)(w':WD):Prop:=(Gz l=0/\Nk (Kt l)=0/\Qck l w e w')\/(¬(Gz l=0/\Nk (Kt l)=0)/\Qci Qbo w e w')
theorem Qc1 {l M y:LU}{K:Kd}{A:Int}{w w':WD}(E:Ba l=K)(F:Kt l=M)(f:Gz l=0)(q:Ti M=A)(p:Pq M=y)(m:Nk M=0){e:OA}{u c2:Nat}(H:Sl w' e u c2 y)
  (D:∀B,e=some B->w.1.size<=B.block) (G:Below w.1.size w w') :
  Ot l w (.returned (.tuple #[.agg #[.int .i64 K.obj,.int .i64 K.kind,.int .i64 K.off,.int .i64 A],.slice e u c2,.int .i64 0])) w':=by
 subst E F q p;exact .inl ⟨f,m,e,u,c2,rfl,H,D,G⟩
theorem qBu {l M:LU}{w w':WD}{m p E:Int}(u:Kt l=M)(e:Gz l=m)(f:Nk M=p)(h:¬(m=0/\p=0))(q:E≠0)(y:Below w.1.size w w') :
  Ot l w (.returned (.tuple #[.agg #[.int .i64 0,.int .i64 0,.int .i64 0,.int .i64 0],.slice none 0 0,.int .i64 E])) w':=by
 subst u e f;exact .inr ⟨h,E,q,rfl,y⟩
theorem qgf (A:OA)(n c:Nat)(l:LU)(w:WD)(h:Sl w A n c l)(hn:n<=100000) :
  Calls prog 112 #[.slice A n c] w λe w'=>Ot l w e w':=by
 have W:=h.len;obtain⟨K,hK⟩:∃x,Ba l=x:=⟨_,rfl⟩;obtain⟨M,hM⟩:∃x,Kt l=x:=⟨_,rfl⟩;obtain⟨Y,Q⟩:∃x,Gz l=x:=⟨_,rfl⟩;obtain⟨S2,U⟩:∃x,Ti M=x:=⟨_,rfl⟩;obtain⟨R2,T⟩:∃x,Pq M=x:=⟨_,rfl⟩;obtain⟨Z,R⟩:∃x,Nk M=x:=⟨_,rfl⟩;have a7:M.length<=100000:=by have:=qyi l;rw[hM] at this;omega
 have HK:=HI hK;have HM:=HI hM;have q:=HI Q;have I:=HI U;have H:=HI T;have u:=HI R;clear hK hM Q U T R W;have R1:RB (w.alloc (.cells #[.int .i64 0,.int .i64 0,.int .i64 0,.int .i64 0] 125)) w.1.size Qbd:=RB.new w Qbd _;have O:Below w.1.size w (w.alloc (.cells #[.int .i64 0,.int .i64 0,.int .i64 0,.int .i64 0] 125)):=Qi;go_enter func112,ntmps112
 go_wp2_with fail
 generalize w.alloc (.cells #[.int .i64 0,.int .i64 0,.int .i64 0,.int .i64 0] 125)=w1 at R1 O ⊢;refine (qii A n c l K M Y HK.out HM.out q.out w1 (h.below O) (by omega)).mono ?_;rintro e v ⟨A2,n2,c2,rfl,p,D⟩;have a8:n2<=100000:=by have:=p.len;omega
 have P:Below v.1.size v (v.alloc (.cells #[.int .i64 K.obj,.int .i64 K.kind,.int .i64 K.off] 45)):=Qi;have K2:=KB.new v K.obj K.kind K.off 45;have y:=R1.below D R1.lt;have B2:=O.trans (D.mono O.size);have B:=y.below P y.lt;have G:=B2.trans (P.mono B2.size);have s3:=p.sl.below P;have b0:w.1.size<v.1.size:=y.lt;clear y B2 R1 O D p;by_cases f:Y=0
 ·subst f;go_wp2_with fail
  generalize v.alloc (.cells #[.int .i64 K.obj,.int .i64 K.kind,.int .i64 K.off] 45)=w3 at K2 B G s3 P ⊢;refine (qzp A2 n2 c2 M S2 R2 Z I.out H.out u.out w3 s3 (by omega)).mono ?_;rintro e w4 ⟨A4,n4,c4,rfl,s4,V,E⟩;have R4:=B.below E B.lt;have K4:=K2.below E K2.lt;have B4:=G.trans (E.mono G.size);have X:w.1.size<=w3.1.size:=G.size;have b2:w.1.size<w3.1.size:=B.lt;clear K2 B s3 P;by_cases m:Z=0
  ·subst m;have k0:=K4.c0;have k1:=K4.c1;have k2:=K4.c2;go_wp2_with (first
    |(refine q3h rfl (.tmp 2) (.tmp 30) rfl w.1.size rfl ⟨K,S2⟩ rfl R4 rfl ?_;intro w6 J F)
    |fail)
   have a1:∀g,q01 A4=some g->w3.1.size<=g:=λg hg=>by
    cases A4 with
    |none=>cases hg
    |some ad=>have:=V ad rfl;have e:ad.block=g:=OI hg;omega
   have s6:=s4.turned F (λg hg e=>by have:=a1 g hg;omega);have B6:=B4.trans (F.Za R4.lt);refine bodyPost_ret (q7k Tryz.results112 rfl (q9t J)) rfl ?_;exact Qc1 HK.out HM.out q.out I.out H.out u.out s6 (λad h=>AZ X (V ad h)) B6
  ·have a2:decide (Z=0)=false:=AH m;have a6:(Z==0)=false:=by simp[m]
   go_wp2_with (first
    |(refine q3h rfl (.tmp 2) (.tmp 26) rfl w.1.size rfl ⟨⟨0,0,0⟩,0⟩ rfl R4 rfl ?_;intro w6 J F)
    |fail)
   refine bodyPost_ret (q7k Tryz.results112 rfl (q9t J)) rfl ?_;exact qBu HM.out q.out u.out (λh=>m h.2) m (B4.trans (F.Za R4.lt))
 ·have a2:decide (Y=0)=false:=AH f;have a6:(Y==0)=false:=by simp[f]
  go_wp2_with (first
   |(refine q3h rfl (.tmp 2) (.tmp 16) rfl w.1.size rfl ⟨⟨0,0,0⟩,0⟩ rfl B rfl ?_;intro w6 J F)
   |fail)
  refine bodyPost_ret (q7k Tryz.results112 rfl (q9t J)) rfl ?_;exact qBu HM.out q.out u.out (λh=>f h.1) f (G.trans (F.Za B.lt))
theorem qyo {r:LU}(h:Gz r=0):(Kt r).length+9<=r.length:=by
 unfold Gz at h;split at h
 ·rename_i e;have:=(AK (BN ..▸e).1);unfold Kt;rw[AA e,AS];omega
 ·split at h<;>omega
theorem qBv {r:LU}(h:Nl r=0):(Pv r).length+1<=r.length:=by
 unfold Nl at h;split at h
 ·rename_i e;have:=(AK e).1;unfold Pv Zu;rw[AA e,AS];omega
 ·omega
theorem qBw {r:LU}(h:Nk r=0):(Pq r).length+1<=r.length:=by
 unfold Nk at h;split at h
 ·rename_i e;have:=AK e;unfold Pq;rw[AA e,AS];omega
 ·omega
theorem qzq {xs:List Qc}{r:LU}(h1:Gz r=0)(h2:Nl (Kt r)=0):Xq ⟨0,xs,[]⟩ r=some (⟨0,xs++[⟨Ba r,Oh (Kt r)⟩],[]⟩,Pv (Kt r)):=by
 unfold Xq;rw[AA h1,AA rfl,AA h2]
theorem qnt {xs:List Qc}{r:LU}(h:¬(Gz r=0/\Nl (Kt r)=0)):Xq ⟨0,xs,[]⟩ r=none:=by
 unfold Xq;by_cases h1:Gz r=0
 ·rw[AA h1,AA rfl,AB (λh2=>h ⟨h1,h2⟩)]
 ·rw[AB h1]
theorem qvd {l:Int}(e:l≠0){xs:List Qn}{r:LU}(h1:Gz r=0)(h2:Nk (Kt r)=0):Xq ⟨l,[],xs⟩ r=some (⟨l,[],xs++[⟨Ba r,Ti (Kt r)⟩]⟩,Pq (Kt r)):=by
 unfold Xq;rw[AA h1,AB e,AA h2]
theorem qj7 {l:Int}(e:l≠0){xs:List Qn}{r:LU}(h:¬(Gz r=0/\Nk (Kt r)=0)):Xq ⟨l,[],xs⟩ r=none:=by
 unfold Xq;by_cases h1:Gz r=0
 ·rw[AA h1,AB e,AB (λh2=>h ⟨h1,h2⟩)]
 ·rw[AB h1]
def Om (A:OA)(body:LU)(cnt:Nat)(w:WD)(e:Ending)(w':WD):Prop:=
 (∃q r m c1 f p c2,Jy 0 body cnt=some (⟨0,q,[]⟩,r)/\e=.returned (.tuple #[.slice m cnt c1,.slice f p c2,.int .i64 0])/\cnt<=1000/\Xe w' w.1.size m cnt c1 q/\Sl w' f p c2 r/\(∀g,q01 f=some g->q01 A=some g\/w.1.size<=g)/\Below w.1.size w w')\/
 (∃E:Int,E≠0/\Jy 0 body cnt=none/\e=.returned (.tuple #[.slice none 0 0,.slice none 0 0,.int .i64 E])/\Below w.1.size w w')
def Oo (l:Int)(A:OA)(body:LU)(cnt:Nat)(w:WD)(e:Ending)(w':WD):Prop:=
 (∃q r m c1 f p c2,Jy l body cnt=some (⟨l,[],q⟩,r)/\e=.returned (.tuple #[.slice m cnt c1,.slice f p c2,.int .i64 0])/\cnt<=1000/\Q8 w' w.1.size 125 4 m cnt c1 (q.map Qn.vs)/\Sl w' f p c2 r/\(∀g,q01 f=some g->q01 A=some g\/w.1.size<=g)/\Below w.1.size w w')\/
 (∃E:Int,E≠0/\Jy l body cnt=none/\e=.returned (.tuple #[.slice none 0 0,.slice none 0 0,.int .i64 E])/\Below w.1.size w w')
theorem qq6 {A:OA}{body:LU}{cnt:Nat}{w w':WD}{xs:List Qc}{r:LU}{f:OA}{c1:Nat}{e:OA}{m c2:Nat}(h1:Jy 0 body cnt=some (⟨0,xs,[]⟩,r))(h0:cnt<=1000)(h2:Xe w' w.1.size f cnt c1 xs)(p:Sl w' e m c2 r)(q:∀g,q01 e=some g->q01 A=some g\/w.1.size<=g)(u:Below w.1.size w w') :
  Om A body cnt w (.returned (.tuple #[.slice f cnt c1,.slice e m c2,.int .i64 0])) w':=.inl ⟨xs,r,f,c1,e,m,c2,h1,rfl,h0,h2,p,q,u⟩
theorem qq7 {A:OA}{body:LU}{cnt:Nat}{w w':WD}{E:Int}(e:E≠0)(h1:Jy 0 body cnt=none)(f:Below w.1.size w w') :
  Om A body cnt w (.returned (.tuple #[.slice none 0 0,.slice none 0 0,.int .i64 E])) w':=.inr ⟨E,e,h1,rfl,f⟩
theorem qq8 {l:Int}{A:OA}{body:LU}{cnt:Nat}{w w':WD}{xs:List Qn}{r:LU}{f:OA}{c1:Nat}{e:OA}{m c2:Nat}(h1:Jy l body cnt=some (⟨l,[],xs⟩,r))(h0:cnt<=1000)(h2:Q8 w' w.1.size 125 4 f cnt c1 (xs.map Qn.vs))(p:Sl w' e m c2 r)(q:∀g,q01 e=some g->q01 A=some g\/w.1.size<=g)(u:Below w.1.size w w') :
  Oo l A body cnt w (.returned (.tuple #[.slice f cnt c1,.slice e m c2,.int .i64 0])) w':=.inl ⟨xs,r,f,c1,e,m,c2,h1,rfl,h0,h2,p,q,u⟩
theorem qq9 {l:Int}{A:OA}{body:LU}{cnt:Nat}{w w':WD}{E:Int}(e:E≠0)(h1:Jy l body cnt=none)(f:Below w.1.size w w') :
  Oo l A body cnt w (.returned (.tuple #[.slice none 0 0,.slice none 0 0,.int .i64 E])) w':=.inr ⟨E,e,h1,rfl,f⟩
theorem qnu (body:LU)(cnt:Nat)(A:OA)(k c:Nat)(w:WD)(h:Sl w A k c body)(hk:k<=1000)(d9:cnt<=100000) :
  Calls prog 109 #[.slice A k c,.int .i64 (cnt:Int),.func (.func 110) #[] #[]] w λe w'=>Om A body cnt w e w':=by
 go_enter func109,ntmps109
 go_wp2_with fail
 go_loopw [0,9,14] (λt0 t9 a7 wr=>∃(j:Nat) (xs:List Qc) (r:LU) (Rr:OA) (p q:Nat) (R:OA) (c':Nat),j<=cnt/\a7=.int .i64 (j:Int)/\t0=.slice Rr p q/\t9=.slice R j c'/\
  Jy 0 body j=some (⟨0,xs,[]⟩,r)/\Sl wr Rr p q r/\p+10*j<=k/\(r≠[]->∀g,q01 Rr=some g->q01 R≠some g)/\(∀g,q01 Rr=some g->q01 A=some g\/w.1.size<=g)/\Xe wr w.1.size R j c' xs/\Below w.1.size w wr) (λ_ _ a7 _=>cnt-(intOf a7).toNat)
 case atStart=>exact⟨0,[],body,A,k,c,none,0,AW _,rfl,rfl,rfl,rfl,h,by omega,(λ_ _ _ h=>by cases h),(λg f=>.inl f),q1o _ _,AI _ _⟩
 case round=>
  obtain⟨j,xs,r,Rr,p,q,R,c',hj,rfl,rfl,rfl,Q,O,hp,b3,J,m,X⟩:=hrel;by_cases d5:j<cnt
  ·have u:=HI (q4n 0 body j _ r Q);have M:∀x,Jy 0 body (j+1)=x->x=none->Jy 0 body cnt=none:=λx h1 h2=>qac _ _ _ _ (h1.trans h2) d5
   have D:=HI M;clear M Q;have y:∀g,q01 R=some g->g<wr.1.size:=λg f=>(m.Qa g f).2
   have G:∀g,q01 R=some g->w.1.size<=g:=λg f=>(m.Qa g f).1
   have d7:=O.len;go_wp2_with fail
   refine (qek Rr p q r wr O (by omega)).mono ?_;rintro e v (⟨h1,h2,b9⟩|⟨b5,E,hE,rfl,F⟩)
   ·have a1:=qyo h1;have a2:=qBv h2;have a8:=HI (qzq (xs:=xs) h1 h2);have b6:=HI (u.out.trans a8.out);clear u a8 D h1 h2;obtain⟨V,H,I,A2,n2,c2,rfl,a6,s2,fV,f2,F⟩:=b9;obtain⟨S,hS⟩:∃S,Oh (Kt r)=S:=⟨_,rfl⟩;obtain⟨R2,Y⟩:∃S,Pv (Kt r)=S:=⟨_,rfl⟩;rw[hS] at a6;obtain⟨K,hK⟩:∃K,Ba r=K:=⟨_,rfl⟩;have d4:=s2.len;have d6:n2+10*(j+1)<=k:=by omega
    rw[Y] at s2;have b7:Jy 0 body (j+1)=some (⟨0,xs++[⟨K,S⟩],[]⟩,R2):=by rw[b6.out,hK,hS,Y]
    have d1:=HI b7;clear b7 b6;rw[hK];clear hK hS Y d4 a1 a2 d7 hp;have bY:Below v.1.size v ((v.alloc (.cells #[.int .i64 K.obj,.int .i64 K.kind,.int .i64 K.off,.slice V H I] 50)).alloc (.cells #[.int .i64 K.obj,.int .i64 K.kind,.int .i64 K.off,.slice V H I] 50)):=(Qi).alloc (by simp) _;have W:Jp ((v.alloc (.cells #[.int .i64 K.obj,.int .i64 K.kind,.int .i64 K.off,.slice V H I] 50)).alloc (.cells #[.int .i64 K.obj,.int .i64 K.kind,.int .i64 K.off,.slice V H I] 50)) 4 (some ⟨v.1.size+1,0,none⟩) 1 1 [Vx K V H I]:=by
     have:=(q1n (v.alloc (.cells #[.int .i64 K.obj,.int .i64 K.kind,.int .i64 K.off,.slice V H I] 50)) 50 4 (Vx K V H I) _ rfl rfl).Gn (by omega);rwa [BH] at this
    have d8:wr.1.size<=v.1.size:=F.size;have b8:w.1.size<=wr.1.size:=X.size;have U:=(m.below F).below bY;have s3:=s2.below bY;have W3:=X.trans ((F.trans (bY.mono F.size)).mono X.size);have zY:w.1.size<=((v.alloc (.cells #[.int .i64 K.obj,.int .i64 K.kind,.int .i64 K.off,.slice V H I] 50)).alloc (.cells #[.int .i64 K.obj,.int .i64 K.kind,.int .i64 K.off,.slice V H I] 50)).1.size:=AZ (AZ b8 d8) bY.size;have e0:((v.alloc (.cells #[.int .i64 K.obj,.int .i64 K.kind,.int .i64 K.off,.slice V H I] 50)).alloc (.cells #[.int .i64 K.obj,.int .i64 K.kind,.int .i64 K.off,.slice V H I] 50)).1.size=v.1.size+2:=by simp
    have T:R2≠[]->∀g,q01 A2=some g->g<v.1.size:=λhl g f=>s2.Qa hl g f
    have P:∀g,q01 A2=some g->wr.1.size<=g:=λg f=>by
     cases A2 with
     |none=>cases f
     |some ad=>have:=f2 ad rfl;have e:ad.block=g:=OI f;omega
    have c9:=a6.below bY;have c7:S≠[]->∀g,q01 V=some g->w.1.size<=g/\q01 R≠some g:=λ_ g f=>by
     cases V with
     |none=>cases f
     |some ad=>
      have h1:=fV ad rfl;have h2:ad.block=g:=OI f;exact⟨by omega,λe=>by have:=y g e;omega⟩
    have d3:j<=1000:=by omega
    clear J m O s2 X F b3 a6 fV f2;go_wp2_with (first
     |(at_builtin;refine q63 rfl _ _ rfl w.1.size R j c' xs rfl U (some ⟨v.1.size+1,0,none⟩) 1 ⟨K,S⟩ V H I rfl W c9 c7 (AZ d3 (by decide)) zY ?_)
     |fail)
    intro A6 c6 v6 c8 T7 b0;have s7:=s3.turned' T7 (λ_ g f e=>by have h1:=y g e;have h2:=P g f;omega);have W7:=W3.trans (T7.below (B:=w.1.size) (λx hx=>G x hx) zY);have b4:R2≠[]->∀g,q01 A2=some g->q01 A6≠some g:=λhl g f e=>by
     have h1:=T hl g f;have h2:=P g f;rcases b0 with h3|h3
     ·have:=y g (h3.symm.trans e);omega
     ·rw[h3] at e;have:=OI e;omega
    have Z:∀g,q01 A2=some g->q01 A=some g\/w.1.size<=g:=λg f=>.inr (AZ b8 (P g f))
    clear U s3 W3 W bY c9 c7 y G P T b0;go_wp2;exact⟨⟨j+1,xs++[⟨K,S⟩],R2,A2,n2,c2,A6,c6,by omega,by go_num,rfl,rfl,d1.out,s7,d6,b4,Z,c8,W7⟩,by simp[intOf];omega⟩
   ·have b2:=HI (D.out _ u.out (qnt b5));have b1:=X.trans (F.mono X.size);have e1:decide (E=0)=false:=AH hE;have e2:(E==0)=false:=by simp[hE]
    have d2:Below w.1.size w (v.alloc (.cells #[.int .i64 0,.int .i64 0,.int .i64 0,.slice none 0 0] 50)):=b1.alloc b1.size _;clear J u D b5 m O b3 y G;unfold Qc2;go_wp2;go_ret3;exact qq7 hE b2.out d2
  ·obtain rfl:j=cnt:=by omega
   have d0:=HI Q;clear Q;go_wp2;go_ret3;exact qq6 d0.out (by omega) m O J X
theorem qnv (l:Int)(hl:l≠0)(body:LU)(cnt:Nat)(A:OA)(k c:Nat)(w:WD)(h:Sl w A k c body)(hk:k<=1000)(d7:cnt<=100000) :
  Calls prog 111 #[.slice A k c,.int .i64 (cnt:Int),.func (.func 112) #[] #[]] w λe w'=>Oo l A body cnt w e w':=by
 go_enter func111,ntmps111
 go_wp2_with fail
 go_loopw [0,9,14] (λt0 t9 a8 wr=>∃(j:Nat) (X:List Qn) (r:LU) (Rr:OA) (p q:Nat) (Y:OA) (c':Nat),j<=cnt/\a8=.int .i64 (j:Int)/\t0=.slice Rr p q/\t9=.slice Y j c'/\
  Jy l body j=some (⟨l,[],X⟩,r)/\Sl wr Rr p q r/\p+10*j<=k/\(r≠[]->∀g,q01 Rr=some g->q01 Y≠some g)/\(∀g,q01 Rr=some g->q01 A=some g\/w.1.size<=g)/\Q8 wr w.1.size 125 4 Y j c' (X.map Qn.vs)/\Below w.1.size w wr) (λ_ _ a8 _=>cnt-(intOf a8).toNat)
 case atStart=>exact⟨0,[],body,A,k,c,none,0,AW _,rfl,rfl,rfl,rfl,h,by omega,(λ_ _ _ h=>by cases h),(λg D=>.inl D),q0z _ _ _ _,AI _ _⟩
 case round=>
  obtain⟨j,X,r,Rr,p,q,Y,c',hj,rfl,rfl,rfl,R,O,hp,b4,J,f,Z⟩:=hrel;by_cases d3:j<cnt
  ·have m:=HI (q4n l body j _ r R);have M:∀x,Jy l body (j+1)=x->x=none->Jy l body cnt=none:=λx h1 h2=>qac _ _ _ _ (h1.trans h2) d3
   have F:=HI M;clear M R;have I:∀g,q01 Y=some g->g<wr.1.size:=λg D=>(f.Qa g D).2
   have H:∀g,q01 Y=some g->w.1.size<=g:=λg D=>(f.Qa g D).1
   have d5:=O.len;go_wp2_with fail
   refine (qgf Rr p q r wr O (by omega)).mono ?_;rintro e v (⟨h1,h2,c7⟩|⟨b6,E,hE,rfl,G⟩)
   ·have a6:=qyo h1;have a7:=qBw h2;have b0:=HI (qvd hl (xs:=X) h1 h2);have b7:=HI (m.out.trans b0.out);clear m b0 F h1 h2;obtain⟨A2,n2,c2,rfl,s2,f2,G⟩:=c7;obtain⟨V,hS⟩:∃S,Ti (Kt r)=S:=⟨_,rfl⟩;obtain⟨R2,a1⟩:∃S,Pq (Kt r)=S:=⟨_,rfl⟩;obtain⟨K,hK⟩:∃K,Ba r=K:=⟨_,rfl⟩;have d2:=s2.len;have d4:n2+10*(j+1)<=k:=by omega
    rw[a1] at s2;have b8:Jy l body (j+1)=some (⟨l,[],X++[⟨K,V⟩]⟩,R2):=by rw[b7.out,hK,hS,a1]
    have c9:=HI b8;clear b8 b7;rw[hK,hS];clear hK hS a1 d2 a6 a7 d5 hp;have bY:Below v.1.size v ((v.alloc (.cells #[.int .i64 K.obj,.int .i64 K.kind,.int .i64 K.off,.int .i64 V] 125)).alloc (.cells #[.int .i64 K.obj,.int .i64 K.kind,.int .i64 K.off,.int .i64 V] 125)):=(Qi).alloc (by simp) _;have W:Jp ((v.alloc (.cells #[.int .i64 K.obj,.int .i64 K.kind,.int .i64 K.off,.int .i64 V] 125)).alloc (.cells #[.int .i64 K.obj,.int .i64 K.kind,.int .i64 K.off,.int .i64 V] 125)) 4 (some ⟨v.1.size+1,0,none⟩) 1 1 [(⟨K,V⟩:Qn).vs]:=by
     have:=(q1n (v.alloc (.cells #[.int .i64 K.obj,.int .i64 K.kind,.int .i64 K.off,.int .i64 V] 125)) 125 4 ((⟨K,V⟩:Qn).vs) _ rfl rfl).Gn (by omega);rwa [BH] at this
    have d6:wr.1.size<=v.1.size:=G.size;have b9:w.1.size<=wr.1.size:=Z.size;have U:=(f.below G).below bY;have s3:=s2.below bY;have W3:=Z.trans ((G.trans (bY.mono G.size)).mono Z.size);have zY:w.1.size<=((v.alloc (.cells #[.int .i64 K.obj,.int .i64 K.kind,.int .i64 K.off,.int .i64 V] 125)).alloc (.cells #[.int .i64 K.obj,.int .i64 K.kind,.int .i64 K.off,.int .i64 V] 125)).1.size:=AZ (AZ b9 d6) bY.size;have d8:((v.alloc (.cells #[.int .i64 K.obj,.int .i64 K.kind,.int .i64 K.off,.int .i64 V] 125)).alloc (.cells #[.int .i64 K.obj,.int .i64 K.kind,.int .i64 K.off,.int .i64 V] 125)).1.size=v.1.size+2:=by simp
    have T:R2≠[]->∀g,q01 A2=some g->g<v.1.size:=λhl g D=>s2.Qa hl g D
    have Q:∀g,q01 A2=some g->wr.1.size<=g:=λg D=>by
     cases A2 with
     |none=>cases D
     |some ad=>have:=f2 ad rfl;have e:ad.block=g:=OI D;omega
    have d1:j+1<=1000000:=by omega
    have one:∀y∈[(⟨K,V⟩:Qn).vs],∀u∈y,u.oneCell'=true:=by
     intro y hy u hu;obtain rfl:y=(⟨K,V⟩:Qn).vs:=by simpa using hy
     simp[Qn.vs] at hu;rcases hu with rfl|rfl|rfl|rfl<;>rfl
    clear J f O s2 Z G b4 f2;go_wp2_with (first
     |(at_builtin;refine qbu _ Qa5 rfl _ _ rfl w.1.size Y j c' (X.map Qn.vs) rfl U (some ⟨v.1.size+1,0,none⟩) 1 1 [(⟨K,V⟩:Qn).vs] rfl W (by omega) one d1 (by omega) zY ?_)
     |fail)
    intro A6 c6 v6 P T7 b1 _;have P:Q8 v6 w.1.size 125 4 A6 (j+1) c6 ((X++[(⟨K,V⟩:Qn)]).map Qn.vs):=by rw[List.map_append];exact P
    have s7:=s3.turned' T7 (λ_ g D e=>by have h1:=I g e;have h2:=Q g D;omega);have W7:=W3.trans (T7.below (B:=w.1.size) (λx hx=>H x hx) zY);have b5:R2≠[]->∀g,q01 A2=some g->q01 A6≠some g:=λhl g D e=>by
     have h1:=T hl g D;have h2:=Q g D;rcases b1 with h3|h3
     ·have:=I g (h3.symm.trans e);omega
     ·rw[h3] at e;have:=OI e;omega
    have a2:∀g,q01 A2=some g->q01 A=some g\/w.1.size<=g:=λg D=>.inr (AZ b9 (Q g D))
    clear U s3 W3 W bY one I H Q T b1;go_wp2;exact⟨⟨j+1,X++[⟨K,V⟩],R2,A2,n2,c2,A6,c6,by omega,by go_num,rfl,rfl,c9.out,s7,d4,b5,a2,P,W7⟩,by simp[intOf];omega⟩
   ·have b3:=HI (F.out _ m.out (qj7 hl b6));have b2:=Z.trans (G.mono Z.size);have d9:decide (E=0)=false:=AH hE;have e0:(E==0)=false:=by simp[hE]
    have d0:Below w.1.size w (v.alloc (.cells #[.int .i64 0,.int .i64 0,.int .i64 0,.int .i64 0] 125)):=b2.alloc b2.size _;clear J m F b6 f O b4 I H;unfold Qbo;go_wp2;go_ret3;exact qq9 hE b3.out d0
  ·obtain rfl:j=cnt:=by omega
   have c8:=HI R;clear R;go_wp2;go_ret3;exact qq8 c8.out (by omega) f O J Z
