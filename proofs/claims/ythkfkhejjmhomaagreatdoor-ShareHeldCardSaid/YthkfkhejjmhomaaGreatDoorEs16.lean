/- The code's node: takeItem and takeKid -/
import Derived.Test.YthkfkhejjmhomaaGreatDoorEs10
namespace Go.Proofs.YthkfkhejjmhomaaGreatDoor
open Go Go.RowKit Go.Proofs
set_option maxHeartbeats 8000000
set_option maxRecDepth 100000
def RB (w:World)(b:Nat)(r:List Value):Prop:=∃t,w.1[b]?=some (.cells r.toArray t (0,0))
section
variable {w w':World}{b:Nat}{r:List Value}
theorem RB.new (w:World)(r:List Value)(t:TypeId):RB (w.alloc (.cells r.toArray t)) w.1.size r:=⟨t,heap_alloc_new w _⟩
theorem RB.below (H:RB w b r){B:Nat}(hb:Below B w w')(hB:b<B):RB w' b r:=by
 obtain⟨t,H⟩:=H;exact⟨t,(hb.block b hB).trans H⟩
theorem RB.keep (H:RB w b r)(h:w'.1[b]?=w.1[b]?):RB w' b r:=by
 obtain⟨t,H⟩:=H;exact⟨t,h.trans H⟩
theorem RB.lt (H:RB w b r):b<w.1.size:=by
 obtain⟨t,H⟩:=H;exact (Array.getElem?_eq_some_iff.1 H).1
theorem RB.range (H:RB w b r):w.rangeAt b 0 r:=λj v d=>by
 obtain⟨t,H⟩:=H;rw[cell_of_row _ _ _ _ _ _ H,Nat.zero_add];simpa using d
theorem RB.there (H:RB w b r):w.there b 0 r.length:=λj d=>by
 obtain⟨t,H⟩:=H;refine⟨?_,by unfold World.frozen?;rw[H];simp⟩;rw[cell_of_row _ _ _ _ _ _ H,Nat.zero_add,Array.getElem?_eq_getElem (by simpa using d)];rfl
theorem RB.Om {x0 x1 x2 x3:Value}(H:RB w b r)(h4:r.length=4):RB (w.setCells b 0 [x0,x1,x2,x3]) b [x0,x1,x2,x3]:=by
 obtain⟨t,H⟩:=H;match r,h4 with
 |[a0,a1,a2,a3],_=>exact⟨t,Dz _ (Dz _ (Dz _ (Dz _ H)))⟩
end
def zit:List Value:=[.int .i64 0,.int .i64 0,.int .i64 0,.slice none 0 0]
def Qa3:List Value:=[.int .i64 0,.int .i64 0,.int .i64 0,.int .i64 0]
theorem qhy {w:World}{b:Nat}{k:Kd}{V:Option Addr}{p q:Nat}(H:RB w b (Vh k V p q)):(loadVar 50 ⟨b,0,none⟩).run Tryz.prog w=.ok (.agg #[.int .i64 k.obj,.int .i64 k.kind,.int .i64 k.off,.slice V p q]) w:=
 run_loadVar_mid w b 0 50 _ _ H.range Tryz.underlying50 rfl (by kernel_rfl)
theorem q9d {w:World}{b:Nat}{x:Qm}(H:RB w b x.vs):(loadVar 148 ⟨b,0,none⟩).run Tryz.prog w=.ok (.agg #[.int .i64 x.k.obj,.int .i64 x.k.kind,.int .i64 x.k.off,.int .i64 x.a]) w:=
 run_loadVar_mid w b 0 148 _ _ H.range Tryz.underlying148 rfl (by kernel_rfl)
theorem q6a {ops:Array Oper}{d:List Oper}{o:Oper}{a:Act}{w:World}{Q:Exit->Act->World->Prop}(u:o.guard=none)(x y:Operand)(e:o.op=Op.store 50 x y)
  (b:Nat) (A:a.eval x=.pointer (some ⟨b,0,none⟩)) (k:Kd) (V:Option Addr) (p q:Nat) (B:a.eval y=.agg #[.int .i64 k.obj,.int .i64 k.kind,.int .i64 k.off,.slice V p q]) {r:List Value} (H:RB w b r) (f:r.length=4)
  (m:∀w',RB w' b (Vh k V p q)->Turn (λg=>g=b) w w'->wpList Tryz.prog ops Q d (a.put o.dst undef) w'):wpList Tryz.prog ops Q (o::d) a w:=
 wpList_store_mid u _ x y e b 0 #[.int .i64 k.obj,.int .i64 k.kind,.int .i64 k.off,.slice V p q] A B (by have:=H.there;rw[f] at this;exact this) (by kernel_rfl) (by simp[Value.oneCell'])
  (m _ (H.Om f) (Um (S:=λg=>g=b) rfl _ 0 w))
theorem q33 {ops:Array Oper}{d:List Oper}{o:Oper}{a:Act}{w:World}{Q:Exit->Act->World->Prop}(p:o.guard=none)(x y:Operand)(e:o.op=Op.store 148 x y)
  (b:Nat) (u:a.eval x=.pointer (some ⟨b,0,none⟩)) (z:Qm) (A:a.eval y=.agg #[.int .i64 z.k.obj,.int .i64 z.k.kind,.int .i64 z.k.off,.int .i64 z.a]) {r:List Value} (H:RB w b r) (f:r.length=4)
  (m:∀w',RB w' b z.vs->Turn (λg=>g=b) w w'->wpList Tryz.prog ops Q d (a.put o.dst undef) w'):wpList Tryz.prog ops Q (o::d) a w:=
 wpList_store_mid p _ x y e b 0 #[.int .i64 z.k.obj,.int .i64 z.k.kind,.int .i64 z.k.off,.int .i64 z.a] u A (by have:=H.there;rw[f] at this;exact this) (by kernel_rfl) (by simp[Value.oneCell'])
  (m _ (H.Om f) (Um (S:=λg=>g=b) rfl _ 0 w))
theorem qwp (A:Option Addr)(k c:Nat)(l:List UInt8)(S R:List UInt8)(E:Int)(D:Lc l=S)(B:Nv l=R)(y:Il l=E)(w:World)(h:Sl w A k c l)(G:k<=17592186044416) :
  Calls Tryz.prog 156 #[.slice A k c] w λe w'=>∃f u c2,e=.returned (.tuple #[.string ⟨S.toArray⟩,.slice f u c2,.int .i64 E])/\Sl w' f u c2 R/\(∀d,f=some d->w.1.size<=d.block)/\Below w.1.size w w':=by
 subst D B y;by_cases m:Gs l 1
 ·have p:ttY l=true:=decide_eq_true m;unfold Lc Nv Il;rw[p,if_pos rfl,if_pos rfl,if_pos rfl];refine (qew A k c l w h G m).mono ?_;rintro e w' ⟨f,u,c2,rfl,own,F⟩;exact⟨_,_,_,rfl,own.sl,λd h=>(own.block d h).1,F⟩
 ·have p:ttY l=false:=decide_eq_false m;unfold Lc Nv Il;rw[p,if_neg (by simp),if_neg (by simp),if_neg (by simp)];refine (qh8 A k c l w h m).mono ?_;rintro e w' ⟨rfl,rfl⟩;exact⟨_,_,_,rfl,Np _,λd h=>(by cases h),Below.refl _ _⟩
theorem qwq (A:Option Addr)(k c:Nat)(l:List UInt8)(V:Int)(R:List UInt8)(E:Int)(B:Px l=V)(y:Nu l=R)(u:Ij l=E)(w:World)(h:Sl w A k c l)(F:k<=17592186044416) :
  Calls Tryz.prog 151 #[.slice A k c,.int .i64 2] w λe w'=>∃f p c2,e=.returned (.tuple #[.int .i64 V,.slice f p c2,.int .i64 E])/\Sl w' f p c2 R/\(∀d,f=some d->w.1.size<=d.block)/\Below w.1.size w w':=by
 subst B y u;have I:=h.len;by_cases J:2<=k
 ·have m:t2Y l=true:=decide_eq_true (by omega);unfold Px Nu Ij;rw[m,if_pos rfl,if_pos rfl,if_pos rfl];refine (q7f A k c l 2 w h F (by omega) (by omega) (by omega)).mono ?_;rintro e w' ⟨G,K,H,rfl,own,D⟩;exact⟨_,_,_,rfl,own.sl,λd h=>(own.block d h).1,D⟩
 ·have m:t2Y l=false:=decide_eq_false (by omega);unfold Px Nu Ij;rw[m,if_neg (by simp),if_neg (by simp),if_neg (by simp)];refine (qnv A k c 2 w (by omega) (by omega) (by omega)).mono ?_;rintro e w' ⟨rfl,rfl⟩;exact⟨_,_,_,rfl,Np _,λd h=>(by cases h),Below.refl _ _⟩
def Qca (l:List UInt8)(w:World)(e:Ending)(w':World):Prop:=
 ∃V p q f m c2,e=.returned (.tuple #[.agg #[.int .i64 (Gw l).obj,.int .i64 (Gw l).kind,.int .i64 (Gw l).off,.slice V p q],.slice f m c2,.int .i64 0])/\Sl w' V p q (Lc (Wj l))/\Sl w' f m c2 (Nv (Wj l))/\
  (∀d,V=some d->w.1.size<=d.block)/\(∀d,f=some d->w.1.size<=d.block)/\Below w.1.size w w'
def Qb9 (zero:Value)(w:World)(e:Ending)(w':World):Prop:=
 ∃E:Int,E≠0/\e=.returned (.tuple #[zero,.slice none 0 0,.int .i64 E])/\Below w.1.size w w'
def Qct:Value:=.agg #[.int .i64 0,.int .i64 0,.int .i64 0,.slice none 0 0]
def Qbg:Value:=.agg #[.int .i64 0,.int .i64 0,.int .i64 0,.int .i64 0]
def Lr (l:List UInt8)(w:World)(e:Ending)(w':World):Prop:=(U6 l=0/\Il (Wj l)=0/\Qca l w e w')\/(¬(U6 l=0/\Il (Wj l)=0)/\Qb9 Qct w e w')
theorem Qcr {l M D B:List UInt8}{K:Kd}{w w':World}(G:Gw l=K)(H:Wj l=M)(f:U6 l=0)(y:Lc M=D)(u:Nv M=B)(m:Il M=0){V:Option Addr}{p q:Nat}{e:Option Addr}{A c2:Nat}(J:Sl w' V p q D)(O:Sl w' e A c2 B)
  (E:∀d,V=some d->w.1.size<=d.block) (F:∀d,e=some d->w.1.size<=d.block) (I:Below w.1.size w w') :
  Lr l w (.returned (.tuple #[.agg #[.int .i64 K.obj,.int .i64 K.kind,.int .i64 K.off,.slice V p q],.slice e A c2,.int .i64 0])) w':=by
 subst G H y u;exact .inl ⟨f,m,V,p,q,e,A,c2,rfl,J,O,E,F,I⟩
theorem qyj {l M:List UInt8}{w w':World}{f m E:Int}(u:Wj l=M)(d:U6 l=f)(e:Il M=m)(h:¬(f=0/\m=0))(p:E≠0)(y:Below w.1.size w w') :
  Lr l w (.returned (.tuple #[.agg #[.int .i64 0,.int .i64 0,.int .i64 0,.slice none 0 0],.slice none 0 0,.int .i64 E])) w':=by
 subst u d e;exact .inr ⟨h,E,p,rfl,y⟩
theorem qdt (A:Option Addr)(n c:Nat)(l:List UInt8)(w:World)(h:Sl w A n c l)(hn:n<=100000) :
  Calls Tryz.prog 143 #[.slice A n c] w λe w'=>Lr l w e w':=by
 have a5:=h.len;obtain⟨K,hK⟩:∃x,Gw l=x:=⟨_,rfl⟩;obtain⟨M,hM⟩:∃x,Wj l=x:=⟨_,rfl⟩;obtain⟨E1,a0⟩:∃x,U6 l=x:=⟨_,rfl⟩;obtain⟨U,F⟩:∃x,Lc M=x:=⟨_,rfl⟩;obtain⟨R2,a2⟩:∃x,Nv M=x:=⟨_,rfl⟩;obtain⟨E2,a1⟩:∃x,Il M=x:=⟨_,rfl⟩;have b5:M.length<=100000:=by have:=qvs l;rw[hM] at this;omega
 have b0:U.length<=100000:=by have:=qyc M;rw[F] at this;omega
 have HK:=Lib.hid hK;have HM:=Lib.hid hM;have p:=Lib.hid a0;have R:=Lib.hid F;have Q:=Lib.hid a2;have u:=Lib.hid a1;clear hK hM a0 F a2 a1 a5;have R1:RB (w.alloc (.cells #[.int .i64 0,.int .i64 0,.int .i64 0,.slice none 0 0] 50)) w.1.size zit:=RB.new w zit _;have Y:Below w.1.size w (w.alloc (.cells #[.int .i64 0,.int .i64 0,.int .i64 0,.slice none 0 0] 50)):=Qn;go_enter Tryz.func143,Tryz.ntmps143
 go_wp2_with fail
 generalize w.alloc (.cells #[.int .i64 0,.int .i64 0,.int .i64 0,.slice none 0 0] 50)=w1 at R1 Y ⊢;refine (qha A n c l K M E1 HK.out HM.out p.out w1 (h.below Y) (by omega)).mono ?_;rintro e v ⟨A2,n2,c2,rfl,m,G⟩;have b7:n2<=100000:=by have:=m.len;omega
 have Z:Below v.1.size v (v.alloc (.cells #[.int .i64 K.obj,.int .i64 K.kind,.int .i64 K.off] 45)):=Qn;have K2:=KB.new v K.obj K.kind K.off 45;have y:=R1.below G R1.lt;have B2:=Y.trans (G.mono Y.size);have B:=y.below Z y.lt;have P:=B2.trans (Z.mono B2.size);have s3:=m.sl.below Z;have b8:w.1.size<v.1.size:=y.lt;clear y B2 R1 Y G m;by_cases d:E1=0
 ·subst d;go_wp2_with fail
  generalize v.alloc (.cells #[.int .i64 K.obj,.int .i64 K.kind,.int .i64 K.off] 45)=w3 at K2 B P s3 Z ⊢;refine (qwp A2 n2 c2 M U R2 E2 R.out Q.out u.out w3 s3 (by omega)).mono ?_;rintro e O ⟨A4,n4,c4,rfl,s4,a4,H⟩;have I:=B.below H B.lt;have K4:=K2.below H K2.lt;have B4:=P.trans (H.mono P.size);have a6:w.1.size<=w3.1.size:=P.size;have b9:w.1.size<w3.1.size:=B.lt;clear K2 B s3 Z;by_cases f:E2=0
  ·subst f;obtain⟨X,hX⟩:∃X,(⟨U.toArray⟩:ByteArray)=X:=⟨_,rfl⟩;have a3:X.data.toList=U:=by rw[<-hX]
   have b6:X.size<=100000:=by rw[<-hX];show U.toArray.size<=_;simpa using b0
   have b4:=Qbl X;have a7:=qbw O 5 X (by unfold maxLen;omega);have E:=q6o O 5 X;rw[a3] at a7;rw[hX];have k0:=K4.c0;have k1:=K4.c1;have k2:=K4.c2;have R5:=I.below E I.lt;have B5:=B4.trans (E.mono B4.size);have s5:=s4.below E;have zX:w.1.size<O.1.size:=I.lt;clear hX a3 I s4;go_wp2_with (first
    |(refine q6a rfl (.tmp 2) (.tmp 31) rfl w.1.size rfl K (some ⟨O.1.size,0,none⟩) X.size (grownCap O X.size 0 5) rfl R5 rfl ?_;intro w6 T D)
    |fail)
   have a9:∀g,q01 A4=some g->w3.1.size<=g:=λg J=>by
    cases A4 with
    |none=>cases J
    |some W=>have:=a4 W rfl;have e:W.block=g:=Option.some.inj J;omega
   have a8:=a7.turned D (λg J e=>by have e1:O.1.size=g:=Option.some.inj J;omega);have s6:=s5.turned D (λg J e=>by have:=a9 g J;omega);have B6:=B5.trans (D.Qy R5.lt);refine bodyPost_ret (q7j Tryz.results143 rfl (qhy T)) rfl ?_;exact Qcr HK.out HM.out p.out R.out Q.out u.out a8 s6 (λW h=>by injection h with h;rw[<-h];exact Nat.le_of_lt zX) (λW h=>Nat.le_trans a6 (a4 W h)) B6
  ·have b2:decide (E2=0)=false:=decide_eq_false f;have b3:(E2==0)=false:=by simp[f]
   go_wp2_with (first
    |(refine q6a rfl (.tmp 2) (.tmp 26) rfl w.1.size rfl ⟨0,0,0⟩ none 0 0 rfl I rfl ?_;intro w6 T D)
    |fail)
   refine bodyPost_ret (q7j Tryz.results143 rfl (qhy T)) rfl ?_;exact qyj HM.out p.out u.out (λh=>f h.2) f (B4.trans (D.Qy I.lt))
 ·have b2:decide (E1=0)=false:=decide_eq_false d;have b3:(E1==0)=false:=by simp[d]
  go_wp2_with (first
   |(refine q6a rfl (.tmp 2) (.tmp 16) rfl w.1.size rfl ⟨0,0,0⟩ none 0 0 rfl B rfl ?_;intro w6 T D)
   |fail)
  refine bodyPost_ret (q7j Tryz.results143 rfl (qhy T)) rfl ?_;exact qyj HM.out p.out u.out (λh=>d h.1) d (P.trans (D.Qy B.lt))
def Qcb (l:List UInt8)(w:World)(e:Ending)(w':World):Prop:=
 ∃d m c2,e=.returned (.tuple #[.agg #[.int .i64 (Gw l).obj,.int .i64 (Gw l).kind,.int .i64 (Gw l).off,.int .i64 (Px (Wj l))],.slice d m c2,.int .i64 0])/\Sl w' d m c2 (Nu (Wj l))/\
  (∀f,d=some f->w.1.size<=f.block)/\Below w.1.size w w'
def Ls (l:List UInt8)(w:World)(e:Ending)(w':World):Prop:=(U6 l=0/\Ij (Wj l)=0/\Qcb l w e w')\/(¬(U6 l=0/\Ij (Wj l)=0)/\Qb9 Qbg w e w')
theorem Qcs {l M y:List UInt8}{K:Kd}{A:Int}{w w':World}(E:Gw l=K)(F:Wj l=M)(e:U6 l=0)(p:Px M=A)(m:Nu M=y)(f:Ij M=0){d:Option Addr}{u c2:Nat}(H:Sl w' d u c2 y)
  (D:∀B,d=some B->w.1.size<=B.block) (G:Below w.1.size w w') :
  Ls l w (.returned (.tuple #[.agg #[.int .i64 K.obj,.int .i64 K.kind,.int .i64 K.off,.int .i64 A],.slice d u c2,.int .i64 0])) w':=by
 subst E F p m;exact .inl ⟨e,f,d,u,c2,rfl,H,D,G⟩
theorem qyk {l M:List UInt8}{w w':World}{f m E:Int}(u:Wj l=M)(d:U6 l=f)(e:Ij M=m)(h:¬(f=0/\m=0))(p:E≠0)(y:Below w.1.size w w') :
  Ls l w (.returned (.tuple #[.agg #[.int .i64 0,.int .i64 0,.int .i64 0,.int .i64 0],.slice none 0 0,.int .i64 E])) w':=by
 subst u d e;exact .inr ⟨h,E,p,rfl,y⟩
theorem qfd (A:Option Addr)(n c:Nat)(l:List UInt8)(w:World)(h:Sl w A n c l)(hn:n<=100000) :
  Calls Tryz.prog 145 #[.slice A n c] w λe w'=>Ls l w e w':=by
 have X:=h.len;obtain⟨K,hK⟩:∃x,Gw l=x:=⟨_,rfl⟩;obtain⟨M,hM⟩:∃x,Wj l=x:=⟨_,rfl⟩;obtain⟨Z,Q⟩:∃x,U6 l=x:=⟨_,rfl⟩;obtain⟨S2,U⟩:∃x,Px M=x:=⟨_,rfl⟩;obtain⟨R2,T⟩:∃x,Nu M=x:=⟨_,rfl⟩;obtain⟨E2,R⟩:∃x,Ij M=x:=⟨_,rfl⟩;have a3:M.length<=100000:=by have:=qvs l;rw[hM] at this;omega
 have HK:=Lib.hid hK;have HM:=Lib.hid hM;have p:=Lib.hid Q;have I:=Lib.hid U;have H:=Lib.hid T;have u:=Lib.hid R;clear hK hM Q U T R X;have R1:RB (w.alloc (.cells #[.int .i64 0,.int .i64 0,.int .i64 0,.int .i64 0] 148)) w.1.size Qa3:=RB.new w Qa3 _;have O:Below w.1.size w (w.alloc (.cells #[.int .i64 0,.int .i64 0,.int .i64 0,.int .i64 0] 148)):=Qn;go_enter Tryz.func145,Tryz.ntmps145
 go_wp2_with fail
 generalize w.alloc (.cells #[.int .i64 0,.int .i64 0,.int .i64 0,.int .i64 0] 148)=w1 at R1 O ⊢;refine (qha A n c l K M Z HK.out HM.out p.out w1 (h.below O) (by omega)).mono ?_;rintro e v ⟨A2,n2,c2,rfl,m,D⟩;have a4:n2<=100000:=by have:=m.len;omega
 have P:Below v.1.size v (v.alloc (.cells #[.int .i64 K.obj,.int .i64 K.kind,.int .i64 K.off] 45)):=Qn;have K2:=KB.new v K.obj K.kind K.off 45;have y:=R1.below D R1.lt;have B2:=O.trans (D.mono O.size);have B:=y.below P y.lt;have G:=B2.trans (P.mono B2.size);have s3:=m.sl.below P;have a5:w.1.size<v.1.size:=y.lt;clear y B2 R1 O D m;by_cases d:Z=0
 ·subst d;go_wp2_with fail
  generalize v.alloc (.cells #[.int .i64 K.obj,.int .i64 K.kind,.int .i64 K.off] 45)=w3 at K2 B G s3 P ⊢;refine (qwq A2 n2 c2 M S2 R2 E2 I.out H.out u.out w3 s3 (by omega)).mono ?_;rintro e w4 ⟨A4,n4,c4,rfl,s4,W,E⟩;have R4:=B.below E B.lt;have K4:=K2.below E K2.lt;have B4:=G.trans (E.mono G.size);have Y:w.1.size<=w3.1.size:=G.size;have a6:w.1.size<w3.1.size:=B.lt;clear K2 B s3 P;by_cases f:E2=0
  ·subst f;have k0:=K4.c0;have k1:=K4.c1;have k2:=K4.c2;go_wp2_with (first
    |(refine q33 rfl (.tmp 2) (.tmp 30) rfl w.1.size rfl ⟨K,S2⟩ rfl R4 rfl ?_;intro w6 J F)
    |fail)
   have a0:∀g,q01 A4=some g->w3.1.size<=g:=λg hg=>by
    cases A4 with
    |none=>cases hg
    |some ad=>have:=W ad rfl;have e:ad.block=g:=Option.some.inj hg;omega
   have s6:=s4.turned F (λg hg e=>by have:=a0 g hg;omega);have B6:=B4.trans (F.Qy R4.lt);refine bodyPost_ret (q7j Tryz.results145 rfl (q9d J)) rfl ?_;exact Qcs HK.out HM.out p.out I.out H.out u.out s6 (λad h=>Nat.le_trans Y (W ad h)) B6
  ·have a1:decide (E2=0)=false:=decide_eq_false f;have a2:(E2==0)=false:=by simp[f]
   go_wp2_with (first
    |(refine q33 rfl (.tmp 2) (.tmp 26) rfl w.1.size rfl ⟨⟨0,0,0⟩,0⟩ rfl R4 rfl ?_;intro w6 J F)
    |fail)
   refine bodyPost_ret (q7j Tryz.results145 rfl (q9d J)) rfl ?_;exact qyk HM.out p.out u.out (λh=>f h.2) f (B4.trans (F.Qy R4.lt))
 ·have a1:decide (Z=0)=false:=decide_eq_false d;have a2:(Z==0)=false:=by simp[d]
  go_wp2_with (first
   |(refine q33 rfl (.tmp 2) (.tmp 16) rfl w.1.size rfl ⟨⟨0,0,0⟩,0⟩ rfl B rfl ?_;intro w6 J F)
   |fail)
  refine bodyPost_ret (q7j Tryz.results145 rfl (q9d J)) rfl ?_;exact qyk HM.out p.out u.out (λh=>d h.1) d (G.trans (F.Qy B.lt))
theorem qvz {r:List UInt8}(h:U6 r=0):(Wj r).length+9<=r.length:=by
 unfold U6 at h;split at h
 ·rename_i d;have:=(of_decide_eq_true (Bool.and_eq_true ..▸d).1);unfold Wj;rw[if_pos d,List.length_drop];omega
 ·split at h<;>omega
theorem qyl {r:List UInt8}(h:Il r=0):(Nv r).length+1<=r.length:=by
 unfold Il at h;split at h
 ·rename_i d;have:=(of_decide_eq_true d).1;unfold Nv Uy;rw[if_pos d,List.length_drop];omega
 ·omega
theorem qym {r:List UInt8}(h:Ij r=0):(Nu r).length+1<=r.length:=by
 unfold Ij at h;split at h
 ·rename_i d;have:=of_decide_eq_true d;unfold Nu;rw[if_pos d,List.length_drop];omega
 ·omega
theorem qwr {xs:List Qg}{r:List UInt8}(h1:U6 r=0)(h2:Il (Wj r)=0):Xa ⟨0,xs,[]⟩ r=some (⟨0,xs++[⟨Gw r,Lc (Wj r)⟩],[]⟩,Nv (Wj r)):=by
 unfold Xa;rw[if_pos h1,if_pos rfl,if_pos h2]
theorem qm2 {xs:List Qg}{r:List UInt8}(h:¬(U6 r=0/\Il (Wj r)=0)):Xa ⟨0,xs,[]⟩ r=none:=by
 unfold Xa;by_cases h1:U6 r=0
 ·rw[if_pos h1,if_pos rfl,if_neg (λh2=>h ⟨h1,h2⟩)]
 ·rw[if_neg h1]
theorem qtc {l:Int}(d:l≠0){xs:List Qm}{r:List UInt8}(h1:U6 r=0)(h2:Ij (Wj r)=0):Xa ⟨l,[],xs⟩ r=some (⟨l,[],xs++[⟨Gw r,Px (Wj r)⟩]⟩,Nu (Wj r)):=by
 unfold Xa;rw[if_pos h1,if_neg d,if_pos h2]
theorem qhz {l:Int}(d:l≠0){xs:List Qm}{r:List UInt8}(h:¬(U6 r=0/\Ij (Wj r)=0)):Xa ⟨l,[],xs⟩ r=none:=by
 unfold Xa;by_cases h1:U6 r=0
 ·rw[if_pos h1,if_neg d,if_neg (λh2=>h ⟨h1,h2⟩)]
 ·rw[if_neg h1]
def Lm (A:Option Addr)(body:List UInt8)(cnt:Nat)(w:World)(e:Ending)(w':World):Prop:=
 (∃p r f c1 d m c2,Ju 0 body cnt=some (⟨0,p,[]⟩,r)/\e=.returned (.tuple #[.slice f cnt c1,.slice d m c2,.int .i64 0])/\cnt<=1000/\Jt w' w.1.size f cnt c1 p/\Sl w' d m c2 r/\(∀g,q01 d=some g->q01 A=some g\/w.1.size<=g)/\Below w.1.size w w')\/
 (∃E:Int,E≠0/\Ju 0 body cnt=none/\e=.returned (.tuple #[.slice none 0 0,.slice none 0 0,.int .i64 E])/\Below w.1.size w w')
def Lp (l:Int)(A:Option Addr)(body:List UInt8)(cnt:Nat)(w:World)(e:Ending)(w':World):Prop:=
 (∃p r f c1 d m c2,Ju l body cnt=some (⟨l,[],p⟩,r)/\e=.returned (.tuple #[.slice f cnt c1,.slice d m c2,.int .i64 0])/\cnt<=1000/\Qo w' w.1.size 148 4 f cnt c1 (p.map Qm.vs)/\Sl w' d m c2 r/\(∀g,q01 d=some g->q01 A=some g\/w.1.size<=g)/\Below w.1.size w w')\/
 (∃E:Int,E≠0/\Ju l body cnt=none/\e=.returned (.tuple #[.slice none 0 0,.slice none 0 0,.int .i64 E])/\Below w.1.size w w')
theorem qom {A:Option Addr}{body:List UInt8}{cnt:Nat}{w w':World}{xs:List Qg}{r:List UInt8}{e:Option Addr}{c1:Nat}{d:Option Addr}{f c2:Nat}(h1:Ju 0 body cnt=some (⟨0,xs,[]⟩,r))(h0:cnt<=1000)(h2:Jt w' w.1.size e cnt c1 xs)(m:Sl w' d f c2 r)(p:∀g,q01 d=some g->q01 A=some g\/w.1.size<=g)(u:Below w.1.size w w') :
  Lm A body cnt w (.returned (.tuple #[.slice e cnt c1,.slice d f c2,.int .i64 0])) w':=.inl ⟨xs,r,e,c1,d,f,c2,h1,rfl,h0,h2,m,p,u⟩
theorem qon {A:Option Addr}{body:List UInt8}{cnt:Nat}{w w':World}{E:Int}(d:E≠0)(h1:Ju 0 body cnt=none)(e:Below w.1.size w w') :
  Lm A body cnt w (.returned (.tuple #[.slice none 0 0,.slice none 0 0,.int .i64 E])) w':=.inr ⟨E,d,h1,rfl,e⟩
theorem qoo {l:Int}{A:Option Addr}{body:List UInt8}{cnt:Nat}{w w':World}{xs:List Qm}{r:List UInt8}{e:Option Addr}{c1:Nat}{d:Option Addr}{f c2:Nat}(h1:Ju l body cnt=some (⟨l,[],xs⟩,r))(h0:cnt<=1000)(h2:Qo w' w.1.size 148 4 e cnt c1 (xs.map Qm.vs))(m:Sl w' d f c2 r)(p:∀g,q01 d=some g->q01 A=some g\/w.1.size<=g)(u:Below w.1.size w w') :
  Lp l A body cnt w (.returned (.tuple #[.slice e cnt c1,.slice d f c2,.int .i64 0])) w':=.inl ⟨xs,r,e,c1,d,f,c2,h1,rfl,h0,h2,m,p,u⟩
theorem qop {l:Int}{A:Option Addr}{body:List UInt8}{cnt:Nat}{w w':World}{E:Int}(d:E≠0)(h1:Ju l body cnt=none)(e:Below w.1.size w w') :
  Lp l A body cnt w (.returned (.tuple #[.slice none 0 0,.slice none 0 0,.int .i64 E])) w':=.inr ⟨E,d,h1,rfl,e⟩
theorem qm3 (body:List UInt8)(cnt:Nat)(A:Option Addr)(k c:Nat)(w:World)(h:Sl w A k c body)(hk:k<=1000)(d3:cnt<=100000) :
  Calls Tryz.prog 142 #[.slice A k c,.int .i64 (cnt:Int),.func (.func 143) #[] #[]] w λe w'=>Lm A body cnt w e w':=by
 go_enter Tryz.func142,Tryz.ntmps142
 go_wp2_with fail
 go_loopw [0,9,14] (λt0 t9 a2 wr=>∃(j:Nat) (xs:List Qg) (r:List UInt8) (Rr:Option Addr) (p q:Nat) (Q:Option Addr) (c':Nat),j<=cnt/\a2=.int .i64 (j:Int)/\t0=.slice Rr p q/\t9=.slice Q j c'/\
  Ju 0 body j=some (⟨0,xs,[]⟩,r)/\Sl wr Rr p q r/\p+10*j<=k/\(r≠[]->∀g,q01 Rr=some g->q01 Q≠some g)/\(∀g,q01 Rr=some g->q01 A=some g\/w.1.size<=g)/\Jt wr w.1.size Q j c' xs/\Below w.1.size w wr) (λ_ _ a2 _=>cnt-(intOf a2).toNat)
 case atStart=>exact⟨0,[],body,A,k,c,none,0,Nat.zero_le _,rfl,rfl,rfl,rfl,h,by omega,(λ_ _ _ h=>by cases h),(λg d=>.inl d),Pq _ _,Below.refl _ _⟩
 case round=>
  obtain⟨j,xs,r,Rr,p,q,Q,c',hj,rfl,rfl,rfl,P,M,hp,a7,I,f,W⟩:=hrel;by_cases c9:j<cnt
  ·have m:=Lib.hid (q4q 0 body j _ r P);have J:∀x,Ju 0 body (j+1)=x->x=none->Ju 0 body cnt=none:=λx h1 h2=>qa3 _ _ _ _ (h1.trans h2) c9
   have y:=Lib.hid J;clear J P;have u:∀g,q01 Q=some g->g<wr.1.size:=λg d=>(f.Qc g d).2
   have F:∀g,q01 Q=some g->w.1.size<=g:=λg d=>(f.Qc g d).1
   have d1:=M.len;go_wp2_with fail
   refine (qdt Rr p q r wr M (by omega)).mono ?_;rintro e v (⟨h1,h2,b3⟩|⟨a9,E,hE,rfl,D⟩)
   ·have Z:=qvz h1;have a0:=qyl h2;have a3:=Lib.hid (qwr (xs:=xs) h1 h2);have b0:=Lib.hid (m.out.trans a3.out);clear m a3 y h1 h2;obtain⟨V,G,H,A2,n2,c2,rfl,a1,s2,fV,f2,D⟩:=b3;obtain⟨S,hS⟩:∃S,Lc (Wj r)=S:=⟨_,rfl⟩;obtain⟨R2,X⟩:∃S,Nv (Wj r)=S:=⟨_,rfl⟩;rw[hS] at a1;obtain⟨K,hK⟩:∃K,Gw r=K:=⟨_,rfl⟩;have c8:=s2.len;have d0:n2+10*(j+1)<=k:=by omega
    rw[X] at s2;have b1:Ju 0 body (j+1)=some (⟨0,xs++[⟨K,S⟩],[]⟩,R2):=by rw[b0.out,hK,hS,X]
    have b8:=Lib.hid b1;clear b1 b0;rw[hK];clear hK hS X c8 Z a0 d1 hp;have bY:Below v.1.size v ((v.alloc (.cells #[.int .i64 K.obj,.int .i64 K.kind,.int .i64 K.off,.slice V G H] 50)).alloc (.cells #[.int .i64 K.obj,.int .i64 K.kind,.int .i64 K.off,.slice V G H] 50)):=(Qn).alloc (by simp) _;have U:Js ((v.alloc (.cells #[.int .i64 K.obj,.int .i64 K.kind,.int .i64 K.off,.slice V G H] 50)).alloc (.cells #[.int .i64 K.obj,.int .i64 K.kind,.int .i64 K.off,.slice V G H] 50)) 4 (some ⟨v.1.size+1,0,none⟩) 1 1 [Vh K V G H]:=by
     have:=(q1q (v.alloc (.cells #[.int .i64 K.obj,.int .i64 K.kind,.int .i64 K.off,.slice V G H] 50)) 50 4 (Vh K V G H) _ rfl rfl).Kt (by omega);rwa [World.size_alloc] at this
    have d2:wr.1.size<=v.1.size:=D.size;have b2:w.1.size<=wr.1.size:=W.size;have T:=(f.below D).below bY;have s3:=s2.below bY;have W3:=W.trans ((D.trans (bY.mono D.size)).mono W.size);have zY:w.1.size<=((v.alloc (.cells #[.int .i64 K.obj,.int .i64 K.kind,.int .i64 K.off,.slice V G H] 50)).alloc (.cells #[.int .i64 K.obj,.int .i64 K.kind,.int .i64 K.off,.slice V G H] 50)).1.size:=Nat.le_trans (Nat.le_trans b2 d2) bY.size;have d4:((v.alloc (.cells #[.int .i64 K.obj,.int .i64 K.kind,.int .i64 K.off,.slice V G H] 50)).alloc (.cells #[.int .i64 K.obj,.int .i64 K.kind,.int .i64 K.off,.slice V G H] 50)).1.size=v.1.size+2:=by simp
    have R:R2≠[]->∀g,q01 A2=some g->g<v.1.size:=λhl g d=>s2.Qc hl g d
    have O:∀g,q01 A2=some g->wr.1.size<=g:=λg d=>by
     cases A2 with
     |none=>cases d
     |some ad=>have:=f2 ad rfl;have e:ad.block=g:=Option.some.inj d;omega
    have b6:=a1.below bY;have b4:S≠[]->∀g,q01 V=some g->w.1.size<=g/\q01 Q≠some g:=λ_ g d=>by
     cases V with
     |none=>cases d
     |some ad=>
      have h1:=fV ad rfl;have h2:ad.block=g:=Option.some.inj d;exact⟨by omega,λe=>by have:=u g e;omega⟩
    have c7:j<=1000:=by omega
    clear I f M s2 W D a7 a1 fV f2;go_wp2_with (first
     |(at_builtin;refine q65 rfl _ _ rfl w.1.size Q j c' xs rfl T (some ⟨v.1.size+1,0,none⟩) 1 ⟨K,S⟩ V G H rfl U b6 b4 (Nat.le_trans c7 (by decide)) zY ?_)
     |fail)
    intro A6 c6 v6 b5 T7 a4;have s7:=s3.turned' T7 (λ_ g d e=>by have h1:=u g e;have h2:=O g d;omega);have W7:=W3.trans (T7.below (B:=w.1.size) (λx hx=>F x hx) zY);have a8:R2≠[]->∀g,q01 A2=some g->q01 A6≠some g:=λhl g d e=>by
     have h1:=R hl g d;have h2:=O g d;rcases a4 with h3|h3
     ·have:=u g (h3.symm.trans e);omega
     ·rw[h3] at e;have:=Option.some.inj e;omega
    have Y:∀g,q01 A2=some g->q01 A=some g\/w.1.size<=g:=λg d=>.inr (Nat.le_trans b2 (O g d))
    clear T s3 W3 U bY b6 b4 u F O R a4;go_wp2;exact⟨⟨j+1,xs++[⟨K,S⟩],R2,A2,n2,c2,A6,c6,by omega,by go_num,rfl,rfl,b8.out,s7,d0,a8,Y,b5,W7⟩,by simp[intOf];omega⟩
   ·have a6:=Lib.hid (y.out _ m.out (qm2 a9));have a5:=W.trans (D.mono W.size);have d5:decide (E=0)=false:=decide_eq_false hE;have d6:(E==0)=false:=by simp[hE]
    have b9:Below w.1.size w (v.alloc (.cells #[.int .i64 0,.int .i64 0,.int .i64 0,.slice none 0 0] 50)):=a5.alloc a5.size _;clear I m y a9 f M a7 u F;unfold Qct;go_wp2;go_ret3;exact qon hE a6.out b9
  ·obtain rfl:j=cnt:=by omega
   have b7:=Lib.hid P;clear P;go_wp2;go_ret3;exact qom b7.out (by omega) f M I W
theorem qm4 (l:Int)(hl:l≠0)(body:List UInt8)(cnt:Nat)(A:Option Addr)(k c:Nat)(w:World)(h:Sl w A k c body)(hk:k<=1000)(d1:cnt<=100000) :
  Calls Tryz.prog 144 #[.slice A k c,.int .i64 (cnt:Int),.func (.func 145) #[] #[]] w λe w'=>Lp l A body cnt w e w':=by
 go_enter Tryz.func144,Tryz.ntmps144
 go_wp2_with fail
 go_loopw [0,9,14] (λt0 t9 a3 wr=>∃(j:Nat) (W:List Qm) (r:List UInt8) (Rr:Option Addr) (p q:Nat) (X:Option Addr) (c':Nat),j<=cnt/\a3=.int .i64 (j:Int)/\t0=.slice Rr p q/\t9=.slice X j c'/\
  Ju l body j=some (⟨l,[],W⟩,r)/\Sl wr Rr p q r/\p+10*j<=k/\(r≠[]->∀g,q01 Rr=some g->q01 X≠some g)/\(∀g,q01 Rr=some g->q01 A=some g\/w.1.size<=g)/\Qo wr w.1.size 148 4 X j c' (W.map Qm.vs)/\Below w.1.size w wr) (λ_ _ a3 _=>cnt-(intOf a3).toNat)
 case atStart=>exact⟨0,[],body,A,k,c,none,0,Nat.zero_le _,rfl,rfl,rfl,rfl,h,by omega,(λ_ _ _ h=>by cases h),(λg m=>.inl m),Ir _ _ _ _,Below.refl _ _⟩
 case round=>
  obtain⟨j,W,r,Rr,p,q,X,c',hj,rfl,rfl,rfl,Q,M,hp,a8,I,d,Y⟩:=hrel;by_cases c7:j<cnt
  ·have f:=Lib.hid (q4q l body j _ r Q);have J:∀x,Ju l body (j+1)=x->x=none->Ju l body cnt=none:=λx h1 h2=>qa3 _ _ _ _ (h1.trans h2) c7
   have D:=Lib.hid J;clear J Q;have H:∀g,q01 X=some g->g<wr.1.size:=λg m=>(d.Qc g m).2
   have G:∀g,q01 X=some g->w.1.size<=g:=λg m=>(d.Qc g m).1
   have c9:=M.len;go_wp2_with fail
   refine (qfd Rr p q r wr M (by omega)).mono ?_;rintro e v (⟨h1,h2,b4⟩|⟨b0,E,hE,rfl,F⟩)
   ·have a1:=qvz h1;have a2:=qym h2;have a4:=Lib.hid (qtc hl (xs:=W) h1 h2);have b1:=Lib.hid (f.out.trans a4.out);clear f a4 D h1 h2;obtain⟨A2,n2,c2,rfl,s2,f2,F⟩:=b4;obtain⟨V,hS⟩:∃S,Px (Wj r)=S:=⟨_,rfl⟩;obtain⟨R2,Z⟩:∃S,Nu (Wj r)=S:=⟨_,rfl⟩;obtain⟨K,hK⟩:∃K,Gw r=K:=⟨_,rfl⟩;have b9:=s2.len;have c8:n2+10*(j+1)<=k:=by omega
    rw[Z] at s2;have b2:Ju l body (j+1)=some (⟨l,[],W++[⟨K,V⟩]⟩,R2):=by rw[b1.out,hK,hS,Z]
    have b6:=Lib.hid b2;clear b2 b1;rw[hK,hS];clear hK hS Z b9 a1 a2 c9 hp;have bY:Below v.1.size v ((v.alloc (.cells #[.int .i64 K.obj,.int .i64 K.kind,.int .i64 K.off,.int .i64 V] 148)).alloc (.cells #[.int .i64 K.obj,.int .i64 K.kind,.int .i64 K.off,.int .i64 V] 148)):=(Qn).alloc (by simp) _;have U:Js ((v.alloc (.cells #[.int .i64 K.obj,.int .i64 K.kind,.int .i64 K.off,.int .i64 V] 148)).alloc (.cells #[.int .i64 K.obj,.int .i64 K.kind,.int .i64 K.off,.int .i64 V] 148)) 4 (some ⟨v.1.size+1,0,none⟩) 1 1 [(⟨K,V⟩:Qm).vs]:=by
     have:=(q1q (v.alloc (.cells #[.int .i64 K.obj,.int .i64 K.kind,.int .i64 K.off,.int .i64 V] 148)) 148 4 ((⟨K,V⟩:Qm).vs) _ rfl rfl).Kt (by omega);rwa [World.size_alloc] at this
    have d0:wr.1.size<=v.1.size:=F.size;have b3:w.1.size<=wr.1.size:=Y.size;have T:=(d.below F).below bY;have s3:=s2.below bY;have W3:=Y.trans ((F.trans (bY.mono F.size)).mono Y.size);have zY:w.1.size<=((v.alloc (.cells #[.int .i64 K.obj,.int .i64 K.kind,.int .i64 K.off,.int .i64 V] 148)).alloc (.cells #[.int .i64 K.obj,.int .i64 K.kind,.int .i64 K.off,.int .i64 V] 148)).1.size:=Nat.le_trans (Nat.le_trans b3 d0) bY.size;have d2:((v.alloc (.cells #[.int .i64 K.obj,.int .i64 K.kind,.int .i64 K.off,.int .i64 V] 148)).alloc (.cells #[.int .i64 K.obj,.int .i64 K.kind,.int .i64 K.off,.int .i64 V] 148)).1.size=v.1.size+2:=by simp
    have R:R2≠[]->∀g,q01 A2=some g->g<v.1.size:=λhl g m=>s2.Qc hl g m
    have P:∀g,q01 A2=some g->wr.1.size<=g:=λg m=>by
     cases A2 with
     |none=>cases m
     |some ad=>have:=f2 ad rfl;have e:ad.block=g:=Option.some.inj m;omega
    have b8:j+1<=1000000:=by omega
    have one:∀y∈[(⟨K,V⟩:Qm).vs],∀u∈y,u.oneCell'=true:=by
     intro y hy u hu;obtain rfl:y=(⟨K,V⟩:Qm).vs:=by simpa using hy
     simp[Qm.vs] at hu;rcases hu with rfl|rfl|rfl|rfl<;>rfl
    clear I d M s2 Y F a8 f2;go_wp2_with (first
     |(at_builtin;refine q4d _ Qaq rfl _ _ rfl w.1.size X j c' (W.map Qm.vs) rfl T (some ⟨v.1.size+1,0,none⟩) 1 1 [(⟨K,V⟩:Qm).vs] rfl U (by omega) one b8 (by omega) zY ?_)
     |fail)
    intro A6 c6 v6 O T7 a5 _;have O:Qo v6 w.1.size 148 4 A6 (j+1) c6 ((W++[(⟨K,V⟩:Qm)]).map Qm.vs):=by rw[List.map_append];exact O
    have s7:=s3.turned' T7 (λ_ g m e=>by have h1:=H g e;have h2:=P g m;omega);have W7:=W3.trans (T7.below (B:=w.1.size) (λx hx=>G x hx) zY);have a9:R2≠[]->∀g,q01 A2=some g->q01 A6≠some g:=λhl g m e=>by
     have h1:=R hl g m;have h2:=P g m;rcases a5 with h3|h3
     ·have:=H g (h3.symm.trans e);omega
     ·rw[h3] at e;have:=Option.some.inj e;omega
    have a0:∀g,q01 A2=some g->q01 A=some g\/w.1.size<=g:=λg m=>.inr (Nat.le_trans b3 (P g m))
    clear T s3 W3 U bY one H G P R a5;go_wp2;exact⟨⟨j+1,W++[⟨K,V⟩],R2,A2,n2,c2,A6,c6,by omega,by go_num,rfl,rfl,b6.out,s7,c8,a9,a0,O,W7⟩,by simp[intOf];omega⟩
   ·have a7:=Lib.hid (D.out _ f.out (qhz hl b0));have a6:=Y.trans (F.mono Y.size);have d3:decide (E=0)=false:=decide_eq_false hE;have d4:(E==0)=false:=by simp[hE]
    have b7:Below w.1.size w (v.alloc (.cells #[.int .i64 0,.int .i64 0,.int .i64 0,.int .i64 0] 148)):=a6.alloc a6.size _;clear I f D b0 d M a8 H G;unfold Qbg;go_wp2;go_ret3;exact qop hE a7.out b7
  ·obtain rfl:j=cnt:=by omega
   have b5:=Lib.hid Q;clear Q;go_wp2;go_ret3;exact qoo b5.out (by omega) d M I Y
