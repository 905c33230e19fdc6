/- The code's pool: Ref, Fresh; the superblock is set -/
import Derived.Test.YtloolbmdiimanaaGreatDoorGv23
import Derived.Test.YtloolbmdiimanaaGreatDoorGv24
import Derived.Shelf.SlIterI.Nil
import Derived.Shelf.SlIterI.Sorted
import Derived.Shelf.SortM.Plain
import Derived.Shelf.SortM.SortNone
import Derived.Shelf.SlMaps.Clone
namespace Go.Proofs.YtloolbmdiimanaaGreatDoor
open Go Go.RowKit Go.Proofs Tryz
set_option maxHeartbeats 8000000
set_option maxRecDepth 100000
section
theorem qtt (C:Ct)(a:Int)(c:Nat)(g:C.ok):(C.ref a).get (c:Int)=0↔C.get (c:Int)=0:=by
 by_cases h:C.Y0 a=0
 ·have f:C.ref a=C.put a.toNat (C.get a+1):=by unfold Ct.ref;rw[AA h]
  have h0:C.get a≠0:=λe=>by unfold Ct.Y0 at h;rw[AA e] at h;omega
  have E:0<=a/\a<(C.n:Int):=Classical.byContradiction λh2=>h0 (by unfold Ct.get;rw[AB h2])
  have F:=C.Zv g a;obtain⟨V,y⟩:∃V,C.get a+1=V:=⟨_,rfl⟩;rw[f,y];by_cases B:c<C.n
  ·have h1:(C.put a.toNat V).get (c:Int)=nm (C.put a.toNat V).now c:=by unfold Ct.get;rw[C.Zg,AA (by omega),AJ]
   have h2:C.get (c:Int)=nm C.now c:=by unfold Ct.get;rw[AA (by omega),AJ]
   rw[h1,q67 _ _ _ _ B];by_cases e:c=a.toNat
   ·have u:(c:Int)=a:=by omega
    rw[AA e,u];constructor
    ·intro m;omega
    ·intro m;exact absurd m h0
   ·rw[AB e,h2]
  ·have h1:(C.put a.toNat V).get (c:Int)=0:=by unfold Ct.get;rw[C.Zg,AB (by omega)]
   have h2:C.get (c:Int)=0:=by unfold Ct.get;rw[AB (by omega)]
   rw[h1,h2]
 ·have f:C.ref a=C:=by unfold Ct.ref;rw[AB h]
  rw[f]
theorem qyr {P:Pl}(h:P.ok)(a:Int):Pl.ok ⟨P.S,P.C.ref a,P.L⟩:=
 ⟨Ct.Qap h.c a,Ct.Qaq h.res a,h.may,by show P.S.Qa=((P.C.ref a).n:Int);rw[Ct.Qa0];exact h.sec,h.gen,h.fine⟩
theorem qtu {w:WD}{p d:Nat}{S T:NP}{P:Pl}(H:Pool w p d S T P)(a:Int) :
  Calls prog 177 #[.pointer (some ⟨p,0,none⟩),.int .i64 a] w λe w'=>e=.returned (.int .i64 (P.C.Y0 a))/\Pool w' p d S T ⟨P.S,P.C.ref a,P.L⟩/\Turn S w w':=by
 have f:=H.ok;obtain⟨m,B,l,clock,v,K,L⟩:=H;have g:=qt4 L.ct a;have M:=L.Iz;have u:=HI (qyr f a);have J:=HI (λc=>qtt P.C a c f.c);obtain⟨E,G⟩:∃E,P.C.Y0 a=E:=⟨_,rfl⟩;rw[G] at g ⊢;have y:=HI g;clear g G f;go_enter func177,ntmps177
 go_wp2_with fail
 refine y.out.mono ?_;rintro e O ⟨rfl,I,F⟩;have R:=L.Qas F I (Ct.Qa0 _ _) (λc=>J.out c) u.out;go_wp2;go_ret;exact⟨rfl,⟨m,B,l,clock,v,K,R⟩,F.mono L.Ym.2.2⟩
theorem q7s {w:WD}{p d:Nat}{S T:NP}{P:Pl}(H:Pool w p d S T P)(a:Int)(r:Bool)(u:P.C.fresh a=r) :
  Calls prog 170 #[.pointer (some ⟨p,0,none⟩),.int .i64 a] w λe w'=>e=.returned (.bool r)/\w=w':=by
 obtain⟨m,g,l,clock,v,y,L⟩:=H;have f:=qm0 L.ct a r u;go_enter func170,ntmps170
 go_wp2_with fail
 refine f.mono ?_;rintro e B ⟨rfl,rfl⟩;go_wp2;go_ret;exact⟨rfl,rfl⟩
attribute [local go_sem ↓] q25
end
section
open Go.ChangeMaps (setBlock)
theorem q6x {N:Nd}(hm:N.may=true){a:Nat}{g:Int}(E:a<=2047)(m:Em g):Zh N (a:Int) g=0/\Jr N (a:Int) g=Zk (N.head (a:Int) g) N.body/\(N.head (a:Int) g).ok=true:=by
 have e:Zh N (a:Int) g=0:=Classical.byContradiction λh=>by
  have h2:=(qth hm h).2;have y:=m.1;have B:=m.2;omega
 refine⟨e,?_⟩;unfold Zh at e;rw[AA hm] at e;obtain⟨f,_,u⟩:=q7f _ _ e;refine⟨?_,f⟩;unfold Jr;rw[AA hm,u]
theorem q4q {N:Nd}(hm:N.may=true):(Bk.node N).good:=⟨λ_ _ e f=>(q6x hm e f).2.2,qp5 hm,λ_ _ e f=>(q6x hm e f).2.1⟩
def Pl.Yz (P:Pl)(N:Nd):Int:=if N.may=true then P.C.Ku else 0
def Pl.Jm (P:Pl)(N:Nd):Int:=if N.may=true then P.C.Kt else 1
def Pl.Jg (P:Pl)(N:Nd):Pl:=if N.may=true then P.lay (.node N) else P
end
section
open Go.ChangeMaps (setBlock)
def Pl.Jt (P:Pl)(D:DM)(a k:Int):Int:=match Yg k with
 |none=>1
 |some most=>if P.C.get a=0 then 1 else match P.live a.toNat with
  |some b=>Cm (b.out a.toNat 0) k a.toNat most 1
  |none=>if D.Jw a=0 then Cm (D.Xh a) k a.toNat most 5 else D.Jw a
def Pl.Jz (P:Pl)(D:DM)(a k:Int):LU:=match Yg k with
 |none=>[]
 |some most=>if P.C.get a=0 then [] else match P.live a.toNat with
  |some b=>Cj (b.out a.toNat 0) k a.toNat most
  |none=>if D.Jw a=0 then Cj (D.Xh a) k a.toNat most else []
def qae (P:Pl)(D:DM)(p:Nat)(a k:Int)(w:WD):Prop:=
 Calls prog 45 #[.pointer (some ⟨p,0,none⟩),.int .i64 a,.int .i64 k] w λe w'=>∃A n c,e=.returned (.tuple #[.slice A n c,.int .i64 (P.Jt D a k)])/\Sl w' A n c (P.Jz D a k)/\Below w.1.size w w'/\∀f,A=some f->w.1.size<=f.block
theorem Uh {C:Ct}{a:Int}(h:C.get a≠0):∃n:Nat,a=(n:Int)/\n<C.n:=by
 have e:0<=a/\a<(C.n:Int):=Classical.byContradiction λh2=>h (by unfold Ct.get;rw[AB h2])
 exact⟨a.toNat,by omega,by omega⟩
theorem qmi {w:WD}{p d:Nat}{S0 S T:NP}{D:DM}{P:Pl}(M:Vp w d S0 D)(H:Pool w p d S T P)(J:Tab w)(a k:Int):qae P D p a k w:=by
 unfold qae
 cases g:Yg k with
 |none=>
  have m:P.Jt D a k=1:=by unfold Pl.Jt;rw[g]
  have u:P.Jz D a k=[]:=by unfold Pl.Jz;rw[g]
  rw[m,u];have f:=q34 k;unfold Dz at f;rw[g] at f;clear m u g;go_enter func45,ntmps45
  go_wp2_with (first
   |(go_at_call 74;refine (f w).mono ?_;rintro e K ⟨rfl,rfl⟩)
   |fail)
  go_ret2;exact⟨_,_,_,rfl,G6 _,AI _ _,λI h=>(by cases h)⟩
 |some most=>
  have f:=q34 k;unfold Dz at f;rw[g] at f;replace f:∀w:WD,Calls prog 74 #[.int .i64 k] w λe w'=>e=.returned (.tuple #[.int .i64 (most:Int),.bool true])/\w=w':=f
  by_cases h0:P.C.get a=0
  ·have m:P.Jt D a k=1:=by unfold Pl.Jt;rw[g];exact AA h0
   have u:P.Jz D a k=[]:=by unfold Pl.Jz;rw[g];exact AA h0
   rw[m,u];have F:=qk5 H a h0;clear m u g h0;go_enter func45,ntmps45
   go_wp2_with (first
    |(go_at_call 74;refine (f w).mono ?_;rintro e K ⟨rfl,rfl⟩)
    |(go_at_call 75;refine F.mono ?_;rintro e Q ⟨rfl,rfl⟩)
    |fail)
   go_ret2;exact⟨_,_,_,rfl,G6 _,AI _ _,λI h=>(by cases h)⟩
  ·obtain⟨n,rfl,hn⟩:=Uh h0
   cases y:P.live n with
   |some b=>
    have m:P.Jt D (n:Int) k=Cm (b.out n 0) k n most 1:=by unfold Pl.Jt;rw[g];show (if _ then _ else _)=_;rw[AB h0,AJ,y]
    have u:P.Jz D (n:Int) k=Cj (b.out n 0) k n most:=by unfold Pl.Jz;rw[g];show (if _ then _ else _)=_;rw[AB h0,AJ,y]
    rw[m,u];exact qg4 k most g n _ 1 (qcj H n b y) J
   |none=>
    have F:=q69 M H n h0 y;by_cases B:D.Jw (n:Int)=0
    ·have m:P.Jt D (n:Int) k=Cm (D.Xh (n:Int)) k n most 5:=by unfold Pl.Jt;rw[g];show (if _ then _ else _)=_;rw[AB h0,AJ,y];exact AA B
     have u:P.Jz D (n:Int) k=Cj (D.Xh (n:Int)) k n most:=by unfold Pl.Jz;rw[g];show (if _ then _ else _)=_;rw[AB h0,AJ,y];exact AA B
     rw[m,u];rw[B] at F;exact qg4 k most g n _ 5 F J
    ·have m:P.Jt D (n:Int) k=D.Jw (n:Int):=by unfold Pl.Jt;rw[g];show (if _ then _ else _)=_;rw[AB h0,AJ,y];exact AB B
     have u:P.Jz D (n:Int) k=[]:=by unfold Pl.Jz;rw[g];show (if _ then _ else _)=_;rw[AB h0,AJ,y];exact AB B
     rw[m,u];obtain⟨E,G⟩:∃E,D.Jw (n:Int)=E:=⟨_,rfl⟩;rw[G] at F B ⊢;have W:(E != 0)=true:=by simpa using B
     clear m u g h0 y B G;go_enter func45,ntmps45
     go_wp2_with (first
      |(go_at_call 74;refine (f w).mono ?_;rintro e K ⟨rfl,rfl⟩)
      |(go_at_call 75;refine F.mono ?_;rintro e Q ⟨R,U,c2,rfl,X,O⟩)
      |fail)
     go_ret2;exact⟨_,_,_,rfl,G6 _,O,λI h=>(by cases h)⟩
end
structure Qh (b:Nat)(w:WD)(d p:Nat)(S0 S T:NP)(D:DM)(P:Pl):Prop where
 Bc:Vp w d S0 D
 pool:Pool w p d S T P
 sub:∀k,S0 k->T k
 apart:∀k,S0 k->¬S k
 tight:∀k,T k->b<=k/\k<w.heap.size
def Sys (b:Nat)(w:WD)(d p:Nat)(T:NP)(D:DM)(P:Pl):Prop:=∃S0 S,Qh b w d p S0 S T D P
def grow (T:NP)(w w':WD):NP:=λk=>(T k\/w.1.size<=k)/\k<w'.1.size
section
variable {b:Nat}{w w':WD}{d p:Nat}{T:NP}{D:DM}{P:Pl}
theorem Qh.Dw {S0 S:NP}(H:Qh b w d p S0 S T D P):∀k,S k->T k:=by
 obtain⟨m,e,l,clock,v,f,L⟩:=H.pool;exact L.sub
theorem Qh.base {S0 S:NP}(H:Qh b w d p S0 S T D P):b<=w.1.size:=by
 obtain⟨m,e,l,clock,v,f,L⟩:=H.pool;have:=(H.tight _ (L.sub _ L.Ym.1)).1;have:=L.Iz;omega
theorem Sys.ok (H:Sys b w d p T D P):P.ok:=by
 obtain⟨S0,S,H⟩:=H;exact H.pool.ok
theorem Sys.base (H:Sys b w d p T D P):b<=w.1.size:=by
 obtain⟨S0,S,H⟩:=H;exact H.base
theorem qys {g w:WD}{d p q:Nat}{S0:NP}{D:DM}{P:Pl}(H:Ru g w p d q S0 D P)(f:∀k,S0 k->b<=k)(m:b<=g.1.size):Sys b w d p (λk=>b<=k/\k<w.1.size) D P:=by
 refine⟨λk=>(S0 k\/g.1.size<=k)/\k<q,λk=>q<=k/\k<w.1.size,H.Bc,?_,λk e=>?_,λk e h=>?_,λk e=>e⟩
 ·have h:=H.pool (λk=>b<=k) (λk e=>by have:=H.ge.1;omega);exact h.mono (λk e h=>⟨h,e⟩) (λk e h=>h.1) λk e=>⟨by have:=H.ge.1;omega,e.2⟩
 ·have:=H.ge.2;exact⟨e.1.elim (f k) λh=>by omega,by omega⟩
 ·omega
end
theorem q6y {P:Pl}{a:Nat}{b:Bk}(h:P.live a=some b):P.C.get (a:Int)≠0/\P.L a=some b:=by
 unfold Pl.live at h;split at h
 ·cases h
 ·rename_i h0;exact⟨h0,h⟩
theorem qpf {P:Pl}(D:DM){a:Nat}{k:Int}{x:LU}{most:Nat}(h:P.live a=some (.bytes k x))(m:Yg k=some most)(B:x.length<=most)(y:a<=2047):P.Jt D (a:Int) k=0/\P.Jz D (a:Int) k=x:=by
 obtain⟨h0,_⟩:=q6y h;obtain⟨f,hm⟩:=q58 m;obtain⟨g,u⟩:=qp7 k a most 0 x f y q1w B hm;have e:(Bk.bytes k x).out a 0=Zk (Ba k a x.length 0) x:=rfl;unfold Pl.Jt Pl.Jz;rw[m];show (if _ then _ else _)=(0:Int)/\(if _ then _ else _)=x;rw[AB h0,AB h0,AJ,h];show Cm ((Bk.bytes k x).out a 0) k a most 1=0/\Cj ((Bk.bytes k x).out a 0) k a most=x;rw[e,(qi8 1 g).1,(qi8 1 g).2,u];exact⟨rfl,rfl⟩
theorem qmj {P:Pl}{D:DM}{a k:Int}(h0:P.C.get a=0):P.Jt D a k=1/\P.Jz D a k=[]:=by
 unfold Pl.Jt Pl.Jz
 cases Yg k with
 |none=>exact⟨rfl,rfl⟩
 |some m=>exact⟨AA h0,AA h0⟩
theorem qyt {n:Nat}(h:n<=2048):(Xu n).length<=30:=by
 rw[qp0];unfold Qj;omega
section
variable {b:Nat}{w w':WD}{d p:Nat}{S0 S T S':NP}{D:DM}{P:Pl}
theorem Qh.below (H:Qh b w d p S0 S T D P)(hb:Below w.1.size w w'):Qh b w' d p S0 S T D P:=
 ⟨H.Bc.below hb,H.pool.below hb,H.sub,H.apart,λk e=>⟨(H.tight k e).1,by have:=(H.tight k e).2;have:=hb.size;omega⟩⟩
theorem Qh.more (H:Qh b w d p S0 S T D P)(hb:Below w.1.size w w'):Qh b w' d p S0 S (grow T w w') D P:=by
 have g:=H.base;have f:=H.Dw;have m:=hb.size;refine⟨H.Bc.below hb,(H.pool.mono (S':=S) (T':=grow T w w') (λk _ h=>h) (λk e h=>?_) (λk h=>⟨.inl (f k h),by have:=(H.tight k (f k h)).2;omega⟩)).below hb,λk e=>⟨.inl (H.sub k e),by have:=(H.tight k (H.sub k e)).2;omega⟩,H.apart,λk e=>⟨e.1.elim (λh=>(H.tight k h).1) λh=>by omega,e.2⟩⟩;exact h.1.elim id λh=>by omega
theorem Qh.own (H:Qh b w d p S0 S T D P)(t:Turn S' w w')(hT:∀k,S' k->T k)(h0:∀k,S' k->¬S0 k)(h1:∀k,S' k->¬S k):Qh b w' d p S0 S T D P:=
 ⟨H.Bc.keep λk e f=>t.block k e λh=>h0 k h f,H.pool.other t hT h1,H.sub,H.apart,λk e=>⟨(H.tight k e).1,by have:=(H.tight k e).2;have:=t.size;omega⟩⟩
theorem Qh.sys (H:Qh b w d p S0 S T D P):Sys b w d p T D P:=⟨S0,S,H⟩
end
section
variable {w w':WD}{base:Nat}{A:OA}{n c:Nat}{an:List Nat}
end
section
open Go.ChangeMaps (setBlock)
theorem qea {w:WD}{p d:Nat}{S T:NP}{P:Pl}(H:Pool w p d S T P)(hT:∀k,T k->k<w.1.size)(hG:¬T 1)(N:Nd)(A:OA)(n c:Nat)(B:OA)(F G:Nat)(a0:∀w',Turn S w w'->Ji w' A n c N.items/\Zn w' B F G N.kids)(hn:n<=1000)(hm:F<=1000)(ht:Tab w) :
  Calls prog 166 #[.pointer (some ⟨p,0,none⟩),.agg #[.int .i64 N.lvl,.slice A n c,.slice B F G]] w λe w'=>e=.returned (.tuple #[.int .i64 (P.Yz N),.int .i64 (P.Jm N)])/\Pool w' p d S T (P.Jg N)/\Turn S w w'/\Tab w':=by
 have a6:=H.ok;have N1:NB (w.alloc (.cells #[.int .i64 N.lvl,.slice A n c,.slice B F G] 108)) w.1.size N.lvl A n c B F G:=NB.new w _ _ _ _ _ _ _ _;have U:Below w.1.size w (w.alloc (.cells #[.int .i64 N.lvl,.slice A n c,.slice B F G] 108)):=Ql;have z1:(w.alloc (.cells #[.int .i64 N.lvl,.slice A n c,.slice B F G] 108)).1.size=w.1.size+1:=by simp
 have Z:=λr hr w' (hw:Turn S w w')=>q28 N r hr A n c B F G w' (a0 w' hw).1 (a0 w' hw).2 hn hm
 have c0:=N1.c0;have c1:=N1.c1;have c2:=N1.c2;have t1:=ht.below U ht.1;have H1:=H.below U;have B1:Turn S w (w.alloc (.cells #[.int .i64 N.lvl,.slice A n c,.slice B F G] 108)):=Zb U
 cases f:N.may with
 |false=>
  have e1:P.Yz N=0:=by unfold Pl.Yz;rw[f];rfl
  have Y:P.Jm N=1:=by unfold Pl.Jm;rw[f];rfl
  have e3:P.Jg N=P:=by unfold Pl.Jg;rw[f];rfl
  rw[e1,Y,e3];have W:=HI (Z false f);clear f e1 Y e3 Z;go_enter func166,ntmps166
  go_wp2_with fail
  generalize w.alloc (.cells #[.int .i64 N.lvl,.slice A n c,.slice B F G] 108)=w1 at U N1 z1 c0 c1 c2 t1 H1 B1 ⊢;refine (W.out w1 B1).mono ?_;rintro e w2 ⟨rfl,J⟩;go_wp2;go_ret2;have BB:=U.trans (J.mono (by omega));exact⟨rfl,H.below BB,Zb BB,ht.below BB ht.1⟩
 |true=>
  have a5:=q4q f;have e1:P.Yz N=P.C.Ku:=by unfold Pl.Yz;rw[f];rfl
  have Y:P.Jm N=P.C.Kt:=by unfold Pl.Jm;rw[f];rfl
  have e3:P.Jg N=P.lay (.node N):=by unfold Pl.Jg;rw[f];rfl
  have b8:=λ(a:Nat) (ha:a<=2047)=>q6x f ha q1w
  have W:=HI (Z true f);have d2:=HI b8;rw[e1,Y,e3];clear f Z b8 e1 Y e3;have H0:=H;obtain⟨m,d3,l,clock,v,Sc,L⟩:=H1;have b5:=L.Iz;have b3:=L.mlt
  cases hp:P.C.pick with
  |none=>
   obtain⟨a1,a2,a3⟩:=Ct.Y9 hp;have E:=λ(w2:WD) (C2:Yu w2 p 36 Sc P.C)=>q7l C2
   rw[a1,a2,a3] at E;rw[a1,a2,q6w hp];have E:=HI E;clear a1 a2 a3 hp;go_enter func166,ntmps166
   go_wp2_with fail
   generalize w.alloc (.cells #[.int .i64 N.lvl,.slice A n c,.slice B F G] 108)=w1 at U N1 z1 c0 c1 c2 t1 B1 L b5 b3 ⊢;refine (W.out w1 B1).mono ?_;rintro e w2 ⟨rfl,J⟩;have u:=L.below J;go_wp2_with fail
   refine (E.out w2 u.ct).mono ?_;rintro e y ⟨rfl,C3,R⟩;go_wp2;go_ret2;have BB:=U.trans (J.mono (by omega));have X3:Turn S w y:=(Zb (S:=S) BB).trans (R.mono u.Ym.2.2) λk hk=>.inl hk
   exact⟨rfl,⟨m,d3,l,clock,v,Sc,u.Qas R C3 rfl (λ_=>Iff.rfl) a6⟩,X3,ht.turned X3 λh=>hG (u.sub _ h)⟩
  |some a=>
   obtain⟨a1,a2,a3⟩:=Ct.Jf hp;have d5:=(Ct.Ju hp).1;have K:P.C.get (a:Int)=0:=by unfold Ct.get;rw[AA (by omega),AJ];exact (Ct.Ju hp).2.2.1
   have O:Zf (a:Int) l=none:=by rw[L.look a];unfold Pl.live;rw[AA K];rfl
   have I:=HI O;have e8:=a6.c.1;have hS:=qte (P:=P) (.node N);have b4:=qi2 (P:=P) (.node N);have a4:=qjv a6 a5.fine;have a8:P.C.alloc=(P.lay (.node N)).C:=by rw[q2k hp]
   have b0:=qk3 hp (.node N);have a9:=qk4 a5 L.good;have E:=λ(w2:WD) (C2:Yu w2 p 36 Sc P.C)=>q7l C2
   rw[a1,a2,a8] at E;rw[a1,a2];obtain⟨b6,e5,_⟩:=d2.out a (by omega);have M:=a5.len (a:=a) (g:=0) (by omega) q1w;have b7:(Bk.node N).out a 0=Jr N (a:Int) 0:=rfl;rw[b7] at M;have d0:=HI b6;have e7:=HI M;have E:=HI E;have c9:=HI b0;have b9:=HI a9;have a7:=HI a4;have HS:=HI hS;have Hn:=HI b4;clear a1 a2 a3 hp a8 hS b4 a4 b0 a9 b6 e5 M O K b7;go_enter func166,ntmps166
   go_wp2_with fail
   generalize w.alloc (.cells #[.int .i64 N.lvl,.slice A n c,.slice B F G] 108)=w1 at U N1 z1 c0 c1 c2 t1 B1 L b5 b3 ⊢;refine (W.out w1 B1).mono ?_;rintro e w2 ⟨rfl,J⟩;have u:=L.below J;go_wp2_with fail
   refine (E.out w2 u.ct).mono ?_;rintro e y ⟨rfl,C3,R⟩;have z2:=J.size;have z3:=R.size;have N2:=N1.below J (by omega);have e4:=R.block p u.Iz λh=>(u.ne p h).1 rfl
   have e0:=R.block m u.mlt λh=>(u.ne m h).2 rfl
   have B3:Turn S w y:=(Zb (S:=S) (U.trans (J.mono (by omega)))).trans (R.mono u.Ym.2.2) λk hk=>.inl hk
   have d8:¬Sc w.1.size:=λh=>by have:=hT _ (u.sub _ (u.Ym.2.2 _ h));omega
   have n3:=R.block w.1.size N2.lt d8;have N3:NB y w.1.size N.lvl A n c B F G:=by
    obtain⟨t,h⟩:=N2;exact⟨t,n3.trans h⟩
   have e6:y.cell? ⟨p,40,none⟩=some (.map (some m)):=(AY (a:=⟨p,40,none⟩) e4).trans u.c40;have t3:Tab y:=(t1.below J t1.1).turned R λh=>hG (u.sub _ (u.Ym.2.2 _ h))
   have d7:w.1.size≠m:=λe=>by have h1:=hT m (u.sub _ u.Ym.2.1);omega
   have hF:∀w',Below y.1.size y w'->w'.cell? ⟨p,40,none⟩=some (.map (some m))/\w'.cell? ⟨w.1.size,0,none⟩=some (.int .i64 N.lvl)/\w'.cell? ⟨w.1.size,1,none⟩=some (.slice A n c)/\w'.cell? ⟨w.1.size,2,none⟩=some (.slice B F G):=λw' hb=>
    have N':=N3.below hb N3.lt;⟨(hb.cell (p:=⟨p,40,none⟩) (by show p<_;omega)).trans e6,N'.c0,N'.c1,N'.c2⟩
   have d4:∀w' (o:Obj),Below y.1.size y w'->(setBlock w' m o).cell? ⟨p,40,none⟩=some (.map (some m))/\(setBlock w' m o).cell? ⟨w.1.size,0,none⟩=some (.int .i64 N.lvl)/\(setBlock w' m o).cell? ⟨w.1.size,1,none⟩=some (.slice A n c)/\(setBlock w' m o).cell? ⟨w.1.size,2,none⟩=some (.slice B F G):=λw' o hb=>by
    have hz:=hb.size;have TB:Turn (λk=>k=m) w' (setBlock w' m o):=q0q _ rfl;obtain⟨h1,h2,h3,h4⟩:=hF w' hb;have e1:=TB.block p (by omega) u.p_m;have Y:=TB.block w.1.size (by omega) d7;exact⟨(AY (a:=⟨p,40,none⟩) e1).trans h1,(AY (a:=⟨w.1.size,0,none⟩) Y).trans h2,(AY (a:=⟨w.1.size,1,none⟩) Y).trans h3,(AY (a:=⟨w.1.size,2,none⟩) Y).trans h4⟩
   have BD:Below y.1.size y y.drew:=(AI _ _).drew;have d1:=HI (λ(w':WD) (hb:Below y.1.size y w') (v':Value)=>(congrArg (λz:Nat=>Result.ok () (setBlock w' m (.map (Zr (a:Int) v' clock l).toArray z))) (AA I.out)).subst (motive:=λr=>(Instr.mapUpdate 64 (.map (some m)) (.int .i64 (a:Int)) v').run prog w'=r) (q1t L.ents underlying64 underlying3 ((hb.block m (by omega)).trans (e0.trans u.map)) (a:Int) v'));have BI:Turn S w y.drew:=B3.drew;go_wp2_with fail
   go_region_held3 (λw'=>w'.cell? ⟨p,40,none⟩=some (.map (some m))/\w'.cell? ⟨w.1.size,0,none⟩=some (.int .i64 N.lvl)/\w'.cell? ⟨w.1.size,1,none⟩=some (.slice A n c)/\w'.cell? ⟨w.1.size,2,none⟩=some (.slice B F G))
    (first|assumption|exact hF _ BD|exact hF _ X|exact d4 _ _ X)
    (first
     |(go_at_call 179;refine (qch N (a:Int) 0 A n c B F G _ (a0 _ BI).1 (a0 _ BI).2 hn hm (t3.below BD t3.1)).mono ?_;rw[d0.out];rintro e w4 ⟨A3,n3,c3,rfl,Q,d9,d6⟩;have X:Below y.1.size y w4:=BD.trans d6;have e9:=d1.out w4 X)
     |fail)
   obtain⟨q,rfl,rfl,rfl⟩:=d9 (by first|trivial|rfl);have hq:=(Q.block ⟨q,0,none⟩ rfl).1;obtain⟨R1,R2⟩:=u.store (P':=P.lay (.node N)) (b:=.node N) R C3 X Hn.out HS.out d5 c9.out b9.out a7.out Q.sl (λh=>by have h1:=hT q h;have h2:y.drew.1.size=y.1.size:=rfl;have h3:y.drew.1.size<=q:=hq;omega);rw[AA I.out] at R1 R2;go_wp2;go_ret2;have BB:=U.trans (J.mono (by omega));have X3:=(Zb (S:=S) BB).trans R2 λk hk=>.inl hk
   exact⟨rfl,R1,X3,ht.turned X3 λh=>hG (u.sub _ h)⟩
section
variable {b:Nat}{w:WD}{d p:Nat}{S0 S T:NP}{D:DM}{P:Pl}
theorem qck (H:Qh b w d p S0 S T D P)(E:1<b)(y:Tab w)(N:Nd)(A:OA)(n c:Nat)(B:OA)(m k:Nat)(g:∀w',Turn S w w'->Ji w' A n c N.items/\Zn w' B m k N.kids)(hn:n<=1000)(hm:m<=1000) :
  Calls prog 166 #[.pointer (some ⟨p,0,none⟩),.agg #[.int .i64 N.lvl,.slice A n c,.slice B m k]] w λe w'=>e=.returned (.tuple #[.int .i64 (P.Yz N),.int .i64 (P.Jm N)])/\Qh b w' d p S0 S T D (P.Jg N)/\Turn S w w'/\Tab w':=by
 refine (qea H.pool (λk f=>(H.tight k f).2) (λh=>by have:=(H.tight _ h).1;omega) N A n c B m k g hn hm y).mono ?_;rintro e w' ⟨rfl,R,X,t⟩;have F:=X.size;exact⟨rfl,⟨H.Bc.keep λk f u=>X.block k f (H.apart k u),R,H.sub,H.apart,λk f=>⟨(H.tight k f).1,by have:=(H.tight k f).2;omega⟩⟩,X,t⟩
end
end
