/- The code's pool: Node -/
import Derived.Test.YtnnbaihfboacoaaGreatDoorEr27
namespace Go.Proofs.YtnnbaihfboacoaaGreatDoor
open Go Go.RowKit Go.Proofs
set_option maxHeartbeats 4000000
set_option maxRecDepth 100000
def qoz (M:Nd)(E:Int)(w:World)(e:Ending)(w':World):Prop:=
 ∃u p c1 y f D,e=.returned (.tuple #[.agg #[.int .i64 M.lvl,.slice u p c1,.slice y f D],.int .i64 E])/\p<=20/\f<=20/\Zl w' u p c1 M.items/\Zm w' y f D M.kids/\Below w.1.size w w'
def q68 (M:Nd)(E:Int)(w:World)(e:Ending)(w':World):Prop:=
 ∃u p c1 y f D,e=.returned (.tuple #[.agg #[.int .i64 M.lvl,.slice u p c1,.slice y f D],.int .i64 E])/\p<=20/\f<=20/\J4 w' w.1.size u p c1 M.items/\Qs w' w.1.size 81 4 y f D (M.kids.map Ql.vs)/\Below w.1.size w w'
theorem q68.ans {M:Nd}{E:Int}{w:World}{e:Ending}{w':World}(h:q68 M E w e w'):qoz M E w e w':=by
 obtain⟨f,I,c1,p,H,u,h1,h2,y,D,F,G⟩:=h;exact⟨f,I,c1,p,H,u,h1,h2,y,D.Zq,F.Vs (by omega),G⟩
def Jh:Nd:=⟨0,[],[]⟩
def Xz (x:List UInt8)(a o:Int):Int:=if (Qz x a).isSome=true then 0 else o
def X0 (x:List UInt8)(a:Int):Nd:=(Qz x a).getD Jh
section
variable {w w':World}{b n c m d:Nat}{l:Int}{A B:Option Addr}
end
theorem qfw {w:World}{p:Nat}{a E o:Int}(K:E≠0)(f:∀u,Below w.1.size w u->Calls Tryz.prog 67 #[.pointer (some ⟨p,0,none⟩),.int .i64 a] u λe w'=>∃A n c,e=.returned (.tuple #[.slice A n c,.int .i64 o,.int .i64 E])/\Below u.1.size u w') :
  Calls Tryz.prog 35 #[.pointer (some ⟨p,0,none⟩),.int .i64 a] w λe w'=>q68 Jh E w e w':=by
 have Q:(E==0)=false:=by simpa using K
 have G:NB (w.alloc (.cells #[.int .i64 0,.slice none 0 0,.slice none 0 0] 75)) w.1.size 0 none 0 0 none 0 0:=NB.new w _ _ _ _ _ _ _ _;have D:Below w.1.size w (w.alloc (.cells #[.int .i64 0,.slice none 0 0,.slice none 0 0] 75)):=Qm;have O:(w.alloc (.cells #[.int .i64 0,.slice none 0 0,.slice none 0 0] 75)).1.size=w.1.size+1:=by simp
 have y:=Lib.hid f;clear f;go_enter Tryz.func35,Tryz.ntmps35
 go_wp2_with fail
 generalize w.alloc (.cells #[.int .i64 0,.slice none 0 0,.slice none 0 0] 75)=M at D G O ⊢;refine (y.out M D).mono ?_;rintro e R ⟨A,n,c,rfl,F⟩;have H:=G.below F (by omega);go_wp2_with (first
  |(refine Gt rfl _ _ rfl w.1.size rfl 0 none 0 0 none 0 0 rfl H ?_;intro T I J)
  |fail)
 refine bodyPost_ret (q16 Tryz.results35 rfl (Ii I)) rfl ?_;have U:=F.size;exact⟨none,0,0,none,0,0,rfl,by omega,by omega,O8 _ _,q10 _ _ _ _,(D.trans (F.mono (by omega))).trans (J.below (λk P=>by omega) (by omega))⟩
theorem qcd {w:World}{p:Nat}{a o:Int}{x:List UInt8}(ht:Tab w)(I:∀u,Below w.1.size w u->Calls Tryz.prog 67 #[.pointer (some ⟨p,0,none⟩),.int .i64 a] u λe w'=>∃A n c,e=.returned (.tuple #[.slice A n c,.int .i64 o,.int .i64 0])/\Sl w' A n c x/\Below u.1.size u w') :
  Calls Tryz.prog 35 #[.pointer (some ⟨p,0,none⟩),.int .i64 a] w λe w'=>q68 (X0 x a) (Xz x a o) w e w':=by
 have R1:NB (w.alloc (.cells #[.int .i64 0,.slice none 0 0,.slice none 0 0] 75)) w.1.size 0 none 0 0 none 0 0:=NB.new w _ _ _ _ _ _ _ _;have O:Below w.1.size w (w.alloc (.cells #[.int .i64 0,.slice none 0 0,.slice none 0 0] 75)):=Qm;have z1:(w.alloc (.cells #[.int .i64 0,.slice none 0 0,.slice none 0 0] 75)).1.size=w.1.size+1:=by simp
 have Z:=ht.below O ht.1;have H:=Lib.hid I;clear I
 cases J:Qz x a with
 |none=>
  have e1:X0 x a=Jh:=by unfold X0;rw[J];rfl
  have e2:Xz x a o=o:=by unfold Xz;rw[J];rfl
  rw[e1,e2];have f:=λ(A:Option Addr) (n c:Nat) (y:World) (Q:Sl y A n c x) (R:Tab y)=>qfm A n c x a y Q R
  unfold q2o at f;rw[J] at f;have M:=Lib.hid f;clear f J e1 e2;go_enter Tryz.func35,Tryz.ntmps35
  go_wp2_with fail
  generalize w.alloc (.cells #[.int .i64 0,.slice none 0 0,.slice none 0 0] 75)=w1 at O R1 z1 Z ⊢;refine (H.out w1 O).mono ?_;rintro e y ⟨A,n,c,rfl,Q,F⟩;have R2:=R1.below F (by omega);have R:=Z.below F Z.1;have z2:=F.size;go_wp2_with fail
  refine (M.out A n c y Q R).mono ?_;rintro e D ⟨T,Y,c1,U,X,W,rfl,a2,a1,hI,hK,P⟩;have z3:=P.size;have R3:=R2.below P (by omega);have K:=O.trans ((F.trans (P.mono z2)).mono (by omega));go_wp2_with (first
   |(refine Gt rfl (.tmp 4) (.tmp 29) rfl w.1.size rfl 0 none 0 0 none 0 0 rfl (R3.below (E:=D.1.size) (Qm) (by omega)) ?_;intro w5 R5 T5)
   |fail)
  refine bodyPost_ret (q16 Tryz.results35 rfl (Ii R5)) rfl ?_;have G:Below D.1.size D (D.alloc (.cells #[.int .i64 0,.slice T Y c1,.slice U X W] 75)):=Qm;exact⟨none,0,0,none,0,0,rfl,by omega,by omega,O8 _ _,q10 _ _ _ _,(K.trans (G.mono K.size)).trans (T5.below (λk hk=>by omega) (by have:=K.size;have:=G.size;omega))⟩
 |some N=>
  have e1:X0 x a=N:=by unfold X0;rw[J];rfl
  have e2:Xz x a o=0:=by unfold Xz;rw[J];rfl
  rw[e1,e2];have f:=λ(A:Option Addr) (n c:Nat) (y:World) (Q:Sl y A n c x) (R:Tab y)=>qfm A n c x a y Q R
  unfold q2o at f;rw[J] at f;have M:=Lib.hid f;clear f J e1 e2;go_enter Tryz.func35,Tryz.ntmps35
  go_wp2_with fail
  generalize w.alloc (.cells #[.int .i64 0,.slice none 0 0,.slice none 0 0] 75)=w1 at O R1 z1 Z ⊢;refine (H.out w1 O).mono ?_;rintro e y ⟨A,n,c,rfl,Q,F⟩;have R2:=R1.below F (by omega);have R:=Z.below F Z.1;have z2:=F.size;go_wp2_with fail
  refine (M.out A n c y Q R).mono ?_;rintro e D ⟨T,Y,c1,U,X,W,rfl,a2,a1,hI,hK,P⟩;have hI:J4 D y.1.size T Y c1 N.items:=hI;have hK:Qs D y.1.size 81 4 U X W (N.kids.map Ql.vs):=hK;have hl:((some N:Option Nd).getD ⟨0,[],[]⟩).lvl=N.lvl:=rfl;simp only[hl];have z3:=P.size;have R3:=R2.below P (by omega);have K:=O.trans ((F.trans (P.mono z2)).mono (by omega));have G:Below D.1.size D (D.alloc (.cells #[.int .i64 N.lvl,.slice T Y c1,.slice U X W] 75)):=Qm;go_wp2_with (first
   |(refine Gt rfl (.tmp 4) (.tmp 31) rfl w.1.size rfl N.lvl T Y c1 U X W rfl (R3.below G (by omega)) ?_;intro w5 R5 T5)
   |fail)
  refine bodyPost_ret (q16 Tryz.results35 rfl (Ii R5)) rfl ?_;exact⟨T,Y,c1,U,X,W,rfl,a2,a1,((hI.below G).low T5 (λk hk=>by have h1:k=w.1.size:=hk;omega)).less (by omega),((hK.below G).turned T5 (λk hk e=>by have h1:=((hK.below G).Qa k hk).1;have h2:k=w.1.size:=e;omega)).less (by omega),(K.trans (G.mono K.size)).trans (T5.below (λk hk=>by omega) (by have:=K.size;have:=G.size;omega))⟩
def Pl.Zh (P:Pl)(D:DM)(a:Int):Int:=if P.C.get a=0 then 1 else match P.live a.toNat with
 |some (.node _)=>0
 |some (.bytes _ _)=>1
 |none=>if D.Ym a=0 then Xz (D.Yu a) a 5 else D.Ym a
def Pl.Qh (P:Pl)(D:DM)(a:Int):Nd:=if P.C.get a=0 then Jh else match P.live a.toNat with
 |some (.node N)=>N
 |some (.bytes _ _)=>Jh
 |none=>if D.Ym a=0 then X0 (D.Yu a) a else Jh
theorem q45 {N:Nd}(h:(Bk.node N).good):N.may=true:=by
 cases hm:N.may with
 |true=>rfl
 |false=>
  have h1:=h.len (a:=0) (g:=0) (by omega) q2f;have h2:(Bk.node N).out 0 0=[]:=by show Jm N _ _=[];unfold Jm;rw[if_neg (by rw[hm];decide)]
  rw[h2] at h1
  cases h1
theorem qt8 {N:Nd}(h:(Bk.node N).good){a:Nat}(f:a<=2047)(o:Int):X0 ((Bk.node N).out a 0) (a:Int)=N/\Xz ((Bk.node N).out a 0) (a:Int) o=0:=by
 have hm:=q45 h;have e:Qz ((Bk.node N).out a 0) (a:Int)=some N:=by
  show Qz (Jm N (a:Int) 0) (a:Int)=some N;rw[q7n hm (q5k hm f q2f).1,if_pos rfl]
 unfold X0 Xz;rw[e];exact⟨rfl,rfl⟩
theorem qp0 {k:Int}{l:List UInt8}(h:(Bk.bytes k l).good)(u:k=5\/k=6){a:Nat}(p:a<=2047)(o:Int):X0 ((Bk.bytes k l).out a 0) (a:Int)=Jh/\Xz ((Bk.bytes k l).out a 0) (a:Int) o=o:=by
 obtain⟨h1,h2,f⟩:=h.opens p q2f;have e:Qz ((Bk.bytes k l).out a 0) (a:Int)=none:=by
  unfold Qz;rw[if_pos f,h1];unfold Dh;split
  ·rw[if_neg];rintro⟨e,_⟩;have e:k=if ((Bk.bytes k l).hd a 0).level=0 then (3:Int) else 4:=e
   split at e<;>omega
  ·rfl
 unfold X0 Xz;rw[e];exact⟨rfl,rfl⟩
def Bk.kindOk (b:Bk):Prop:=match b with
 |.node _=>True
 |.bytes k l=>∃m,Ia k=some m/\l.length<=m
theorem qp1 {k:Int}{l:List UInt8}(P:Pl)(e:∀a b,P.L a=some b->b.kindOk){a:Nat}(h:P.live a=some (.bytes k l)):k=5\/k=6:=by
 obtain⟨m,hm,_⟩:=e a _ (q93 h).2;exact (qlx hm).1
theorem qa5 {w:World}{p d:Nat}{Q S T:Nat->Prop}{D:DM}{P:Pl}(K:Y9 w d Q D)(H:Pool w p d S T P)(X:∀a b,P.L a=some b->b.kindOk)(O:Tab w)(a:Int) :
  Calls Tryz.prog 35 #[.pointer (some ⟨p,0,none⟩),.int .i64 a] w λe w'=>q68 (P.Qh D a) (P.Zh D a) w e w':=by
 by_cases h0:P.C.get a=0
 ·have E:P.Zh D a=1:=if_pos h0;have F:P.Qh D a=Jh:=if_pos h0;rw[E,F];exact qfw (o:=0) (by omega) λu y=>(qt4 (H.below y) a h0).mono λe w' h=>⟨_,_,_,h.1,by rw[<-h.2];exact Below.refl _ _⟩
 ·obtain⟨n,rfl,hn⟩:=Ae h0;have G:n<=2047:=by have:=H.ok.c.1;omega
  have U:P.Zh D (n:Int)=match P.live n with
    |some (.node _)=>0
    |some (.bytes _ _)=>1
    |none=>if D.Ym (n:Int)=0 then Xz (D.Yu (n:Int)) (n:Int) 5 else D.Ym (n:Int):=by unfold Pl.Zh;rw[if_neg h0,Int.toNat_natCast]
  have W:P.Qh D (n:Int)=match P.live n with
    |some (.node N)=>N
    |some (.bytes _ _)=>Jh
    |none=>if D.Ym (n:Int)=0 then X0 (D.Yu (n:Int)) (n:Int) else Jh:=by unfold Pl.Qh;rw[if_neg h0,Int.toNat_natCast]
  rw[U,W]
  cases I:P.live n with
  |some b=>
   have M:b.good:=by
    obtain⟨m,R,l,clock,v,Sc,L⟩:=H;exact L.good n b (q93 I).2
   have f:=qcd (w:=w) (p:=p) (a:=(n:Int)) (o:=1) (x:=b.out n 0) O λu y=>qm5 (H.below y) n b I
   cases b with
   |node N=>
    obtain⟨E,F⟩:=qt8 M G 1;rw[E,F] at f;exact f
   |bytes k l=>
    obtain⟨E,F⟩:=qp0 M (qp1 P X I) G 1;rw[E,F] at f;exact f
  |none=>
   by_cases f:D.Ym (n:Int)=0
   ·have Z:=qcd (w:=w) (p:=p) (a:=(n:Int)) (o:=5) (x:=D.Yu (n:Int)) O λu y=>by
     have J:=qa1 (K.below y) (H.below y) n h0 I;rw[f] at J;exact J
    simp only[if_pos f];exact Z
   ·simp only[if_neg f];exact qfw (o:=5) f λu y=>(qa1 (K.below y) (H.below y) n h0 I).mono λe w' h=>by
     obtain⟨A,m,c,Y,_,J⟩:=h;exact⟨A,m,c,Y,J⟩
theorem qp2 {w:World}{p d:Nat}{u S T:Nat->Prop}{D:DM}{P:Pl}(f:Y9 w d u D)(H:Pool w p d S T P)(y:∀a b,P.L a=some b->b.kindOk)(E:Tab w)(a:Int) :
  Calls Tryz.prog 35 #[.pointer (some ⟨p,0,none⟩),.int .i64 a] w λe w'=>qoz (P.Qh D a) (P.Zh D a) w e w':=(qa5 f H y E a).mono λ_ _ h=>h.ans
def Pl.store (P:Pl)(D:DM):Int->Nd × Int:=λa=>(P.Qh D a,P.Zh D a)
theorem q6s {P:Pl}{c:Nat}(h:P.C.pick=some c){N:Nd}(e:N.may=true):P.Xg N=(c:Int)/\P.Jq N=0/\P.Zn N=P.lay (.node N):=by
 obtain⟨f,p,_⟩:=Ct.Xv h;unfold Pl.Xg Pl.Jq Pl.Zn;rw[if_pos e,if_pos e,if_pos e];exact⟨p,f,rfl⟩
theorem q4q {P:Pl}{D:DM}{a:Int}(h:(P.store D a).2=0):∃n:Nat,a=(n:Int)/\n<P.C.n/\P.C.get (n:Int)≠0:=by
 have h0:P.C.get a≠0:=λe=>by
  have h:P.Zh D a=0:=h;unfold Pl.Zh at h;rw[if_pos e] at h
  cases h
 obtain⟨n,rfl,hn⟩:=Ae h0;exact⟨n,rfl,hn,h0⟩
theorem qp3 {P:Pl}{D:DM}{c:Nat}(h:P.C.pick=some c){N:Nd}(y:N.may=true)(a:Int)(E:(P.store D a).2=0):(P.Zn N).store D a=P.store D a:=by
 obtain⟨n,rfl,hn,h0⟩:=q4q E;obtain⟨G,_,F,_,_⟩:=Ct.Xk h;have f:n≠c:=λe=>h0 (by
  subst e;unfold Ct.get;rw[if_pos (by omega),Int.toNat_natCast];exact F)
 have u:=qdm h (.node N) n hn;have p:=qfc h (.node N) n;rw[if_neg f] at u p;rw[(q6s h y).2.2];unfold Pl.store Pl.Qh Pl.Zh Pl.live;rw[Int.toNat_natCast,u,p]
theorem qa6 {P:Pl}(D:DM){c:Nat}(h:P.C.pick=some c){N:Nd}(p:N.may=true):(P.Zn N).store D (c:Int)=(N,0):=by
 obtain⟨u,_⟩:=Ct.Xk h;have f:=qdm h (.node N) c u;have e:=qfc h (.node N) c;rw[if_pos rfl] at f e;rw[(q6s h p).2.2];unfold Pl.store Pl.Qh Pl.Zh Pl.live;rw[Int.toNat_natCast,f,e];rfl
def Pl.Yx (P:Pl):List Nd->Pl
 |[]=>P
 |N::r=>(P.Zn N).Yx r
def Pl.Bh (P:Pl):List Nd->List Int
 |[]=>[]
 |N::r=>P.Xg N::(P.Zn N).Bh r
theorem qfx:∀(e:List Nd) (P:Pl),(P.Bh e).length=e.length
 |[],_=>rfl
 |N::r,P=>by
  show (_::_).length=_;rw[List.length_cons,qfx r,List.length_cons]
theorem qa7 {N:Nd}(e:N.may=true):(Bk.node N).fine:=(q6r e).fine
theorem qe1 (D:DM):∀(f:List Nd) (P:Pl),P.ok->(∀N∈f,N.may=true)->f.length<=P.C.free->
  (∀j,j<f.length->∃N c,f[j]?=some N/\(P.Bh f)[j]?=some ((c:Nat):Int)/\(P.Yx f).store D (c:Int)=(N,0)/\P.C.first<=c/\c<P.C.n)/\
  (∀a,(P.store D a).2=0->(P.Yx f).store D a=P.store D a)/\(P.Yx f).C.free+f.length=P.C.free/\(P.Yx f).ok/\(P.Yx f).C.n=P.C.n/\(P.Yx f).S=P.S
 |[],P,hok,_,_=>⟨λj H=>absurd H (Nat.not_lt_zero _),λ_ _=>rfl,rfl,hok,rfl,rfl⟩
 |N::r,P,hok,hm,hf=>by
  have y:=hm N (List.mem_cons_self ..);rw[List.length_cons] at hf;obtain⟨c,p⟩:=Ct.Ul (C:=P.C) (by omega);obtain⟨v1,v2,v3⟩:=q6s p y;obtain⟨q1,q2,_⟩:=Ct.Xk p;have W:=Ct.Uz p;have J:(P.Zn N).C=P.C.alloc:=by rw[v3,q37 p]
  have E:(P.Zn N).ok:=by rw[v3];exact qo0 hok (qa7 y)
  have u:(P.Zn N).C.n=P.C.n:=by rw[v3];exact qo1 _
  have F:(P.Zn N).S=P.S:=by rw[v3];exact qvw _
  have G:(P.Zn N).C.first=P.C.first:=by unfold Ct.first;rw[u]
  obtain⟨h1,h2,O,Q,R,T⟩:=qe1 D r (P.Zn N) E (λM U=>hm M (List.mem_cons_of_mem _ U)) (by rw[J];omega);refine⟨λj H=>?_,λa K=>?_,?_,Q,R.trans u,T.trans F⟩
  ·match j with
   |0=>
    refine⟨N,c,rfl,?_,?_,q2,q1⟩
    ·show some (P.Xg N)=_;rw[v1]
    ·show ((P.Zn N).Yx r).store D (c:Int)=(N,0);rw[h2 _ (by rw[qa6 D p y])];exact qa6 D p y
   |j+1=>
    obtain⟨M,e,X,Y,Z,k4,k5⟩:=h1 j (by simpa using H);exact⟨M,e,by rw[List.getElem?_cons_succ];exact X,by show ((P.Xg N)::(P.Zn N).Bh r)[j+1]?=_;rw[List.getElem?_cons_succ];exact Y,Z,by rw[<-G];exact k4,by rw[<-u];exact k5⟩
  ·have I:=qp3 p y a K;show ((P.Zn N).Yx r).store D a=_;rw[h2 a (by rw[I];exact K),I]
  ·show ((P.Zn N).Yx r).C.free+(r.length+1)=_;rw[J] at O;omega
def Bv:Pl->List Nd->List Ql
 |_,[]=>[]
 |P,N::r=>⟨N.least,P.Xg N⟩::Bv (P.Zn N) r
theorem q6t:∀(e:List Nd) (P:Pl),(Bv P e).length=e.length
 |[],_=>rfl
 |N::r,P=>by show (_::_).length=_;rw[List.length_cons,q6t r,List.length_cons]
theorem qfy:∀(e:List Nd) (P:Pl) (j:Nat) (N:Nd) (a:Int),e[j]?=some N->(P.Bh e)[j]?=some a->(Bv P e)[j]?=some ⟨N.least,a⟩
 |[],_,j,N,a,h,_=>by cases h
 |M::r,P,0,N,a,h,k=>by
  have p:M=N:=Option.some.inj h;have f:P.Xg M=a:=Option.some.inj k;show some _=_;rw[p] at f ⊢;rw[f]
 |M::r,P,j+1,N,a,h,k=>qfy r (P.Zn M) j N a (by simpa using h) (by have k:(P.Xg M::(P.Zn M).Bh r)[j+1]?=some a:=k;simpa using k)
theorem qa8 {p:List Qc}(h:p≠[]):(⟨0,p,[]⟩:Nd).least=(Qj p 0).k:=by
 have e:0<p.length:=List.length_pos_iff.2 h;unfold Nd.least;rw[q1u,List.length_map,if_neg (by omega),q18 p e]
theorem q7r (l:Int){q:List Ql}(h:q≠[]):(⟨l,[],q⟩:Nd).least=(Qg q 0).k:=by
 have e:0<q.length:=List.length_pos_iff.2 h;unfold Nd.least;rw[q4n,List.length_map,if_neg (by omega),q4o q e]
theorem qva {α β:Type}{l:List α}{r:List β}{j:Nat}{a:α}{b:β}(h1:l[j]?=some a)(h2:r[j]?=some b):(l.zip r)[j]?=some (a,b):=List.getElem?_zip_eq_some.2 ⟨h1,h2⟩
theorem qp4 (C:Ct):2<=C.first:=by unfold Ct.first;omega
structure Qa5 (l:Nat)(R:Int->Nd × Int)(Ns:List Nd)(rows:List (List Qc)):Prop where
 len:rows.length=Ns.length
 may:∀N∈Ns,N.may=true
 holds:∀(j:Nat) (N:Nd) (p:List Qc),Ns[j]?=some N->rows[j]?=some p->N.least=(Qj p 0).k/\∀(R':Int->Nd × Int) (a:Int),(∀b,(R b).2=0->R' b=R b)->R' a=(N,0)->Qp R' l a p
theorem qce {D:DM}{P:Pl}{l:Nat}{Ns:List Nd}{rows:List (List Qc)}(H:Qa5 l (P.store D) Ns rows)(p:P.ok)(O:Ns.length<=P.C.free) :
  ∃G:List Zw,Bv P Ns=G.map Qn/\G.map (·.2)=rows/\∀x∈G,Qp ((P.Yx Ns).store D) l x.1 x.2/\1<=x.1/\x.1<2048:=by
 obtain⟨h1,h2,_⟩:=qe1 D Ns P p H.may O;have U:=H.len;have T:=qfx Ns P;have hn:=p.c.1.2;have Q:=qp4 P.C;refine⟨(P.Bh Ns).zip rows,?_,?_,?_⟩
 ·apply List.ext_getElem?
  intro j;by_cases E:j<Ns.length
  ·obtain⟨N,c,u,y,I,K,M⟩:=h1 j E;have f:rows[j]?=some rows[j]:=List.getElem?_eq_getElem (by omega);rw[qfy Ns P j N _ u y,List.getElem?_map,qva y f,(H.holds j N _ u f).1];rfl
  ·rw[List.getElem?_eq_none (by rw[q6t];omega),List.getElem?_eq_none (by rw[List.length_map,List.length_zip];omega)]
 ·exact List.map_snd_zip (by omega)
 ·intro x R;obtain⟨j,E,e⟩:=List.getElem_of_mem R;rw[List.length_zip] at E;have F:j<Ns.length:=by omega
  obtain⟨N,c,u,y,I,K,M⟩:=h1 j F;have f:rows[j]?=some rows[j]:=List.getElem?_eq_getElem (by omega);have J:=qva y f;rw[List.getElem?_eq_getElem (by rw[List.length_zip];exact E),e] at J;obtain rfl:=Option.some.inj J;exact⟨(H.holds j N _ u f).2 _ _ h2 I,by show (1:Int)<=(c:Int);omega,by show (c:Int)<2048;omega⟩
def U2 (cuts:List Int)(e:Nat)(ks:List Ql):List Nd:=(Xn 6 12 cuts ks.length 0 ks).map λp=>⟨(e:Int),[],p⟩
theorem qfz {Gs:List (List Zw)}{j:Nat}{q:List Zw}(h:Gs[j]?=some q)(f:Qd (rowOf Gs.flatten)):Qd (rowOf q):=by
 rw[q6m] at f;have e:=q3j f j;rw[List.getD_eq_getElem?_getD,List.getElem?_map,h] at e;exact e
theorem qa9 {G:List Zw}{x:Qc}:x∈rowOf G↔∃t∈G,x∈t.2:=by
 unfold rowOf;rw[List.mem_flatten];constructor
 ·rintro⟨r,p,f⟩;obtain⟨t,e,rfl⟩:=List.mem_map.1 p;exact⟨t,e,f⟩
 ·rintro⟨t,e,f⟩;exact⟨_,List.mem_map_of_mem e,f⟩
theorem qm9 (cuts:List Int){R:Int->Nd × Int}{l:Nat}(hl:l<7){G:List Zw}(M:∀x∈G,Qp R l x.1 x.2/\1<=x.1/\x.1<2048)(h2:2<=G.length)(hr:Qd (rowOf G))(hk:∀x∈rowOf G,x.k.may=true) :
  Qa5 (l+1) R (U2 cuts (l+1) (G.map Qn)) ((Xn 6 12 cuts G.length 0 G).map rowOf)/\(U2 cuts (l+1) (G.map Qn)).length*6<=G.length+6/\1<=(U2 cuts (l+1) (G.map Qn)).length/\(1<(U2 cuts (l+1) (G.map Qn)).length->12<G.length)/\((Xn 6 12 cuts G.length 0 G).map rowOf).flatten=rowOf G:=by
 have O:U2 cuts (l+1) (G.map Qn)=(Xn 6 12 cuts G.length 0 G).map λq=>⟨((l+1:Nat):Int),[],q.map Qn⟩:=by
  unfold U2;rw[qfj,List.length_map,List.map_map];rfl
 obtain⟨n1,n2,n3⟩:=qfi (lo:=6) (hi:=12) cuts (by omega) (by omega) G.length 0 G;have F:=q6l 6 12 cuts G.length 0 G;have W:=q9r (lo:=6) (hi:=12) cuts (by omega) (by omega) (by omega) G.length 0 G (by omega);have f:∀q∈Xn 6 12 cuts G.length 0 G,∀x∈q,x∈G:=λq u x E=>by
  rw[<-F,List.mem_flatten];exact⟨q,u,E⟩
 have J:∀q∈Xn 6 12 cuts G.length 0 G,2<=q.length:=λq u=>by
  rcases (W q u).2 with h|h
  ·omega
  ·rw[h];exact h2
 have I:∀x∈G,x.2≠[]:=λx E e=>by
  obtain⟨y,r,H⟩:=q39 (M x E).1;rw[e] at H
  cases H
 rw[O,List.length_map];refine⟨⟨by rw[List.length_map,List.length_map],λN O=>?_,λj N p K H=>?_⟩,n1,n2,n3,by rw[<-q6m,F]⟩
 ·obtain⟨q,u,rfl⟩:=List.mem_map.1 O;obtain⟨j,Z,e⟩:=List.getElem_of_mem u;have Q:Qd (rowOf q):=qfz (Gs:=Xn 6 12 cuts G.length 0 G) (j:=j) (by rw[List.getElem?_eq_getElem Z,e]) (by rw[F];exact hr);refine qfk hl (J q u) (W q u).1 Q (λx E=>hk x ?_) (λx E=>(M x (f q u x E)).2) λx E=>I x (f q u x E)
  obtain⟨t,T,U⟩:=qa9.1 E;exact qa9.2 ⟨t,f q u t T,U⟩
 ·rw[List.getElem?_map] at K H;obtain⟨q,u,rfl⟩:=Option.map_eq_some_iff.1 H;rw[u] at K;obtain rfl:=Option.some.inj K;have D:=List.mem_of_getElem? u;have P:2<=q.length:=J q D;match q,P,D with
  |t::r,_,D=>
   have T:=f _ D t (List.mem_cons_self ..);refine⟨?_,λR' a Y h=>?_⟩
   ·rw[q7r _ (by simp)];match e:t.2,I t T with
    |y::s,_=>
     have X:rowOf (t::r)=y::(s++rowOf r):=by
      unfold rowOf;rw[List.map_cons,List.flatten_cons,e,List.cons_append]
     rw[X];show (Qj t.2 0).k=y.k;rw[e];rfl
   ·exact q9s (λx E=>P9 Y (M x (f _ D x E)).1) (by simp) h
structure Grew (P P':Pl)(D:DM)(root:Int)(its:List Qc):Prop where
 tree:∃l,l<=6/\Qp (P'.store D) l root its
 ok:P'.ok
 n:P'.C.n=P.C.n
 S:P'.S=P.S
 free:10<=P'.C.free
 old:∀a,(P.store D a).2=0->P'.store D a=P.store D a
 lo:1<=root/\root<2048
