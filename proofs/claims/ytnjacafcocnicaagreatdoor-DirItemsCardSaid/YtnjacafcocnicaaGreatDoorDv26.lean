/- The code's pool: Ref, Fresh; the superblock is set -/
import Derived.Test.YtnjacafcocnicaaGreatDoorDv24
import Derived.Test.YtnjacafcocnicaaGreatDoorDv25
namespace Go.Proofs.YtnjacafcocnicaaGreatDoor
open Go Go.RowKit Go.Proofs Tryz
set_option maxHeartbeats 8000000
set_option maxRecDepth 100000
section
theorem qw7 (C:Ct)(a:Int)(c:Nat)(q:C.ok):(C.ref a).get (c:Int)=0↔C.get (c:Int)=0:=by
 by_cases h:C.Wn a=0
 ·have f:C.ref a=C.put a.toNat (C.get a+1):=by unfold Ct.ref;rw[AA h]
  have h0:C.get a≠0:=λe=>by unfold Ct.Wn at h;rw[AA e] at h;omega
  have G:0<=a/\a<(C.n:Int):=Classical.byContradiction λh2=>h0 (by unfold Ct.get;rw[AB h2])
  have H:=C.Ja q a;obtain⟨V,E⟩:∃V,C.get a+1=V:=⟨_,rfl⟩;rw[f,E];by_cases F:c<C.n
  ·have h1:(C.put a.toNat V).get (c:Int)=nm (C.put a.toNat V).now c:=by unfold Ct.get;rw[C.Zk,AA (by omega),AJ]
   have h2:C.get (c:Int)=nm C.now c:=by unfold Ct.get;rw[AA (by omega),AJ]
   rw[h1,q6e _ _ _ _ F];by_cases e:c=a.toNat
   ·have y:(c:Int)=a:=by omega
    rw[AA e,y];constructor
    ·intro u;omega
    ·intro u;exact absurd u h0
   ·rw[AB e,h2]
  ·have h1:(C.put a.toNat V).get (c:Int)=0:=by unfold Ct.get;rw[C.Zk,AB (by omega)]
   have h2:C.get (c:Int)=0:=by unfold Ct.get;rw[AB (by omega)]
   rw[h1,h2]
 ·have f:C.ref a=C:=by unfold Ct.ref;rw[AB h]
  rw[f]
theorem qC7 {P:Pl}(h:P.ok)(a:Int):Pl.ok ⟨P.S,P.C.ref a,P.L⟩:=
 ⟨Ct.Qba h.c a,Ct.Qbb h.res a,h.may,by show P.S.Qb=((P.C.ref a).n:Int);rw[Ct.Qbk];exact h.sec,h.gen,h.fine⟩
theorem qw8 {w:WD}{p d:Nat}{S T:NP}{P:Pl}(H:Pool w p d S T P)(a:Int) :
  Calls prog 192 #[.pointer (some ⟨p,0,none⟩),.int .i64 a] w λe w'=>e=.returned (.int .i64 (P.C.Wn a))/\Pool w' p d S T ⟨P.S,P.C.ref a,P.L⟩/\Turn S w w':=by
 have f:=H.ok;obtain⟨m,F,l,clock,v,M,L⟩:=H;have q:=qvf L.ct a;have O:=L.Nw;have u:=HI (qC7 f a);have K:=HI (λc=>qw7 P.C a c f.c);obtain⟨E,I⟩:∃E,P.C.Wn a=E:=⟨_,rfl⟩;rw[I] at q ⊢;have y:=HI q;clear q I f;go_enter func192,ntmps192
 go_wp2_with fail
 refine y.out.mono ?_;rintro e Q ⟨rfl,J,G⟩;have R:=L.Qb7 G J (Ct.Qbk _ _) (λc=>K.out c) u.out;go_wp2;go_ret;exact⟨rfl,⟨m,F,l,clock,v,M,R⟩,G.mono L.Yl.2.2⟩
theorem q85 {w:WD}{p d:Nat}{S T:NP}{P:Pl}(H:Pool w p d S T P)(a:Int)(r:Bool)(u:P.C.fresh a=r) :
  Calls prog 176 #[.pointer (some ⟨p,0,none⟩),.int .i64 a] w λe w'=>e=.returned (.bool r)/\w=w':=by
 obtain⟨m,q,l,clock,v,y,L⟩:=H;have f:=qnx L.ct a r u;go_enter func176,ntmps176
 go_wp2_with fail
 refine f.mono ?_;rintro e E ⟨rfl,rfl⟩;go_wp2;go_ret;exact⟨rfl,rfl⟩
attribute [local go_sem ↓] q1w
end
section
open Go.ChangeMaps (setBlock)
theorem q5i {N:Nd}(hm:N.may=true){a:Nat}{g:Int}(F:a<=2047)(q:Em g):Zi N (a:Int) g=0/\Jo N (a:Int) g=Zn (N.head (a:Int) g) N.body/\(N.head (a:Int) g).ok=true:=by
 have e:Zi N (a:Int) g=0:=Classical.byContradiction λh=>by
  have h2:=(qvu hm h).2;have y:=q.1;have E:=q.2;omega
 refine⟨e,?_⟩;unfold Zi at e;rw[AA hm] at e;obtain⟨f,_,u⟩:=q6y _ _ e;refine⟨?_,f⟩;unfold Jo;rw[AA hm,u]
theorem q4s {N:Nd}(hm:N.may=true):(Bk.node N).good:=⟨λ_ _ e f=>(q5i hm e f).2.2,qr5 hm,λ_ _ e f=>(q5i hm e f).2.1⟩
def Pl.Wi (P:Pl)(N:Nd):Int:=if N.may=true then P.C.Gs else 0
def Pl.Jt (P:Pl)(N:Nd):Int:=if N.may=true then P.C.Gq else 1
def Pl.Js (P:Pl)(N:Nd):Pl:=if N.may=true then P.lay (.node N) else P
end
section
open Go.ChangeMaps (setBlock)
theorem G5 {C:Ct}{a:Int}(h:C.get a≠0):∃n:Nat,a=(n:Int)/\n<C.n:=by
 have e:0<=a/\a<(C.n:Int):=Classical.byContradiction λh2=>h (by unfold Ct.get;rw[AB h2])
 exact⟨a.toNat,by omega,by omega⟩
end
structure Ql (b:Nat)(w:WD)(d p:Nat)(S0 S T:NP)(D:DM)(P:Pl):Prop where
 Aq:Vk w d S0 D
 pool:Pool w p d S T P
 sub:∀k,S0 k->T k
 apart:∀k,S0 k->¬S k
 tight:∀k,T k->b<=k/\k<w.heap.size
def Sys (b:Nat)(w:WD)(d p:Nat)(T:NP)(D:DM)(P:Pl):Prop:=∃e S,Ql b w d p e S T D P
def grow (T:NP)(w w':WD):NP:=λk=>(T k\/w.1.size<=k)/\k<w'.1.size
section
variable {b:Nat}{w w':WD}{d p:Nat}{T:NP}{D:DM}{P:Pl}
theorem Ql.Dz {S0 S:NP}(H:Ql b w d p S0 S T D P):∀k,S k->T k:=by
 obtain⟨m,e,l,clock,v,f,L⟩:=H.pool;exact L.sub
theorem Ql.base {S0 S:NP}(H:Ql b w d p S0 S T D P):b<=w.1.size:=by
 obtain⟨m,e,l,clock,v,f,L⟩:=H.pool;have:=(H.tight _ (L.sub _ L.Yl.1)).1;have:=L.Nw;omega
theorem Sys.base (H:Sys b w d p T D P):b<=w.1.size:=by
 obtain⟨e,S,H⟩:=H;exact H.base
theorem qC8 {y w:WD}{d p q:Nat}{f:NP}{D:DM}{P:Pl}(H:Qaf y w p d q f D P)(u:∀k,f k->b<=k)(E:b<=y.1.size):Sys b w d p (λk=>b<=k/\k<w.1.size) D P:=by
 refine⟨λk=>(f k\/y.1.size<=k)/\k<q,λk=>q<=k/\k<w.1.size,H.Aq,?_,λk e=>?_,λk e h=>?_,λk e=>e⟩
 ·have h:=H.pool (λk=>b<=k) (λk e=>by have:=H.ge.1;omega);exact h.mono (λk e h=>⟨h,e⟩) (λk e h=>h.1) λk e=>⟨by have:=H.ge.1;omega,e.2⟩
 ·have:=H.ge.2;exact⟨e.1.elim (u k) λh=>by omega,by omega⟩
 ·omega
end
theorem q5j {P:Pl}{a:Nat}{b:Bk}(h:P.live a=some b):P.C.get (a:Int)≠0/\P.L a=some b:=by
 unfold Pl.live at h;split at h
 ·cases h
 ·rename_i h0;exact⟨h0,h⟩
theorem qAb (P:Pl):P.new.length<=P.C.n:=by
 unfold Pl.new;have:=List.length_filterMap_le P.Me (List.range P.C.n);rwa [List.length_range] at this
theorem qw9 {P:Pl}(h:P.ok):P.steps.length<=2100:=by
 have h1:=Pl.F8 P;have h2:=qAb P;have e:=h.c.1;have f:Qg P.C.n<=18:=by unfold Qg;omega
 omega
theorem qC9 {n:Nat}(h:n<=2048):(Yp n).length<=30:=by
 rw[qqs];unfold Qg;omega
theorem qri {D:DM}{P:Pl}(h:P.ok){y:Sp}{u:Ct}(F:Sound D P y u):D.Oy P=0/\D.Oz P=P.done/\Sound (D.Qj P.steps) P.done P.sup P.C/\
  Fp (D.Qj P.steps).newest (D.Qj P.steps).off (D.Qj P.steps).n=0/\Pl.Vy (D.Qj P.steps).newest (D.Qj P.steps).n=P.done/\Ad (D.Qj P.steps).newest=P.sup:=by
 obtain⟨E,e,_⟩:=qar h F;have f:D.Xx P.steps=true:=AL E;obtain⟨G,q,H⟩:=q94 e;refine⟨(qew f).1,(qew f).2,e,by rw[e.free.on];exact G,?_,q⟩;unfold Pl.Vy;rw[q];have:O8 (D.Qj P.steps).newest (D.Qj P.steps).n P.sup.gen=P.C.commit:=H;rw[this];rfl
def qrj (M:Nd)(E:Int)(w:WD)(e:Ending)(w':WD):Prop:=
 ∃u q c1 y f F,e=.returned (.tuple #[.agg #[.int .i64 M.lvl,.slice u q c1,.slice y f F],.int .i64 E])/\q<=20/\f<=20/\J3 w' u q c1 M.items/\Zr w' y f F M.kids/\Below w.1.size w w'
def q6g (M:Nd)(E:Int)(w:WD)(e:Ending)(w':WD):Prop:=
 ∃u q c1 y f F,e=.returned (.tuple #[.agg #[.int .i64 M.lvl,.slice u q c1,.slice y f F],.int .i64 E])/\q<=20/\f<=20/\Xe w' w.1.size u q c1 M.items/\Q8 w' w.1.size 125 4 y f F (M.kids.map Qn.vs)/\Below w.1.size w w'
theorem q6g.ans {M:Nd}{E:Int}{w:WD}{e:Ending}{w':WD}(h:q6g M E w e w'):qrj M E w e w':=by
 obtain⟨f,J,c1,q,I,u,h1,h2,y,F,G,H⟩:=h;exact⟨f,J,c1,q,I,u,h1,h2,y,F.Y3,G.Gn (by omega),H⟩
def Je:Nd:=⟨0,[],[]⟩
def J4 (x:LU)(a o:Int):Int:=if (Zb x a).isSome=true then 0 else o
def Xn (x:LU)(a:Int):Nd:=(Zb x a).getD Je
theorem qjq {w:WD}{f:Addr}{q:Array Value}{t:TypeId}{v:Value}(h:w.1[f.block]?=some (.cells q t (0,0)))(e:w.cell? f=some v):q[f.off]?=some v:=by
 unfold World.cell? at e;rw[h] at e;dsimp only at e;split at e
 ·cases e
 ·exact e
section
variable {w w':WD}{b n c m d:Nat}{l:Int}{A B:OA}
end
theorem qh2 {w:WD}{p:Nat}{a E o:Int}(K:E≠0)(f:∀u,Below w.1.size w u->Calls prog 58 #[.pointer (some ⟨p,0,none⟩),.int .i64 a] u λe w'=>∃A n c,e=.returned (.tuple #[.slice A n c,.int .i64 o,.int .i64 E])/\Below u.1.size u w') :
  Calls prog 31 #[.pointer (some ⟨p,0,none⟩),.int .i64 a] w λe w'=>q6g Je E w e w':=by
 have R:(E==0)=false:=by simpa using K
 have G:NB (w.alloc (.cells #[.int .i64 0,.slice none 0 0,.slice none 0 0] 74)) w.1.size 0 none 0 0 none 0 0:=NB.new w _ _ _ _ _ _ _ _;have y:Below w.1.size w (w.alloc (.cells #[.int .i64 0,.slice none 0 0,.slice none 0 0] 74)):=Qi;have O:(w.alloc (.cells #[.int .i64 0,.slice none 0 0,.slice none 0 0] 74)).1.size=w.1.size+1:=by simp
 have q:=HI f;clear f;go_enter func31,ntmps31
 go_wp2_with fail
 generalize w.alloc (.cells #[.int .i64 0,.slice none 0 0,.slice none 0 0] 74)=M at y G O ⊢;refine (q.out M y).mono ?_;rintro e U ⟨A,n,c,rfl,F⟩;have H:=G.below F (by omega);go_wp2_with (first
  |(refine Bj rfl _ _ rfl w.1.size rfl 0 none 0 0 none 0 0 rfl H ?_;intro V I J)
  |fail)
 refine bodyPost_ret (Bl Tryz.results31 rfl (Nh I)) rfl ?_;have W:=F.size;exact⟨none,0,0,none,0,0,rfl,by omega,by omega,q1o _ _,q0z _ _ _ _,(y.trans (F.mono (by omega))).trans (J.below (λk Q=>by omega) (by omega))⟩
theorem qd6 {w:WD}{p:Nat}{a o:Int}{x:LU}(ht:Tab w)(I:∀u,Below w.1.size w u->Calls prog 58 #[.pointer (some ⟨p,0,none⟩),.int .i64 a] u λe w'=>∃A n c,e=.returned (.tuple #[.slice A n c,.int .i64 o,.int .i64 0])/\Sl w' A n c x/\Below u.1.size u w') :
  Calls prog 31 #[.pointer (some ⟨p,0,none⟩),.int .i64 a] w λe w'=>q6g (Xn x a) (J4 x a o) w e w':=by
 have R1:NB (w.alloc (.cells #[.int .i64 0,.slice none 0 0,.slice none 0 0] 74)) w.1.size 0 none 0 0 none 0 0:=NB.new w _ _ _ _ _ _ _ _;have O:Below w.1.size w (w.alloc (.cells #[.int .i64 0,.slice none 0 0,.slice none 0 0] 74)):=Qi;have z1:(w.alloc (.cells #[.int .i64 0,.slice none 0 0,.slice none 0 0] 74)).1.size=w.1.size+1:=by simp
 have t1:=ht.below O ht.1;have H:=HI I;clear I
 cases J:Zb x a with
 |none=>
  have e1:Xn x a=Je:=by unfold Xn;rw[J];rfl
  have e2:J4 x a o=o:=by unfold J4;rw[J];rfl
  rw[e1,e2];have f:=λ(A:OA) (n c:Nat) (q:WD) (R:Sl q A n c x) (U:Tab q)=>qgu A n c x a q R U
  unfold q4a at f;rw[J] at f;have M:=HI f;clear f J e1 e2;go_enter func31,ntmps31
  go_wp2_with fail
  generalize w.alloc (.cells #[.int .i64 0,.slice none 0 0,.slice none 0 0] 74)=w1 at O R1 z1 t1 ⊢;refine (H.out w1 O).mono ?_;rintro e q ⟨A,n,c,rfl,R,F⟩;have R2:=R1.below F (by omega);have U:=t1.below F t1.1;have z2:=F.size;go_wp2_with fail
  refine (M.out A n c q R U).mono ?_;rintro e y ⟨V,Z,c1,W,Y,X,rfl,a2,a1,hI,hK,Q⟩;have z3:=Q.size;have R3:=R2.below Q (by omega);have K:=O.trans ((F.trans (Q.mono z2)).mono (by omega));go_wp2_with (first
   |(refine Bj rfl (.tmp 4) (.tmp 29) rfl w.1.size rfl 0 none 0 0 none 0 0 rfl (R3.below (E:=y.1.size) (Qi) (by omega)) ?_;intro w5 R5 T5)
   |fail)
  refine bodyPost_ret (Bl Tryz.results31 rfl (Nh R5)) rfl ?_;have G:Below y.1.size y (y.alloc (.cells #[.int .i64 0,.slice V Z c1,.slice W Y X] 74)):=Qi;exact⟨none,0,0,none,0,0,rfl,by omega,by omega,q1o _ _,q0z _ _ _ _,(K.trans (G.mono K.size)).trans (T5.below (λk hk=>by omega) (by have:=K.size;have:=G.size;omega))⟩
 |some N=>
  have e1:Xn x a=N:=by unfold Xn;rw[J];rfl
  have e2:J4 x a o=0:=by unfold J4;rw[J];rfl
  rw[e1,e2];have f:=λ(A:OA) (n c:Nat) (q:WD) (R:Sl q A n c x) (U:Tab q)=>qgu A n c x a q R U
  unfold q4a at f;rw[J] at f;have M:=HI f;clear f J e1 e2;go_enter func31,ntmps31
  go_wp2_with fail
  generalize w.alloc (.cells #[.int .i64 0,.slice none 0 0,.slice none 0 0] 74)=w1 at O R1 z1 t1 ⊢;refine (H.out w1 O).mono ?_;rintro e q ⟨A,n,c,rfl,R,F⟩;have R2:=R1.below F (by omega);have U:=t1.below F t1.1;have z2:=F.size;go_wp2_with fail
  refine (M.out A n c q R U).mono ?_;rintro e y ⟨V,Z,c1,W,Y,X,rfl,a2,a1,hI,hK,Q⟩;have hI:Xe y q.1.size V Z c1 N.items:=hI;have hK:Q8 y q.1.size 125 4 W Y X (N.kids.map Qn.vs):=hK;have hl:((some N:Option Nd).getD ⟨0,[],[]⟩).lvl=N.lvl:=rfl;simp only[hl];have z3:=Q.size;have R3:=R2.below Q (by omega);have K:=O.trans ((F.trans (Q.mono z2)).mono (by omega));have G:Below y.1.size y (y.alloc (.cells #[.int .i64 N.lvl,.slice V Z c1,.slice W Y X] 74)):=Qi;go_wp2_with (first
   |(refine Bj rfl (.tmp 4) (.tmp 31) rfl w.1.size rfl N.lvl V Z c1 W Y X rfl (R3.below G (by omega)) ?_;intro w5 R5 T5)
   |fail)
  refine bodyPost_ret (Bl Tryz.results31 rfl (Nh R5)) rfl ?_;exact⟨V,Z,c1,W,Y,X,rfl,a2,a1,((hI.below G).low T5 (λk hk=>by have h1:k=w.1.size:=hk;omega)).less (by omega),((hK.below G).turned T5 (λk hk e=>by have h1:=((hK.below G).Qa k hk).1;have h2:k=w.1.size:=e;omega)).less (by omega),(K.trans (G.mono K.size)).trans (T5.below (λk hk=>by omega) (by have:=K.size;have:=G.size;omega))⟩
def Pl.Qh (P:Pl)(D:DM)(a:Int):Int:=if P.C.get a=0 then 1 else match P.live a.toNat with
 |some (.node _)=>0
 |some (.bytes _ _)=>1
 |none=>if D.Xp a=0 then J4 (D.Xv a) a 5 else D.Xp a
def Pl.Qd (P:Pl)(D:DM)(a:Int):Nd:=if P.C.get a=0 then Je else match P.live a.toNat with
 |some (.node N)=>N
 |some (.bytes _ _)=>Je
 |none=>if D.Xp a=0 then Xn (D.Xv a) a else Je
theorem q38 {N:Nd}(h:(Bk.node N).good):N.may=true:=by
 cases hm:N.may with
 |true=>rfl
 |false=>
  have h1:=h.len (a:=0) (g:=0) (by omega) q2h;have h2:(Bk.node N).out 0 0=[]:=by show Jo N _ _=[];unfold Jo;rw[AB (by rw[hm];decide)]
  rw[h2] at h1
  cases h1
theorem qwa {N:Nd}(h:(Bk.node N).good){a:Nat}(f:a<=2047)(o:Int):Xn ((Bk.node N).out a 0) (a:Int)=N/\J4 ((Bk.node N).out a 0) (a:Int) o=0:=by
 have hm:=q38 h;have e:Zb ((Bk.node N).out a 0) (a:Int)=some N:=by
  show Zb (Jo N (a:Int) 0) (a:Int)=some N;rw[q84 hm (q5i hm f q2h).1,AA rfl]
 unfold Xn J4;rw[e];exact⟨rfl,rfl⟩
theorem qrk {k:Int}{l:LU}(h:(Bk.bytes k l).good)(u:k=5\/k=6){a:Nat}(q:a<=2047)(o:Int):Xn ((Bk.bytes k l).out a 0) (a:Int)=Je/\J4 ((Bk.bytes k l).out a 0) (a:Int) o=o:=by
 obtain⟨h1,h2,f⟩:=h.opens q q2h;have e:Zb ((Bk.bytes k l).out a 0) (a:Int)=none:=by
  unfold Zb;rw[AA f,h1];unfold Di;split
  ·rw[AB];rintro⟨e,_⟩;have e:k=if ((Bk.bytes k l).hd a 0).level=0 then (3:Int) else 4:=e
   split at e<;>omega
  ·rfl
 unfold Xn J4;rw[e];exact⟨rfl,rfl⟩
def Bk.kindOk (b:Bk):Prop:=match b with
 |.node _=>True
 |.bytes k l=>∃m,Qar k=some m/\l.length<=m
theorem qh3 {k:Int}{l:LU}(P:Pl)(e:∀a b,P.L a=some b->b.kindOk){a:Nat}(h:P.live a=some (.bytes k l)):k=5\/k=6:=by
 obtain⟨m,hm,_⟩:=e a _ (q5j h).2;exact (qob hm).1
theorem qaw {w:WD}{p d:Nat}{O S T:NP}{D:DM}{P:Pl}(J:Vk w d O D)(H:Pool w p d S T P)(V:∀a b,P.L a=some b->b.kindOk)(M:Tab w)(a:Int) :
  Calls prog 31 #[.pointer (some ⟨p,0,none⟩),.int .i64 a] w λe w'=>q6g (P.Qd D a) (P.Qh D a) w e w':=by
 by_cases h0:P.C.get a=0
 ·have y:P.Qh D a=1:=AA h0;have E:P.Qd D a=Je:=AA h0;rw[y,E];exact qh2 (o:=0) (by omega) λu q=>(qw4 (H.below q) a h0).mono λe w' h=>⟨_,_,_,h.1,by rw[<-h.2];exact AI _ _⟩
 ·obtain⟨n,rfl,hn⟩:=G5 h0;have F:n<=2047:=by have:=H.ok.c.1;omega
  have R:P.Qh D (n:Int)=match P.live n with
    |some (.node _)=>0
    |some (.bytes _ _)=>1
    |none=>if D.Xp (n:Int)=0 then J4 (D.Xv (n:Int)) (n:Int) 5 else D.Xp (n:Int):=by unfold Pl.Qh;rw[AB h0,AJ]
  have U:P.Qd D (n:Int)=match P.live n with
    |some (.node N)=>N
    |some (.bytes _ _)=>Je
    |none=>if D.Xp (n:Int)=0 then Xn (D.Xv (n:Int)) (n:Int) else Je:=by unfold Pl.Qd;rw[AB h0,AJ]
  rw[R,U]
  cases G:P.live n with
  |some b=>
   have K:b.good:=by
    obtain⟨m,Q,l,clock,v,Y,L⟩:=H;exact L.good n b (q5j G).2
   have f:=qd6 (w:=w) (p:=p) (a:=(n:Int)) (o:=1) (x:=b.out n 0) M λu q=>qoj (H.below q) n b G
   cases b with
   |node N=>
    obtain⟨y,E⟩:=qwa K F 1;rw[y,E] at f;exact f
   |bytes k l=>
    obtain⟨y,E⟩:=qrk K (qh3 P V G) F 1;rw[y,E] at f;exact f
  |none=>
   by_cases f:D.Xp (n:Int)=0
   ·have X:=qd6 (w:=w) (p:=p) (a:=(n:Int)) (o:=5) (x:=D.Xv (n:Int)) M λu q=>by
     have I:=qau (J.below q) (H.below q) n h0 G;rw[f] at I;exact I
    simp only[AA f];exact X
   ·simp only[AB f];exact qh2 (o:=5) f λu q=>(qau (J.below q) (H.below q) n h0 G).mono λe w' h=>by
     obtain⟨A,m,c,W,_,I⟩:=h;exact⟨A,m,c,W,I⟩
theorem qrl {w:WD}{p d:Nat}{q S T:NP}{D:DM}{P:Pl}(f:Vk w d q D)(H:Pool w p d S T P)(u:∀a b,P.L a=some b->b.kindOk)(y:Tab w)(a:Int) :
  Calls prog 31 #[.pointer (some ⟨p,0,none⟩),.int .i64 a] w λe w'=>qrj (P.Qd D a) (P.Qh D a) w e w':=(qaw f H u y a).mono λ_ _ h=>h.ans
def Pl.store (P:Pl)(D:DM):Int->Nd × Int:=λa=>(P.Qd D a,P.Qh D a)
theorem qex {P:Pl}{c:Nat}(h:P.C.pick=some c){N:Nd}(e:N.may=true):P.Wi N=(c:Int)/\P.Jt N=0/\P.Js N=P.lay (.node N):=by
 obtain⟨f,q,_⟩:=Ct.Yd h;unfold Pl.Wi Pl.Jt Pl.Js;rw[AA e,AA e,AA e];exact⟨q,f,rfl⟩
theorem qh4 {P:Pl}{D:DM}{a:Int}(h:(P.store D a).2=0):∃n:Nat,a=(n:Int)/\n<P.C.n/\P.C.get (n:Int)≠0:=by
 have h0:P.C.get a≠0:=λe=>by
  have h:P.Qh D a=0:=h;unfold Pl.Qh at h;rw[AA e] at h
  cases h
 obtain⟨n,rfl,hn⟩:=G5 h0;exact⟨n,rfl,hn,h0⟩
theorem qrm {P:Pl}(D:DM){c:Nat}(h:P.C.pick=some c){N:Nd}(q:N.may=true):(P.Js N).store D (c:Int)=(N,0):=by
 obtain⟨u,_⟩:=Ct.Yw h;have f:=qje h (.node N) c u;have e:=qjf h (.node N) c;rw[AA rfl] at f e;rw[(qex h q).2.2];unfold Pl.store Pl.Qd Pl.Qh Pl.live;rw[AJ,f,e];rfl
theorem qh5 {N:Nd}(e:N.may=true):(Bk.node N).fine:=(q4s e).fine
theorem qax {p:List Qc}(h:p≠[]):(⟨0,p,[]⟩:Nd).least=(Zc p 0).k:=by
 have e:0<p.length:=List.length_pos_iff.2 h;unfold Nd.least;rw[q2z,AF,AB (by omega),q1b p e]
theorem qd7 (l:Int){q:List Qn}(h:q≠[]):(⟨l,[],q⟩:Nd).least=(Qk q 0).k:=by
 have e:0<q.length:=List.length_pos_iff.2 h;unfold Nd.least;rw[q7o,AF,AB (by omega),qc8 q e]
theorem qrn {G:List Jc}{x:Qc}:x∈rowOf G↔∃t∈G,x∈t.2:=by
 unfold rowOf;rw[List.mem_flatten];constructor
 ·rintro⟨r,q,f⟩;obtain⟨t,e,rfl⟩:=List.mem_map.1 q;exact⟨t,e,f⟩
 ·rintro⟨t,e,f⟩;exact⟨_,List.mem_map_of_mem e,f⟩
def Qac (R R':Int->Nd × Int):Prop:=∀a,(R a).2=0->R' a=R a\/(R' a).2=5
theorem qh6 {P:Pl}{n:Nat}(h0:P.C.get (n:Int)≠0)(h:P.live n=none):P.L n=none:=by
 unfold Pl.live at h;rwa [AB h0] at h
theorem q86 {P:Pl}{D:DM}{n:Nat}(h0:P.C.get (n:Int)≠0)(f:P.live n=none)(e:D.Xp (n:Int)=0):P.store D (n:Int)=(Xn (D.Xv (n:Int)) (n:Int),J4 (D.Xv (n:Int)) (n:Int) 5):=by
 unfold Pl.store Pl.Qd Pl.Qh;rw[AB h0,AB h0,AJ,f];dsimp only;rw[AA e,AA e]
theorem qd8 {P:Pl}{D:DM}{n:Nat}(h0:P.C.get (n:Int)≠0){b:Bk}(f:P.live n=some b)(e:(P.store D (n:Int)).2=0):∃N,b=.node N/\P.store D (n:Int)=(N,0):=by
 cases b with
 |node N=>
  refine⟨N,rfl,?_⟩;unfold Pl.store Pl.Qd Pl.Qh;rw[AB h0,AB h0,AJ,f]
 |bytes k l=>
  have e:P.Qh D (n:Int)=0:=e;unfold Pl.Qh at e;rw[AB h0,AJ,f] at e;have e:(1:Int)=0:=e;omega
theorem q97 {D:DM}{P:Pl}(h:P.ok){U:Sp}{R:Ct}(u:Sound D P U R)(F:∀a b,P.L a=some b->b.good)(a:Int)(K:(P.store D a).2=0):P.done.store (D.Qj P.steps) a=P.store D a:=by
 obtain⟨n,rfl,hn,h0⟩:=qh4 K;obtain⟨_,J,_,s4,s5⟩:=qar h u;have X:=h.c.1.2;have G:n<=2047:=by omega
 have V:(D.Qj P.steps).n=P.C.n:=J.n;have E:P.done.C.get (n:Int)≠0:=h0;have H:P.done.live n=none:=by
  unfold Pl.live;split<;>rfl
 have Q:∀(D:DM),D.free->n<D.n->D.Xp (n:Int)=0/\D.Xv (n:Int)=D.newest n:=λD Y hl=>by
  have f:(0:Int)<=(n:Int)/\(n:Int)<(D.n:Int):=by omega
  unfold DM.Xp DM.Xv;rw[Y.on,AB Bool.false_ne_true,AB Bool.false_ne_true,AA f,AA f,AJ];exact⟨rfl,rfl⟩
 obtain⟨r1,r2⟩:=Q _ J.free (by omega);obtain⟨r3,r4⟩:=Q D u.free (by have:=u.n;omega);have hw:(D.Qj P.steps).newest n=(D.Qj P.steps).Jq n:=by unfold DM.newest;rw[J.Vo];rfl
 have I:D.newest n=D.Jq n:=by unfold DM.newest;rw[u.Vo];rfl
 rw[q86 E H r1,r2,hw]
 cases y:P.live n with
 |some b=>
  obtain⟨N,rfl,e⟩:=qd8 h0 y K;have q:=(q5j y).2;have hm:=q38 (F n _ q);rw[e,s4 n _ hn q h0];have O:=h.Wy;have W:Zb ((Bk.node N).out n P.g) (n:Int)=some N:=by
   show Zb (Jo N (n:Int) P.g) (n:Int)=some N;rw[q84 hm (q5i hm G ⟨by have:=O.1;omega,by have:=O.2;omega⟩).1,AA rfl]
  unfold Xn J4;rw[W];rfl
 |none=>
  have q:=qh6 h0 y;rw[q86 h0 y r3,r4,I];rw[s5 n ?_ ?_]
  ·have hr:=h.res n hn;refine Classical.byContradiction λZ=>h0 ?_
   unfold Ct.get;rw[AA ⟨by omega,by omega⟩,AJ];exact hr (by omega)
  ·intro x hx;obtain⟨_,b,M,_⟩:=q6f.1 hx;rw[q] at M
   cases M
section
open Go.ChangeMaps (setBlock)
def isNode:Option Bk->Bool
 |some (.node _)=>true
 |_=>false
def Pl.F6 (P:Pl)(a:Int)(N:Nd):Bool:=N.may&&(P.C.fresh a&&isNode (P.L a.toNat))
def Pl.Ah (P:Pl)(a:Int)(N:Nd):Int:=if P.F6 a N=true then 0 else 1
def Pl.Uc (P:Pl)(a:Int)(N:Nd):Pl:=if P.F6 a N=true then ⟨P.S,P.C,upd P.L a.toNat (some (.node N))⟩ else P
theorem q39 {C:Ct}{a:Int}(h:C.fresh a=true):C.get a≠0:=λh0=>by
 unfold Ct.fresh at h;rw[AA h0] at h
 cases h
def bkE:Bk->Int
 |.node _=>0
 |.bytes _ _=>1
theorem q9u {P:Pl}(D:DM){k:Nat}(h0:P.C.get (k:Int)≠0){b:Bk}(h:P.live k=some b):P.Qh D (k:Int)=bkE b:=by
 unfold Pl.Qh;rw[AB h0,AJ,h]
 cases b<;>rfl
theorem qol {w0 w:WD}{p d:Nat}{S0 S T:NP}{D:DM}{P:Pl}(L0:Vk w d S0 D)(H:Pool w p d S T P)(e0:∀a b,P.L a=some b->b.kindOk)(d8:∀a:Nat,P.C.fresh (a:Int)=true->∃b,P.L a=some b)(hT:∀k,T k->k<w.1.size)(B0:Below w0.1.size w0 w)(a:Int)(N:Nd)(A:OA)(n c:Nat)(B:OA)(F G:Nat)(hI:J3 w0 A n c N.items)(hK:Zr w0 B F G N.kids)(hn:n<=1000)(hm:F<=1000)(ht:Tab w) :
  Calls prog 177 #[.pointer (some ⟨p,0,none⟩),.int .i64 a,.agg #[.int .i64 N.lvl,.slice A n c,.slice B F G]] w λe w'=>e=.returned (.int .i64 (P.Ah a N))/\Pool w' p d S T (P.Uc a N)/\Turn S w w':=by
 have Q:=H.ok;have N1:NB (w.alloc (.cells #[.int .i64 N.lvl,.slice A n c,.slice B F G] 74)) w.1.size N.lvl A n c B F G:=NB.new w _ _ _ _ _ _ _ _;have V:Below w.1.size w (w.alloc (.cells #[.int .i64 N.lvl,.slice A n c,.slice B F G] 74)):=Qi;have z1:(w.alloc (.cells #[.int .i64 N.lvl,.slice A n c,.slice B F G] 74)).1.size=w.1.size+1:=by simp
 obtain⟨r,hr⟩:∃r,N.may=r:=⟨_,rfl⟩;obtain⟨f,hf⟩:∃f,P.C.fresh a=f:=⟨_,rfl⟩;have a1:=HI (λw (hw:Below w0.1.size w0 w)=>q2g N r hr A n c B F G w (hI.below hw) (hK.below hw) hn hm);have b0:=HI (λ(w1:WD) (H1:Pool w1 p d S T P)=>q85 H1 a f hf);have c0:=N1.c0;have c1:=N1.c1;have c2:=N1.c2;have t1:=ht.below V ht.1;have H1:=H.below V;have B1:=B0.trans (V.mono B0.size);have hE:P.Ah a N=if (r&&(f&&isNode (P.L a.toNat)))=true then 0 else 1:=by unfold Pl.Ah Pl.F6;rw[hr,hf]
 have hP:P.Uc a N=if (r&&(f&&isNode (P.L a.toNat)))=true then ⟨P.S,P.C,upd P.L a.toNat (some (.node N))⟩ else P:=by unfold Pl.Uc Pl.F6;rw[hr,hf]
 rw[hE,hP];clear hE hP
 cases r with
 |false=>
  clear hf hr;go_enter func177,ntmps177
  go_wp2_with fail
  generalize w.alloc (.cells #[.int .i64 N.lvl,.slice A n c,.slice B F G] 74)=w1 at V N1 z1 c0 c1 c2 t1 H1 B1 ⊢;refine (a1.out w1 B1).mono ?_;rintro e w2 ⟨rfl,Z⟩;have I:=V.trans (Z.mono (by omega));go_wp2;go_ret;exact⟨rfl,H.below I,Qz I⟩
 |true=>
  cases f with
  |false=>
   clear hf hr;go_enter func177,ntmps177
   go_wp2_with fail
   generalize w.alloc (.cells #[.int .i64 N.lvl,.slice A n c,.slice B F G] 74)=w1 at V N1 z1 c0 c1 c2 t1 H1 B1 ⊢;refine (a1.out w1 B1).mono ?_;rintro e w2 ⟨rfl,Z⟩;have I:=V.trans (Z.mono (by omega));have H2:=H.below I;go_wp2_with fail
   refine (b0.out w2 H2).mono ?_;rintro e y ⟨rfl,rfl⟩;go_wp2;go_ret;exact⟨rfl,H2,Qz I⟩
  |true=>
   have O:=q39 hf;obtain⟨k,rfl,hk⟩:=G5 O;rw[AJ];have c6:k<=2047:=by have:=Q.c.1;omega
   obtain⟨b,K⟩:=d8 k hf;have a6:P.live k=some b:=by unfold Pl.live;rw[AB O];exact K
   have b7:=q9u D O a6;have R:=λ(w2:WD) (bb:Below w.1.size w w2)=>qrl (L0.below bb) (H.below bb) e0 (ht.below bb ht.1) (k:Int)
   rw[b7] at R;obtain⟨M0,b6⟩:∃M0,P.Qd D (k:Int)=M0:=⟨_,rfl⟩;rw[b6] at R
   cases b with
   |bytes kk l=>
    rw[K];have b3:=HI R;clear hf hr R b7 b6 a6 K O;show Calls _ _ _ _ λe w'=>e=.returned (.int .i64 1)/\Pool w' p d S T P/\Turn S w w'
    go_enter func177,ntmps177
    go_wp2_with fail
    generalize w.alloc (.cells #[.int .i64 N.lvl,.slice A n c,.slice B F G] 74)=w1 at V N1 z1 c0 c1 c2 t1 H1 B1 ⊢;refine (a1.out w1 B1).mono ?_;rintro e w2 ⟨rfl,Z⟩;have I:=V.trans (Z.mono (by omega));have H2:=H.below I;go_wp2_with fail
    refine (b0.out w2 H2).mono ?_;rintro e y ⟨rfl,rfl⟩;go_wp2_with fail
    refine (b3.out w2 I).mono ?_;rintro e E ⟨A1,n1,q1,a8,m1,d1,rfl,_,_,_,_,b4⟩;have b5:Below E.1.size E (E.alloc (.cells #[.int .i64 0,.slice none 0 0,.slice none 0 0] 74)):=Qi;have R5:NB (E.alloc (.cells #[.int .i64 0,.slice none 0 0,.slice none 0 0] 74)) E.1.size 0 none 0 0 none 0 0:=NB.new E _ _ _ _ _ _ _ _;go_wp2_with (first
     |(refine Bj rfl _ _ rfl E.1.size rfl M0.lvl A1 n1 q1 a8 m1 d1 rfl R5 ?_;intro w6 R6 T6)
     |fail)
    go_ret;have B4:=I.trans (b4.mono I.size);have B6:Below w.1.size w w6:=(B4.trans (b5.mono B4.size)).trans (T6.below (λk hk=>by have:=B4.size;omega) (by have h1:=B4.size;have h2:=b5.size;omega));exact⟨rfl,H.below B6,Qz B6⟩
   |node M=>
    rw[K];have b3:=HI R;obtain⟨c7,e4,_⟩:=q5i hr c6 q2h;have b9:=q4s hr;have W:=b9.len (a:=k) (g:=0) c6 q2h;have c8:(Bk.node N).out k 0=Jo N (k:Int) 0:=rfl;rw[c8] at W;have d2:=HI c7;have e6:=HI W;have J:∀c:Nat,Pl.live ⟨P.S,P.C,upd P.L k (some (.node N))⟩ c=if c=k then some (.node N) else P.live c:=λc=>by
     unfold Pl.live;by_cases e:c=k
     ·subst e;rw[AA rfl,AB O];exact Ci _ _ _
     ·rw[AB e];show (if _ then _ else upd P.L k _ c)=_;rw[Bv _ _ e]
    have u:∀c x,(upd P.L k (some (.node N))) c=some x->x.good:=λc x h=>by
     by_cases e:c=k
     ·subst e;rw[Ci] at h;injection h with h;rw[<-h];exact b9
     ·rw[Bv _ _ e] at h;obtain⟨m,d4,l,clock,v,Sc,L⟩:=H;exact L.good c x h
    have a7:Pl.ok ⟨P.S,P.C,upd P.L k (some (.node N))⟩:=⟨Q.c,Q.res,Q.may,Q.sec,Q.gen,λc x h=>(u c x h).fine⟩;have d0:=HI J;have c9:=HI u;have b8:=HI a7;obtain⟨m,d4,l,clock,v,Sc,L⟩:=H;have X:¬Zf (k:Int) l=none:=by rw[L.look k,a6];exact λh=>nomatch h
    have U:=HI X;have f0:=L.Nw;have e8:=L.mlt;clear hf hr R b7 b6 a6 K O c7 e4 W c8 J u a7 X;show Calls _ _ _ _ λe w'=>e=.returned (.int .i64 0)/\Pool w' p d S T ⟨P.S,P.C,upd P.L k (some (.node N))⟩/\Turn S w w'
    go_enter func177,ntmps177
    go_wp2_with fail
    generalize w.alloc (.cells #[.int .i64 N.lvl,.slice A n c,.slice B F G] 74)=w1 at V N1 z1 c0 c1 c2 t1 H1 B1 ⊢;refine (a1.out w1 B1).mono ?_;rintro e w2 ⟨rfl,Z⟩;have I:=V.trans (Z.mono (by omega));have H2:=H1.below Z;go_wp2_with fail
    refine (b0.out w2 H2).mono ?_;rintro e f2 ⟨rfl,rfl⟩;go_wp2_with fail
    refine (b3.out w2 I).mono ?_;rintro e E ⟨A1,n1,q1,a8,m1,d1,rfl,_,_,_,_,b4⟩;have b5:Below E.1.size E (E.alloc (.cells #[.int .i64 0,.slice none 0 0,.slice none 0 0] 74)):=Qi;have R5:NB (E.alloc (.cells #[.int .i64 0,.slice none 0 0,.slice none 0 0] 74)) E.1.size 0 none 0 0 none 0 0:=NB.new E _ _ _ _ _ _ _ _;have B4:=I.trans (b4.mono I.size);go_wp2_with (first
     |(refine Bj rfl _ _ rfl E.1.size rfl M0.lvl A1 n1 q1 a8 m1 d1 rfl R5 ?_;intro y R6 T6;have e7:(bkE (.node M)!=0)=false:=rfl)
     |fail)
    have B3:Below w.1.size w y:=(B4.trans (b5.mono B4.size)).trans (T6.below (λk hk=>by have:=B4.size;omega) (by have h1:=B4.size;have h2:=b5.size;omega));have z2:=Z.size;have z3:=B3.size;have N3:NB y w.1.size N.lvl A n c B F G:=by
     have N2:=N1.below Z (by omega);have N4:=N2.below b4 N2.lt;have N5:=N4.below b5 N4.lt;have e3:=N5.lt;obtain⟨t,h⟩:=N5;exact⟨t,(T6.block w.1.size e3 (by have:=N4.lt;omega)).trans h⟩
    have L3:=L.below B3;have e5:=L3.c40;have t3:Tab y:=ht.below B3 ht.1;have d7:w.1.size≠m:=λe=>by have h1:=hT m (L.sub _ L.Yl.2.1);omega
    have hF:∀w',Below y.1.size y w'->w'.cell? ⟨p,40,none⟩=some (.map (some m))/\w'.cell? ⟨w.1.size,0,none⟩=some (.int .i64 N.lvl)/\w'.cell? ⟨w.1.size,1,none⟩=some (.slice A n c)/\w'.cell? ⟨w.1.size,2,none⟩=some (.slice B F G):=λw' K=>
     have N':=N3.below K N3.lt;⟨(K.cell (p:=⟨p,40,none⟩) (by show p<_;omega)).trans e5,N'.c0,N'.c1,N'.c2⟩
    have d5:∀w' (o:Obj),Below y.1.size y w'->(setBlock w' m o).cell? ⟨p,40,none⟩=some (.map (some m))/\(setBlock w' m o).cell? ⟨w.1.size,0,none⟩=some (.int .i64 N.lvl)/\(setBlock w' m o).cell? ⟨w.1.size,1,none⟩=some (.slice A n c)/\(setBlock w' m o).cell? ⟨w.1.size,2,none⟩=some (.slice B F G):=λw' o K=>by
     have hz:=K.size;have e9:=N3.lt;have TB:Turn (λk=>k=m) w' (setBlock w' m o):=q0t _ rfl;obtain⟨h1,h2,h3,h4⟩:=hF w' K;have e1:=TB.block p (by omega) L.p_m;have e2:=TB.block w.1.size (by omega) d7;exact⟨(AY (a:=⟨p,40,none⟩) e1).trans h1,(AY (a:=⟨w.1.size,0,none⟩) e2).trans h2,(AY (a:=⟨w.1.size,1,none⟩) e2).trans h3,(AY (a:=⟨w.1.size,2,none⟩) e2).trans h4⟩
    have BD:Below y.1.size y y.drew:=(AI _ _).drew;have d3:=HI (λ(w':WD) (K:Below y.1.size y w') (v':Value)=>(congrArg (λz:Nat=>Result.ok () (setBlock w' m (.map (Xc (k:Int) v' clock l).toArray z))) (AB U.out)).subst (motive:=λr=>(Instr.mapUpdate 111 (.map (some m)) (.int .i64 (k:Int)) v').run prog w'=r) (q30 L.ents underlying111 underlying3 ((K.block m (by omega)).trans L3.map) (k:Int) v'));have BI:=B0.trans ((B3.trans (BD.mono B3.size)).mono B0.size);clear c0 c1 c2 H1 H2 R6 R5;go_wp2_with fail
    go_region_held3 (λw'=>w'.cell? ⟨p,40,none⟩=some (.map (some m))/\w'.cell? ⟨w.1.size,0,none⟩=some (.int .i64 N.lvl)/\w'.cell? ⟨w.1.size,1,none⟩=some (.slice A n c)/\w'.cell? ⟨w.1.size,2,none⟩=some (.slice B F G))
     (first|assumption|exact hF _ BD|exact hF _ a2|exact d5 _ _ a2)
     (first
      |(go_at_call 195;refine (qd5 N (k:Int) 0 A n c B F G _ (hI.below BI) (hK.below BI) hn hm (t3.below BD t3.1)).mono ?_;rw[d2.out];rintro e E ⟨A3,n3,c3,rfl,Y,d9,d6⟩;have a2:Below y.1.size y E:=BD.trans d6;have f1:=d3.out E a2)
      |fail)
    obtain⟨q,rfl,rfl,rfl⟩:=d9 (by first|trivial|rfl);have hq:=(Y.block ⟨q,0,none⟩ rfl).1;obtain⟨R1,R2⟩:=L3.store (P':=⟨P.S,P.C,upd P.L k (some (.node N))⟩) (b:=.node N) (Turn.refl _ _) L3.ct a2 rfl rfl hk d0.out c9.out b8.out Y.sl (λh=>by have h1:=hT q h;have h2:y.drew.1.size=y.1.size:=rfl;have h3:y.drew.1.size<=q:=hq;omega);rw[AB U.out] at R1 R2;go_wp2;go_ret;exact⟨rfl,R1,(Qz (S:=S) B3).trans R2 λk hk=>.inl hk⟩
end
def Pl.cnt (P:Pl)(a:Nat):Nat:=(P.C.get (a:Int)).toNat
def Pl.names (P:Pl)(D:DM)(a:Nat):LI:=(P.Qd D (a:Int)).named
def Pl.Af (P:Pl)(D:DM)(H:LI):Prop:=Xb P.C.n P.cnt (P.names D) H
theorem qjr {P:Pl}{a:Nat}(e:P.C.ok):1<=P.cnt a↔P.C.get (a:Int)≠0:=by
 have:=(Ct.Ja e (a:Int)).1;unfold Pl.cnt;omega
theorem qlv {P:Pl}(f:P.C.res):P.cnt 0=0:=by
 have h:P.C.get ((0:Nat):Int)=0:=by
  by_cases e:P.C.get ((0:Nat):Int)=0
  ·exact e
  ·have:=(Ct.Vg f e).2.2;have h2:P.C.first=2+2*Qg P.C.n:=rfl
   simp at this;omega
 unfold Pl.cnt;rw[h];rfl
theorem q2c (C:Ct){c:Nat}{x:Int}(b:Nat)(e:b<C.n):(C.put c x).get (b:Int)=if b=c then x else C.get (b:Int):=by
 unfold Ct.get;rw[C.Zk,AA (show 0<=(b:Int)/\(b:Int)<(C.n:Int) by omega),AA (show 0<=(b:Int)/\(b:Int)<(C.n:Int) by omega),AJ,q6e C c x b e]
structure Uh (D:DM)(P:Pl)(S0:Sp)(C0:Ct):Prop where
 ok:P.ok
 sound:Sound D P S0 C0
 kinds:∀a b,P.L a=some b->b.kindOk/\b.good
theorem Uh.kind {D:DM}{P:Pl}{S0:Sp}{C0:Ct}(h:Uh D P S0 C0):∀a b,P.L a=some b->b.kindOk:=λa b e=>(h.kinds a b e).1
theorem Uh.good {D:DM}{P:Pl}{S0:Sp}{C0:Ct}(h:Uh D P S0 C0):∀a b,P.L a=some b->b.good:=λa b e=>(h.kinds a b e).2
theorem Uh.put {D:DM}{P:Pl}{S0:Sp}{C0:Ct}(h:Uh D P S0 C0){N:Nd}(hN:N.may=true)(hf:0<P.C.free):Uh D (P.Js N) S0 C0/\P.Jt N=0/\(P.Js N).C.free+1=P.C.free:=by
 obtain⟨c,f⟩:=Ct.Du hf;obtain⟨_,y,v3⟩:=qex f hN;have q:=Ct.Dh f;have u:(P.Js N).C=P.C.alloc:=by rw[v3,q49 f]
 refine⟨⟨by rw[v3];exact qyq h.ok (qh5 hN),by rw[v3];exact qqw h.sound _,λa b e=>?_⟩,y,by rw[u];exact q⟩;rw[v3,qjf f] at e;split at e
 ·obtain rfl:=OI e;exact⟨trivial,q4s hN⟩
 ·exact h.kinds a b e
def Jg (R:Int->Nd × Int)(root:Int)(its:List Qc):Prop:=(its=[]/\root=0)\/∃l,l<=6/\Qs R l root its/\1<=root/\root<2048
def Dk (R:Int->Nd × Int)(a:Int):Nat:=(R a).1.lvl.toNat
def F5 (R:Int->Nd × Int)(fr «to»:Kd)(most root:Int):List Qc × Int:=if root=0\/most<1 then ([],0) else Ju R fr «to» most.toNat (Dk R root) root []
theorem Fz {R:Int->Nd × Int}:∀{l:Nat} {a:Int} {its:List Qc},Qs R l a its->Dk R a=l/\(R a).1.lvl=(l:Int)/\(R a).2=0
 |0,a,its,h=>by
  unfold Dk;rw[h.1];exact⟨rfl,rfl,rfl⟩
 |l+1,a,its,h=>by
  obtain⟨kids,parts,h1,_⟩:=h;unfold Dk;rw[h1];exact⟨AJ _,rfl,rfl⟩
theorem qro {R:Int->Nd × Int}{root:Int}{its:List Qc}(h:Jg R root its)(e:Qo its)(fr «to»:Kd)(most:Int):F5 R fr «to» most root=((within fr «to» its).take most.toNat,0):=by
 unfold F5;rcases h with⟨rfl,rfl⟩|⟨l,_,h,h1,_⟩
 ·rw[AA (.inl rfl)];simp[within]
 ·by_cases hm:most<1
  ·rw[AA (.inr hm),show most.toNat=0 by omega,List.take_zero]
  ·rw[AB (by omega),(Fz h).1,qcq fr «to» _ l root its [] h e (AW _),BG]
theorem qd9 {ks:List Kd}(h:rises ks=true):∀(j i:Nat),i<j->j<ks.length->(keyAt ks i).less (keyAt ks j)=true
 |0,i,hi,_=>absurd hi (Nat.not_lt_zero _)
 |j+1,i,hi,hj=>by
  have h1:Kz ks (j+1)=true:=by
   unfold rises at h;rw[List.all_eq_true] at h;exact h _ (List.mem_range.2 hj)
  have h2:(keyAt ks j).less (keyAt ks (j+1))=true:=by
   unfold Kz at h1;simp at h1;exact h1.2
  by_cases e:i=j
  ·rw[e];exact h2
  ·exact Kd.trans _ _ _ (qd9 h j i (by omega) (by omega)) h2
theorem q1e {N:Nd}(hm:N.may=true)(h0:N.lvl=0):N=⟨0,N.items,[]⟩/\Qo N.items/\1<=N.items.length/\N.items.length<=6:=by
 have G:=(Tc hm).1 h0;unfold Nd.may at hm;rw[AA h0,BN,BN] at hm;obtain⟨_,h2,f⟩:=hm;have f:=AK f;refine⟨by cases N;simp_all,?_,f.2⟩;have F:N.keys=N.items.map (·.k):=by unfold Nd.keys;rw[G];simp
 rw[F] at h2;unfold Qo;rw[List.pairwise_iff_getElem];intro i j hi y u;have:=qd9 h2 j i u (by rw[AF];exact y);rw[q1b _ hi,q1b _ y] at this;have e:∀q (E:q<N.items.length),Zc N.items q=N.items[q]:=λq E=>by unfold Zc;rw[AG,AC E];rfl
 rwa [e i hi,e j y] at this
theorem q0n {N:Nd}(hm:N.may=true)(h0:N.lvl≠0):N=⟨N.lvl,[],N.kids⟩/\1<=N.lvl/\N.lvl<8/\2<=N.kids.length/\N.kids.length<=12/\∀k,N.Zw k<N.kids.length:=by
 have G:=(Tc hm).2 h0;unfold Nd.may at hm;rw[AB h0,BN,BN] at hm;obtain⟨_,h2,F⟩:=hm;obtain⟨q,u,_,y,E⟩:=AK F;refine⟨by cases N;simp_all,q,u,y,E,λk=>?_⟩;have f:N.keys=N.kids.map (·.k):=by unfold Nd.keys;rw[G];simp
 unfold Nd.Zw;rw[AB h0,f,AF];rcases qc5 (N.kids.map (·.k)) k N.kids.length with e|e<;>omega
def Ag («to»:Kd)(most:Nat):List Qc->List Qc->List Qc
 |[],acc=>acc
 |x::r,acc=>if «to».less x.k=true\/most<=acc.length then acc else Ag «to» most r (acc++[x])
theorem qda {fr «to»:Kd}{most:Nat}:∀(r e:List Qc),Qo r->(∀x∈r,x.k.less fr=false)->e.length<=most->Ag «to» most r e=(e++within fr «to» r).take most
 |[],e,_,_,ha=>by
  show e=_;rw[show within fr «to» []=[] from rfl,BM,AN ha]
 |x::r,e,hr,hf,ha=>by
  obtain⟨E,F⟩:=List.pairwise_cons.1 hr;unfold Ag;by_cases f:«to».less x.k=true
  ·rw[AA (.inl f),q44 λz q=>.inr (by
    rcases List.mem_cons.1 q with rfl|q
    ·exact f
    ·exact Kd.trans _ _ _ f (E z q)),BM,AN ha]
  ·by_cases hm:most<=e.length
   ·rw[AA (.inr hm),q45 hm,AN ha]
   ·rw[AB (by rintro (h|h);exact f h;exact hm h),qda r _ F (λy u=>hf y (AO _ u)) (by rw[AD,List.length_singleton];omega)];have:within fr «to» (x::r)=x::within fr «to» r:=by
     unfold within;rw[List.filter_cons,hf x (AP ..),AA (by simp;simpa using f)]
    rw[this,AM];rfl
theorem qrp {its:List Qc}(Q:Qo its)(fr «to»:Kd){most:Nat}(u:List Qc)(K:u.length<=most):Ag «to» most (its.drop (lead (its.map (·.k)) fr)) u=(u++within fr «to» its).take most:=by
 obtain⟨j,H⟩:∃j,lead (its.map (·.k)) fr=j:=⟨_,rfl⟩;have O:j<=its.length:=by have:=qc4 (its.map (·.k)) fr;rw[AF] at this;omega
 have e:∀q (F:q<its.length),Zc its q=its[q]:=λq F=>by unfold Zc;rw[AG,AC F];rfl
 have h1:within fr «to» (its.take j)=[]:=q44 λx y=>.inl (by
  obtain⟨q,F,J⟩:=List.getElem_of_mem y;rw[AR] at F;have:=q6r (its.map (·.k)) fr q (by omega);rw[q1b its (by omega),e q (by omega)] at this;rw[<-J,List.getElem_take];exact this)
 have h2:within fr «to» its=within fr «to» (its.drop j):=by
  conv=>lhs;rw[<-AV j its]
  have:within fr «to» (its.take j++its.drop j)=within fr «to» (its.take j)++within fr «to» (its.drop j):=by unfold within;rw[List.filter_append]
  rw[this,h1,BG]
 rw[H,h2];have E:Qo (its.drop j):=by
  have:Qo (its.take j++its.drop j):=by rw[AV];exact Q
  exact (List.pairwise_append.1 this).2.1
 refine qda _ u E (λx y=>?_) K;by_cases f:j<its.length
 ·have G:(Zc its j).k.less fr=false:=by
   have:=qc6 (its.map (·.k)) fr (by rw[H,AF];exact f);rwa [H,q1b its f] at this
  rw[List.drop_eq_getElem_cons f] at y E;rcases List.mem_cons.1 y with rfl|y
  ·rw[<-e j f];exact G
  ·have I:=(List.pairwise_cons.1 E).1 x y;rw[<-e j f] at I
   cases M:x.k.less fr with
   |false=>rfl
   |true=>rw[Kd.trans _ _ _ I M] at G;cases G
 ·rw[List.drop_eq_nil_of_le (by omega)] at y
  cases y
theorem qay {P:Pl}{D:DM}{a:Int}(h:P.Qh D a≠0):P.Qd D a=Je:=by
 unfold Pl.Qh at h;unfold Pl.Qd;by_cases h0:P.C.get a=0
 ·rw[AA h0]
 ·rw[AB h0] at h ⊢;split at h
  ·exact absurd rfl h
  ·rfl
  ·by_cases e:D.Xp a=0
   ·rw[AA e] at h ⊢;unfold J4 at h;unfold Xn
    cases f:Zb (D.Xv a) a with
    |none=>rfl
    |some N=>rw[f] at h;exact absurd rfl h
   ·rw[AB e]
structure Pl.Vu (P:Pl)(D:DM):Prop where
 may:∀a:Nat,a<P.C.n->P.C.get (a:Int)≠0->P.Qh D (a:Int)=0->(P.Qd D (a:Int)).may=true
 data:∀a:Nat,a<P.C.n->P.C.get (a:Int)≠0->P.Qh D (a:Int)=0->∀x∈(P.Qd D (a:Int)).items,∀c:Int,Vz x=some c->P.Qh D c≠0
 kids:∀a:Nat,a<P.C.n->P.C.get (a:Int)≠0->P.Qh D (a:Int)=0->∀x∈(P.Qd D (a:Int)).kids,∃c:Nat,x.a=(c:Int)/\0<c/\c<P.C.n/\P.C.get (c:Int)≠0/\P.Qh D (c:Int)=0/\(P.Qd D (c:Int)).lvl+1=(P.Qd D (a:Int)).lvl/\(P.Qd D (c:Int)).least=x.k
def Pl.Sm (P:Pl)(D:DM)(a:Nat):Nat:=if P.Qh D (a:Int)=0 then (P.Qd D (a:Int)).lvl.toNat+1 else 0
theorem q87 {N:Nd}(h:N.may=true):0<=N.lvl/\N.lvl<8:=by
 by_cases h0:N.lvl=0
 ·omega
 ·have:=(q0n h h0).2;omega
section
variable {P:Pl}{D:DM}
theorem q3a {b a:Nat}(hm:(a:Int)∈P.names D b):P.Qh D (b:Int)=0:=by
 by_cases h:P.Qh D (b:Int)=0
 ·exact h
 ·unfold Pl.names at hm;rw[qay h] at hm
  cases hm
theorem q5k {b:Nat}(h:P.Qh D (b:Int)=0):P.C.get (b:Int)≠0:=λe=>by
 unfold Pl.Qh at h;rw[AA e] at h
 cases h
theorem q88 (h:P.Vu D){b a:Nat}(u:b<P.C.n)(hm:(a:Int)∈P.names D b):((∃x∈(P.Qd D (b:Int)).kids,x.a=(a:Int))/\0<a/\a<P.C.n/\P.C.get (a:Int)≠0/\P.Qh D (a:Int)=0/\(P.Qd D (a:Int)).lvl+1=(P.Qd D (b:Int)).lvl)\/P.Qh D (a:Int)≠0:=by
 have q:=q3a hm;have h0:=q5k q;unfold Pl.names Nd.named at hm;rcases List.mem_append.1 hm with hm|hm
 ·obtain⟨x,f,e⟩:=List.mem_map.1 hm;obtain⟨c,h1,h2,y,E,F,G,_⟩:=h.kids b u h0 q x f;have:a=c:=by rw[h1] at e;omega
  subst this;exact .inl ⟨⟨x,f,e⟩,h2,y,E,F,G⟩
 ·obtain⟨x,f,e⟩:=List.mem_filterMap.1 hm;exact .inr (h.data b u h0 q x f _ e)
theorem qom (h:P.Vu D)(b a:Nat)(q:b<P.C.n)(hm:(a:Int)∈P.names D b):P.Sm D a<P.Sm D b:=by
 have f:=q3a hm;unfold Pl.Sm;rw[AA f];rcases q88 h q hm with⟨_,E,u,y,e,F⟩|k
 ·have G:=q87 (h.may a u y e);rw[AA e];omega
 ·rw[AB k];omega
theorem qAc (h:P.Vu D)(b:Nat):P.Sm D b<=8:=by
 unfold Pl.Sm;by_cases f:P.Qh D (b:Int)=0
 ·rw[AA f];have h0:=q5k f;obtain⟨c,e,q⟩:=G5 h0;have e:b=c:=by omega
  subst e;have u:=q87 (h.may b q h0 f);omega
 ·rw[AB f];omega
theorem qcj {H:LI}(O:P.Af D H)(h:P.Vu D)(M:P.C.ok)(f:P.C.res){S:NP}(J:∀a:Nat,0<a->a<P.C.n->(a:Int)∈H->P.Qh D (a:Int)=0->S a)
  (I:∀b a:Nat,0<b->b<P.C.n->0<a->a<P.C.n->P.Qh D (b:Int)=0->S b->(∃x∈(P.Qd D (b:Int)).kids,x.a=(a:Int))->S a) (a:Nat) (h1:a<P.C.n) (h2:P.Qh D (a:Int)=0):S a:=by
 have E:1<=P.cnt a:=(qjr M).2 (q5k h2);have q:0<a:=by
  rcases Nat.eq_zero_or_pos a with e|e
  ·subst e;have:=qlv f;omega
  ·exact e
 exact Xb.reached O (B:=8) (P.Sm D) (λb a u _ hm=>qom h b a u hm) (qAc h) (qlv f) (S:=λa=>P.Qh D (a:Int)=0->S a) J (λb a F u q K _ y hm G=>by
  rcases q88 h u hm with⟨Q,_⟩|k
  ·exact I b a F u q K (q3a hm) (y (q3a hm)) Q
  ·exact absurd G k) (8-P.Sm D a) a (AE _) q h1 E h2
end
