/- The code's pool: Node -/
import Derived.Test.YtloolbmdiimanaaGreatDoorGv25
namespace Go.Proofs.YtloolbmdiimanaaGreatDoor
open Go Go.RowKit Go.Proofs Tryz
set_option maxHeartbeats 8000000
set_option maxRecDepth 100000
def qpg (M:Nd)(E:Int)(w:WD)(e:Ending)(w':WD):Prop:=
 ∃u g c1 y f F,e=.returned (.tuple #[.agg #[.int .i64 M.lvl,.slice u g c1,.slice y f F],.int .i64 E])/\g<=20/\f<=20/\Ji w' u g c1 M.items/\Zn w' y f F M.kids/\Below w.1.size w w'
def q6a (M:Nd)(E:Int)(w:WD)(e:Ending)(w':WD):Prop:=
 ∃u g c1 y f F,e=.returned (.tuple #[.agg #[.int .i64 M.lvl,.slice u g c1,.slice y f F],.int .i64 E])/\g<=20/\f<=20/\J5 w' w.1.size u g c1 M.items/\Qz w' w.1.size 159 4 y f F (M.kids.map Qk.vs)/\Below w.1.size w w'
theorem q6a.ans {M:Nd}{E:Int}{w:WD}{e:Ending}{w':WD}(h:q6a M E w e w'):qpg M E w e w':=by
 obtain⟨f,J,c1,g,I,u,h1,h2,y,F,G,H⟩:=h;exact⟨f,J,c1,g,I,u,h1,h2,y,F.Y6,G.Um (by omega),H⟩
def Zz:Nd:=⟨0,[],[]⟩
def Xm (x:LU)(a o:Int):Int:=if (Zd x a).isSome=true then 0 else o
def Xn (x:LU)(a:Int):Nd:=(Zd x a).getD Zz
theorem qia {w:WD}{f:Addr}{g:Array Value}{t:TypeId}{v:Value}(h:w.1[f.block]?=some (.cells g t (0,0)))(e:w.cell? f=some v):g[f.off]?=some v:=by
 unfold World.cell? at e;rw[h] at e;dsimp only at e;split at e
 ·cases e
 ·exact e
section
variable {w w':WD}{b n c m d:Nat}{l:Int}{A B:OA}
end
theorem qg5 {w:WD}{p:Nat}{a E o:Int}(K:E≠0)(f:∀u,Below w.1.size w u->Calls prog 75 #[.pointer (some ⟨p,0,none⟩),.int .i64 a] u λe w'=>∃A n c,e=.returned (.tuple #[.slice A n c,.int .i64 o,.int .i64 E])/\Below u.1.size u w') :
  Calls prog 49 #[.pointer (some ⟨p,0,none⟩),.int .i64 a] w λe w'=>q6a Zz E w e w':=by
 have Q:(E==0)=false:=by simpa using K
 have G:NB (w.alloc (.cells #[.int .i64 0,.slice none 0 0,.slice none 0 0] 108)) w.1.size 0 none 0 0 none 0 0:=NB.new w _ _ _ _ _ _ _ _;have y:Below w.1.size w (w.alloc (.cells #[.int .i64 0,.slice none 0 0,.slice none 0 0] 108)):=Ql;have M:(w.alloc (.cells #[.int .i64 0,.slice none 0 0,.slice none 0 0] 108)).1.size=w.1.size+1:=by simp
 have g:=HI f;clear f;go_enter func49,ntmps49
 go_wp2_with fail
 generalize w.alloc (.cells #[.int .i64 0,.slice none 0 0,.slice none 0 0] 108)=w1 at y G M ⊢;refine (g.out w1 y).mono ?_;rintro e R ⟨A,n,c,rfl,F⟩;have H:=G.below F (by omega);go_wp2_with (first
  |(refine Ae rfl _ _ rfl w.1.size rfl 0 none 0 0 none 0 0 rfl H ?_;intro U I J)
  |fail)
 refine bodyPost_ret (Ag Tryz.results49 rfl (Ik I)) rfl ?_;have W:=F.size;exact⟨none,0,0,none,0,0,rfl,by omega,by omega,P6 _ _,I5 _ _ _ _,(y.trans (F.mono (by omega))).trans (J.below (λk O=>by omega) (by omega))⟩
theorem qcl {w:WD}{p:Nat}{a o:Int}{x:LU}(ht:Tab w)(I:∀u,Below w.1.size w u->Calls prog 75 #[.pointer (some ⟨p,0,none⟩),.int .i64 a] u λe w'=>∃A n c,e=.returned (.tuple #[.slice A n c,.int .i64 o,.int .i64 0])/\Sl w' A n c x/\Below u.1.size u w') :
  Calls prog 49 #[.pointer (some ⟨p,0,none⟩),.int .i64 a] w λe w'=>q6a (Xn x a) (Xm x a o) w e w':=by
 have R1:NB (w.alloc (.cells #[.int .i64 0,.slice none 0 0,.slice none 0 0] 108)) w.1.size 0 none 0 0 none 0 0:=NB.new w _ _ _ _ _ _ _ _;have O:Below w.1.size w (w.alloc (.cells #[.int .i64 0,.slice none 0 0,.slice none 0 0] 108)):=Ql;have z1:(w.alloc (.cells #[.int .i64 0,.slice none 0 0,.slice none 0 0] 108)).1.size=w.1.size+1:=by simp
 have t1:=ht.below O ht.1;have H:=HI I;clear I
 cases J:Zd x a with
 |none=>
  have e1:Xn x a=Zz:=by unfold Xn;rw[J];rfl
  have e2:Xm x a o=o:=by unfold Xm;rw[J];rfl
  rw[e1,e2];have f:=λ(A:OA) (n c:Nat) (g:WD) (R:Sl g A n c x) (U:Tab g)=>qfx A n c x a g R U
  unfold q41 at f;rw[J] at f;have M:=HI f;clear f J e1 e2;go_enter func49,ntmps49
  go_wp2_with fail
  generalize w.alloc (.cells #[.int .i64 0,.slice none 0 0,.slice none 0 0] 108)=w1 at O R1 z1 t1 ⊢;refine (H.out w1 O).mono ?_;rintro e g ⟨A,n,c,rfl,R,F⟩;have R2:=R1.below F (by omega);have U:=t1.below F t1.1;have z2:=F.size;go_wp2_with fail
  refine (M.out A n c g R U).mono ?_;rintro e y ⟨W,n1,c1,X,Z,Y,rfl,a1,a0,hI,hK,Q⟩;have z3:=Q.size;have R3:=R2.below Q (by omega);have K:=O.trans ((F.trans (Q.mono z2)).mono (by omega));go_wp2_with (first
   |(refine Ae rfl (.tmp 4) (.tmp 29) rfl w.1.size rfl 0 none 0 0 none 0 0 rfl (R3.below (E:=y.1.size) (Ql) (by omega)) ?_;intro w5 R5 T5)
   |fail)
  refine bodyPost_ret (Ag Tryz.results49 rfl (Ik R5)) rfl ?_;have G:Below y.1.size y (y.alloc (.cells #[.int .i64 0,.slice W n1 c1,.slice X Z Y] 108)):=Ql;exact⟨none,0,0,none,0,0,rfl,by omega,by omega,P6 _ _,I5 _ _ _ _,(K.trans (G.mono K.size)).trans (T5.below (λk hk=>by omega) (by have:=K.size;have:=G.size;omega))⟩
 |some N=>
  have e1:Xn x a=N:=by unfold Xn;rw[J];rfl
  have e2:Xm x a o=0:=by unfold Xm;rw[J];rfl
  rw[e1,e2];have f:=λ(A:OA) (n c:Nat) (g:WD) (R:Sl g A n c x) (U:Tab g)=>qfx A n c x a g R U
  unfold q41 at f;rw[J] at f;have M:=HI f;clear f J e1 e2;go_enter func49,ntmps49
  go_wp2_with fail
  generalize w.alloc (.cells #[.int .i64 0,.slice none 0 0,.slice none 0 0] 108)=w1 at O R1 z1 t1 ⊢;refine (H.out w1 O).mono ?_;rintro e g ⟨A,n,c,rfl,R,F⟩;have R2:=R1.below F (by omega);have U:=t1.below F t1.1;have z2:=F.size;go_wp2_with fail
  refine (M.out A n c g R U).mono ?_;rintro e y ⟨W,n1,c1,X,Z,Y,rfl,a1,a0,hI,hK,Q⟩;have hI:J5 y g.1.size W n1 c1 N.items:=hI;have hK:Qz y g.1.size 159 4 X Z Y (N.kids.map Qk.vs):=hK;have hl:((some N:Option Nd).getD ⟨0,[],[]⟩).lvl=N.lvl:=rfl;simp only[hl];have z3:=Q.size;have R3:=R2.below Q (by omega);have K:=O.trans ((F.trans (Q.mono z2)).mono (by omega));have G:Below y.1.size y (y.alloc (.cells #[.int .i64 N.lvl,.slice W n1 c1,.slice X Z Y] 108)):=Ql;go_wp2_with (first
   |(refine Ae rfl (.tmp 4) (.tmp 31) rfl w.1.size rfl N.lvl W n1 c1 X Z Y rfl (R3.below G (by omega)) ?_;intro w5 R5 T5)
   |fail)
  refine bodyPost_ret (Ag Tryz.results49 rfl (Ik R5)) rfl ?_;exact⟨W,n1,c1,X,Z,Y,rfl,a1,a0,((hI.below G).low T5 (λk hk=>by have h1:k=w.1.size:=hk;omega)).less (by omega),((hK.below G).turned T5 (λk hk e=>by have h1:=((hK.below G).Qc k hk).1;have h2:k=w.1.size:=e;omega)).less (by omega),(K.trans (G.mono K.size)).trans (T5.below (λk hk=>by omega) (by have:=K.size;have:=G.size;omega))⟩
def Pl.Qe (P:Pl)(D:DM)(a:Int):Int:=if P.C.get a=0 then 1 else match P.live a.toNat with
 |some (.node _)=>0
 |some (.bytes _ _)=>1
 |none=>if D.Jw a=0 then Xm (D.Xh a) a 5 else D.Jw a
def Pl.Qd (P:Pl)(D:DM)(a:Int):Nd:=if P.C.get a=0 then Zz else match P.live a.toNat with
 |some (.node N)=>N
 |some (.bytes _ _)=>Zz
 |none=>if D.Jw a=0 then Xn (D.Xh a) a else Zz
theorem q43 {N:Nd}(h:(Bk.node N).good):N.may=true:=by
 cases hm:N.may with
 |true=>rfl
 |false=>
  have h1:=h.len (a:=0) (g:=0) (by omega) q1w;have h2:(Bk.node N).out 0 0=[]:=by show Jr N _ _=[];unfold Jr;rw[AB (by rw[hm];decide)]
  rw[h2] at h1
  cases h1
theorem qtv {N:Nd}(h:(Bk.node N).good){a:Nat}(f:a<=2047)(o:Int):Xn ((Bk.node N).out a 0) (a:Int)=N/\Xm ((Bk.node N).out a 0) (a:Int) o=0:=by
 have hm:=q43 h;have e:Zd ((Bk.node N).out a 0) (a:Int)=some N:=by
  show Zd (Jr N (a:Int) 0) (a:Int)=some N;rw[qcf hm (q6x hm f q1w).1,AA rfl]
 unfold Xn Xm;rw[e];exact⟨rfl,rfl⟩
theorem qph {k:Int}{l:LU}(h:(Bk.bytes k l).good)(u:k=5\/k=6){a:Nat}(g:a<=2047)(o:Int):Xn ((Bk.bytes k l).out a 0) (a:Int)=Zz/\Xm ((Bk.bytes k l).out a 0) (a:Int) o=o:=by
 obtain⟨h1,h2,f⟩:=h.opens g q1w;have e:Zd ((Bk.bytes k l).out a 0) (a:Int)=none:=by
  unfold Zd;rw[AA f,h1];unfold Ci;split
  ·rw[AB];rintro⟨e,_⟩;have e:k=if ((Bk.bytes k l).hd a 0).level=0 then (3:Int) else 4:=e
   split at e<;>omega
  ·rfl
 unfold Xn Xm;rw[e];exact⟨rfl,rfl⟩
def Bk.kindOk (b:Bk):Prop:=match b with
 |.node _=>True
 |.bytes k l=>∃m,Yg k=some m/\l.length<=m
theorem qpi {k:Int}{l:LU}(P:Pl)(e:∀a b,P.L a=some b->b.kindOk){a:Nat}(h:P.live a=some (.bytes k l)):k=5\/k=6:=by
 obtain⟨m,hm,_⟩:=e a _ (q6y h).2;exact (q58 hm).1
theorem qaf {w:WD}{p d:Nat}{S0 S T:NP}{D:DM}{P:Pl}(J:Vp w d S0 D)(H:Pool w p d S T P)(U:∀a b,P.L a=some b->b.kindOk)(M:Tab w)(a:Int) :
  Calls prog 49 #[.pointer (some ⟨p,0,none⟩),.int .i64 a] w λe w'=>q6a (P.Qd D a) (P.Qe D a) w e w':=by
 by_cases h0:P.C.get a=0
 ·have y:P.Qe D a=1:=AA h0;have E:P.Qd D a=Zz:=AA h0;rw[y,E];exact qg5 (o:=0) (by omega) λu g=>(qk5 (H.below g) a h0).mono λe w' h=>⟨_,_,_,h.1,by rw[<-h.2];exact AI _ _⟩
 ·obtain⟨n,rfl,hn⟩:=Uh h0;have F:n<=2047:=by have:=H.ok.c.1;omega
  have Q:P.Qe D (n:Int)=match P.live n with
    |some (.node _)=>0
    |some (.bytes _ _)=>1
    |none=>if D.Jw (n:Int)=0 then Xm (D.Xh (n:Int)) (n:Int) 5 else D.Jw (n:Int):=by unfold Pl.Qe;rw[AB h0,AJ]
  have R:P.Qd D (n:Int)=match P.live n with
    |some (.node N)=>N
    |some (.bytes _ _)=>Zz
    |none=>if D.Jw (n:Int)=0 then Xn (D.Xh (n:Int)) (n:Int) else Zz:=by unfold Pl.Qd;rw[AB h0,AJ]
  rw[Q,R]
  cases G:P.live n with
  |some b=>
   have K:b.good:=by
    obtain⟨m,O,l,clock,v,Y,L⟩:=H;exact L.good n b (q6y G).2
   have f:=qcl (w:=w) (p:=p) (a:=(n:Int)) (o:=1) (x:=b.out n 0) M λu g=>qcj (H.below g) n b G
   cases b with
   |node N=>
    obtain⟨y,E⟩:=qtv K F 1;rw[y,E] at f;exact f
   |bytes k l=>
    obtain⟨y,E⟩:=qph K (qpi P U G) F 1;rw[y,E] at f;exact f
  |none=>
   by_cases f:D.Jw (n:Int)=0
   ·have X:=qcl (w:=w) (p:=p) (a:=(n:Int)) (o:=5) (x:=D.Xh (n:Int)) M λu g=>by
     have I:=q69 (J.below g) (H.below g) n h0 G;rw[f] at I;exact I
    simp only[AA f];exact X
   ·simp only[AB f];exact qg5 (o:=5) f λu g=>(q69 (J.below g) (H.below g) n h0 G).mono λe w' h=>by
     obtain⟨A,m,c,W,_,I⟩:=h;exact⟨A,m,c,W,I⟩
theorem qpj {w:WD}{p d:Nat}{S0 S T:NP}{D:DM}{P:Pl}(f:Vp w d S0 D)(H:Pool w p d S T P)(g:∀a b,P.L a=some b->b.kindOk)(u:Tab w)(a:Int) :
  Calls prog 49 #[.pointer (some ⟨p,0,none⟩),.int .i64 a] w λe w'=>qpg (P.Qd D a) (P.Qe D a) w e w':=(qaf f H g u a).mono λ_ _ h=>h.ans
def Pl.store (P:Pl)(D:DM):Int->Nd × Int:=λa=>(P.Qd D a,P.Qe D a)
theorem qeb {P:Pl}{c:Nat}(h:P.C.pick=some c){N:Nd}(e:N.may=true):P.Yz N=(c:Int)/\P.Jm N=0/\P.Jg N=P.lay (.node N):=by
 obtain⟨f,g,_⟩:=Ct.Jf h;unfold Pl.Yz Pl.Jm Pl.Jg;rw[AA e,AA e,AA e];exact⟨g,f,rfl⟩
theorem qpk {P:Pl}{D:DM}{a:Int}(h:(P.store D a).2=0):∃n:Nat,a=(n:Int)/\n<P.C.n/\P.C.get (n:Int)≠0:=by
 have h0:P.C.get a≠0:=λe=>by
  have h:P.Qe D a=0:=h;unfold Pl.Qe at h;rw[AA e] at h
  cases h
 obtain⟨n,rfl,hn⟩:=Uh h0;exact⟨n,rfl,hn,h0⟩
theorem qpl {P:Pl}(D:DM){c:Nat}(h:P.C.pick=some c){N:Nd}(g:N.may=true):(P.Jg N).store D (c:Int)=(N,0):=by
 obtain⟨u,_⟩:=Ct.Ju h;have f:=q7n h (.node N) c u;have e:=qbv h (.node N) c;rw[AA rfl] at f e;rw[(qeb h g).2.2];unfold Pl.store Pl.Qd Pl.Qe Pl.live;rw[AJ,f,e];rfl
theorem qg6 {N:Nd}(e:N.may=true):(Bk.node N).fine:=(q4q e).fine
theorem qag {p:List Qb}(h:p≠[]):(⟨0,p,[]⟩:Nd).least=(Qu p 0).k:=by
 have e:0<p.length:=List.length_pos_iff.2 h;unfold Nd.least;rw[q2p,AF,AB (by omega),q18 p e]
theorem qcm (l:Int){q:List Qk}(h:q≠[]):(⟨l,[],q⟩:Nd).least=(Qi q 0).k:=by
 have e:0<q.length:=List.length_pos_iff.2 h;unfold Nd.least;rw[q7d,AF,AB (by omega),qbo q e]
structure Qcn (l:Nat)(R:Int->Nd × Int)(Ns:List Nd)(rows:List (List Qb)):Prop where
 len:rows.length=Ns.length
 may:∀N∈Ns,N.may=true
 holds:∀(j:Nat) (N:Nd) (p:List Qb),Ns[j]?=some N->rows[j]?=some p->N.least=(Qu p 0).k/\∀(R':Int->Nd × Int) (a:Int),(∀b,(R b).2=0->R' b=R b)->R' a=(N,0)->Qm R' l a p
theorem qpm {G:List Zx}{x:Qb}:x∈rowOf G↔∃t∈G,x∈t.2:=by
 unfold rowOf;rw[List.mem_flatten];constructor
 ·rintro⟨r,g,f⟩;obtain⟨t,e,rfl⟩:=List.mem_map.1 g;exact⟨t,e,f⟩
 ·rintro⟨t,e,f⟩;exact⟨_,List.mem_map_of_mem e,f⟩
structure Grew (P P':Pl)(D:DM)(root:Int)(its:List Qb):Prop where
 tree:∃l,l<=6/\Qm (P'.store D) l root its
 ok:P'.ok
 n:P'.C.n=P.C.n
 S:P'.S=P.S
 free:10<=P'.C.free
 old:∀a,(P.store D a).2=0->P'.store D a=P.store D a
 lo:1<=root/\root<2048
def Rt (R R':Int->Nd × Int):Prop:=∀a,(R a).2=0->R' a=R a\/(R' a).2=5
theorem qmk {P:Pl}{D:DM}{n:Nat}(h0:P.C.get (n:Int)≠0)(f:P.live n=none)(e:D.Jw (n:Int)=0):P.store D (n:Int)=(Xn (D.Xh (n:Int)) (n:Int),Xm (D.Xh (n:Int)) (n:Int) 5):=by
 unfold Pl.store Pl.Qd Pl.Qe;rw[AB h0,AB h0,AJ,f];dsimp only;rw[AA e,AA e]
theorem qml {P:Pl}{D:DM}{n:Nat}(h0:P.C.get (n:Int)≠0){b:Bk}(f:P.live n=some b)(e:(P.store D (n:Int)).2=0):∃N,b=.node N/\P.store D (n:Int)=(N,0):=by
 cases b with
 |node N=>
  refine⟨N,rfl,?_⟩;unfold Pl.store Pl.Qd Pl.Qe;rw[AB h0,AB h0,AJ,f]
 |bytes k l=>
  have e:P.Qe D (n:Int)=0:=e;unfold Pl.Qe at e;rw[AB h0,AJ,f] at e;have e:(1:Int)=0:=e;omega
section
open Go.ChangeMaps (setBlock)
def isNode:Option Bk->Bool
 |some (.node _)=>true
 |_=>false
def Pl.D9 (P:Pl)(a:Int)(N:Nd):Bool:=N.may&&(P.C.fresh a&&isNode (P.L a.toNat))
def Pl.Gm (P:Pl)(a:Int)(N:Nd):Int:=if P.D9 a N=true then 0 else 1
def Pl.Kz (P:Pl)(a:Int)(N:Nd):Pl:=if P.D9 a N=true then ⟨P.S,P.C,upd P.L a.toNat (some (.node N))⟩ else P
theorem q2s {C:Ct}{a:Int}(h:C.fresh a=true):C.get a≠0:=λh0=>by
 unfold Ct.fresh at h;rw[AA h0] at h
 cases h
def bkE:Bk->Int
 |.node _=>0
 |.bytes _ _=>1
theorem q5c {P:Pl}(D:DM){k:Nat}(h0:P.C.get (k:Int)≠0){b:Bk}(h:P.live k=some b):P.Qe D (k:Int)=bkE b:=by
 unfold Pl.Qe;rw[AB h0,AJ,h]
 cases b<;>rfl
theorem qmm {w0 w:WD}{p d:Nat}{S0 S T:NP}{D:DM}{P:Pl}(L0:Vp w d S0 D)(H:Pool w p d S T P)(d8:∀a b,P.L a=some b->b.kindOk)(d6:∀a:Nat,P.C.fresh (a:Int)=true->∃b,P.L a=some b)(hT:∀k,T k->k<w.1.size)(B0:Below w0.1.size w0 w)(a:Int)(N:Nd)(A:OA)(n c:Nat)(B:OA)(F G:Nat)(hI:Ji w0 A n c N.items)(hK:Zn w0 B F G N.kids)(hn:n<=1000)(hm:F<=1000)(ht:Tab w) :
  Calls prog 171 #[.pointer (some ⟨p,0,none⟩),.int .i64 a,.agg #[.int .i64 N.lvl,.slice A n c,.slice B F G]] w λe w'=>e=.returned (.int .i64 (P.Gm a N))/\Pool w' p d S T (P.Kz a N)/\Turn S w w':=by
 have Q:=H.ok;have N1:NB (w.alloc (.cells #[.int .i64 N.lvl,.slice A n c,.slice B F G] 108)) w.1.size N.lvl A n c B F G:=NB.new w _ _ _ _ _ _ _ _;have W:Below w.1.size w (w.alloc (.cells #[.int .i64 N.lvl,.slice A n c,.slice B F G] 108)):=Ql;have z1:(w.alloc (.cells #[.int .i64 N.lvl,.slice A n c,.slice B F G] 108)).1.size=w.1.size+1:=by simp
 obtain⟨r,hr⟩:∃r,N.may=r:=⟨_,rfl⟩;obtain⟨f,hf⟩:∃f,P.C.fresh a=f:=⟨_,rfl⟩;have a0:=HI (λw (hw:Below w0.1.size w0 w)=>q28 N r hr A n c B F G w (hI.below hw) (hK.below hw) hn hm);have a5:=HI (λ(w1:WD) (H1:Pool w1 p d S T P)=>q7s H1 a f hf);have c0:=N1.c0;have c1:=N1.c1;have c2:=N1.c2;have t1:=ht.below W ht.1;have H1:=H.below W;have B1:=B0.trans (W.mono B0.size);have hE:P.Gm a N=if (r&&(f&&isNode (P.L a.toNat)))=true then 0 else 1:=by unfold Pl.Gm Pl.D9;rw[hr,hf]
 have hP:P.Kz a N=if (r&&(f&&isNode (P.L a.toNat)))=true then ⟨P.S,P.C,upd P.L a.toNat (some (.node N))⟩ else P:=by unfold Pl.Kz Pl.D9;rw[hr,hf]
 rw[hE,hP];clear hE hP
 cases r with
 |false=>
  clear hf hr;go_enter func171,ntmps171
  go_wp2_with fail
  generalize w.alloc (.cells #[.int .i64 N.lvl,.slice A n c,.slice B F G] 108)=w1 at W N1 z1 c0 c1 c2 t1 H1 B1 ⊢;refine (a0.out w1 B1).mono ?_;rintro e w2 ⟨rfl,b2⟩;have I:=W.trans (b2.mono (by omega));go_wp2;go_ret;exact⟨rfl,H.below I,Zb I⟩
 |true=>
  cases f with
  |false=>
   clear hf hr;go_enter func171,ntmps171
   go_wp2_with fail
   generalize w.alloc (.cells #[.int .i64 N.lvl,.slice A n c,.slice B F G] 108)=w1 at W N1 z1 c0 c1 c2 t1 H1 B1 ⊢;refine (a0.out w1 B1).mono ?_;rintro e w2 ⟨rfl,b2⟩;have I:=W.trans (b2.mono (by omega));have H2:=H.below I;go_wp2_with fail
   refine (a5.out w2 H2).mono ?_;rintro e y ⟨rfl,rfl⟩;go_wp2;go_ret;exact⟨rfl,H2,Zb I⟩
  |true=>
   have O:=q2s hf;obtain⟨k,rfl,hk⟩:=Uh O;rw[AJ];have b3:k<=2047:=by have:=Q.c.1;omega
   obtain⟨b,K⟩:=d6 k hf;have a2:P.live k=some b:=by unfold Pl.live;rw[AB O];exact K
   have a8:=q5c D O a2;have R:=λ(w2:WD) (bb:Below w.1.size w w2)=>qpj (L0.below bb) (H.below bb) d8 (ht.below bb ht.1) (k:Int)
   rw[a8] at R;obtain⟨M0,a7⟩:∃M0,P.Qd D (k:Int)=M0:=⟨_,rfl⟩;rw[a7] at R
   cases b with
   |bytes kk l=>
    rw[K];have a6:=HI R;clear hf hr R a8 a7 a2 K O;show Calls _ _ _ _ λe w'=>e=.returned (.int .i64 1)/\Pool w' p d S T P/\Turn S w w'
    go_enter func171,ntmps171
    go_wp2_with fail
    generalize w.alloc (.cells #[.int .i64 N.lvl,.slice A n c,.slice B F G] 108)=w1 at W N1 z1 c0 c1 c2 t1 H1 B1 ⊢;refine (a0.out w1 B1).mono ?_;rintro e w2 ⟨rfl,b2⟩;have I:=W.trans (b2.mono (by omega));have H2:=H.below I;go_wp2_with fail
    refine (a5.out w2 H2).mono ?_;rintro e y ⟨rfl,rfl⟩;go_wp2_with fail
    refine (a6.out w2 I).mono ?_;rintro e E ⟨A1,n1,q1,a4,m1,d1,rfl,_,_,_,_,b4⟩;have b5:Below E.1.size E (E.alloc (.cells #[.int .i64 0,.slice none 0 0,.slice none 0 0] 108)):=Ql;have R5:NB (E.alloc (.cells #[.int .i64 0,.slice none 0 0,.slice none 0 0] 108)) E.1.size 0 none 0 0 none 0 0:=NB.new E _ _ _ _ _ _ _ _;go_wp2_with (first
     |(refine Ae rfl _ _ rfl E.1.size rfl M0.lvl A1 n1 q1 a4 m1 d1 rfl R5 ?_;intro w6 R6 T6)
     |fail)
    go_ret;have B4:=I.trans (b4.mono I.size);have B6:Below w.1.size w w6:=(B4.trans (b5.mono B4.size)).trans (T6.below (λk hk=>by have:=B4.size;omega) (by have h1:=B4.size;have h2:=b5.size;omega));exact⟨rfl,H.below B6,Zb B6⟩
   |node M=>
    rw[K];have a6:=HI R;obtain⟨b6,e0,_⟩:=q6x hr b3 q1w;have b0:=q4q hr;have X:=b0.len (a:=k) (g:=0) b3 q1w;have b7:(Bk.node N).out k 0=Jr N (k:Int) 0:=rfl;rw[b7] at X;have c9:=HI b6;have e4:=HI X;have J:∀c:Nat,Pl.live ⟨P.S,P.C,upd P.L k (some (.node N))⟩ c=if c=k then some (.node N) else P.live c:=λc=>by
     unfold Pl.live;by_cases e:c=k
     ·subst e;rw[AA rfl,AB O];exact Aj _ _ _
     ·rw[AB e];show (if _ then _ else upd P.L k _ c)=_;rw[Af _ _ e]
    have u:∀c x,(upd P.L k (some (.node N))) c=some x->x.good:=λc x h=>by
     by_cases e:c=k
     ·subst e;rw[Aj] at h;injection h with h;rw[<-h];exact b0
     ·rw[Af _ _ e] at h;obtain⟨m,d2,l,clock,v,Sc,L⟩:=H;exact L.good c x h
    have a3:Pl.ok ⟨P.S,P.C,upd P.L k (some (.node N))⟩:=⟨Q.c,Q.res,Q.may,Q.sec,Q.gen,λc x h=>(u c x h).fine⟩;have b9:=HI J;have b8:=HI u;have a9:=HI a3;obtain⟨m,d2,l,clock,v,Sc,L⟩:=H;have Y:¬Zf (k:Int) l=none:=by rw[L.look k,a2];exact λh=>nomatch h
    have U:=HI Y;have e8:=L.Iz;have e6:=L.mlt;clear hf hr R a8 a7 a2 K O b6 e0 X b7 J u a3 Y;show Calls _ _ _ _ λe w'=>e=.returned (.int .i64 0)/\Pool w' p d S T ⟨P.S,P.C,upd P.L k (some (.node N))⟩/\Turn S w w'
    go_enter func171,ntmps171
    go_wp2_with fail
    generalize w.alloc (.cells #[.int .i64 N.lvl,.slice A n c,.slice B F G] 108)=w1 at W N1 z1 c0 c1 c2 t1 H1 B1 ⊢;refine (a0.out w1 B1).mono ?_;rintro e w2 ⟨rfl,b2⟩;have I:=W.trans (b2.mono (by omega));have H2:=H1.below b2;go_wp2_with fail
    refine (a5.out w2 H2).mono ?_;rintro e f0 ⟨rfl,rfl⟩;go_wp2_with fail
    refine (a6.out w2 I).mono ?_;rintro e E ⟨A1,n1,q1,a4,m1,d1,rfl,_,_,_,_,b4⟩;have b5:Below E.1.size E (E.alloc (.cells #[.int .i64 0,.slice none 0 0,.slice none 0 0] 108)):=Ql;have R5:NB (E.alloc (.cells #[.int .i64 0,.slice none 0 0,.slice none 0 0] 108)) E.1.size 0 none 0 0 none 0 0:=NB.new E _ _ _ _ _ _ _ _;have B4:=I.trans (b4.mono I.size);go_wp2_with (first
     |(refine Ae rfl _ _ rfl E.1.size rfl M0.lvl A1 n1 q1 a4 m1 d1 rfl R5 ?_;intro y R6 T6;have e5:(bkE (.node M)!=0)=false:=rfl)
     |fail)
    have B3:Below w.1.size w y:=(B4.trans (b5.mono B4.size)).trans (T6.below (λk hk=>by have:=B4.size;omega) (by have h1:=B4.size;have h2:=b5.size;omega));have z2:=b2.size;have z3:=B3.size;have N3:NB y w.1.size N.lvl A n c B F G:=by
     have N2:=N1.below b2 (by omega);have N4:=N2.below b4 N2.lt;have N5:=N4.below b5 N4.lt;have d9:=N5.lt;obtain⟨t,h⟩:=N5;exact⟨t,(T6.block w.1.size d9 (by have:=N4.lt;omega)).trans h⟩
    have L3:=L.below B3;have e3:=L3.c40;have t3:Tab y:=ht.below B3 ht.1;have d5:w.1.size≠m:=λe=>by have h1:=hT m (L.sub _ L.Ym.2.1);omega
    have hF:∀w',Below y.1.size y w'->w'.cell? ⟨p,40,none⟩=some (.map (some m))/\w'.cell? ⟨w.1.size,0,none⟩=some (.int .i64 N.lvl)/\w'.cell? ⟨w.1.size,1,none⟩=some (.slice A n c)/\w'.cell? ⟨w.1.size,2,none⟩=some (.slice B F G):=λw' K=>
     have N':=N3.below K N3.lt;⟨(K.cell (p:=⟨p,40,none⟩) (by show p<_;omega)).trans e3,N'.c0,N'.c1,N'.c2⟩
    have d3:∀w' (o:Obj),Below y.1.size y w'->(setBlock w' m o).cell? ⟨p,40,none⟩=some (.map (some m))/\(setBlock w' m o).cell? ⟨w.1.size,0,none⟩=some (.int .i64 N.lvl)/\(setBlock w' m o).cell? ⟨w.1.size,1,none⟩=some (.slice A n c)/\(setBlock w' m o).cell? ⟨w.1.size,2,none⟩=some (.slice B F G):=λw' o K=>by
     have hz:=K.size;have e7:=N3.lt;have TB:Turn (λk=>k=m) w' (setBlock w' m o):=q0q _ rfl;obtain⟨h1,h2,h3,h4⟩:=hF w' K;have e1:=TB.block p (by omega) L.p_m;have e2:=TB.block w.1.size (by omega) d5;exact⟨(AY (a:=⟨p,40,none⟩) e1).trans h1,(AY (a:=⟨w.1.size,0,none⟩) e2).trans h2,(AY (a:=⟨w.1.size,1,none⟩) e2).trans h3,(AY (a:=⟨w.1.size,2,none⟩) e2).trans h4⟩
    have BD:Below y.1.size y y.drew:=(AI _ _).drew;have d0:=HI (λ(w':WD) (K:Below y.1.size y w') (v':Value)=>(congrArg (λz:Nat=>Result.ok () (setBlock w' m (.map (Zr (k:Int) v' clock l).toArray z))) (AB U.out)).subst (motive:=λr=>(Instr.mapUpdate 64 (.map (some m)) (.int .i64 (k:Int)) v').run prog w'=r) (q1t L.ents underlying64 underlying3 ((K.block m (by omega)).trans L3.map) (k:Int) v'));have BI:=B0.trans ((B3.trans (BD.mono B3.size)).mono B0.size);clear c0 c1 c2 H1 H2 R6 R5;go_wp2_with fail
    go_region_held3 (λw'=>w'.cell? ⟨p,40,none⟩=some (.map (some m))/\w'.cell? ⟨w.1.size,0,none⟩=some (.int .i64 N.lvl)/\w'.cell? ⟨w.1.size,1,none⟩=some (.slice A n c)/\w'.cell? ⟨w.1.size,2,none⟩=some (.slice B F G))
     (first|assumption|exact hF _ BD|exact hF _ a1|exact d3 _ _ a1)
     (first
      |(go_at_call 179;refine (qch N (k:Int) 0 A n c B F G _ (hI.below BI) (hK.below BI) hn hm (t3.below BD t3.1)).mono ?_;rw[c9.out];rintro e E ⟨A3,n3,c3,rfl,Z,d7,d4⟩;have a1:Below y.1.size y E:=BD.trans d4;have e9:=d0.out E a1)
      |fail)
    obtain⟨q,rfl,rfl,rfl⟩:=d7 (by first|trivial|rfl);have hq:=(Z.block ⟨q,0,none⟩ rfl).1;obtain⟨R1,R2⟩:=L3.store (P':=⟨P.S,P.C,upd P.L k (some (.node N))⟩) (b:=.node N) (Turn.refl _ _) L3.ct a1 rfl rfl hk b9.out b8.out a9.out Z.sl (λh=>by have h1:=hT q h;have h2:y.drew.1.size=y.1.size:=rfl;have h3:y.drew.1.size<=q:=hq;omega);rw[AB U.out] at R1 R2;go_wp2;go_ret;exact⟨rfl,R1,(Zb (S:=S) B3).trans R2 λk hk=>.inl hk⟩
end
def Pl.cnt (P:Pl)(a:Nat):Nat:=(P.C.get (a:Int)).toNat
def Pl.names (P:Pl)(D:DM)(a:Nat):LI:=(P.Qd D (a:Int)).named
def Pl.Gi (P:Pl)(D:DM)(H:LI):Prop:=J3 P.C.n P.cnt (P.names D) H
theorem qib {P:Pl}{a:Nat}(e:P.C.ok):1<=P.cnt a↔P.C.get (a:Int)≠0:=by
 have:=(Ct.Zv e (a:Int)).1;unfold Pl.cnt;omega
theorem qk7 {P:Pl}(f:P.C.res):P.cnt 0=0:=by
 have h:P.C.get ((0:Nat):Int)=0:=by
  by_cases e:P.C.get ((0:Nat):Int)=0
  ·exact e
  ·have:=(Ct.Vt f e).2.2;have h2:P.C.first=2+2*Qj P.C.n:=rfl
   simp at this;omega
 unfold Pl.cnt;rw[h];rfl
theorem P8 (C:Ct){c:Nat}{x:Int}(b:Nat)(e:b<C.n):(C.put c x).get (b:Int)=if b=c then x else C.get (b:Int):=by
 unfold Ct.get;rw[C.Zg,AA (show 0<=(b:Int)/\(b:Int)<(C.n:Int) by omega),AA (show 0<=(b:Int)/\(b:Int)<(C.n:Int) by omega),AJ,q67 C c x b e]
structure Wx (D:DM)(P:Pl)(S0:Sp)(C0:Ct):Prop where
 ok:P.ok
 sound:Sound D P S0 C0
 kinds:∀a b,P.L a=some b->b.kindOk/\b.good
theorem Wx.kind {D:DM}{P:Pl}{S0:Sp}{C0:Ct}(h:Wx D P S0 C0):∀a b,P.L a=some b->b.kindOk:=λa b e=>(h.kinds a b e).1
theorem Wx.good {D:DM}{P:Pl}{S0:Sp}{C0:Ct}(h:Wx D P S0 C0):∀a b,P.L a=some b->b.good:=λa b e=>(h.kinds a b e).2
theorem Wx.put {D:DM}{P:Pl}{S0:Sp}{C0:Ct}(h:Wx D P S0 C0){N:Nd}(hN:N.may=true)(hf:0<P.C.free):Wx D (P.Jg N) S0 C0/\P.Jm N=0/\(P.Jg N).C.free+1=P.C.free:=by
 obtain⟨c,f⟩:=Ct.Bo hf;obtain⟨_,E,g⟩:=qeb f hN;have u:=Ct.U4 f;have y:(P.Jg N).C=P.C.alloc:=by rw[g,q2k f]
 refine⟨⟨by rw[g];exact qjv h.ok (qg6 hN),by rw[g];exact qft h.sound _,λa b e=>?_⟩,E,by rw[y];exact u⟩;rw[g,qbv f] at e;split at e
 ·obtain rfl:=OI e;exact⟨trivial,q4q hN⟩
 ·exact h.kinds a b e
def Xk (R:Int->Nd × Int)(root:Int)(its:List Qb):Prop:=(its=[]/\root=0)\/∃l,l<=6/\Qm R l root its/\1<=root/\root<2048
structure Lvl (D:DM)(its:List Qb)(f l:Nat)(P:Pl)(Ns:List Nd):Prop where
 Qc9:∃rows,Qcn l (P.store D) Ns rows/\rows.flatten=its
 ok:P.ok
 free:2*Ns.length+10<=P.C.free
 one:1<=Ns.length
 fuel:l+f<=6
 need:1<=f/\(2<=Ns.length->2<=f)/\(13<=Ns.length->3<=f)/\Ns.length<=66
section
variable {b:Nat}{w w1:WD}{d p:Nat}{S0 S T:NP}{D:DM}{P:Pl}
end
def Sz:DM:=(DM.mk0 256).Qy (Xu 256)
structure Qc7 (b:Nat)(w:WD)(d p:Nat)(D:DM)(P:Pl)(root:Int)(its:List Qb):Prop where
 sys:∃S0 S T,Qh b w d p S0 S T D P
 Zl:Wx D P (fmtS 256) (Ct.zero 256)
 tree:Xk (P.store D) root its
 n:P.C.n=256
 S:P.S=fmtS 256
structure Qc6 (w0:WD)(d p:Nat)(S0 S:NP)(its:List Qb)(f l:Nat)(nv lv:Value)(w:WD)(P:Pl)(Ns:List Nd):Prop where
 lvl:Lvl Sz its f l P Ns
 fuel:l+f=5
 Nw:∃L:Nat,L=l+1/\lv=.int .i64 (L:Int)
 rows:∃wl A c,nv=.slice A Ns.length c/\Qbv (Turn S wl) w wl.heap.size A Ns.length c Ns/\Turn S wl w/\(∀k,S k->k<wl.heap.size)
 sys:∃T,Qh w0.heap.size w d p S0 S T Sz P
 Zl:Wx Sz P (fmtS 256) (Ct.zero 256)
 tab:Tab w
 low:Below w0.heap.size w0 w
 n:P.C.n=256
 S:P.S=fmtS 256
