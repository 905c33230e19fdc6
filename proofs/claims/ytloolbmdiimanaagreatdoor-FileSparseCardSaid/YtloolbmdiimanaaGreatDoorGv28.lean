/- A pool some of whose nodes are open: another content of an open node, and a new node -/
import Derived.Test.YtloolbmdiimanaaGreatDoorGvGcA
namespace Go.Proofs.YtloolbmdiimanaaGreatDoor
open Go Go.RowKit Go.Proofs Tryz
set_option maxHeartbeats 4000000
set_option maxRecDepth 100000
structure Fits (R:Int->Nd × Int)(N:Nd):Prop where
 may:N.may=true
 data:∀x∈N.items,Dat R x
 kids:∀x∈N.kids,(R x.a).2=0/\(R x.a).1.lvl+1=N.lvl/\(R x.a).1.least=x.k/\(R x.a).1.enough
theorem Fits.ext {R R':Int->Nd × Int}{N:Nd}(h:Fits R N)(e:Ext R R'):Fits R' N:=
 ⟨h.may,λx f=>(h.data x f).ext e,λx f=>by
  obtain⟨g,p,u,y⟩:=h.kids x f;rw[e x.a g];exact⟨g,p,u,y⟩⟩
theorem Fits.told {R:Int->Nd × Int}{N:Nd}(h:Fits R N){c:Int}(f:c∈N.named):(R c).2=0:=by
 unfold Nd.named at f;rcases List.mem_append.1 f with f|f
 ·obtain⟨x,g,rfl⟩:=List.mem_map.1 f;exact (h.kids x g).1
 ·obtain⟨x,g,e⟩:=List.mem_filterMap.1 f;rw[h.data x g c e]
theorem Fits.loc {R R':Int->Nd × Int}{N:Nd}{a:Int}(h:Fits R N)(e:Ext R R')(ha:R' a=(N,0)):Loc R' a:=by
 have h2:=h.ext e;exact .inr ⟨by rw[ha],by rw[ha];exact h.may,by rw[ha];exact h2.data,by rw[ha];exact h2.kids⟩
section
variable {D:DM}{S0:Sp}{C0:Ct}{O H:LI}{P:Pl}
theorem Keep.Ep (_K:Keep D S0 C0 O H P){N:Nd}(hN:Fits (P.hide D O) N){x:Int}(hx:(P.hide D O x).2≠0):x∉N.named:=λh=>hx (hN.told h)
theorem Keep.set (K:Keep D S0 C0 O H P){c:Nat}(ho:(c:Int)∈O)(hnE:P.Qe D (c:Int)=0)(hfr:P.C.fresh (c:Int)=true){N:Nd}(hN:Fits (P.hide D O) N){H0:LI}(hH:∀a:Nat,0<a->a<P.C.n->H.count (a:Int)=N.named.count (a:Int)+H0.count (a:Int)) :
  P.Gm (c:Int) N=0/\Keep D S0 C0 (less1 O (c:Int)) H0 (P.Kz (c:Int) N)/\(P.Kz (c:Int) N).hide D (less1 O (c:Int)) (c:Int)=(N,0)/\(∀l,(P.Qd D (c:Int)).lvl<=l->Move l D O (less1 O (c:Int)) P (P.Kz (c:Int) N) 0)/\(P.Kz (c:Int) N).C=P.C/\∀x,x≠(c:Int)->(P.Kz (c:Int) N).store D x=P.store D x:=by
 obtain⟨a2,h1⟩:=K.opened _ ho;have h0:P.C.get (c:Int)≠0:=by omega
 obtain⟨c0,cn⟩:=K.first h0
 obtain⟨b,W⟩:=K.laid c hfr;have Y:P.live c=some b:=by unfold Pl.live;rw[AB h0];exact W
 have hE:=q5c D h0 Y;have u:isNode (P.L ((c:Int)).toNat)=true:=by
  rw[AJ,W]
  cases b with
  |node M=>rfl
  |bytes k l=>
   have:bkE (Bk.bytes k l)=1:=rfl;rw[this] at hE;omega
 have hs:P.D9 (c:Int) N=true:=by
  unfold Pl.D9;rw[hN.may,hfr,u];rfl
 have e1:P.Gm (c:Int) N=0:=AA hs;have e2:P.Kz (c:Int) N=⟨P.S,P.C,upd P.L c (some (.node N))⟩:=by
  unfold Pl.Kz;rw[AA hs,AJ]
 rw[e2];refine⟨e1,?_⟩;have y:∀x,x≠(c:Int)->Pl.store ⟨P.S,P.C,upd P.L c (some (.node N))⟩ D x=P.store D x:=λx f=>by
  by_cases X:P.C.get x=0
  ·rw[O6 X];exact O6 (P:=⟨P.S,P.C,upd P.L c (some (.node N))⟩) X
  ·obtain⟨n,rfl,hn⟩:=Uh X;unfold Pl.store Pl.Qd Pl.Qe Pl.live;show ((if P.C.get (n:Int)=0 then Zz else match (if P.C.get (((n:Int).toNat:Nat):Int)=0 then none else upd P.L c (some (.node N)) (n:Int).toNat) with|some (.node N)=>N|some (.bytes _ _)=>Zz|none=>_),(if P.C.get (n:Int)=0 then 1 else match (if P.C.get (((n:Int).toNat:Nat):Int)=0 then none else upd P.L c (some (.node N)) (n:Int).toNat) with|some (.node _)=>(0:Int)|some (.bytes _ _)=>1|none=>_))=_;rw[AJ,Af _ _ (λe=>f (by rw[e]))];rfl
 have F:Pl.store ⟨P.S,P.C,upd P.L c (some (.node N))⟩ D (c:Int)=(N,0):=by
  unfold Pl.store Pl.Qd Pl.Qe Pl.live;show ((if P.C.get (c:Int)=0 then Zz else match (if P.C.get (((c:Int).toNat:Nat):Int)=0 then none else upd P.L c (some (.node N)) (c:Int).toNat) with|some (.node N)=>N|some (.bytes _ _)=>Zz|none=>_),(if P.C.get (c:Int)=0 then 1 else match (if P.C.get (((c:Int).toNat:Nat):Int)=0 then none else upd P.L c (some (.node N)) (c:Int).toNat) with|some (.node _)=>(0:Int)|some (.bytes _ _)=>1|none=>_))=_;rw[AJ,Aj,AB h0,AB h0,AB h0]
 have Z:(c:Int)∉less1 O (c:Int):=λh=>(Fb.1 h).2 rfl
 have p:Pl.hide ⟨P.S,P.C,upd P.L c (some (.node N))⟩ D (less1 O (c:Int)) (c:Int)=(N,0):=by
  rw[O8 Z,I4 (P:=⟨P.S,P.C,upd P.L c (some (.node N))⟩) (congrArg Prod.snd F)];exact F
 have hh:∀x,x≠(c:Int)->Pl.hide ⟨P.S,P.C,upd P.L c (some (.node N))⟩ D (less1 O (c:Int)) x=P.hide D O x:=λx f=>by
  unfold Pl.hide;rw[q3e (P:=P) (P':=⟨P.S,P.C,upd P.L c (some (.node N))⟩) (y x f) Iff.rfl];by_cases G:x∈O
  ·rw[AA G,AA (Fb.2 ⟨G,f⟩)]
  ·rw[AB G,AB (λh=>G (Fb.1 h).1)]
 have E:Ext (P.hide D O) (Pl.hide ⟨P.S,P.C,upd P.L c (some (.node N))⟩ D (less1 O (c:Int))):=λx f=>hh x λe=>by
  rw[e,q1z ho] at f
  cases f
 have a0:(c:Int)∉N.named:=K.Ep hN (by rw[q1z ho];decide);refine⟨⟨⟨⟨K.Zl.ok.c,K.Zl.ok.res,K.Zl.ok.may,K.Zl.ok.sec,K.Zl.ok.gen,λa x f=>?_⟩,?_,λa x f=>?_⟩,λa J=>?_,?_,λx f=>?_,λa J T U=>?_⟩,p,λl hl=>⟨E,λx f a1=>?_,AE _,rfl⟩,rfl,λx f=>y x f⟩
 ·have f:upd P.L c (some (.node N)) a=some x:=f;by_cases e:a=c
  ·subst e;rw[Aj] at f;obtain rfl:=OI f;exact qg6 hN.may
  ·rw[Af _ _ e] at f;exact K.Zl.ok.fine a x f
 ·have:=K.Zl.sound;exact⟨this.free,this.n,this.G7,⟨this.holds.may,this.holds.gen,this.holds.sec,this.holds.c,this.holds.res,this.holds.n,this.holds.slot,this.holds.other,this.holds.area⟩⟩
 ·have f:upd P.L c (some (.node N)) a=some x:=f;by_cases e:a=c
  ·subst e;rw[Aj] at f;obtain rfl:=OI f;exact⟨trivial,q4q hN.may⟩
  ·rw[Af _ _ e] at f;exact K.Zl.kinds a x f
 ·show ∃b,upd P.L c (some (.node N)) a=some b;by_cases e:a=c
  ·subst e;exact⟨_,Aj _ _ _⟩
  ·rw[Af _ _ e];exact K.laid a J
 ·have I:=K.Gi.set (c:=c) (ks:=N.named) (H0:=H0) (K':=λb=>(Pl.hide ⟨P.S,P.C,upd P.L c (some (.node N))⟩ D (less1 O (c:Int)) (b:Int)).1.named) cn (by unfold Pl.cnt;omega) hH (by show (Pl.hide ⟨P.S,P.C,upd P.L c (some (.node N))⟩ D (less1 O (c:Int)) (c:Int)).1.named=_;rw[p]) (λb W g=>by
   show (Pl.hide ⟨P.S,P.C,upd P.L c (some (.node N))⟩ D (less1 O (c:Int)) (b:Int)).1.named=_;rw[hh _ (by omega)])
  have I:J3 P.C.n P.cnt (λb=>(Pl.hide ⟨P.S,P.C,upd P.L c (some (.node N))⟩ D (less1 O (c:Int)) (b:Int)).1.named) ((P.hide D O (c:Int)).1.named++H0):=I;rw[q1z ho] at I;exact I
 ·obtain⟨f,g⟩:=Fb.1 f;obtain⟨k1,k2⟩:=K.opened x f;obtain⟨n,rfl,hn⟩:=Uh (C:=P.C) (a:=x) (by omega);obtain⟨n0,_⟩:=K.first (c:=n) (by omega)
  refine⟨?_,k2⟩;have h3:=hH n n0 hn;have h4:=List.count_pos_iff.2 k1;have h5:N.named.count (n:Int)=0:=List.count_eq_zero.2 (K.Ep hN (by rw[q1z f];decide));exact List.count_pos_iff.1 (by omega)
 ·by_cases e:a=c
  ·subst e;exact hN.loc E p
  ·exact (K.loc a J T λh=>U (Fb.2 ⟨h,by omega⟩)).ext E
 ·have g:x≠(c:Int):=λe=>by subst e;omega
  exact⟨Int.le_refl _,y x g,⟨λh=>Fb.2 ⟨h,g⟩,λh=>(Fb.1 h).1⟩⟩
theorem Keep.put (K:Keep D S0 C0 O H P){c:Nat}(hp:P.C.pick=some c){N:Nd}(hN:Fits (P.hide D O) N){H0:LI}(hH:∀a:Nat,0<a->a<P.C.n->H.count (a:Int)=N.named.count (a:Int)+H0.count (a:Int)) :
  P.Jm N=0/\P.Yz N=(c:Int)/\Keep D S0 C0 O ((c:Int)::H0) (P.Jg N)/\(P.Jg N).hide D O (c:Int)=(N,0)/\(∀l,Move l D O O P (P.Jg N) 1)/\1<=c/\c<2048:=by
 obtain⟨p1,p2,p3,p4,_⟩:=Ct.Ju hp;obtain⟨v1,v2,F⟩:=qeb hp hN.may;have hz:P.C.get (c:Int)=0:=by
  unfold Ct.get;rw[AA (by omega),AJ];exact p3
 have a1:P.C.first=2+2*Qj P.C.n:=rfl
 have I:(c:Int)∉O:=λh=>by
  have:=(K.opened _ h).2;omega
 have f:=λb (E:b<P.C.n)=>q7n hp (.node N) b E
 have T:=qbv hp (.node N);have hn:(P.Jg N).C.n=P.C.n:=by rw[F];exact qi2 _
 obtain⟨s1,_,s3⟩:=K.Zl.put hN.may (by have:=Ct.U4 hp;omega);have y:(P.Jg N).hide D O (c:Int)=(N,0):=by
  have e:=qpl D hp hN.may;rw[O8 I,I4 (congrArg Prod.snd e)];exact e
 have W:∀x,x≠(c:Int)->(P.Jg N).store D x=P.store D x:=λx u=>by
  by_cases E:0<=x/\x<(P.C.n:Int)
  ·obtain⟨n,rfl⟩:∃n:Nat,x=(n:Int):=⟨x.toNat,by omega⟩;have f:=f n (by omega);have T:=T n;rw[AB (by omega)] at f T;rw[F];unfold Pl.store Pl.Qd Pl.Qe Pl.live;rw[AJ,f,T]
  ·have h1:P.C.get x=0:=by unfold Ct.get;rw[AB E]
   have h2:(P.Jg N).C.get x=0:=by unfold Ct.get;rw[hn,AB E]
   rw[O6 h1,O6 h2]
 have hh:∀x,x≠(c:Int)->(P.Jg N).hide D O x=P.hide D O x:=λx u=>by
  have Z:(P.Jg N).C.get x=P.C.get x:=by
   by_cases E:0<=x/\x<(P.C.n:Int)
   ·obtain⟨n,rfl⟩:∃n:Nat,x=(n:Int):=⟨x.toNat,by omega⟩;have f:=f n (by omega);rw[AB (by omega)] at f;rw[F];exact f
   ·unfold Ct.get;rw[hn,AB E,AB E]
  unfold Pl.hide;rw[q3e (W x u) (by rw[Z])]
 have J:Ext (P.hide D O) ((P.Jg N).hide D O):=λx u=>hh x λe=>by
  rw[e,O8 I,q2q hz] at u
  cases u
 have a0:=K.c.1.2;refine⟨v2,v1,⟨s1,λa p=>?_,?_,λx u=>?_,λa p U Y=>?_⟩,y,λl=>⟨J,λx u _=>?_,by omega,hn⟩,by omega,by omega⟩
 ·rw[F,T a];by_cases e:a=c
  ·exact⟨_,AA e⟩
  ·rw[AB e];refine K.laid a ?_;rw[F,q2k hp] at p;have p:P.C.alloc.fresh (a:Int)=true:=p;rw[(Ct.Jf hp).2.2] at p;have X:a<P.C.n:=by
    obtain⟨n,e1,h2⟩:=Uh (q2s p);rw[P.C.Zg] at h2;omega
   unfold Ct.fresh at p ⊢;rw[P8 P.C a X,AB e] at p;exact p
 ·rw[hn];refine K.Gi.put (c:=c) (ks:=N.named) (H0:=H0) (cnt':=(P.Jg N).cnt) (by omega) p1 (by unfold Pl.cnt;rw[hz];rfl) hH ?_ ?_ ?_ ?_
  ·unfold Pl.cnt;rw[F,f c p1,AA rfl];rfl
  ·intro b E g;unfold Pl.cnt;rw[F,f b E,AB g]
  ·show ((P.Jg N).hide D O (c:Int)).1.named=_;rw[y]
  ·intro b E g;show ((P.Jg N).hide D O (b:Int)).1.named=_;rw[hh _ (by omega)]
 ·obtain⟨k1,k2⟩:=K.opened x u;obtain⟨n,rfl,G⟩:=Uh (C:=P.C) (a:=x) (by omega);obtain⟨n0,_⟩:=K.first (c:=n) (by omega)
  have g:n≠c:=λe=>I (e▸u)
  refine⟨AO _ ?_,?_⟩
  ·have h3:=hH n n0 G;have h4:=List.count_pos_iff.2 k1;have h5:N.named.count (n:Int)=0:=List.count_eq_zero.2 (K.Ep hN (by rw[q1z u];decide));exact List.count_pos_iff.1 (by omega)
  ·rw[F,f n G,AB g];exact k2
 ·rw[hn] at p;by_cases e:a=c
  ·subst e;exact hN.loc J y
  ·rw[F,f a p,AB e] at U;exact (K.loc a p U Y).ext J
 ·obtain⟨n,rfl,G⟩:=Uh u;have g:n≠c:=λe=>u (by rw[e];exact hz)
  refine⟨?_,W _ (by omega),Iff.rfl⟩;rw[F,f n G,AB g];exact Int.le_refl _
end
def Nd.size (N:Nd):Nat:=N.items.length+N.kids.length
def Qs (l:Int):Nat:=if l=0 then 3 else 6
def Qo (l:Int):Nat:=if l=0 then 6 else 12
def Nd.cut (N:Nd)(i j:Nat):Nd:=if N.lvl=0 then ⟨N.lvl,(N.items.drop i).take (j-i),N.kids⟩ else ⟨N.lvl,N.items,(N.kids.drop i).take (j-i)⟩
def Zw (l:Int)(Ns:List Nd):Nd:=⟨l,Ns.flatMap (·.items),Ns.flatMap (·.kids)⟩
def parts (N:Nd):Nat:=(N.size+Qo N.lvl-1) / Qo N.lvl
def pieces (N:Nd):List Nd:=(List.range (parts N)).map λi=>N.cut (N.size*i / parts N) (N.size*(i+1) / parts N)
def good1 (R:Int->Nd × Int)(l:Nat)(x:Zx):Prop:=Qm R l x.1 x.2/\(R x.1).1.enough/\1<=x.1/\x.1<2048
def Yt (R:Int->Nd × Int):Nat->Nd->List (List Qb)->Prop
 |0,N,M=>∃its:List Qb,N=⟨0,its,[]⟩/\M=its.map λx=>[x]
 |l+1,N,M=>∃G:List Zx,N=⟨((l+1:Nat):Int),[],G.map Qn⟩/\M=G.map (·.2)/\∀x∈G,good1 R l x
section
variable {R R':Int->Nd × Int}{l:Nat}{N:Nd}{M:List (List Qb)}
theorem O7:∀(its:List Qb),(its.map λx=>[x]).flatten=its
 |[]=>rfl
 |x::r=>by rw[BJ,List.flatten_cons,O7 r];rfl
theorem q4r (h:Yt R l N M):N.lvl=(l:Int):=by
 cases l with
 |zero=>obtain⟨its,rfl,_⟩:=h;rfl
 |succ l=>obtain⟨G,rfl,_⟩:=h;rfl
theorem q5e (h:Yt R l N M):N.size=M.length:=by
 cases l with
 |zero=>obtain⟨its,rfl,rfl⟩:=h;simp[Nd.size]
 |succ l=>obtain⟨G,rfl,rfl,_⟩:=h;simp[Nd.size]
theorem qaj (h:Yt R l N M)(i j:Nat):Yt R l (N.cut i j) ((M.drop i).take (j-i)):=by
 cases l with
 |zero=>
  obtain⟨its,rfl,rfl⟩:=h;refine⟨(its.drop i).take (j-i),?_,by rw[List.map_take,List.map_drop]⟩;unfold Nd.cut;rw[AA rfl]
 |succ l=>
  obtain⟨G,rfl,rfl,e⟩:=h;refine⟨(G.drop i).take (j-i),?_,by rw[List.map_take,List.map_drop],λx f=>e x (List.mem_of_mem_drop (List.mem_of_mem_take f))⟩;unfold Nd.cut;rw[AB (by show ¬((l+1:Nat):Int)=0;omega),List.map_take,List.map_drop]
theorem qx7 (R:Int->Nd × Int)(l:Nat):Yt R l ⟨(l:Int),[],[]⟩ []:=by
 cases l with
 |zero=>exact⟨[],rfl,rfl⟩
 |succ l=>exact⟨[],rfl,rfl,λx e=>(by cases e)⟩
theorem qx8 {f:Nd}{p:List (List Qb)}(h:Yt R l N M)(h2:Yt R l f p):Yt R l ⟨(l:Int),N.items++f.items,N.kids++f.kids⟩ (M++p):=by
 cases l with
 |zero=>
  obtain⟨its,rfl,rfl⟩:=h;obtain⟨e,rfl,rfl⟩:=h2;exact⟨its++e,rfl,by rw[List.map_append]⟩
 |succ l=>
  obtain⟨G,rfl,rfl,y⟩:=h;obtain⟨u,rfl,rfl,g⟩:=h2;refine⟨G++u,by rw[List.map_append];rfl,by rw[List.map_append],λx E=>?_⟩;rcases List.mem_append.1 E with h|h
  ·exact y x h
  ·exact g x h
theorem qg9 (z:Int)(A:Nd)(Ns:List Nd):Zw z (A::Ns)=⟨z,A.items++(Zw z Ns).items,A.kids++(Zw z Ns).kids⟩:=by
 unfold Zw;rw[BC,BC]
theorem q6z:∀(e:List (Nd × List (List Qb))),(∀x∈e,Yt R l x.1 x.2)->Yt R l (Zw (l:Int) (e.map (·.1))) (e.map (·.2)).flatten
 |[],_=>qx7 R l
 |x::r,h=>by
  rw[BJ,BJ,List.flatten_cons,qg9];exact qx8 (h x (AP ..)) (q6z r λy f=>h y (AO _ f))
theorem q2a {x:Zx}(h:good1 R l x)(e:Ext R R'):good1 R' l x:=by
 refine⟨q11 e h.1,?_,h.2.2⟩;rw[e x.1 (D7 h.1).2.2];exact h.2.1
theorem qpu (h:Yt R l N M)(e:Ext R R'):Yt R' l N M:=by
 cases l with
 |zero=>exact h
 |succ l=>
  obtain⟨G,h1,h2,f⟩:=h;exact⟨G,h1,h2,λx g=>q2a (f x g) e⟩
theorem q3o (h:Yt R l N M):N.enough↔Qs (l:Int)<=M.length:=by
 have h1:=q4r h;have h2:=q5e h;unfold Nd.enough Qs;unfold Nd.size at h2;rw[h1,h2]
theorem qk8 (h:Yt R l N M)(y:∀x∈M.flatten,Dat R x)(e:N.may=true):Fits R N:=by
 cases l with
 |zero=>
  obtain⟨its,rfl,rfl⟩:=h;rw[O7] at y;exact⟨e,y,λx g=>(by cases g)⟩
 |succ l=>
  obtain⟨G,rfl,rfl,I⟩:=h;refine⟨e,λx g=>(by cases g),λx g=>?_⟩;obtain⟨t,K,rfl⟩:=List.mem_map.1 g;obtain⟨h1,h2,_⟩:=I t K;obtain⟨W,T,U⟩:=D7 h1;refine⟨U,by show (R t.1).1.lvl+1=((l+1:Nat):Int);rw[T];omega,?_,h2⟩;show (R t.1).1.least=(Qu t.2 0).k;exact holds_least h1
where
 holds_least {R:Int->Nd × Int}:∀{l:Nat} {a:Int} {its:List Qb},Qm R l a its->(R a).1.least=(Qu its 0).k
  |0,a,its,h=>by
   rw[h.1];exact qag h.2
  |l+1,a,its,h=>by
   obtain⟨kids,parts,h1,h2,u,rfl,F⟩:=h;rw[h1,qcm _ h2];have J:0<kids.length:=List.length_pos_iff.2 h2;obtain⟨_,x,r,f,E⟩:=F 0 J;rw[E];match parts,u,f with
   |[],u,_=>rw[List.length_nil] at u;omega
   |p::ps,_,f=>
    have f:p=x::r:=f;rw[f,List.flatten_cons];rfl
theorem qak (h:Yt R l N M)(f:M≠[])(e:Ext R R'){a:Int}(g:R' a=(N,0)):Qm R' l a M.flatten:=by
 cases l with
 |zero=>
  obtain⟨its,rfl,rfl⟩:=h;rw[O7];exact⟨g,λe=>f (by rw[e];rfl)⟩
 |succ l=>
  obtain⟨G,rfl,rfl,p⟩:=h;exact qj7 (λx u=>(q2a (p x u) e).1) (λe=>f (by rw[e];rfl)) g
theorem qpv (h:Yt R l N M)(f:M≠[]):N.least=(Qu M.flatten 0).k:=by
 cases l with
 |zero=>
  obtain⟨its,rfl,rfl⟩:=h;rw[O7];exact qag λe=>f (by rw[e];rfl)
 |succ l=>
  obtain⟨G,rfl,rfl,g⟩:=h;have p:G≠[]:=λe=>f (by rw[e];rfl)
  rw[qcm _ (by simpa using p)];match G,p,g with
  |x::r,_,g=>
   obtain⟨y,s,e⟩:=q7e (g x (AP ..)).1;show (Qu x.2 0).k=(Qu (x.2++(r.map (·.2)).flatten) 0).k;rw[e];rfl
def Jb (x:Qb):Prop:=x.k.may=true/\x.v.length<=28
theorem qpw (h:Yt R l N M)(I:l<8)(h1:1<=M.length)(h2:0<l->2<=M.length)(g:M.length<=Qo (l:Int))(u:Qg M.flatten)(p:∀x∈M.flatten,Jb x):N.may=true:=by
 cases l with
 |zero=>
  obtain⟨its,rfl,rfl⟩:=h;rw[O7] at u p;rw[AF] at h1 g;exact qvd h1 g u λx f=>⟨(p x f).1,(p x f).2⟩
 |succ l=>
  obtain⟨G,rfl,rfl,F⟩:=h;rw[AF] at h2 g;have e:Qo ((l+1:Nat):Int)=12:=AB (by omega);rw[e] at g;exact qs2 (by omega) (h2 (by omega)) g u (λx f=>(p x f).1) (λx f=>(F x f).2.2) λx f e=>by
   obtain⟨y,r,E⟩:=q7e (F x f).1;rw[e] at E
   cases E
theorem qal (h:Yt R l N M)(hm:M.length=0):pieces N=[]:=by
 have e:=q5e h;have:parts N=0:=by
  unfold parts;rw[e,hm];have:0<Qo N.lvl:=by unfold Qo;split<;>omega
  exact Nat.div_eq_of_lt (by omega)
 unfold pieces;rw[this];rfl
theorem qcp (h:Yt R l N M)(h1:1<=M.length)(h2:M.length<=Qo (l:Int)):pieces N=[N.cut 0 M.length]:=by
 have f:=q5e h;have e:=q4r h;have g:0<Qo (l:Int):=by unfold Qo;split<;>omega
 have:parts N=1:=by
  unfold parts;rw[f,e];refine (Nat.div_eq_iff g).2 ?_;omega
 unfold pieces;rw[this,f];simp
theorem qcq (h:Yt R l N M)(h1:Qo (l:Int)<M.length)(h2:M.length<=2*Qo (l:Int)):pieces N=[N.cut 0 (M.length / 2),N.cut (M.length / 2) M.length]:=by
 have f:=q5e h;have e:=q4r h;have g:0<Qo (l:Int):=by unfold Qo;split<;>omega
 have:parts N=2:=by
  unfold parts;rw[f,e];refine (Nat.div_eq_iff g).2 ?_;omega
 unfold pieces;rw[this,f];simp[List.range,List.range.loop]
end
structure Qr where
 N:Nd
 addr:Int
 next:Nat
 held:Bool
 shared:Bool
def Vk:LI->Pl->Option Pl
 |[],P=>some P
 |a::l,P=>if P.C.Y0 a=0 then Vk l ⟨P.S,P.C.ref a,P.L⟩ else none
def Rh:LI->Pl->Option Pl
 |[],P=>some P
 |a::l,P=>if P.C.Jp a=0 then Rh l ⟨P.S,P.C.Qp a,P.L⟩ else none
def Pl.Qw (P:Pl)(s:Qr)(i j:Nat):Option Pl:=
 if s.shared=true then Vk (Zw s.N.lvl [s.N.cut 0 i,s.N.cut j s.N.size]).named P else if 0<s.N.lvl then some P else Rh (s.N.cut i j).named P
def Pl.spot (P:Pl)(D:DM)(a:Int)(held:Bool):Qr:=⟨P.Qd D a,a,0,held,held||decide (1<P.C.get a)⟩
def Pl.Wj (P:Pl)(D:DM)(above:Qr)(i:Nat):Bool:=decide (i<above.N.kids.length/\P.Qe D (Qi above.N.kids i).a=0/\(P.Qd D (Qi above.N.kids i).a).lvl=above.N.lvl-1)
def Pl.Jd (P:Pl)(D:DM)(above:Qr)(i:Nat):Qr:=P.spot D (Qi above.N.kids i).a above.shared
def Pl.near (P:Pl)(D:DM)(above:Qr)(i:Nat):Option Pl:=if P.Wj D above i=true then P.Qw (P.Jd D above i) 0 0 else none
structure Nl where
 N:Nd
 olds:List Qr
 i:Nat
 j:Nat
def Pl.have_ (P:Pl)(D:DM)(s:Qr)(b:Nd)(above:Qr):Option (Nl × Pl):=
 if Qs b.lvl<=b.size then some (⟨b,[s],above.next,above.next+1⟩,P)
 else if 0<above.next then (P.near D above (above.next-1)).map λe=>(⟨Zw (P.Jd D above (above.next-1)).N.lvl [(P.Jd D above (above.next-1)).N,b],[P.Jd D above (above.next-1),s],above.next-1,above.next+1⟩,e)
 else (P.near D above (above.next+1)).map λe=>(⟨Zw b.lvl [b,(P.Jd D above (above.next+1)).N],[s,P.Jd D above (above.next+1)],above.next,above.next+2⟩,e)
def Pl.leave (P:Pl)(s:Qr):Option Pl:=if s.held=true then some P else if P.C.Jp s.addr=0 then some ⟨P.S,P.C.Qp s.addr,P.L⟩ else none
def Ut:List Qr->Pl->List Nd->List Qk->Option (Pl × List Nd × List Qk)
 |[],P,rest,ks=>some (P,rest,ks)
 |s::olds,P,[],ks=>match P.leave s with
  |some P'=>Ut olds P' [] ks
  |none=>none
 |s::olds,P,b::rest,ks=>if s.shared=true\/P.C.fresh s.addr=false then match P.leave s with
   |some P'=>Ut olds P' (b::rest) ks
   |none=>none
  else if P.Gm s.addr b=0 then Ut olds (P.Kz s.addr b) rest (ks++[⟨b.least,s.addr⟩]) else none
def Jl:List Nd->Pl->List Qk->Option (Pl × Option (List Qk))
 |[],P,ks=>some (P,some ks)
 |b::rest,P,ks=>if P.Jm b=0 then Jl rest (P.Jg b) (ks++[⟨b.least,P.Yz b⟩]) else if P.Jm b=6 then some (P.Jg b,none) else none
def Pl.Yo (P:Pl)(x:Nl):Option (Pl × Option (List Qk)):=match Ut x.olds P (pieces x.N) [] with
 |some (P',rest,ks)=>Jl rest P' ks
 |none=>none
def Pl.top (P:Pl)(s:Qr)(b:Nd):Option (Pl × Option Int):=
 if b.kids.length=1 then (P.leave s).map λe=>(e,some (Qi b.kids 0).a)
 else match P.Yo ⟨b,[s],0,0⟩ with
  |some (e,some ks)=>if ks.length=0 then some (e,some 0) else if ks.length=1 then some (e,some (Qi ks 0).a) else
    if e.Jm ⟨b.lvl+1,[],ks⟩=0 then some (e.Jg ⟨b.lvl+1,[],ks⟩,some (e.Yz ⟨b.lvl+1,[],ks⟩)) else if e.Jm ⟨b.lvl+1,[],ks⟩=6 then some (e.Jg ⟨b.lvl+1,[],ks⟩,none) else none
  |some (e,none)=>some (e,none)
  |none=>none
def Xy (s:Qr)(i j:Nat)(e:Nd):Nd:=Zw s.N.lvl [s.N.cut 0 i,e,s.N.cut j s.N.size]
def Yy (D:DM):List Qr->Pl->Qr->Nat->Nat->Nd->Option (Pl × Option Int)
 |[],P,s,i,j,come=>match P.Qw s i j with
  |some P1=>P1.top s (Xy s i j come)
  |none=>none
 |above::way,P,s,i,j,come=>match P.Qw s i j with
  |some P1=>match P1.have_ D s (Xy s i j come) above with
   |some (x,P2)=>match P2.Yo x with
    |some (P3,some ks)=>Yy D way P3 above x.i x.j ⟨x.N.lvl+1,[],ks⟩
    |some (P3,none)=>some (P3,none)
    |none=>none
   |none=>none
  |none=>none
def Pl.Gp (P:Pl)(D:DM)(k:Kd):Nat->Qr->List Qr->Option (List Qr × Qr)
 |0,s,up=>if s.N.lvl<=0 then some (up,s) else none
 |f+1,s,up=>if s.N.lvl<=0 then some (up,s) else if P.Wj D s (s.N.Zo k)=true then P.Gp D k f (P.Jd D s (s.N.Zo k)) ({ s with next:=s.N.Zo k }::up) else none
def q44:Qr:=⟨Zz,0,0,true,true⟩
def Pl.way (P:Pl)(D:DM)(root:Int)(k:Kd):Option (List Qr × Qr):=if root=0 then some ([],q44) else if P.Qe D root=0 then P.Gp D k 8 (P.spot D root false) [] else none
def Pl.Ih (P:Pl)(D:DM)(root:Int)(x:Qb):Option (Pl × Option Int):=match P.way D root x.k with
 |some (up,s)=>Yy D up P s (s.N.Zo x.k) (s.N.Zo x.k+if Uf s.N.keys x.k (s.N.Zo x.k)=true then 1 else 0) ⟨0,[x],[]⟩
 |none=>none
def Pl.Fz (P:Pl)(D:DM)(root:Int)(k:Kd):Option (Pl × Option Int):=match P.way D root k with
 |some (up,s)=>Yy D up P s (s.N.Zo k) (s.N.Zo k+1) ⟨0,[],[]⟩
 |none=>none
theorem RB.stored {w:WD}{b:Nat}{r:LV}(H:RB w b r)(vs:LV)(h:r.length=vs.length):RB (w.setCells b 0 vs) b vs:=by
 obtain⟨t,H⟩:=H;have:=q0z b t vs 0 w r H (by omega);rw[q3w r vs h] at this;exact⟨t,this⟩
theorem RB.cell {w:WD}{b:Nat}{r:LV}(H:RB w b r)(j:Nat){v:Value}(h:r[j]?=some v):w.cell? ⟨b,j,none⟩=some v:=by
 have:=H.range j v h;rwa [AT] at this
theorem RB.turned {w w':WD}{b:Nat}{r:LV}(H:RB w b r){S:NP}(T:Turn S w w')(hb:¬S b):RB w' b r:=H.keep (T.block b H.lt hb)
def Pq (Q:WD->Prop)(A:OA)(n c:Nat)(xs:List Qb):Prop:=∃e,(∀w,Q w->Jy w 4 A n c e)/\e.length=xs.length/\∀(j:Nat) r x,e[j]?=some r->xs[j]?=some x->∃V p q,r=Vg x.k V p q/\∀w,Q w->Sl w V p q x.v
def Ro (Q:WD->Prop)(B:OA)(m d:Nat)(ks:List Qk):Prop:=∀w,Q w->Zn w B m d ks
structure Je (Q:WD->Prop)(N:Nd)(A:OA)(n c:Nat)(B:OA)(m d:Nat):Prop where
 its:Pq Q A n c N.items
 Bg:Ro Q B m d N.kids
 ln:N.items.length=n
 lm:N.kids.length=m
 hn:n<=60/\n<=c/\c<=maxLen
 hm:m<=60/\m<=d/\d<=maxLen
section
variable {Q Q':WD->Prop}{w w':WD}{A B:OA}{n c m d:Nat}{N:Nd}
theorem Pq.mono {xs:List Qb}(h:Pq Q A n c xs)(hq:∀w,Q' w->Q w):Pq Q' A n c xs:=by
 obtain⟨g,h1,h2,u⟩:=h;refine⟨g,λw f=>h1 w (hq w f),h2,λj r x y F=>?_⟩;obtain⟨V,p,q,e,E⟩:=u j r x y F;exact⟨V,p,q,e,λw f=>E w (hq w f)⟩
theorem Je.mono (h:Je Q N A n c B m d)(hq:∀w,Q' w->Q w):Je Q' N A n c B m d:=⟨h.its.mono hq,λw e=>h.Bg w (hq w e),h.ln,h.lm,h.hn,h.hm⟩
theorem Pq.Y6 {xs:List Qb}(h:Pq Q A n c xs)(hw:Q w):Ji w A n c xs:=by
 obtain⟨f,h1,h2,g⟩:=h;refine⟨f,h1 w hw,h2,λj r x u E=>?_⟩;obtain⟨V,p,q,e,y⟩:=g j r x u E;exact⟨V,p,q,e,y w hw⟩
theorem qpx (Q:WD->Prop):Pq Q none 0 0 []:=⟨[],λw _=>qao w 4,rfl,λj r x e=>by simp at e⟩
theorem qpy (Q:WD->Prop)(l:Int):Je Q ⟨l,[],[]⟩ none 0 0 none 0 0:=⟨qpx Q,λw _=>qao w 4,rfl,rfl,⟨by omega,by omega,by unfold maxLen;omega⟩,⟨by omega,by omega,by unfold maxLen;omega⟩⟩
def Fv (A:OA)(c i:Nat):OA:=if c=i then A else A.map (·.add (i*4))
theorem Pq.sub {xs:List Qb}(h:Pq Q A n c xs){i j:Nat}(hi:i<=j)(hj:j<=n)(_hc:n<=c):Pq Q (Fv A c i) (j-i) (c-i) ((xs.drop i).take (j-i)):=by
 obtain⟨g,h1,h2,p⟩:=h;refine⟨(g.drop i).take (j-i),λw y=>((h1 w y).drop (by omega)).take (by omega),by rw[AR,AR,AS,AS,h2],λk r x e f=>?_⟩;rw[List.getElem?_take] at e f;split at e
 ·rename_i u;rw[AA u] at f;rw[List.getElem?_drop] at e f;exact p _ r x e f
 ·cases e
theorem Ro.sub {ks:List Qk}(h:Ro Q B m d ks){i j:Nat}(hi:i<=j)(hj:j<=m):Ro Q (Fv B d i) (j-i) (d-i) ((ks.drop i).take (j-i)):=λw e=>(h w e).sub hi hj
def Xx (l:Int)(A:OA)(n c:Nat)(B:OA)(m d:Nat):Value:=.agg #[.int .i64 l,.slice A n c,.slice B m d]
theorem qtx (h:Je Q N A n c B m d)(h0:N.lvl=0){i j:Nat}(hi:i<=j)(f:j<=n):Je Q (N.cut i j) (Fv A c i) (j-i) (c-i) B m d:=by
 have e:N.cut i j=⟨N.lvl,(N.items.drop i).take (j-i),N.kids⟩:=AA h0;rw[e];have h1:=h.hn;have h2:=h.ln;refine⟨h.its.sub hi f h1.2.1,h.Bg,?_,h.lm,⟨by omega,by omega,by omega⟩,h.hm⟩;show ((N.items.drop i).take (j-i)).length=_;rw[AR,AS];omega
theorem qty (h:Je Q N A n c B m d)(h0:N.lvl≠0){i j:Nat}(hi:i<=j)(f:j<=m):Je Q (N.cut i j) A n c (Fv B d i) (j-i) (d-i):=by
 have e:N.cut i j=⟨N.lvl,N.items,(N.kids.drop i).take (j-i)⟩:=AB h0;rw[e];have h1:=h.hm;have h2:=h.lm;refine⟨h.its,h.Bg.sub hi f,h.ln,?_,h.hn,⟨by omega,by omega,by omega⟩⟩;show ((N.kids.drop i).take (j-i)).length=_;rw[AR,AS];omega
theorem Je.size (h:Je Q N A n c B m d):N.size=n+m:=by unfold Nd.size;rw[h.ln,h.lm]
end
theorem q21 (l:Int)(A:OA)(n c:Nat)(B:OA)(m d:Nat)(hn:n<=1000)(hm:m<=1000)(w:WD) :
  Calls prog 144 #[Xx l A n c B m d] w λe w'=>e=.returned (.int .i64 ((n+m:Nat):Int))/\Below w.1.size w w':=by
 have f:NB (w.alloc (.cells #[.int .i64 l,.slice A n c,.slice B m d] 193)) w.1.size l A n c B m d:=NB.new w _ _ _ _ _ _ _ _;have g:Below w.1.size w (w.alloc (.cells #[.int .i64 l,.slice A n c,.slice B m d] 193)):=Ql;have c1:=f.c1;have c2:=f.c2;unfold Xx;go_enter func144,ntmps144
 go_wp2;go_ret;exact⟨rfl,g⟩
theorem q35 (l:Int)(A:OA)(n c:Nat)(B:OA)(m d:Nat)(w:WD) :
  Calls prog 167 #[Xx l A n c B m d] w λe w'=>e=.returned (.tuple #[.int .i64 (Qs l:Int),.int .i64 (Qo l:Int)])/\Below w.1.size w w':=by
 have g:NB (w.alloc (.cells #[.int .i64 l,.slice A n c,.slice B m d] 193)) w.1.size l A n c B m d:=NB.new w _ _ _ _ _ _ _ _;have f:Below w.1.size w (w.alloc (.cells #[.int .i64 l,.slice A n c,.slice B m d] 193)):=Ql;have c0:=g.c0;unfold Xx Qs Qo;by_cases h:l=0
 ·have p:(l==0)=true:=by simp[h]
  rw[AA h,AA h];clear h;go_enter func167,ntmps167
  go_wp2;go_ret2;exact⟨rfl,f⟩
 ·have p:(l==0)=false:=by simp[h]
  rw[AB h,AB h];clear h;go_enter func167,ntmps167
  go_wp2;go_ret2;exact⟨rfl,f⟩
theorem qpz {N:Nd}(h:N.may=true):N.named.length<=12:=by
 unfold Nd.named;rw[AD,AF];have p:=List.length_filterMap_le Ky N.items;by_cases g:N.lvl=0
 ·obtain⟨f,_,_,u⟩:=q1c h g;have e:N.kids=[]:=congrArg Nd.kids f;rw[e,List.length_nil];omega
 ·obtain⟨f,_,_,_,y,_⟩:=q0o h g;have e:N.items=[]:=congrArg Nd.items f;rw[e] at p ⊢;rw[List.filterMap_nil,List.length_nil];omega
section
variable {D:DM}{S0:Sp}{C0:Ct}{O H:LI}{P:Pl}
theorem Keep.nonneg (K:Keep D S0 C0 O H P)(x:Int):0<=P.C.get x:=(Ct.Zv K.c x).1
theorem Keep.low (K:Keep D S0 C0 O H P)(hH:H.length<=30000){c:Nat}(h0:P.C.get (c:Int)≠0):P.C.get (c:Int)<=60000:=by
 obtain⟨c0,p⟩:=K.first h0
 have h:=K.Gi.eq c c0 p;have h1:H.count (c:Int)<=H.length:=List.count_le_length;have h2:=qnn (K:=λb=>(P.hide D O (b:Int)).1.named) (most:=P.C.n) (k:=12) (out:=P.cnt) (λb f=>by
  show ((P.hide D O (b:Int)).1.named).length<=12;by_cases g:P.C.get (b:Int)=0
  ·by_cases e:(b:Int)∈O
   ·rw[q1z e];exact AW _
   ·rw[O8 e,q2q g];exact AW _
  ·by_cases e:(b:Int)∈O
   ·rw[q1z e];exact AW _
   ·rcases K.loc b f g e with L|L
    ·rw[q7g L];exact AW _
    ·exact AZ (qpz L.may) (by omega)) c
 have u:=K.c.1.2;have f:=Ct.Zv K.c (c:Int);have y:P.cnt c=(P.C.get (c:Int)).toNat:=rfl;omega
theorem qga:∀(f:LI) {H:LI} {P:Pl},Keep D S0 C0 O H P->(∀x∈f,(P.hide D O x).2=0)->H.length+f.length<=30000->
  ∃e,Vk f P=some e/\Keep D S0 C0 O (f++H) e/\∀l,Move l D O O P e 0
 |[],H,P,K,_,_=>⟨P,rfl,K,λl=>Move.refl l D O P⟩
 |a::r,H,P,K,hx,hl=>by
  rw[AX] at hl;obtain⟨I,n,rfl,hn,h0⟩:=q2r (hx a (AP ..));have p:=K.low (by omega) h0;obtain⟨F,y,u⟩:=K.ref h0 (by omega) I;obtain⟨e,G,E,J⟩:=qga r y (λx g=>by
   have h1:=hx x (AO _ g);rw[(u 0).ext x h1];exact h1) (by rw[AX];omega)
  refine⟨e,?_,E.perm (λb _ _=>?_),λl=>(u l).trans K.nonneg (J l)⟩
  ·show (if P.C.Y0 (n:Int)=0 then _ else none)=_;rw[AA F];exact G
  ·simp only[A_,List.count_cons,List.cons_append];omega
theorem q97 {R:Int->Nd × Int}{l:Nat}{N:Nd}{M:List (List Qb)}(h:Yt R l N M)(g:∀x∈M.flatten,Dat R x):(∀x∈N.named,(R x).2=0)/\N.named.length<=M.length:=by
 cases l with
 |zero=>
  obtain⟨its,rfl,rfl⟩:=h;rw[O7] at g;have e:(⟨0,its,[]⟩:Nd).named=its.filterMap Ky:=by unfold Nd.named;simp
  rw[e,AF];refine⟨λc p=>?_,List.length_filterMap_le _ _⟩;obtain⟨x,f,e⟩:=List.mem_filterMap.1 p;rw[g x f c e]
 |succ l=>
  obtain⟨G,rfl,rfl,u⟩:=h;have e:(⟨((l+1:Nat):Int),[],G.map Qn⟩:Nd).named=(G.map Qn).map (·.a):=by unfold Nd.named;simp
  refine⟨λx f=>?_,by rw[e];simp⟩;rw[e] at f;obtain⟨y,F,rfl⟩:=List.mem_map.1 f;obtain⟨t,E,rfl⟩:=List.mem_map.1 F;exact (D7 (u t E).1).2.2
theorem q5f (z:Int)(Ns:List Nd)(a:Int):(Zw z Ns).named.count a=(Ns.map λN=>N.named.count a).sum:=by
 induction Ns with
 |nil=>rfl
 |cons N r ih=>
  rw[qg9,BJ,List.sum_cons,<-ih];unfold Nd.named Zw;simp only[List.map_append,List.filterMap_append,A_];omega
def Zm (s:Qr)(i j:Nat):Nd:=Zw s.N.lvl [s.N.cut 0 i,s.N.cut j s.N.size]
structure Outside (R:Int->Nd × Int)(l:Nat)(N:Nd)(i j:Nat)(ML MR:List (List Qb)):Prop where
 left:Yt R l (N.cut 0 i) ML
 right:Yt R l (N.cut j N.size) MR
 lvl:N.lvl=(l:Int)
 li:ML.length=i
 size:N.size=j+MR.length
 ij:i<=j
theorem qam {R:Int->Nd × Int}{l:Nat}{N:Nd}{M:List (List Qb)}(h:Yt R l N M){i j:Nat}(hi:i<=j)(g:j<=M.length):Outside R l N i j (M.take i) (M.drop j):=by
 have e:=q5e h;refine⟨?_,?_,q4r h,by rw[AR];omega,by rw[e,AS];omega,hi⟩
 ·have:=qaj h 0 i;simpa using this
 ·have:=qaj h j N.size;rw[e] at this ⊢;have f:(M.drop j).take (M.length-j)=M.drop j:=AN (by rw[AS];omega);rw[f] at this;exact this
theorem qk9 {R:Int->Nd × Int}{l:Nat}{s:Qr}{i j:Nat}{f g:List (List Qb)}(h:Outside R l s.N i j f g):Yt R l (Zm s i j) (f++g):=by
 have h2:=q6z (R:=R) (l:=l) [(s.N.cut 0 i,f),(s.N.cut j s.N.size,g)] (λx e=>by
  rcases List.mem_cons.1 e with rfl|e
  ·exact h.left
  ·rcases List.mem_cons.1 e with rfl|e
   ·exact h.right
   ·cases e)
 unfold Zm;rw[h.lvl];simpa using h2
theorem qq0 {R:Int->Nd × Int}{l:Nat}{s:Qr}{g p u:List (List Qb)}{e:Nd}{i j:Nat}(h:Outside R l s.N i j g p)(y:Yt R l e u):Yt R l (Xy s i j e) (g++(u++p)):=by
 have h2:=q6z (R:=R) (l:=l) [(s.N.cut 0 i,g),(e,u),(s.N.cut j s.N.size,p)] (λx f=>by
  rcases List.mem_cons.1 f with rfl|f
  ·exact h.left
  ·rcases List.mem_cons.1 f with rfl|f
   ·exact y
   ·rcases List.mem_cons.1 f with rfl|f
    ·exact h.right
    ·cases f)
 unfold Xy;rw[h.lvl];simpa using h2
theorem q8m (K:Keep D S0 C0 O H P){l:Nat}{s:Qr}{u y:List (List Qb)}{i j:Nat}(F:Outside (P.hide D O) l s.N i j u y)(f:∀x∈(u++y).flatten,Dat (P.hide D O) x)(g:s.shared=false->l=0->(s.N.cut i j).named=[])(U:u.length+y.length<=100)(T:H.length<=20000) :
  ∃E,P.Qw s i j=some E/\Keep D S0 C0 O ((if s.shared=true then (Zm s i j).named else [])++H) E/\∀l,Move l D O O P E 0:=by
 unfold Pl.Qw;by_cases p:s.shared=true
 ·rw[AA p,AA p];obtain⟨I,J⟩:=q97 (qk9 F) f;refine qga _ K I ?_;rw[AD] at J;show H.length+(Zm s i j).named.length<=30000;omega
 ·rw[AB p,AB p];have e:=F.lvl;by_cases G:0<s.N.lvl
  ·rw[AA G];exact⟨P,rfl,K,λl=>Move.refl l D O P⟩
  ·rw[AB G,g (by cases e:s.shared with|true=>exact absurd e p|false=>rfl) (by omega)];exact⟨P,rfl,K,λl=>Move.refl l D O P⟩
def own (s:Qr):LI:=if s.held=true then [] else [s.addr]
structure Zj (P:Pl)(D:DM)(O:LI)(l:Int)(s:Qr):Prop where
 shared:s.shared=true->s.held=false->2<=P.C.get s.addr/\s.addr∉O/\(P.Qd D s.addr).lvl=l
 mine:s.shared=false->s.held=false/\s.addr∈O/\(P.Qd D s.addr).lvl=l/\P.Qe D s.addr=0
theorem Zj.above {l l':Int}{s:Qr}(h:Zj P D O l s){O':LI}{P':Pl}(K:Keep D S0 C0 O H P)(ha:Ar l' D O O' P P')(hl:l'<l):Zj P' D O' l s:=by
 refine⟨λh1 h2=>?_,λh1=>?_⟩
 ·obtain⟨g,f,e⟩:=h.shared h1 h2;obtain⟨j1,j2,j3⟩:=ha s.addr (by omega) (by rw[e];exact hl);exact⟨by omega,λh=>f (j3.2 h),by rw[show P'.Qd D s.addr=P.Qd D s.addr from congrArg Prod.fst j2];exact e⟩
 ·obtain⟨g,f,e,p⟩:=h.mine h1;have u:=(K.opened _ f).2;obtain⟨j1,j2,j3⟩:=ha s.addr (by omega) (by rw[e];exact hl);exact⟨g,j3.1 f,by rw[show P'.Qd D s.addr=P.Qd D s.addr from congrArg Prod.fst j2];exact e,(congrArg Prod.snd j2).trans p⟩
def Dn (O:LI)(s:Qr):LI:=if s.shared=true then O else less1 O s.addr
theorem qcr (K:Keep D S0 C0 O H P){l:Int}{s:Qr}(W:Zj P D O l s){X:LI}(g:∀a:Nat,0<a->a<P.C.n->H.count (a:Int)=(own s++X).count (a:Int)) :
  ∃u,P.leave s=some u/\Keep D S0 C0 (Dn O s) X u/\Move l D O (Dn O s) P u 0/\∀x,x≠s.addr->u.C.get x=P.C.get x/\u.store D x=P.store D x:=by
 unfold Pl.leave;by_cases p:s.held=true
 ·have f:s.shared=true:=by
   cases e:s.shared with
   |true=>rfl
   |false=>have:=(W.mine e).1;rw[this] at p;cases p
  rw[AA p];have e:Dn O s=O:=AA f;rw[e];have G:own s=[]:=AA p;rw[G] at g;exact⟨P,rfl,K.perm λa h1 h2=>(g a h1 h2).symm,Move.refl l D O P,λ_ _=>⟨rfl,rfl⟩⟩
 ·have T:s.held=false:=by cases e:s.held with|true=>exact absurd e p|false=>rfl
  rw[AB p];have G:own s=[s.addr]:=AB p;rw[G] at g;have other:∀c:Nat,∀x:Int,P.C.get (c:Int)≠0->x≠(c:Int)->(P.C.Qp (c:Int)).get x=P.C.get x/\Pl.store ⟨P.S,P.C.Qp (c:Int),P.L⟩ D x=P.store D x:=λc x h0 U=>by
   rw[(q90 h0).2];exact q9t U
  cases f:s.shared with
  |true=>
   obtain⟨k1,y,Z⟩:=W.shared f T;obtain⟨c,I,J⟩:=Uh (C:=P.C) (a:=s.addr) (by omega);rw[I] at k1 Z g ⊢;obtain⟨F,E,m1⟩:=K.Qp (H0:=X) k1 g;have e:Dn O s=O:=AA f;rw[AA F,e];exact⟨_,rfl,E,m1 l (by omega),λx Y=>other c x (by omega) Y⟩
  |false=>
   obtain⟨_,y,Z,_⟩:=W.mine f;have hg:=(K.opened _ y).2;obtain⟨c,I,J⟩:=Uh (C:=P.C) (a:=s.addr) (by omega);have e:Dn O s=less1 O s.addr:=AB (by rw[f];decide);rw[e];rw[I] at y Z g hg ⊢;obtain⟨F,E,m1⟩:=K.drop (H0:=X) y g;rw[AA F];exact⟨_,rfl,E,m1 l (by omega),λx Y=>other c x (by omega) Y⟩
end
