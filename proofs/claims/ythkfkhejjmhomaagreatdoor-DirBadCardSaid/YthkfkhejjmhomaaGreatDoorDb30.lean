/- A pool some of whose nodes are open: another content of an open node, and a new node -/
import Derived.Test.YthkfkhejjmhomaaGreatDoorDb29
namespace Go.Proofs.YthkfkhejjmhomaaGreatDoor
open Go Go.RowKit Go.Proofs
set_option maxHeartbeats 4000000
set_option maxRecDepth 100000
structure Fits (R:Int->Nd × Int)(N:Nd):Prop where
 may:N.may=true
 data:∀x∈N.items,Dat R x
 kids:∀x∈N.kids,(R x.a).2=0/\(R x.a).1.lvl+1=N.lvl/\(R x.a).1.least=x.k/\(R x.a).1.enough
theorem Fits.ext {R R':Int->Nd × Int}{N:Nd}(h:Fits R N)(e:Ext R R'):Fits R' N:=
 ⟨h.may,λx f=>(h.data x f).ext e,λx f=>by
  obtain⟨p,u,y,E⟩:=h.kids x f;rw[e x.a p];exact⟨p,u,y,E⟩⟩
theorem Fits.told {R:Int->Nd × Int}{N:Nd}(h:Fits R N){c:Int}(f:c∈N.named):(R c).2=0:=by
 unfold Nd.named at f;rcases List.mem_append.1 f with f|f
 ·obtain⟨x,p,rfl⟩:=List.mem_map.1 f;exact (h.kids x p).1
 ·obtain⟨x,p,e⟩:=List.mem_filterMap.1 f;rw[h.data x p c e]
theorem Fits.loc {R R':Int->Nd × Int}{N:Nd}{a:Int}(h:Fits R N)(e:Ext R R')(ha:R' a=(N,0)):Loc R' a:=by
 have h2:=h.ext e;exact .inr ⟨by rw[ha],by rw[ha];exact h.may,by rw[ha];exact h2.data,by rw[ha];exact h2.kids⟩
section
variable {D:DM}{S0:Sp}{C0:Ct}{O H:List Int}{P:Pl}
theorem Keep.Es (_K:Keep D S0 C0 O H P){N:Nd}(hN:Fits (P.hide D O) N){x:Int}(hx:(P.hide D O x).2≠0):x∉N.named:=λh=>hx (hN.told h)
theorem Keep.set (K:Keep D S0 C0 O H P){c:Nat}(ho:(c:Int)∈O)(hnE:P.Qi D (c:Int)=0)(hfr:P.C.fresh (c:Int)=true){N:Nd}(hN:Fits (P.hide D O) N){H0:List Int}(hH:∀a:Nat,0<a->a<P.C.n->H.count (a:Int)=N.named.count (a:Int)+H0.count (a:Int)) :
  P.Gu (c:Int) N=0/\Keep D S0 C0 (less1 O (c:Int)) H0 (P.Vp (c:Int) N)/\(P.Vp (c:Int) N).hide D (less1 O (c:Int)) (c:Int)=(N,0)/\(∀l,(P.Qd D (c:Int)).lvl<=l->Move l D O (less1 O (c:Int)) P (P.Vp (c:Int) N) 0)/\(P.Vp (c:Int) N).C=P.C/\∀x,x≠(c:Int)->(P.Vp (c:Int) N).store D x=P.store D x:=by
 obtain⟨a7,h1⟩:=K.opened _ ho;have h0:P.C.get (c:Int)≠0:=by omega
 obtain⟨c0,cn⟩:=K.first h0
 obtain⟨b,X⟩:=K.laid c hfr;have Z:P.live c=some b:=by unfold Pl.live;rw[if_neg h0];exact X
 have hE:=qdj D h0 Z;have y:isNode (P.L ((c:Int)).toNat)=true:=by
  rw[Int.toNat_natCast,X]
  cases b with
  |node M=>rfl
  |bytes k l=>
   have:bkE (Bk.bytes k l)=1:=rfl;rw[this] at hE;omega
 have hs:P.Ea (c:Int) N=true:=by
  unfold Pl.Ea;rw[hN.may,hfr,y];rfl
 have e1:P.Gu (c:Int) N=0:=if_pos hs;have e2:P.Vp (c:Int) N=⟨P.S,P.C,upd P.L c (some (.node N))⟩:=by
  unfold Pl.Vp;rw[if_pos hs,Int.toNat_natCast]
 rw[e2];refine⟨e1,?_⟩;have E:∀x,x≠(c:Int)->Pl.store ⟨P.S,P.C,upd P.L c (some (.node N))⟩ D x=P.store D x:=λx f=>by
  by_cases Y:P.C.get x=0
  ·rw[q11 Y];exact q11 (P:=⟨P.S,P.C,upd P.L c (some (.node N))⟩) Y
  ·obtain⟨n,rfl,hn⟩:=Gq Y;unfold Pl.store Pl.Qd Pl.Qi Pl.live;show ((if P.C.get (n:Int)=0 then Zp else match (if P.C.get (((n:Int).toNat:Nat):Int)=0 then none else upd P.L c (some (.node N)) (n:Int).toNat) with|some (.node N)=>N|some (.bytes _ _)=>Zp|none=>_),(if P.C.get (n:Int)=0 then 1 else match (if P.C.get (((n:Int).toNat:Nat):Int)=0 then none else upd P.L c (some (.node N)) (n:Int).toNat) with|some (.node _)=>(0:Int)|some (.bytes _ _)=>1|none=>_))=_;rw[Int.toNat_natCast,Au _ _ (λe=>f (by rw[e]))];rfl
 have G:Pl.store ⟨P.S,P.C,upd P.L c (some (.node N))⟩ D (c:Int)=(N,0):=by
  unfold Pl.store Pl.Qd Pl.Qi Pl.live;show ((if P.C.get (c:Int)=0 then Zp else match (if P.C.get (((c:Int).toNat:Nat):Int)=0 then none else upd P.L c (some (.node N)) (c:Int).toNat) with|some (.node N)=>N|some (.bytes _ _)=>Zp|none=>_),(if P.C.get (c:Int)=0 then 1 else match (if P.C.get (((c:Int).toNat:Nat):Int)=0 then none else upd P.L c (some (.node N)) (c:Int).toNat) with|some (.node _)=>(0:Int)|some (.bytes _ _)=>1|none=>_))=_;rw[Int.toNat_natCast,Bd,if_neg h0,if_neg h0,if_neg h0]
 have a1:(c:Int)∉less1 O (c:Int):=λh=>(q0n.1 h).2 rfl
 have u:Pl.hide ⟨P.S,P.C,upd P.L c (some (.node N))⟩ D (less1 O (c:Int)) (c:Int)=(N,0):=by
  rw[Td a1,Ii (P:=⟨P.S,P.C,upd P.L c (some (.node N))⟩) (congrArg Prod.snd G)];exact G
 have hh:∀x,x≠(c:Int)->Pl.hide ⟨P.S,P.C,upd P.L c (some (.node N))⟩ D (less1 O (c:Int)) x=P.hide D O x:=λx f=>by
  unfold Pl.hide;rw[q52 (P:=P) (P':=⟨P.S,P.C,upd P.L c (some (.node N))⟩) (E x f) Iff.rfl];by_cases I:x∈O
  ·rw[if_pos I,if_pos (q0n.2 ⟨I,f⟩)]
  ·rw[if_neg I,if_neg (λh=>I (q0n.1 h).1)]
 have F:Ext (P.hide D O) (Pl.hide ⟨P.S,P.C,upd P.L c (some (.node N))⟩ D (less1 O (c:Int))):=λx f=>hh x λe=>by
  rw[e,Oy ho] at f
  cases f
 have a2:(c:Int)∉N.named:=K.Es hN (by rw[Oy ho];decide);refine⟨⟨⟨⟨K.Zx.ok.c,K.Zx.ok.res,K.Zx.ok.may,K.Zx.ok.sec,K.Zx.ok.gen,λa x f=>?_⟩,?_,λa x f=>?_⟩,λa T=>?_,?_,λx f=>?_,λa T U W=>?_⟩,u,λl hl=>⟨F,λx f a6=>?_,Nat.le_refl _,rfl⟩,rfl,λx f=>E x f⟩
 ·have f:upd P.L c (some (.node N)) a=some x:=f;by_cases e:a=c
  ·subst e;rw[Bd] at f;obtain rfl:=Option.some.inj f;exact qff hN.may
  ·rw[Au _ _ e] at f;exact K.Zx.ok.fine a x f
 ·have:=K.Zx.sound;exact⟨this.free,this.n,this.Af,⟨this.holds.may,this.holds.gen,this.holds.sec,this.holds.c,this.holds.res,this.holds.n,this.holds.slot,this.holds.other,this.holds.area⟩⟩
 ·have f:upd P.L c (some (.node N)) a=some x:=f;by_cases e:a=c
  ·subst e;rw[Bd] at f;obtain rfl:=Option.some.inj f;exact⟨trivial,q4c hN.may⟩
  ·rw[Au _ _ e] at f;exact K.Zx.kinds a x f
 ·show ∃b,upd P.L c (some (.node N)) a=some b;by_cases e:a=c
  ·subst e;exact⟨_,Bd _ _ _⟩
  ·rw[Au _ _ e];exact K.laid a T
 ·have J:=K.Ad.set (c:=c) (ks:=N.named) (H0:=H0) (K':=λb=>(Pl.hide ⟨P.S,P.C,upd P.L c (some (.node N))⟩ D (less1 O (c:Int)) (b:Int)).1.named) cn (by unfold Pl.cnt;omega) hH (by show (Pl.hide ⟨P.S,P.C,upd P.L c (some (.node N))⟩ D (less1 O (c:Int)) (c:Int)).1.named=_;rw[u]) (λb X p=>by
   show (Pl.hide ⟨P.S,P.C,upd P.L c (some (.node N))⟩ D (less1 O (c:Int)) (b:Int)).1.named=_;rw[hh _ (by omega)])
  have J:Jz P.C.n P.cnt (λb=>(Pl.hide ⟨P.S,P.C,upd P.L c (some (.node N))⟩ D (less1 O (c:Int)) (b:Int)).1.named) ((P.hide D O (c:Int)).1.named++H0):=J;rw[Oy ho] at J;exact J
 ·obtain⟨f,p⟩:=q0n.1 f;obtain⟨k1,k2⟩:=K.opened x f;obtain⟨n,rfl,hn⟩:=Gq (C:=P.C) (a:=x) (by omega);obtain⟨n0,_⟩:=K.first (c:=n) (by omega)
  refine⟨?_,k2⟩;have h3:=hH n n0 hn;have h4:=List.count_pos_iff.2 k1;have h5:N.named.count (n:Int)=0:=List.count_eq_zero.2 (K.Es hN (by rw[Oy f];decide));exact List.count_pos_iff.1 (by omega)
 ·by_cases e:a=c
  ·subst e;exact hN.loc F u
  ·exact (K.loc a T U λh=>W (q0n.2 ⟨h,by omega⟩)).ext F
 ·have p:x≠(c:Int):=λe=>by subst e;omega
  exact⟨Int.le_refl _,E x p,⟨λh=>q0n.2 ⟨h,p⟩,λh=>(q0n.1 h).1⟩⟩
theorem Keep.put (K:Keep D S0 C0 O H P){c:Nat}(hp:P.C.pick=some c){N:Nd}(hN:Fits (P.hide D O) N){H0:List Int}(hH:∀a:Nat,0<a->a<P.C.n->H.count (a:Int)=N.named.count (a:Int)+H0.count (a:Int)) :
  P.Jk N=0/\P.Yz N=(c:Int)/\Keep D S0 C0 O ((c:Int)::H0) (P.Jj N)/\(P.Jj N).hide D O (c:Int)=(N,0)/\(∀l,Move l D O O P (P.Jj N) 1)/\1<=c/\c<2048:=by
 obtain⟨p1,p2,p3,p4,_⟩:=Ct.Yd hp;obtain⟨v1,v2,v3⟩:=qdi hp hN.may;have hz:P.C.get (c:Int)=0:=by
  unfold Ct.get;rw[if_pos (by omega),Int.toNat_natCast];exact p3
 have a2:P.C.first=2+2*Qh P.C.n:=rfl
 have I:(c:Int)∉O:=λh=>by
  have:=(K.opened _ h).2;omega
 have f:=λb (F:b<P.C.n)=>qhf hp (.node N) b F
 have T:=qhg hp (.node N);have hn:(P.Jj N).C.n=P.C.n:=by rw[v3];exact qtc _
 obtain⟨s1,_,s3⟩:=K.Zx.put hN.may (by have:=Ct.Bl hp;omega);have E:(P.Jj N).hide D O (c:Int)=(N,0):=by
  have e:=qpd D hp hN.may;rw[Td I,Ii (congrArg Prod.snd e)];exact e
 have W:∀x,x≠(c:Int)->(P.Jj N).store D x=P.store D x:=λx y=>by
  by_cases F:0<=x/\x<(P.C.n:Int)
  ·obtain⟨n,rfl⟩:∃n:Nat,x=(n:Int):=⟨x.toNat,by omega⟩;have f:=f n (by omega);have T:=T n;rw[if_neg (by omega)] at f T;rw[v3];unfold Pl.store Pl.Qd Pl.Qi Pl.live;rw[Int.toNat_natCast,f,T]
  ·have h1:P.C.get x=0:=by unfold Ct.get;rw[if_neg F]
   have h2:(P.Jj N).C.get x=0:=by unfold Ct.get;rw[hn,if_neg F]
   rw[q11 h1,q11 h2]
 have hh:∀x,x≠(c:Int)->(P.Jj N).hide D O x=P.hide D O x:=λx y=>by
  have Z:(P.Jj N).C.get x=P.C.get x:=by
   by_cases F:0<=x/\x<(P.C.n:Int)
   ·obtain⟨n,rfl⟩:∃n:Nat,x=(n:Int):=⟨x.toNat,by omega⟩;have f:=f n (by omega);rw[if_neg (by omega)] at f;rw[v3];exact f
   ·unfold Ct.get;rw[hn,if_neg F,if_neg F]
  unfold Pl.hide;rw[q52 (W x y) (by rw[Z])]
 have J:Ext (P.hide D O) ((P.Jj N).hide D O):=λx y=>hh x λe=>by
  rw[e,Td I,q39 hz] at y
  cases y
 have a1:=K.c.1.2;refine⟨v2,v1,⟨s1,λa u=>?_,?_,λx y=>?_,λa u U Y=>?_⟩,E,λl=>⟨J,λx y _=>?_,by omega,hn⟩,by omega,by omega⟩
 ·rw[v3,T a];by_cases e:a=c
  ·exact⟨_,if_pos e⟩
  ·rw[if_neg e];refine K.laid a ?_;rw[v3,q3r hp] at u;have u:P.C.alloc.fresh (a:Int)=true:=u;rw[(Ct.Xo hp).2.2] at u;have X:a<P.C.n:=by
    obtain⟨n,e1,h2⟩:=Gq (q38 u);rw[P.C.Zh] at h2;omega
   unfold Ct.fresh at u ⊢;rw[q1x P.C a X,if_neg e] at u;exact u
 ·rw[hn];refine K.Ad.put (c:=c) (ks:=N.named) (H0:=H0) (cnt':=(P.Jj N).cnt) (by omega) p1 (by unfold Pl.cnt;rw[hz];rfl) hH ?_ ?_ ?_ ?_
  ·unfold Pl.cnt;rw[v3,f c p1,if_pos rfl];rfl
  ·intro b F p;unfold Pl.cnt;rw[v3,f b F,if_neg p]
  ·show ((P.Jj N).hide D O (c:Int)).1.named=_;rw[E]
  ·intro b F p;show ((P.Jj N).hide D O (b:Int)).1.named=_;rw[hh _ (by omega)]
 ·obtain⟨k1,k2⟩:=K.opened x y;obtain⟨n,rfl,G⟩:=Gq (C:=P.C) (a:=x) (by omega);obtain⟨n0,_⟩:=K.first (c:=n) (by omega)
  have p:n≠c:=λe=>I (e▸y)
  refine⟨List.mem_cons_of_mem _ ?_,?_⟩
  ·have h3:=hH n n0 G;have h4:=List.count_pos_iff.2 k1;have h5:N.named.count (n:Int)=0:=List.count_eq_zero.2 (K.Es hN (by rw[Oy y];decide));exact List.count_pos_iff.1 (by omega)
  ·rw[v3,f n G,if_neg p];exact k2
 ·rw[hn] at u;by_cases e:a=c
  ·subst e;exact hN.loc J E
  ·rw[v3,f a u,if_neg e] at U;exact (K.loc a u U Y).ext J
 ·obtain⟨n,rfl,G⟩:=Gq y;have p:n≠c:=λe=>y (by rw[e];exact hz)
  refine⟨?_,W _ (by omega),Iff.rfl⟩;rw[v3,f n G,if_neg p];exact Int.le_refl _
end
def Nd.size (N:Nd):Nat:=N.items.length+N.kids.length
def Qp (l:Int):Nat:=if l=0 then 3 else 6
def Qo (l:Int):Nat:=if l=0 then 6 else 12
def Nd.cut (N:Nd)(i j:Nat):Nd:=if N.lvl=0 then ⟨N.lvl,(N.items.drop i).take (j-i),N.kids⟩ else ⟨N.lvl,N.items,(N.kids.drop i).take (j-i)⟩
def Zw (l:Int)(Ns:List Nd):Nd:=⟨l,Ns.flatMap (·.items),Ns.flatMap (·.kids)⟩
def parts (N:Nd):Nat:=(N.size+Qo N.lvl-1) / Qo N.lvl
def pieces (N:Nd):List Nd:=(List.range (parts N)).map λi=>N.cut (N.size*i / parts N) (N.size*(i+1) / parts N)
def good1 (R:Int->Nd × Int)(l:Nat)(x:Zz):Prop:=Qm R l x.1 x.2/\(R x.1).1.enough/\1<=x.1/\x.1<2048
def Yv (R:Int->Nd × Int):Nat->Nd->List (List Qb)->Prop
 |0,N,M=>∃its:List Qb,N=⟨0,its,[]⟩/\M=its.map λx=>[x]
 |l+1,N,M=>∃G:List Zz,N=⟨((l+1:Nat):Int),[],G.map Qn⟩/\M=G.map (·.2)/\∀x∈G,good1 R l x
section
variable {R R':Int->Nd × Int}{l:Nat}{N:Nd}{M:List (List Qb)}
theorem q13:∀(its:List Qb),(its.map λx=>[x]).flatten=its
 |[]=>rfl
 |x::r=>by rw[List.map_cons,List.flatten_cons,q13 r];rfl
theorem q4d (h:Yv R l N M):N.lvl=(l:Int):=by
 cases l with
 |zero=>obtain⟨its,rfl,_⟩:=h;rfl
 |succ l=>obtain⟨G,rfl,_⟩:=h;rfl
theorem q54 (h:Yv R l N M):N.size=M.length:=by
 cases l with
 |zero=>obtain⟨its,rfl,rfl⟩:=h;simp[Nd.size]
 |succ l=>obtain⟨G,rfl,rfl,_⟩:=h;simp[Nd.size]
theorem qac (h:Yv R l N M)(i j:Nat):Yv R l (N.cut i j) ((M.drop i).take (j-i)):=by
 cases l with
 |zero=>
  obtain⟨its,rfl,rfl⟩:=h;refine⟨(its.drop i).take (j-i),?_,by rw[List.map_take,List.map_drop]⟩;unfold Nd.cut;rw[if_pos rfl]
 |succ l=>
  obtain⟨G,rfl,rfl,e⟩:=h;refine⟨(G.drop i).take (j-i),?_,by rw[List.map_take,List.map_drop],λx f=>e x (List.mem_of_mem_drop (List.mem_of_mem_take f))⟩;unfold Nd.cut;rw[if_neg (by show ¬((l+1:Nat):Int)=0;omega),List.map_take,List.map_drop]
theorem qxi (R:Int->Nd × Int)(l:Nat):Yv R l ⟨(l:Int),[],[]⟩ []:=by
 cases l with
 |zero=>exact⟨[],rfl,rfl⟩
 |succ l=>exact⟨[],rfl,rfl,λx e=>(by cases e)⟩
theorem qxj {f:Nd}{u:List (List Qb)}(h:Yv R l N M)(h2:Yv R l f u):Yv R l ⟨(l:Int),N.items++f.items,N.kids++f.kids⟩ (M++u):=by
 cases l with
 |zero=>
  obtain⟨its,rfl,rfl⟩:=h;obtain⟨e,rfl,rfl⟩:=h2;exact⟨its++e,rfl,by rw[List.map_append]⟩
 |succ l=>
  obtain⟨G,rfl,rfl,E⟩:=h;obtain⟨y,rfl,rfl,p⟩:=h2;refine⟨G++y,by rw[List.map_append];rfl,by rw[List.map_append],λx F=>?_⟩;rcases List.mem_append.1 F with h|h
  ·exact E x h
  ·exact p x h
theorem qfl (z:Int)(A:Nd)(Ns:List Nd):Zw z (A::Ns)=⟨z,A.items++(Zw z Ns).items,A.kids++(Zw z Ns).kids⟩:=by
 unfold Zw;rw[List.flatMap_cons,List.flatMap_cons]
theorem q6l:∀(e:List (Nd × List (List Qb))),(∀x∈e,Yv R l x.1 x.2)->Yv R l (Zw (l:Int) (e.map (·.1))) (e.map (·.2)).flatten
 |[],_=>qxi R l
 |x::r,h=>by
  rw[List.map_cons,List.map_cons,List.flatten_cons,qfl];exact qxj (h x (List.mem_cons_self ..)) (q6l r λy f=>h y (List.mem_cons_of_mem _ f))
theorem q24 {x:Zz}(h:good1 R l x)(e:Ext R R'):good1 R' l x:=by
 refine⟨Sz e h.1,?_,h.2.2⟩;rw[e x.1 (D8 h.1).2.2];exact h.2.1
theorem qpr (h:Yv R l N M)(e:Ext R R'):Yv R' l N M:=by
 cases l with
 |zero=>exact h
 |succ l=>
  obtain⟨G,h1,h2,f⟩:=h;exact⟨G,h1,h2,λx p=>q24 (f x p) e⟩
theorem q3c (h:Yv R l N M):N.enough↔Qp (l:Int)<=M.length:=by
 have h1:=q4d h;have h2:=q54 h;unfold Nd.enough Qp;unfold Nd.size at h2;rw[h1,h2]
theorem qjp (h:Yv R l N M)(E:∀x∈M.flatten,Dat R x)(e:N.may=true):Fits R N:=by
 cases l with
 |zero=>
  obtain⟨its,rfl,rfl⟩:=h;rw[q13] at E;exact⟨e,E,λx u=>(by cases u)⟩
 |succ l=>
  obtain⟨G,rfl,rfl,J⟩:=h;refine⟨e,λx u=>(by cases u),λx u=>?_⟩;obtain⟨t,T,rfl⟩:=List.mem_map.1 u;obtain⟨h1,h2,_⟩:=J t T;obtain⟨X,U,W⟩:=D8 h1;refine⟨W,by show (R t.1).1.lvl+1=((l+1:Nat):Int);rw[U];omega,?_,h2⟩;show (R t.1).1.least=(Zb t.2 0).k;exact holds_least h1
where
 holds_least {R:Int->Nd × Int}:∀{l:Nat} {a:Int} {its:List Qb},Qm R l a its->(R a).1.least=(Zb its 0).k
  |0,a,its,h=>by
   rw[h.1];exact qa1 h.2
  |l+1,a,its,h=>by
   obtain⟨kids,parts,h1,h2,y,rfl,I⟩:=h;rw[h1,qbu _ h2];have K:0<kids.length:=List.length_pos_iff.2 h2;obtain⟨_,x,r,f,F⟩:=I 0 K;rw[F];match parts,y,f with
   |[],y,_=>rw[List.length_nil] at y;omega
   |p::ps,_,f=>
    have f:p=x::r:=f;rw[f,List.flatten_cons];rfl
theorem qad (h:Yv R l N M)(f:M≠[])(e:Ext R R'){a:Int}(p:R' a=(N,0)):Qm R' l a M.flatten:=by
 cases l with
 |zero=>
  obtain⟨its,rfl,rfl⟩:=h;rw[q13];exact⟨p,λe=>f (by rw[e];rfl)⟩
 |succ l=>
  obtain⟨G,rfl,rfl,u⟩:=h;exact qig (λx y=>(q24 (u x y) e).1) (λe=>f (by rw[e];rfl)) p
theorem qps (h:Yv R l N M)(f:M≠[]):N.least=(Zb M.flatten 0).k:=by
 cases l with
 |zero=>
  obtain⟨its,rfl,rfl⟩:=h;rw[q13];exact qa1 λe=>f (by rw[e];rfl)
 |succ l=>
  obtain⟨G,rfl,rfl,p⟩:=h;have u:G≠[]:=λe=>f (by rw[e];rfl)
  rw[qbu _ (by simpa using u)];match G,u,p with
  |x::r,_,p=>
   obtain⟨y,s,e⟩:=q70 (p x (List.mem_cons_self ..)).1;show (Zb x.2 0).k=(Zb (x.2++(r.map (·.2)).flatten) 0).k;rw[e];rfl
def Zr (x:Qb):Prop:=x.k.may=true/\x.v.length<=28
theorem qpt (h:Yv R l N M)(J:l<8)(h1:1<=M.length)(h2:0<l->2<=M.length)(p:M.length<=Qo (l:Int))(E:Ql M.flatten)(u:∀x∈M.flatten,Zr x):N.may=true:=by
 cases l with
 |zero=>
  obtain⟨its,rfl,rfl⟩:=h;rw[q13] at E u;rw[List.length_map] at h1 p;exact qvh h1 p E λx f=>⟨(u x f).1,(u x f).2⟩
 |succ l=>
  obtain⟨G,rfl,rfl,I⟩:=h;rw[List.length_map] at h2 p;have e:Qo ((l+1:Nat):Int)=12:=if_neg (by omega);rw[e] at p;exact qrz (by omega) (h2 (by omega)) p E (λx f=>(u x f).1) (λx f=>(I x f).2.2) λx f e=>by
   obtain⟨y,r,F⟩:=q70 (I x f).1;rw[e] at F
   cases F
theorem qae (h:Yv R l N M)(hm:M.length=0):pieces N=[]:=by
 have e:=q54 h;have:parts N=0:=by
  unfold parts;rw[e,hm];have:0<Qo N.lvl:=by unfold Qo;split<;>omega
  exact Nat.div_eq_of_lt (by omega)
 unfold pieces;rw[this];rfl
theorem qc0 (h:Yv R l N M)(h1:1<=M.length)(h2:M.length<=Qo (l:Int)):pieces N=[N.cut 0 M.length]:=by
 have f:=q54 h;have e:=q4d h;have p:0<Qo (l:Int):=by unfold Qo;split<;>omega
 have:parts N=1:=by
  unfold parts;rw[f,e];refine (Nat.div_eq_iff p).2 ?_;omega
 unfold pieces;rw[this,f];simp
theorem qc1 (h:Yv R l N M)(h1:Qo (l:Int)<M.length)(h2:M.length<=2*Qo (l:Int)):pieces N=[N.cut 0 (M.length / 2),N.cut (M.length / 2) M.length]:=by
 have f:=q54 h;have e:=q4d h;have p:0<Qo (l:Int):=by unfold Qo;split<;>omega
 have:parts N=2:=by
  unfold parts;rw[f,e];refine (Nat.div_eq_iff p).2 ?_;omega
 unfold pieces;rw[this,f];simp[List.range,List.range.loop]
end
structure Qs where
 N:Nd
 addr:Int
 next:Nat
 held:Bool
 shared:Bool
def Ul:List Int->Pl->Option Pl
 |[],P=>some P
 |a::l,P=>if P.C.Y4 a=0 then Ul l ⟨P.S,P.C.ref a,P.L⟩ else none
def q31:List Int->Pl->Option Pl
 |[],P=>some P
 |a::l,P=>if P.C.Jm a=0 then q31 l ⟨P.S,P.C.Qq a,P.L⟩ else none
def Pl.Q8 (P:Pl)(s:Qs)(i j:Nat):Option Pl:=
 if s.shared=true then Ul (Zw s.N.lvl [s.N.cut 0 i,s.N.cut j s.N.size]).named P else if 0<s.N.lvl then some P else q31 (s.N.cut i j).named P
def Pl.spot (P:Pl)(D:DM)(a:Int)(held:Bool):Qs:=⟨P.Qd D a,a,0,held,held||decide (1<P.C.get a)⟩
def Pl.Wi (P:Pl)(D:DM)(above:Qs)(i:Nat):Bool:=decide (i<above.N.kids.length/\P.Qi D (Qe above.N.kids i).a=0/\(P.Qd D (Qe above.N.kids i).a).lvl=above.N.lvl-1)
def Pl.Je (P:Pl)(D:DM)(above:Qs)(i:Nat):Qs:=P.spot D (Qe above.N.kids i).a above.shared
def Pl.near (P:Pl)(D:DM)(above:Qs)(i:Nat):Option Pl:=if P.Wi D above i=true then P.Q8 (P.Je D above i) 0 0 else none
structure O9 where
 N:Nd
 olds:List Qs
 i:Nat
 j:Nat
def Pl.have_ (P:Pl)(D:DM)(s:Qs)(b:Nd)(above:Qs):Option (O9 × Pl):=
 if Qp b.lvl<=b.size then some (⟨b,[s],above.next,above.next+1⟩,P)
 else if 0<above.next then (P.near D above (above.next-1)).map λe=>(⟨Zw (P.Je D above (above.next-1)).N.lvl [(P.Je D above (above.next-1)).N,b],[P.Je D above (above.next-1),s],above.next-1,above.next+1⟩,e)
 else (P.near D above (above.next+1)).map λe=>(⟨Zw b.lvl [b,(P.Je D above (above.next+1)).N],[s,P.Je D above (above.next+1)],above.next,above.next+2⟩,e)
def Pl.leave (P:Pl)(s:Qs):Option Pl:=if s.held=true then some P else if P.C.Jm s.addr=0 then some ⟨P.S,P.C.Qq s.addr,P.L⟩ else none
def Gs:List Qs->Pl->List Nd->List Qj->Option (Pl × List Nd × List Qj)
 |[],P,rest,ks=>some (P,rest,ks)
 |s::olds,P,[],ks=>match P.leave s with
  |some P'=>Gs olds P' [] ks
  |none=>none
 |s::olds,P,b::rest,ks=>if s.shared=true\/P.C.fresh s.addr=false then match P.leave s with
   |some P'=>Gs olds P' (b::rest) ks
   |none=>none
  else if P.Gu s.addr b=0 then Gs olds (P.Vp s.addr b) rest (ks++[⟨b.least,s.addr⟩]) else none
def J7:List Nd->Pl->List Qj->Option (Pl × Option (List Qj))
 |[],P,ks=>some (P,some ks)
 |b::rest,P,ks=>if P.Jk b=0 then J7 rest (P.Jj b) (ks++[⟨b.least,P.Yz b⟩]) else if P.Jk b=6 then some (P.Jj b,none) else none
def Pl.Y3 (P:Pl)(x:O9):Option (Pl × Option (List Qj)):=match Gs x.olds P (pieces x.N) [] with
 |some (P',rest,ks)=>J7 rest P' ks
 |none=>none
def Pl.top (P:Pl)(s:Qs)(b:Nd):Option (Pl × Option Int):=
 if b.kids.length=1 then (P.leave s).map λe=>(e,some (Qe b.kids 0).a)
 else match P.Y3 ⟨b,[s],0,0⟩ with
  |some (e,some ks)=>if ks.length=0 then some (e,some 0) else if ks.length=1 then some (e,some (Qe ks 0).a) else
    if e.Jk ⟨b.lvl+1,[],ks⟩=0 then some (e.Jj ⟨b.lvl+1,[],ks⟩,some (e.Yz ⟨b.lvl+1,[],ks⟩)) else if e.Jk ⟨b.lvl+1,[],ks⟩=6 then some (e.Jj ⟨b.lvl+1,[],ks⟩,none) else none
  |some (e,none)=>some (e,none)
  |none=>none
def Xt (s:Qs)(i j:Nat)(e:Nd):Nd:=Zw s.N.lvl [s.N.cut 0 i,e,s.N.cut j s.N.size]
def Y8 (D:DM):List Qs->Pl->Qs->Nat->Nat->Nd->Option (Pl × Option Int)
 |[],P,s,i,j,come=>match P.Q8 s i j with
  |some P1=>P1.top s (Xt s i j come)
  |none=>none
 |above::way,P,s,i,j,come=>match P.Q8 s i j with
  |some P1=>match P1.have_ D s (Xt s i j come) above with
   |some (x,P2)=>match P2.Y3 x with
    |some (P3,some ks)=>Y8 D way P3 above x.i x.j ⟨x.N.lvl+1,[],ks⟩
    |some (P3,none)=>some (P3,none)
    |none=>none
   |none=>none
  |none=>none
def Pl.Gw (P:Pl)(D:DM)(k:Kd):Nat->Qs->List Qs->Option (List Qs × Qs)
 |0,s,up=>if s.N.lvl<=0 then some (up,s) else none
 |f+1,s,up=>if s.N.lvl<=0 then some (up,s) else if P.Wi D s (s.N.Zc k)=true then P.Gw D k f (P.Je D s (s.N.Zc k)) ({ s with next:=s.N.Zc k }::up) else none
def q4e:Qs:=⟨Zp,0,0,true,true⟩
def Pl.way (P:Pl)(D:DM)(root:Int)(k:Kd):Option (List Qs × Qs):=if root=0 then some ([],q4e) else if P.Qi D root=0 then P.Gw D k 8 (P.spot D root false) [] else none
def Pl.Et (P:Pl)(D:DM)(root:Int)(x:Qb):Option (Pl × Option Int):=match P.way D root x.k with
 |some (up,s)=>Y8 D up P s (s.N.Zc x.k) (s.N.Zc x.k+if Vd s.N.keys x.k (s.N.Zc x.k)=true then 1 else 0) ⟨0,[x],[]⟩
 |none=>none
def Pl.Fp (P:Pl)(D:DM)(root:Int)(k:Kd):Option (Pl × Option Int):=match P.way D root k with
 |some (up,s)=>Y8 D up P s (s.N.Zc k) (s.N.Zc k+1) ⟨0,[],[]⟩
 |none=>none
theorem RB.stored {w:World}{b:Nat}{r:List Value}(H:RB w b r)(vs:List Value)(h:r.length=vs.length):RB (w.setCells b 0 vs) b vs:=by
 obtain⟨t,H⟩:=H;have:=q0i b t vs 0 w r H (by omega);rw[q2j r vs h] at this;exact⟨t,this⟩
theorem RB.cell {w:World}{b:Nat}{r:List Value}(H:RB w b r)(j:Nat){v:Value}(h:r[j]?=some v):w.cell? ⟨b,j,none⟩=some v:=by
 have:=H.range j v h;rwa [Nat.zero_add] at this
theorem RB.turned {w w':World}{b:Nat}{r:List Value}(H:RB w b r){S:Nat->Prop}(T:Turn S w w')(hb:¬S b):RB w' b r:=H.keep (T.block b H.lt hb)
def O8 (Q:World->Prop)(A:Option Addr)(n c:Nat)(xs:List Qb):Prop:=∃e,(∀w,Q w->Jq w 4 A n c e)/\e.length=xs.length/\∀(j:Nat) r x,e[j]?=some r->xs[j]?=some x->∃V p q,r=Vm x.k V p q/\∀w,Q w->Sl w V p q x.v
def P5 (Q:World->Prop)(B:Option Addr)(m d:Nat)(ks:List Qj):Prop:=∀w,Q w->Zk w B m d ks
structure Jf (Q:World->Prop)(N:Nd)(A:Option Addr)(n c:Nat)(B:Option Addr)(m d:Nat):Prop where
 its:O8 Q A n c N.items
 Df:P5 Q B m d N.kids
 ln:N.items.length=n
 lm:N.kids.length=m
 hn:n<=60/\n<=c/\c<=maxLen
 hm:m<=60/\m<=d/\d<=maxLen
section
variable {Q Q':World->Prop}{w w':World}{A B:Option Addr}{n c m d:Nat}{N:Nd}
theorem O8.mono {xs:List Qb}(h:O8 Q A n c xs)(hq:∀w,Q' w->Q w):O8 Q' A n c xs:=by
 obtain⟨u,h1,h2,y⟩:=h;refine⟨u,λw f=>h1 w (hq w f),h2,λj r x E G=>?_⟩;obtain⟨V,p,q,e,F⟩:=y j r x E G;exact⟨V,p,q,e,λw f=>F w (hq w f)⟩
theorem Jf.mono (h:Jf Q N A n c B m d)(hq:∀w,Q' w->Q w):Jf Q' N A n c B m d:=⟨h.its.mono hq,λw e=>h.Df w (hq w e),h.ln,h.lm,h.hn,h.hm⟩
theorem O8.Yc {xs:List Qb}(h:O8 Q A n c xs)(hw:Q w):Jg w A n c xs:=by
 obtain⟨f,h1,h2,u⟩:=h;refine⟨f,h1 w hw,h2,λj r x y F=>?_⟩;obtain⟨V,p,q,e,E⟩:=u j r x y F;exact⟨V,p,q,e,E w hw⟩
theorem qpu (Q:World->Prop):O8 Q none 0 0 []:=⟨[],λw _=>qa8 w 4,rfl,λj r x e=>by simp at e⟩
theorem qpv (Q:World->Prop)(l:Int):Jf Q ⟨l,[],[]⟩ none 0 0 none 0 0:=⟨qpu Q,λw _=>qa8 w 4,rfl,rfl,⟨by omega,by omega,by unfold maxLen;omega⟩,⟨by omega,by omega,by unfold maxLen;omega⟩⟩
def Fj (A:Option Addr)(c i:Nat):Option Addr:=if c=i then A else A.map (·.add (i*4))
theorem O8.sub {xs:List Qb}(h:O8 Q A n c xs){i j:Nat}(hi:i<=j)(hj:j<=n)(_hc:n<=c):O8 Q (Fj A c i) (j-i) (c-i) ((xs.drop i).take (j-i)):=by
 obtain⟨p,h1,h2,u⟩:=h;refine⟨(p.drop i).take (j-i),λw E=>((h1 w E).drop (by omega)).take (by omega),by rw[List.length_take,List.length_take,List.length_drop,List.length_drop,h2],λk r x e f=>?_⟩;rw[List.getElem?_take] at e f;split at e
 ·rename_i y;rw[if_pos y] at f;rw[List.getElem?_drop] at e f;exact u _ r x e f
 ·cases e
theorem P5.sub {ks:List Qj}(h:P5 Q B m d ks){i j:Nat}(hi:i<=j)(hj:j<=m):P5 Q (Fj B d i) (j-i) (d-i) ((ks.drop i).take (j-i)):=λw e=>(h w e).sub hi hj
def Xw (l:Int)(A:Option Addr)(n c:Nat)(B:Option Addr)(m d:Nat):Value:=.agg #[.int .i64 l,.slice A n c,.slice B m d]
theorem qu3 (h:Jf Q N A n c B m d)(h0:N.lvl=0){i j:Nat}(hi:i<=j)(f:j<=n):Jf Q (N.cut i j) (Fj A c i) (j-i) (c-i) B m d:=by
 have e:N.cut i j=⟨N.lvl,(N.items.drop i).take (j-i),N.kids⟩:=if_pos h0;rw[e];have h1:=h.hn;have h2:=h.ln;refine⟨h.its.sub hi f h1.2.1,h.Df,?_,h.lm,⟨by omega,by omega,by omega⟩,h.hm⟩;show ((N.items.drop i).take (j-i)).length=_;rw[List.length_take,List.length_drop];omega
theorem qu4 (h:Jf Q N A n c B m d)(h0:N.lvl≠0){i j:Nat}(hi:i<=j)(f:j<=m):Jf Q (N.cut i j) A n c (Fj B d i) (j-i) (d-i):=by
 have e:N.cut i j=⟨N.lvl,N.items,(N.kids.drop i).take (j-i)⟩:=if_neg h0;rw[e];have h1:=h.hm;have h2:=h.lm;refine⟨h.its,h.Df.sub hi f,h.ln,?_,h.hn,⟨by omega,by omega,by omega⟩⟩;show ((N.kids.drop i).take (j-i)).length=_;rw[List.length_take,List.length_drop];omega
theorem Jf.size (h:Jf Q N A n c B m d):N.size=n+m:=by unfold Nd.size;rw[h.ln,h.lm]
end
theorem q1u (l:Int)(A:Option Addr)(n c:Nat)(B:Option Addr)(m d:Nat)(hn:n<=1000)(hm:m<=1000)(w:World) :
  Calls Tryz.prog 188 #[Xw l A n c B m d] w λe w'=>e=.returned (.int .i64 ((n+m:Nat):Int))/\Below w.1.size w w':=by
 have f:NB (w.alloc (.cells #[.int .i64 l,.slice A n c,.slice B m d] 178)) w.1.size l A n c B m d:=NB.new w _ _ _ _ _ _ _ _;have p:Below w.1.size w (w.alloc (.cells #[.int .i64 l,.slice A n c,.slice B m d] 178)):=Qk;have c1:=f.c1;have c2:=f.c2;unfold Xw;go_enter Tryz.func188,Tryz.ntmps188
 go_wp2;go_ret;exact⟨rfl,p⟩
theorem q2w (l:Int)(A:Option Addr)(n c:Nat)(B:Option Addr)(m d:Nat)(w:World) :
  Calls Tryz.prog 233 #[Xw l A n c B m d] w λe w'=>e=.returned (.tuple #[.int .i64 (Qp l:Int),.int .i64 (Qo l:Int)])/\Below w.1.size w w':=by
 have p:NB (w.alloc (.cells #[.int .i64 l,.slice A n c,.slice B m d] 178)) w.1.size l A n c B m d:=NB.new w _ _ _ _ _ _ _ _;have f:Below w.1.size w (w.alloc (.cells #[.int .i64 l,.slice A n c,.slice B m d] 178)):=Qk;have c0:=p.c0;unfold Xw Qp Qo;by_cases h:l=0
 ·have u:(l==0)=true:=by simp[h]
  rw[if_pos h,if_pos h];clear h;go_enter Tryz.func233,Tryz.ntmps233
  go_wp2;go_ret2;exact⟨rfl,f⟩
 ·have u:(l==0)=false:=by simp[h]
  rw[if_neg h,if_neg h];clear h;go_enter Tryz.func233,Tryz.ntmps233
  go_wp2;go_ret2;exact⟨rfl,f⟩
theorem qpw {N:Nd}(h:N.may=true):N.named.length<=12:=by
 unfold Nd.named;rw[List.length_append,List.length_map];have u:=List.length_filterMap_le Uc N.items;by_cases p:N.lvl=0
 ·obtain⟨f,_,_,y⟩:=q19 h p;have e:N.kids=[]:=congrArg Nd.kids f;rw[e,List.length_nil];omega
 ·obtain⟨f,_,_,_,E,_⟩:=Pe h p;have e:N.items=[]:=congrArg Nd.items f;rw[e] at u ⊢;rw[List.filterMap_nil,List.length_nil];omega
section
variable {D:DM}{S0:Sp}{C0:Ct}{O H:List Int}{P:Pl}
theorem Keep.nonneg (K:Keep D S0 C0 O H P)(x:Int):0<=P.C.get x:=(Ct.Zv K.c x).1
theorem Keep.low (K:Keep D S0 C0 O H P)(hH:H.length<=30000){c:Nat}(h0:P.C.get (c:Int)≠0):P.C.get (c:Int)<=60000:=by
 obtain⟨c0,u⟩:=K.first h0
 have h:=K.Ad.eq c c0 u;have h1:H.count (c:Int)<=H.length:=List.count_le_length;have h2:=qn5 (K:=λb=>(P.hide D O (b:Int)).1.named) (most:=P.C.n) (k:=12) (out:=P.cnt) (λb f=>by
  show ((P.hide D O (b:Int)).1.named).length<=12;by_cases p:P.C.get (b:Int)=0
  ·by_cases e:(b:Int)∈O
   ·rw[Oy e];exact Nat.zero_le _
   ·rw[Td e,q39 p];exact Nat.zero_le _
  ·by_cases e:(b:Int)∈O
   ·rw[Oy e];exact Nat.zero_le _
   ·rcases K.loc b f p e with L|L
    ·rw[q7f L];exact Nat.zero_le _
    ·exact Nat.le_trans (qpw L.may) (by omega)) c
 have y:=K.c.1.2;have f:=Ct.Zv K.c (c:Int);have E:P.cnt c=(P.C.get (c:Int)).toNat:=rfl;omega
theorem qfm:∀(f:List Int) {H:List Int} {P:Pl},Keep D S0 C0 O H P->(∀x∈f,(P.hide D O x).2=0)->H.length+f.length<=30000->
  ∃e,Ul f P=some e/\Keep D S0 C0 O (f++H) e/\∀l,Move l D O O P e 0
 |[],H,P,K,_,_=>⟨P,rfl,K,λl=>Move.refl l D O P⟩
 |a::r,H,P,K,hx,hl=>by
  rw[List.length_cons] at hl;obtain⟨J,n,rfl,hn,h0⟩:=q30 (hx a (List.mem_cons_self ..));have u:=K.low (by omega) h0;obtain⟨G,E,y⟩:=K.ref h0 (by omega) J;obtain⟨e,I,F,T⟩:=qfm r E (λx p=>by
   have h1:=hx x (List.mem_cons_of_mem _ p);rw[(y 0).ext x h1];exact h1) (by rw[List.length_cons];omega)
  refine⟨e,?_,F.perm (λb _ _=>?_),λl=>(y l).trans K.nonneg (T l)⟩
  ·show (if P.C.Y4 (n:Int)=0 then _ else none)=_;rw[if_pos G];exact I
  ·simp only[List.count_append,List.count_cons,List.cons_append];omega
theorem q8z {R:Int->Nd × Int}{l:Nat}{N:Nd}{M:List (List Qb)}(h:Yv R l N M)(p:∀x∈M.flatten,Dat R x):(∀x∈N.named,(R x).2=0)/\N.named.length<=M.length:=by
 cases l with
 |zero=>
  obtain⟨its,rfl,rfl⟩:=h;rw[q13] at p;have e:(⟨0,its,[]⟩:Nd).named=its.filterMap Uc:=by unfold Nd.named;simp
  rw[e,List.length_map];refine⟨λc u=>?_,List.length_filterMap_le _ _⟩;obtain⟨x,f,e⟩:=List.mem_filterMap.1 u;rw[p x f c e]
 |succ l=>
  obtain⟨G,rfl,rfl,E⟩:=h;have e:(⟨((l+1:Nat):Int),[],G.map Qn⟩:Nd).named=(G.map Qn).map (·.a):=by unfold Nd.named;simp
  refine⟨λx f=>?_,by rw[e];simp⟩;rw[e] at f;obtain⟨y,I,rfl⟩:=List.mem_map.1 f;obtain⟨t,F,rfl⟩:=List.mem_map.1 I;exact (D8 (E t F).1).2.2
theorem q55 (z:Int)(Ns:List Nd)(a:Int):(Zw z Ns).named.count a=(Ns.map λN=>N.named.count a).sum:=by
 induction Ns with
 |nil=>rfl
 |cons N r ih=>
  rw[qfl,List.map_cons,List.sum_cons,<-ih];unfold Nd.named Zw;simp only[List.map_append,List.filterMap_append,List.count_append];omega
def Zl (s:Qs)(i j:Nat):Nd:=Zw s.N.lvl [s.N.cut 0 i,s.N.cut j s.N.size]
structure Outside (R:Int->Nd × Int)(l:Nat)(N:Nd)(i j:Nat)(ML MR:List (List Qb)):Prop where
 left:Yv R l (N.cut 0 i) ML
 right:Yv R l (N.cut j N.size) MR
 lvl:N.lvl=(l:Int)
 li:ML.length=i
 size:N.size=j+MR.length
 ij:i<=j
theorem qaf {R:Int->Nd × Int}{l:Nat}{N:Nd}{M:List (List Qb)}(h:Yv R l N M){i j:Nat}(hi:i<=j)(p:j<=M.length):Outside R l N i j (M.take i) (M.drop j):=by
 have e:=q54 h;refine⟨?_,?_,q4d h,by rw[List.length_take];omega,by rw[e,List.length_drop];omega,hi⟩
 ·have:=qac h 0 i;simpa using this
 ·have:=qac h j N.size;rw[e] at this ⊢;have f:(M.drop j).take (M.length-j)=M.drop j:=List.take_of_length_le (by rw[List.length_drop];omega);rw[f] at this;exact this
theorem qjq {R:Int->Nd × Int}{l:Nat}{s:Qs}{i j:Nat}{f p:List (List Qb)}(h:Outside R l s.N i j f p):Yv R l (Zl s i j) (f++p):=by
 have h2:=q6l (R:=R) (l:=l) [(s.N.cut 0 i,f),(s.N.cut j s.N.size,p)] (λx e=>by
  rcases List.mem_cons.1 e with rfl|e
  ·exact h.left
  ·rcases List.mem_cons.1 e with rfl|e
   ·exact h.right
   ·cases e)
 unfold Zl;rw[h.lvl];simpa using h2
theorem qpx {R:Int->Nd × Int}{l:Nat}{s:Qs}{p u y:List (List Qb)}{e:Nd}{i j:Nat}(h:Outside R l s.N i j p u)(E:Yv R l e y):Yv R l (Xt s i j e) (p++(y++u)):=by
 have h2:=q6l (R:=R) (l:=l) [(s.N.cut 0 i,p),(e,y),(s.N.cut j s.N.size,u)] (λx f=>by
  rcases List.mem_cons.1 f with rfl|f
  ·exact h.left
  ·rcases List.mem_cons.1 f with rfl|f
   ·exact E
   ·rcases List.mem_cons.1 f with rfl|f
    ·exact h.right
    ·cases f)
 unfold Xt;rw[h.lvl];simpa using h2
theorem q8c (K:Keep D S0 C0 O H P){l:Nat}{s:Qs}{y E:List (List Qb)}{i j:Nat}(G:Outside (P.hide D O) l s.N i j y E)(f:∀x∈(y++E).flatten,Dat (P.hide D O) x)(p:s.shared=false->l=0->(s.N.cut i j).named=[])(W:y.length+E.length<=100)(U:H.length<=20000) :
  ∃F,P.Q8 s i j=some F/\Keep D S0 C0 O ((if s.shared=true then (Zl s i j).named else [])++H) F/\∀l,Move l D O O P F 0:=by
 unfold Pl.Q8;by_cases u:s.shared=true
 ·rw[if_pos u,if_pos u];obtain⟨J,T⟩:=q8z (qjq G) f;refine qfm _ K J ?_;rw[List.length_append] at T;show H.length+(Zl s i j).named.length<=30000;omega
 ·rw[if_neg u,if_neg u];have e:=G.lvl;by_cases I:0<s.N.lvl
  ·rw[if_pos I];exact⟨P,rfl,K,λl=>Move.refl l D O P⟩
  ·rw[if_neg I,p (by cases e:s.shared with|true=>exact absurd e u|false=>rfl) (by omega)];exact⟨P,rfl,K,λl=>Move.refl l D O P⟩
def own (s:Qs):List Int:=if s.held=true then [] else [s.addr]
structure Zj (P:Pl)(D:DM)(O:List Int)(l:Int)(s:Qs):Prop where
 shared:s.shared=true->s.held=false->2<=P.C.get s.addr/\s.addr∉O/\(P.Qd D s.addr).lvl=l
 mine:s.shared=false->s.held=false/\s.addr∈O/\(P.Qd D s.addr).lvl=l/\P.Qi D s.addr=0
theorem Zj.above {l l':Int}{s:Qs}(h:Zj P D O l s){O':List Int}{P':Pl}(K:Keep D S0 C0 O H P)(ha:Bh l' D O O' P P')(hl:l'<l):Zj P' D O' l s:=by
 refine⟨λh1 h2=>?_,λh1=>?_⟩
 ·obtain⟨p,f,e⟩:=h.shared h1 h2;obtain⟨j1,j2,j3⟩:=ha s.addr (by omega) (by rw[e];exact hl);exact⟨by omega,λh=>f (j3.2 h),by rw[show P'.Qd D s.addr=P.Qd D s.addr from congrArg Prod.fst j2];exact e⟩
 ·obtain⟨p,f,e,u⟩:=h.mine h1;have y:=(K.opened _ f).2;obtain⟨j1,j2,j3⟩:=ha s.addr (by omega) (by rw[e];exact hl);exact⟨p,j3.1 f,by rw[show P'.Qd D s.addr=P.Qd D s.addr from congrArg Prod.fst j2];exact e,(congrArg Prod.snd j2).trans u⟩
def Dy (O:List Int)(s:Qs):List Int:=if s.shared=true then O else less1 O s.addr
theorem qc2 (K:Keep D S0 C0 O H P){l:Int}{s:Qs}(Y:Zj P D O l s){X:List Int}(p:∀a:Nat,0<a->a<P.C.n->H.count (a:Int)=(own s++X).count (a:Int)) :
  ∃y,P.leave s=some y/\Keep D S0 C0 (Dy O s) X y/\Move l D O (Dy O s) P y 0/\∀x,x≠s.addr->y.C.get x=P.C.get x/\y.store D x=P.store D x:=by
 unfold Pl.leave;by_cases u:s.held=true
 ·have f:s.shared=true:=by
   cases e:s.shared with
   |true=>rfl
   |false=>have:=(Y.mine e).1;rw[this] at u;cases u
  rw[if_pos u];have e:Dy O s=O:=if_pos f;rw[e];have I:own s=[]:=if_pos u;rw[I] at p;exact⟨P,rfl,K.perm λa h1 h2=>(p a h1 h2).symm,Move.refl l D O P,λ_ _=>⟨rfl,rfl⟩⟩
 ·have U:s.held=false:=by cases e:s.held with|true=>exact absurd e u|false=>rfl
  rw[if_neg u];have I:own s=[s.addr]:=if_neg u;rw[I] at p;have other:∀c:Nat,∀x:Int,P.C.get (c:Int)≠0->x≠(c:Int)->(P.C.Qq (c:Int)).get x=P.C.get x/\Pl.store ⟨P.S,P.C.Qq (c:Int),P.L⟩ D x=P.store D x:=λc x h0 W=>by
   rw[(q8x h0).2];exact qa7 W
  cases f:s.shared with
  |true=>
   obtain⟨k1,E,k3⟩:=Y.shared f U;obtain⟨c,J,T⟩:=Gq (C:=P.C) (a:=s.addr) (by omega);rw[J] at k1 k3 p ⊢;obtain⟨G,F,m1⟩:=K.Qq (H0:=X) k1 p;have e:Dy O s=O:=if_pos f;rw[if_pos G,e];exact⟨_,rfl,F,m1 l (by omega),λx Z=>other c x (by omega) Z⟩
  |false=>
   obtain⟨_,E,k3,_⟩:=Y.mine f;have hg:=(K.opened _ E).2;obtain⟨c,J,T⟩:=Gq (C:=P.C) (a:=s.addr) (by omega);have e:Dy O s=less1 O s.addr:=if_neg (by rw[f];decide);rw[e];rw[J] at E k3 p hg ⊢;obtain⟨G,F,m1⟩:=K.drop (H0:=X) E p;rw[if_pos G];exact⟨_,rfl,F,m1 l (by omega),λx Z=>other c x (by omega) Z⟩
end
