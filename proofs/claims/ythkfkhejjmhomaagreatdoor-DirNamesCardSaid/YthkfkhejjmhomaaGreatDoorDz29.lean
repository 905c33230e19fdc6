/- A pool some of whose nodes are open: another content of an open node, and a new node -/
import Derived.Test.YthkfkhejjmhomaaGreatDoorGcA
import Derived.Test.YthkfkhejjmhomaaGreatDoorDz28
namespace Go.Proofs.YthkfkhejjmhomaaGreatDoor
open Go Go.RowKit Go.Proofs
set_option maxHeartbeats 4000000
set_option maxRecDepth 100000
structure Fits (R:Int->Nd × Int)(N:Nd):Prop where
 may:N.may=true
 data:∀x∈N.items,Dat R x
 kids:∀x∈N.kids,(R x.a).2=0/\(R x.a).1.lvl+1=N.lvl/\(R x.a).1.least=x.k/\(R x.a).1.enough
theorem Fits.ext {R R':Int->Nd × Int}{N:Nd}(h:Fits R N)(e:Ext R R'):Fits R' N:=
 ⟨h.may,λx f=>(h.data x f).ext e,λx f=>by
  obtain⟨g,p,q,u⟩:=h.kids x f;rw[e x.a g];exact⟨g,p,q,u⟩⟩
theorem Fits.told {R:Int->Nd × Int}{N:Nd}(h:Fits R N){c:Int}(f:c∈N.named):(R c).2=0:=by
 unfold Nd.named at f;rcases List.mem_append.1 f with f|f
 ·obtain⟨x,g,rfl⟩:=List.mem_map.1 f;exact (h.kids x g).1
 ·obtain⟨x,g,e⟩:=List.mem_filterMap.1 f;rw[h.data x g c e]
theorem Fits.loc {R R':Int->Nd × Int}{N:Nd}{a:Int}(h:Fits R N)(e:Ext R R')(ha:R' a=(N,0)):Loc R' a:=by
 have h2:=h.ext e;exact .inr ⟨by rw[ha],by rw[ha];exact h.may,by rw[ha];exact h2.data,by rw[ha];exact h2.kids⟩
section
variable {D:DM}{S0:Sp}{C0:Ct}{O H:List Int}{P:Pl}
theorem Keep.Qmz (_K:Keep D S0 C0 O H P){N:Nd}(hN:Fits (P.hide D O) N){x:Int}(hx:(P.hide D O x).2≠0):x∉N.named:=λh=>hx (hN.told h)
theorem Keep.set (K:Keep D S0 C0 O H P){c:Nat}(ho:(c:Int)∈O)(hnE:P.Qj D (c:Int)=0)(hfr:P.C.fresh (c:Int)=true){N:Nd}(hN:Fits (P.hide D O) N){H0:List Int}(hH:∀a:Nat,0<a->a<P.C.n->H.count (a:Int)=N.named.count (a:Int)+H0.count (a:Int)) :
  P.Qfz (c:Int) N=0/\Keep D S0 C0 (less1 O (c:Int)) H0 (P.Qch (c:Int) N)/\(P.Qch (c:Int) N).hide D (less1 O (c:Int)) (c:Int)=(N,0)/\(∀l,(P.Qb D (c:Int)).lvl<=l->Move l D O (less1 O (c:Int)) P (P.Qch (c:Int) N) 0)/\(P.Qch (c:Int) N).C=P.C/\∀x,x≠(c:Int)->(P.Qch (c:Int) N).store D x=P.store D x:=by
 obtain⟨a2,h1⟩:=K.opened _ ho;have h0:P.C.get (c:Int)≠0:=by omega
 obtain⟨c0,cn⟩:=K.first h0
 obtain⟨b,T⟩:=K.laid c hfr;have V:P.live c=some b:=by unfold Pl.live;rw[if_neg h0];exact T
 have hE:=Qi4 D h0 V;have q:isNode (P.L ((c:Int)).toNat)=true:=by
  rw[Int.toNat_natCast,T]
  cases b with
  |node M=>rfl
  |bytes k l=>
   have:bkE (Bk.bytes k l)=1:=rfl;rw[this] at hE;omega
 have Z:P.Ql5 (c:Int) N=true:=by
  unfold Pl.Ql5;rw[hN.may,hfr,q];rfl
 have e1:P.Qfz (c:Int) N=0:=if_pos Z;have e2:P.Qch (c:Int) N=⟨P.S,P.C,upd P.L c (some (.node N))⟩:=by
  unfold Pl.Qch;rw[if_pos Z,Int.toNat_natCast]
 rw[e2];refine⟨e1,?_⟩;have u:∀x,x≠(c:Int)->Pl.store ⟨P.S,P.C,upd P.L c (some (.node N))⟩ D x=P.store D x:=λx f=>by
  by_cases U:P.C.get x=0
  ·rw[Yx U];exact Yx (P:=⟨P.S,P.C,upd P.L c (some (.node N))⟩) U
  ·obtain⟨n,rfl,hn⟩:=Xr U;unfold Pl.store Pl.Qb Pl.Qj Pl.live;show ((if P.C.get (n:Int)=0 then Qu else match (if P.C.get (((n:Int).toNat:Nat):Int)=0 then none else upd P.L c (some (.node N)) (n:Int).toNat) with|some (.node N)=>N|some (.bytes _ _)=>Qu|none=>_),(if P.C.get (n:Int)=0 then 1 else match (if P.C.get (((n:Int).toNat:Nat):Int)=0 then none else upd P.L c (some (.node N)) (n:Int).toNat) with|some (.node _)=>(0:Int)|some (.bytes _ _)=>1|none=>_))=_;rw[Int.toNat_natCast,Y8 _ _ (λe=>f (by rw[e]))];rfl
 have z:Pl.store ⟨P.S,P.C,upd P.L c (some (.node N))⟩ D (c:Int)=(N,0):=by
  unfold Pl.store Pl.Qb Pl.Qj Pl.live;show ((if P.C.get (c:Int)=0 then Qu else match (if P.C.get (((c:Int).toNat:Nat):Int)=0 then none else upd P.L c (some (.node N)) (c:Int).toNat) with|some (.node N)=>N|some (.bytes _ _)=>Qu|none=>_),(if P.C.get (c:Int)=0 then 1 else match (if P.C.get (((c:Int).toNat:Nat):Int)=0 then none else upd P.L c (some (.node N)) (c:Int).toNat) with|some (.node _)=>(0:Int)|some (.bytes _ _)=>1|none=>_))=_;rw[Int.toNat_natCast,Y9,if_neg h0,if_neg h0,if_neg h0]
 have W:(c:Int)∉less1 O (c:Int):=λh=>(Yy.1 h).2 rfl
 have p:Pl.hide ⟨P.S,P.C,upd P.L c (some (.node N))⟩ D (less1 O (c:Int)) (c:Int)=(N,0):=by
  rw[Vt W,Lj (P:=⟨P.S,P.C,upd P.L c (some (.node N))⟩) (congrArg Prod.snd z)];exact z
 have Y:∀x,x≠(c:Int)->Pl.hide ⟨P.S,P.C,upd P.L c (some (.node N))⟩ D (less1 O (c:Int)) x=P.hide D O x:=λx f=>by
  unfold Pl.hide;rw[Gq (P:=P) (P':=⟨P.S,P.C,upd P.L c (some (.node N))⟩) (u x f) Iff.rfl];by_cases E:x∈O
  ·rw[if_pos E,if_pos (Yy.2 ⟨E,f⟩)]
  ·rw[if_neg E,if_neg (λh=>E (Yy.1 h).1)]
 have y:Ext (P.hide D O) (Pl.hide ⟨P.S,P.C,upd P.L c (some (.node N))⟩ D (less1 O (c:Int))):=λx f=>Y x λe=>by
  rw[e,Y1 ho] at f
  cases f
 have X:(c:Int)∉N.named:=K.Qmz hN (by rw[Y1 ho];decide);refine⟨⟨⟨⟨K.Zu.ok.c,K.Zu.ok.res,K.Zu.ok.may,K.Zu.ok.sec,K.Zu.ok.gen,λa x f=>?_⟩,?_,λa x f=>?_⟩,λa G=>?_,?_,λx f=>?_,λa G I J=>?_⟩,p,λl hl=>⟨y,λx f a1=>?_,Nat.le_refl _,rfl⟩,rfl,λx f=>u x f⟩
 ·have f:upd P.L c (some (.node N)) a=some x:=f;by_cases e:a=c
  ·subst e;rw[Y9] at f;obtain rfl:=Option.some.inj f;exact Dy hN.may
  ·rw[Y8 _ _ e] at f;exact K.Zu.ok.fine a x f
 ·have:=K.Zu.sound;exact⟨this.free,this.n,this.Xe,⟨this.holds.may,this.holds.gen,this.holds.sec,this.holds.c,this.holds.res,this.holds.n,this.holds.slot,this.holds.other,this.holds.area⟩⟩
 ·have f:upd P.L c (some (.node N)) a=some x:=f;by_cases e:a=c
  ·subst e;rw[Y9] at f;obtain rfl:=Option.some.inj f;exact⟨trivial,Gu hN.may⟩
  ·rw[Y8 _ _ e] at f;exact K.Zu.kinds a x f
 ·show ∃b,upd P.L c (some (.node N)) a=some b;by_cases e:a=c
  ·subst e;exact⟨_,Y9 _ _ _⟩
  ·rw[Y8 _ _ e];exact K.laid a G
 ·have F:=K.Xd.set (c:=c) (ks:=N.named) (H0:=H0) (K':=λb=>(Pl.hide ⟨P.S,P.C,upd P.L c (some (.node N))⟩ D (less1 O (c:Int)) (b:Int)).1.named) cn (by unfold Pl.cnt;omega) hH (by show (Pl.hide ⟨P.S,P.C,upd P.L c (some (.node N))⟩ D (less1 O (c:Int)) (c:Int)).1.named=_;rw[p]) (λb T g=>by
   show (Pl.hide ⟨P.S,P.C,upd P.L c (some (.node N))⟩ D (less1 O (c:Int)) (b:Int)).1.named=_;rw[Y _ (by omega)])
  have F:Qs P.C.n P.cnt (λb=>(Pl.hide ⟨P.S,P.C,upd P.L c (some (.node N))⟩ D (less1 O (c:Int)) (b:Int)).1.named) ((P.hide D O (c:Int)).1.named++H0):=F;rw[Y1 ho] at F;exact F
 ·obtain⟨f,g⟩:=Yy.1 f;obtain⟨k1,k2⟩:=K.opened x f;obtain⟨n,rfl,hn⟩:=Xr (C:=P.C) (a:=x) (by omega);obtain⟨n0,_⟩:=K.first (c:=n) (by omega)
  refine⟨?_,k2⟩;have h3:=hH n n0 hn;have h4:=List.count_pos_iff.2 k1;have h5:N.named.count (n:Int)=0:=List.count_eq_zero.2 (K.Qmz hN (by rw[Y1 f];decide));exact List.count_pos_iff.1 (by omega)
 ·by_cases e:a=c
  ·subst e;exact hN.loc y p
  ·exact (K.loc a G I λh=>J (Yy.2 ⟨h,by omega⟩)).ext y
 ·have g:x≠(c:Int):=λe=>by subst e;omega
  exact⟨Int.le_refl _,u x g,⟨λh=>Yy.2 ⟨h,g⟩,λh=>(Yy.1 h).1⟩⟩
theorem Keep.put (K:Keep D S0 C0 O H P){c:Nat}(hp:P.C.pick=some c){N:Nd}(hN:Fits (P.hide D O) N){H0:List Int}(hH:∀a:Nat,0<a->a<P.C.n->H.count (a:Int)=N.named.count (a:Int)+H0.count (a:Int)) :
  P.Xo N=0/\P.Yd N=(c:Int)/\Keep D S0 C0 O ((c:Int)::H0) (P.Xb N)/\(P.Xb N).hide D O (c:Int)=(N,0)/\(∀l,Move l D O O P (P.Xb N) 1)/\1<=c/\c<2048:=by
 obtain⟨Y,p2,p3,p4,_⟩:=Ct.Zm hp;obtain⟨v1,v2,v3⟩:=q24 hp hN.may;have W:P.C.get (c:Int)=0:=by
  unfold Ct.get;rw[if_pos (by omega),Int.toNat_natCast];exact p3
 have a1:P.C.first=2+2*Qi P.C.n:=rfl
 have E:(c:Int)∉O:=λh=>by
  have:=(K.opened _ h).2;omega
 have f:=λb (y:b<P.C.n)=>F7 hp (.node N) b y
 have G:=Ar hp (.node N);have hn:(P.Xb N).C.n=P.C.n:=by rw[v3];exact Kq _
 obtain⟨s1,_,s3⟩:=K.Zu.put hN.may (by have:=Ct.Jt hp;omega);have u:(P.Xb N).hide D O (c:Int)=(N,0):=by
  have e:=Il D hp hN.may;rw[Vt E,Lj (congrArg Prod.snd e)];exact e
 have J:∀x,x≠(c:Int)->(P.Xb N).store D x=P.store D x:=λx q=>by
  by_cases y:0<=x/\x<(P.C.n:Int)
  ·obtain⟨n,rfl⟩:∃n:Nat,x=(n:Int):=⟨x.toNat,by omega⟩;have f:=f n (by omega);have G:=G n;rw[if_neg (by omega)] at f G;rw[v3];unfold Pl.store Pl.Qb Pl.Qj Pl.live;rw[Int.toNat_natCast,f,G]
  ·have h1:P.C.get x=0:=by unfold Ct.get;rw[if_neg y]
   have h2:(P.Xb N).C.get x=0:=by unfold Ct.get;rw[hn,if_neg y]
   rw[Yx h1,Yx h2]
 have X:∀x,x≠(c:Int)->(P.Xb N).hide D O x=P.hide D O x:=λx q=>by
  have V:(P.Xb N).C.get x=P.C.get x:=by
   by_cases y:0<=x/\x<(P.C.n:Int)
   ·obtain⟨n,rfl⟩:∃n:Nat,x=(n:Int):=⟨x.toNat,by omega⟩;have f:=f n (by omega);rw[if_neg (by omega)] at f;rw[v3];exact f
   ·unfold Ct.get;rw[hn,if_neg y,if_neg y]
  unfold Pl.hide;rw[Gq (J x q) (by rw[V])]
 have F:Ext (P.hide D O) ((P.Xb N).hide D O):=λx q=>X x λe=>by
  rw[e,Vt E,Vp W] at q
  cases q
 have Z:=K.c.1.2;refine⟨v2,v1,⟨s1,λa p=>?_,?_,λx q=>?_,λa p I U=>?_⟩,u,λl=>⟨F,λx q _=>?_,by omega,hn⟩,by omega,by omega⟩
 ·rw[v3,G a];by_cases e:a=c
  ·exact⟨_,if_pos e⟩
  ·rw[if_neg e];refine K.laid a ?_;rw[v3,Vw hp] at p;have p:P.C.alloc.fresh (a:Int)=true:=p;rw[(Ct.Zi hp).2.2] at p;have T:a<P.C.n:=by
    obtain⟨n,e1,h2⟩:=Xr (Dz p);rw[P.C.Qc] at h2;omega
   unfold Ct.fresh at p ⊢;rw[Y0 P.C a T,if_neg e] at p;exact p
 ·rw[hn];refine K.Xd.put (c:=c) (ks:=N.named) (H0:=H0) (cnt':=(P.Xb N).cnt) (by omega) Y (by unfold Pl.cnt;rw[W];rfl) hH ?_ ?_ ?_ ?_
  ·unfold Pl.cnt;rw[v3,f c Y,if_pos rfl];rfl
  ·intro b y g;unfold Pl.cnt;rw[v3,f b y,if_neg g]
  ·show ((P.Xb N).hide D O (c:Int)).1.named=_;rw[u]
  ·intro b y g;show ((P.Xb N).hide D O (b:Int)).1.named=_;rw[X _ (by omega)]
 ·obtain⟨k1,k2⟩:=K.opened x q;obtain⟨n,rfl,z⟩:=Xr (C:=P.C) (a:=x) (by omega);obtain⟨n0,_⟩:=K.first (c:=n) (by omega)
  have g:n≠c:=λe=>E (e▸q)
  refine⟨List.mem_cons_of_mem _ ?_,?_⟩
  ·have h3:=hH n n0 z;have h4:=List.count_pos_iff.2 k1;have h5:N.named.count (n:Int)=0:=List.count_eq_zero.2 (K.Qmz hN (by rw[Y1 q];decide));exact List.count_pos_iff.1 (by omega)
  ·rw[v3,f n z,if_neg g];exact k2
 ·rw[hn] at p;by_cases e:a=c
  ·subst e;exact hN.loc F u
  ·rw[v3,f a p,if_neg e] at I;exact (K.loc a p I U).ext F
 ·obtain⟨n,rfl,z⟩:=Xr q;have g:n≠c:=λe=>q (by rw[e];exact W)
  refine⟨?_,J _ (by omega),Iff.rfl⟩;rw[v3,f n z,if_neg g];exact Int.le_refl _
end
def Nd.size (N:Nd):Nat:=N.items.length+N.kids.length
def Iy (l:Int):Nat:=if l=0 then 3 else 6
def Iw (l:Int):Nat:=if l=0 then 6 else 12
def Nd.cut (N:Nd)(i j:Nat):Nd:=if N.lvl=0 then ⟨N.lvl,(N.items.drop i).take (j-i),N.kids⟩ else ⟨N.lvl,N.items,(N.kids.drop i).take (j-i)⟩
def Wv (l:Int)(Ns:List Nd):Nd:=⟨l,Ns.flatMap (·.items),Ns.flatMap (·.kids)⟩
def parts (N:Nd):Nat:=(N.size+Iw N.lvl-1) / Iw N.lvl
def pieces (N:Nd):List Nd:=(List.range (parts N)).map λi=>N.cut (N.size*i / parts N) (N.size*(i+1) / parts N)
def good1 (R:Int->Nd × Int)(l:Nat)(x:Zv):Prop:=Qe R l x.1 x.2/\(R x.1).1.enough/\1<=x.1/\x.1<2048
def U7 (R:Int->Nd × Int):Nat->Nd->List (List Qq)->Prop
 |0,N,M=>∃its:List Qq,N=⟨0,its,[]⟩/\M=its.map λx=>[x]
 |l+1,N,M=>∃G:List Zv,N=⟨((l+1:Nat):Int),[],G.map Qy⟩/\M=G.map (·.2)/\∀x∈G,good1 R l x
section
variable {R R':Int->Nd × Int}{l:Nat}{N:Nd}{M:List (List Qq)}
theorem Nb:∀(its:List Qq),(its.map λx=>[x]).flatten=its
 |[]=>rfl
 |x::r=>by rw[List.map_cons,List.flatten_cons,Nb r];rfl
theorem Qa1 (h:U7 R l N M):N.lvl=(l:Int):=by
 cases l with
 |zero=>obtain⟨its,rfl,_⟩:=h;rfl
 |succ l=>obtain⟨G,rfl,_⟩:=h;rfl
theorem Qbm (h:U7 R l N M):N.size=M.length:=by
 cases l with
 |zero=>obtain⟨its,rfl,rfl⟩:=h;simp[Nd.size]
 |succ l=>obtain⟨G,rfl,rfl,_⟩:=h;simp[Nd.size]
theorem Qe4 (h:U7 R l N M)(i j:Nat):U7 R l (N.cut i j) ((M.drop i).take (j-i)):=by
 cases l with
 |zero=>
  obtain⟨its,rfl,rfl⟩:=h;refine⟨(its.drop i).take (j-i),?_,by rw[List.map_take,List.map_drop]⟩;unfold Nd.cut;rw[if_pos rfl]
 |succ l=>
  obtain⟨G,rfl,rfl,e⟩:=h;refine⟨(G.drop i).take (j-i),?_,by rw[List.map_take,List.map_drop],λx f=>e x (List.mem_of_mem_drop (List.mem_of_mem_take f))⟩;unfold Nd.cut;rw[if_neg (by show ¬((l+1:Nat):Int)=0;omega),List.map_take,List.map_drop]
theorem Zb3 (R:Int->Nd × Int)(l:Nat):U7 R l ⟨(l:Int),[],[]⟩ []:=by
 cases l with
 |zero=>exact⟨[],rfl,rfl⟩
 |succ l=>exact⟨[],rfl,rfl,λx e=>(by cases e)⟩
theorem Zb2 {f:Nd}{p:List (List Qq)}(h:U7 R l N M)(h2:U7 R l f p):U7 R l ⟨(l:Int),N.items++f.items,N.kids++f.kids⟩ (M++p):=by
 cases l with
 |zero=>
  obtain⟨its,rfl,rfl⟩:=h;obtain⟨e,rfl,rfl⟩:=h2;exact⟨its++e,rfl,by rw[List.map_append]⟩
 |succ l=>
  obtain⟨G,rfl,rfl,u⟩:=h;obtain⟨q,rfl,rfl,g⟩:=h2;refine⟨G++q,by rw[List.map_append];rfl,by rw[List.map_append],λx y=>?_⟩;rcases List.mem_append.1 y with h|h
  ·exact u x h
  ·exact g x h
theorem join_cons (z:Int)(A:Nd)(Ns:List Nd):Wv z (A::Ns)=⟨z,A.items++(Wv z Ns).items,A.kids++(Wv z Ns).kids⟩:=by
 unfold Wv;rw[List.flatMap_cons,List.flatMap_cons]
theorem Qc2:∀(e:List (Nd × List (List Qq))),(∀x∈e,U7 R l x.1 x.2)->U7 R l (Wv (l:Int) (e.map (·.1))) (e.map (·.2)).flatten
 |[],_=>Zb3 R l
 |x::r,h=>by
  rw[List.map_cons,List.map_cons,List.flatten_cons,join_cons];exact Zb2 (h x (List.mem_cons_self ..)) (Qc2 r λy f=>h y (List.mem_cons_of_mem _ f))
theorem Pq {x:Zv}(h:good1 R l x)(e:Ext R R'):good1 R' l x:=by
 refine⟨Dl e h.1,?_,h.2.2⟩;rw[e x.1 (Gv h.1).2.2];exact h.2.1
theorem Qti (h:U7 R l N M)(e:Ext R R'):U7 R' l N M:=by
 cases l with
 |zero=>exact h
 |succ l=>
  obtain⟨G,h1,h2,f⟩:=h;exact⟨G,h1,h2,λx g=>Pq (f x g) e⟩
theorem Qaq (h:U7 R l N M):N.enough↔Iy (l:Int)<=M.length:=by
 have h1:=Qa1 h;have h2:=Qbm h;unfold Nd.enough Iy;unfold Nd.size at h2;rw[h1,h2]
theorem Qns (h:U7 R l N M)(u:∀x∈M.flatten,Dat R x)(e:N.may=true):Fits R N:=by
 cases l with
 |zero=>
  obtain⟨its,rfl,rfl⟩:=h;rw[Nb] at u;exact⟨e,u,λx g=>(by cases g)⟩
 |succ l=>
  obtain⟨G,rfl,rfl,E⟩:=h;refine⟨e,λx g=>(by cases g),λx g=>?_⟩;obtain⟨t,I,rfl⟩:=List.mem_map.1 g;obtain⟨h1,h2,_⟩:=E t I;obtain⟨T,J,K⟩:=Gv h1;refine⟨K,by show (R t.1).1.lvl+1=((l+1:Nat):Int);rw[J];omega,?_,h2⟩;show (R t.1).1.least=(Qx t.2 0).k;exact holds_least h1
where
 holds_least {R:Int->Nd × Int}:∀{l:Nat} {a:Int} {its:List Qq},Qe R l a its->(R a).1.least=(Qx its 0).k
  |0,a,its,h=>by
   rw[h.1];exact Qhb h.2
  |l+1,a,its,h=>by
   obtain⟨kids,parts,h1,h2,q,rfl,z⟩:=h;rw[h1,Ii _ h2];have F:0<kids.length:=List.length_pos_iff.2 h2;obtain⟨_,x,r,f,y⟩:=z 0 F;rw[y];match parts,q,f with
   |[],q,_=>rw[List.length_nil] at q;omega
   |p::ps,_,f=>
    have f:p=x::r:=f;rw[f,List.flatten_cons];rfl
theorem Qgc (h:U7 R l N M)(f:M≠[])(e:Ext R R'){a:Int}(g:R' a=(N,0)):Qe R' l a M.flatten:=by
 cases l with
 |zero=>
  obtain⟨its,rfl,rfl⟩:=h;rw[Nb];exact⟨g,λe=>f (by rw[e];rfl)⟩
 |succ l=>
  obtain⟨G,rfl,rfl,p⟩:=h;exact Ig (λx q=>(Pq (p x q) e).1) (λe=>f (by rw[e];rfl)) g
theorem Quo (h:U7 R l N M)(f:M≠[]):N.least=(Qx M.flatten 0).k:=by
 cases l with
 |zero=>
  obtain⟨its,rfl,rfl⟩:=h;rw[Nb];exact Qhb λe=>f (by rw[e];rfl)
 |succ l=>
  obtain⟨G,rfl,rfl,g⟩:=h;have p:G≠[]:=λe=>f (by rw[e];rfl)
  rw[Ii _ (by simpa using p)];match G,p,g with
  |x::r,_,g=>
   obtain⟨y,s,e⟩:=Et (g x (List.mem_cons_self ..)).1;show (Qx x.2 0).k=(Qx (x.2++(r.map (·.2)).flatten) 0).k;rw[e];rfl
def Nj (x:Qq):Prop:=x.k.may=true/\x.v.length<=28
theorem Qtj (h:U7 R l N M)(E:l<8)(h1:1<=M.length)(h2:0<l->2<=M.length)(g:M.length<=Iw (l:Int))(q:Zt M.flatten)(p:∀x∈M.flatten,Nj x):N.may=true:=by
 cases l with
 |zero=>
  obtain⟨its,rfl,rfl⟩:=h;rw[Nb] at q p;rw[List.length_map] at h1 g;exact Qzg h1 g q λx f=>⟨(p x f).1,(p x f).2⟩
 |succ l=>
  obtain⟨G,rfl,rfl,z⟩:=h;rw[List.length_map] at h2 g;have e:Iw ((l+1:Nat):Int)=12:=if_neg (by omega);rw[e] at g;exact Ip (by omega) (h2 (by omega)) g q (λx f=>(p x f).1) (λx f=>(z x f).2.2) λx f e=>by
   obtain⟨y,r,u⟩:=Et (z x f).1;rw[e] at u
   cases u
theorem Qhg (h:U7 R l N M)(hm:M.length=0):pieces N=[]:=by
 have e:=Qbm h;have:parts N=0:=by
  unfold parts;rw[e,hm];have:0<Iw N.lvl:=by unfold Iw;split<;>omega
  exact Nat.div_eq_of_lt (by omega)
 unfold pieces;rw[this];rfl
theorem Qjj (h:U7 R l N M)(h1:1<=M.length)(h2:M.length<=Iw (l:Int)):pieces N=[N.cut 0 M.length]:=by
 have f:=Qbm h;have e:=Qa1 h;have g:0<Iw (l:Int):=by unfold Iw;split<;>omega
 have:parts N=1:=by
  unfold parts;rw[f,e];refine (Nat.div_eq_iff g).2 ?_;omega
 unfold pieces;rw[this,f];simp
theorem Qjk (h:U7 R l N M)(h1:Iw (l:Int)<M.length)(h2:M.length<=2*Iw (l:Int)):pieces N=[N.cut 0 (M.length / 2),N.cut (M.length / 2) M.length]:=by
 have f:=Qbm h;have e:=Qa1 h;have g:0<Iw (l:Int):=by unfold Iw;split<;>omega
 have:parts N=2:=by
  unfold parts;rw[f,e];refine (Nat.div_eq_iff g).2 ?_;omega
 unfold pieces;rw[this,f];simp[List.range,List.range.loop]
end
structure Zz where
 N:Nd
 addr:Int
 next:Nat
 held:Bool
 shared:Bool
def Yg:List Int->Pl->Option Pl
 |[],P=>some P
 |a::l,P=>if P.C.Xc a=0 then Yg l ⟨P.S,P.C.ref a,P.L⟩ else none
def Ag:List Int->Pl->Option Pl
 |[],P=>some P
 |a::l,P=>if P.C.Jc a=0 then Ag l ⟨P.S,P.C.Zf a,P.L⟩ else none
def Pl.X7 (P:Pl)(s:Zz)(i j:Nat):Option Pl:=
 if s.shared=true then Yg (Wv s.N.lvl [s.N.cut 0 i,s.N.cut j s.N.size]).named P else if 0<s.N.lvl then some P else Ag (s.N.cut i j).named P
def Pl.spot (P:Pl)(D:DM)(a:Int)(held:Bool):Zz:=⟨P.Qb D a,a,0,held,held||decide (1<P.C.get a)⟩
def Pl.Yc (P:Pl)(D:DM)(above:Zz)(i:Nat):Bool:=decide (i<above.N.kids.length/\P.Qj D (Ql above.N.kids i).a=0/\(P.Qb D (Ql above.N.kids i).a).lvl=above.N.lvl-1)
def Pl.W9 (P:Pl)(D:DM)(above:Zz)(i:Nat):Zz:=P.spot D (Ql above.N.kids i).a above.shared
def Pl.near (P:Pl)(D:DM)(above:Zz)(i:Nat):Option Pl:=if P.Yc D above i=true then P.X7 (P.W9 D above i) 0 0 else none
structure Ia where
 N:Nd
 olds:List Zz
 i:Nat
 j:Nat
def Pl.have_ (P:Pl)(D:DM)(s:Zz)(b:Nd)(above:Zz):Option (Ia × Pl):=
 if Iy b.lvl<=b.size then some (⟨b,[s],above.next,above.next+1⟩,P)
 else if 0<above.next then (P.near D above (above.next-1)).map λe=>(⟨Wv (P.W9 D above (above.next-1)).N.lvl [(P.W9 D above (above.next-1)).N,b],[P.W9 D above (above.next-1),s],above.next-1,above.next+1⟩,e)
 else (P.near D above (above.next+1)).map λe=>(⟨Wv b.lvl [b,(P.W9 D above (above.next+1)).N],[s,P.W9 D above (above.next+1)],above.next,above.next+2⟩,e)
def Pl.leave (P:Pl)(s:Zz):Option Pl:=if s.held=true then some P else if P.C.Jc s.addr=0 then some ⟨P.S,P.C.Zf s.addr,P.L⟩ else none
def Ld:List Zz->Pl->List Nd->List Qk->Option (Pl × List Nd × List Qk)
 |[],P,rest,ks=>some (P,rest,ks)
 |s::olds,P,[],ks=>match P.leave s with
  |some P'=>Ld olds P' [] ks
  |none=>none
 |s::olds,P,b::rest,ks=>if s.shared=true\/P.C.fresh s.addr=false then match P.leave s with
   |some P'=>Ld olds P' (b::rest) ks
   |none=>none
  else if P.Qfz s.addr b=0 then Ld olds (P.Qch s.addr b) rest (ks++[⟨b.least,s.addr⟩]) else none
def Oi:List Nd->Pl->List Qk->Option (Pl × Option (List Qk))
 |[],P,ks=>some (P,some ks)
 |b::rest,P,ks=>if P.Xo b=0 then Oi rest (P.Xb b) (ks++[⟨b.least,P.Yd b⟩]) else if P.Xo b=6 then some (P.Xb b,none) else none
def Pl.Tq (P:Pl)(x:Ia):Option (Pl × Option (List Qk)):=match Ld x.olds P (pieces x.N) [] with
 |some (P',rest,ks)=>Oi rest P' ks
 |none=>none
def Pl.top (P:Pl)(s:Zz)(b:Nd):Option (Pl × Option Int):=
 if b.kids.length=1 then (P.leave s).map λe=>(e,some (Ql b.kids 0).a)
 else match P.Tq ⟨b,[s],0,0⟩ with
  |some (e,some ks)=>if ks.length=0 then some (e,some 0) else if ks.length=1 then some (e,some (Ql ks 0).a) else
    if e.Xo ⟨b.lvl+1,[],ks⟩=0 then some (e.Xb ⟨b.lvl+1,[],ks⟩,some (e.Yd ⟨b.lvl+1,[],ks⟩)) else if e.Xo ⟨b.lvl+1,[],ks⟩=6 then some (e.Xb ⟨b.lvl+1,[],ks⟩,none) else none
  |some (e,none)=>some (e,none)
  |none=>none
def Pe (s:Zz)(i j:Nat)(e:Nd):Nd:=Wv s.N.lvl [s.N.cut 0 i,e,s.N.cut j s.N.size]
def Qas (D:DM):List Zz->Pl->Zz->Nat->Nat->Nd->Option (Pl × Option Int)
 |[],P,s,i,j,come=>match P.X7 s i j with
  |some P1=>P1.top s (Pe s i j come)
  |none=>none
 |above::way,P,s,i,j,come=>match P.X7 s i j with
  |some P1=>match P1.have_ D s (Pe s i j come) above with
   |some (x,P2)=>match P2.Tq x with
    |some (P3,some ks)=>Qas D way P3 above x.i x.j ⟨x.N.lvl+1,[],ks⟩
    |some (P3,none)=>some (P3,none)
    |none=>none
   |none=>none
  |none=>none
def Pl.Vd (P:Pl)(D:DM)(k:Kd):Nat->Zz->List Zz->Option (List Zz × Zz)
 |0,s,up=>if s.N.lvl<=0 then some (up,s) else none
 |f+1,s,up=>if s.N.lvl<=0 then some (up,s) else if P.Yc D s (s.N.Xv k)=true then P.Vd D k f (P.W9 D s (s.N.Xv k)) ({ s with next:=s.N.Xv k }::up) else none
def Fh:Zz:=⟨Qu,0,0,true,true⟩
def Pl.way (P:Pl)(D:DM)(root:Int)(k:Kd):Option (List Zz × Zz):=if root=0 then some ([],Fh) else if P.Qj D root=0 then P.Vd D k 8 (P.spot D root false) [] else none
def Pl.Qpz (P:Pl)(D:DM)(root:Int)(x:Qq):Option (Pl × Option Int):=match P.way D root x.k with
 |some (up,s)=>Qas D up P s (s.N.Xv x.k) (s.N.Xv x.k+if foundAt s.N.keys x.k (s.N.Xv x.k)=true then 1 else 0) ⟨0,[x],[]⟩
 |none=>none
def Pl.Qoc (P:Pl)(D:DM)(root:Int)(k:Kd):Option (Pl × Option Int):=match P.way D root k with
 |some (up,s)=>Qas D up P s (s.N.Xv k) (s.N.Xv k+1) ⟨0,[],[]⟩
 |none=>none
theorem RB.stored {w:World}{b:Nat}{r:List Value}(H:RB w b r)(vs:List Value)(h:r.length=vs.length):RB (w.setCells b 0 vs) b vs:=by
 obtain⟨t,H⟩:=H;have:=Me b t vs 0 w r H (by omega);rw[Qbe r vs h] at this;exact⟨t,this⟩
theorem RB.cell {w:World}{b:Nat}{r:List Value}(H:RB w b r)(j:Nat){v:Value}(h:r[j]?=some v):w.cell? ⟨b,j,none⟩=some v:=by
 have:=H.range j v h;rwa [Nat.zero_add] at this
theorem RB.turned {w w':World}{b:Nat}{r:List Value}(H:RB w b r){S:Nat->Prop}(T:Turn S w w')(hb:¬S b):RB w' b r:=H.keep (T.block b H.lt hb)
def Ve (Q:World->Prop)(A:Option Addr)(n c:Nat)(xs:List Qq):Prop:=∃e,(∀w,Q w->Zg w 4 A n c e)/\e.length=xs.length/\∀(j:Nat) r x,e[j]?=some r->xs[j]?=some x->∃V p q,r=Yp x.k V p q/\∀w,Q w->Sl w V p q x.v
def Vf (Q:World->Prop)(B:Option Addr)(m d:Nat)(ks:List Qk):Prop:=∀w,Q w->Q7 w B m d ks
structure U6 (Q:World->Prop)(N:Nd)(A:Option Addr)(n c:Nat)(B:Option Addr)(m d:Nat):Prop where
 its:Ve Q A n c N.items
 Ic:Vf Q B m d N.kids
 ln:N.items.length=n
 lm:N.kids.length=m
 hn:n<=60/\n<=c/\c<=maxLen
 hm:m<=60/\m<=d/\d<=maxLen
section
variable {Q Q':World->Prop}{w w':World}{A B:Option Addr}{n c m d:Nat}{N:Nd}
theorem Ve.mono {xs:List Qq}(h:Ve Q A n c xs)(hq:∀w,Q' w->Q w):Ve Q' A n c xs:=by
 obtain⟨g,h1,h2,u⟩:=h;refine⟨g,λw f=>h1 w (hq w f),h2,λj r x y E=>?_⟩;obtain⟨V,p,q,e,z⟩:=u j r x y E;exact⟨V,p,q,e,λw f=>z w (hq w f)⟩
theorem U6.mono (h:U6 Q N A n c B m d)(hq:∀w,Q' w->Q w):U6 Q' N A n c B m d:=⟨h.its.mono hq,λw e=>h.Ic w (hq w e),h.ln,h.lm,h.hn,h.hm⟩
theorem Ve.Qaf {xs:List Qq}(h:Ve Q A n c xs)(hw:Q w):Je w A n c xs:=by
 obtain⟨f,h1,h2,g⟩:=h;refine⟨f,h1 w hw,h2,λj r x u z=>?_⟩;obtain⟨V,p,q,e,y⟩:=g j r x u z;exact⟨V,p,q,e,y w hw⟩
theorem Qt0 (Q:World->Prop):Ve Q none 0 0 []:=⟨[],λw _=>Qf0 w 4,rfl,λj r x e=>by simp at e⟩
theorem Qth (Q:World->Prop)(l:Int):U6 Q ⟨l,[],[]⟩ none 0 0 none 0 0:=⟨Qt0 Q,λw _=>Qf0 w 4,rfl,rfl,⟨by omega,by omega,by unfold maxLen;omega⟩,⟨by omega,by omega,by unfold maxLen;omega⟩⟩
def Wp (A:Option Addr)(c i:Nat):Option Addr:=if c=i then A else A.map (·.add (i*4))
theorem Ve.sub {xs:List Qq}(h:Ve Q A n c xs){i j:Nat}(hi:i<=j)(hj:j<=n)(_hc:n<=c):Ve Q (Wp A c i) (j-i) (c-i) ((xs.drop i).take (j-i)):=by
 obtain⟨g,h1,h2,p⟩:=h;refine⟨(g.drop i).take (j-i),λw u=>((h1 w u).drop (by omega)).take (by omega),by rw[List.length_take,List.length_take,List.length_drop,List.length_drop,h2],λk r x e f=>?_⟩;rw[List.getElem?_take] at e f;split at e
 ·rename_i q;rw[if_pos q] at f;rw[List.getElem?_drop] at e f;exact p _ r x e f
 ·cases e
theorem Vf.sub {ks:List Qk}(h:Vf Q B m d ks){i j:Nat}(hi:i<=j)(hj:j<=m):Vf Q (Wp B d i) (j-i) (d-i) ((ks.drop i).take (j-i)):=λw e=>(h w e).sub hi hj
def Px (l:Int)(A:Option Addr)(n c:Nat)(B:Option Addr)(m d:Nat):Value:=.agg #[.int .i64 l,.slice A n c,.slice B m d]
theorem Qxr (h:U6 Q N A n c B m d)(h0:N.lvl=0){i j:Nat}(hi:i<=j)(f:j<=n):U6 Q (N.cut i j) (Wp A c i) (j-i) (c-i) B m d:=by
 have e:N.cut i j=⟨N.lvl,(N.items.drop i).take (j-i),N.kids⟩:=if_pos h0;rw[e];have h1:=h.hn;have h2:=h.ln;refine⟨h.its.sub hi f h1.2.1,h.Ic,?_,h.lm,⟨by omega,by omega,by omega⟩,h.hm⟩;show ((N.items.drop i).take (j-i)).length=_;rw[List.length_take,List.length_drop];omega
theorem Qxs (h:U6 Q N A n c B m d)(h0:N.lvl≠0){i j:Nat}(hi:i<=j)(f:j<=m):U6 Q (N.cut i j) A n c (Wp B d i) (j-i) (d-i):=by
 have e:N.cut i j=⟨N.lvl,N.items,(N.kids.drop i).take (j-i)⟩:=if_neg h0;rw[e];have h1:=h.hm;have h2:=h.lm;refine⟨h.its,h.Ic.sub hi f,h.ln,?_,h.hn,⟨by omega,by omega,by omega⟩⟩;show ((N.kids.drop i).take (j-i)).length=_;rw[List.length_take,List.length_drop];omega
theorem U6.size (h:U6 Q N A n c B m d):N.size=n+m:=by unfold Nd.size;rw[h.ln,h.lm]
end
theorem O0 (l:Int)(A:Option Addr)(n c:Nat)(B:Option Addr)(m d:Nat)(hn:n<=1000)(hm:m<=1000)(w:World) :
  Calls Tryz.prog 188 #[Px l A n c B m d] w λe w'=>e=.returned (.int .i64 ((n+m:Nat):Int))/\Below w.1.size w w':=by
 have f:NB (w.alloc (.cells #[.int .i64 l,.slice A n c,.slice B m d] 178)) w.1.size l A n c B m d:=NB.new w _ _ _ _ _ _ _ _;have g:Below w.1.size w (w.alloc (.cells #[.int .i64 l,.slice A n c,.slice B m d] 178)):=Ib;have c1:=f.c1;have c2:=f.c2;unfold Px;go_enter Tryz.func188,Tryz.ntmps188
 go_wp2;go_ret;exact⟨rfl,g⟩
theorem Qae (l:Int)(A:Option Addr)(n c:Nat)(B:Option Addr)(m d:Nat)(w:World) :
  Calls Tryz.prog 233 #[Px l A n c B m d] w λe w'=>e=.returned (.tuple #[.int .i64 (Iy l:Int),.int .i64 (Iw l:Int)])/\Below w.1.size w w':=by
 have g:NB (w.alloc (.cells #[.int .i64 l,.slice A n c,.slice B m d] 178)) w.1.size l A n c B m d:=NB.new w _ _ _ _ _ _ _ _;have f:Below w.1.size w (w.alloc (.cells #[.int .i64 l,.slice A n c,.slice B m d] 178)):=Ib;have c0:=g.c0;unfold Px Iy Iw;by_cases h:l=0
 ·have p:(l==0)=true:=by simp[h]
  rw[if_pos h,if_pos h];clear h;go_enter Tryz.func233,Tryz.ntmps233
  go_wp2;go_ret2;exact⟨rfl,f⟩
 ·have p:(l==0)=false:=by simp[h]
  rw[if_neg h,if_neg h];clear h;go_enter Tryz.func233,Tryz.ntmps233
  go_wp2;go_ret2;exact⟨rfl,f⟩
theorem Ea {N:Nd}(h:N.may=true):N.named.length<=12:=by
 unfold Nd.named;rw[List.length_append,List.length_map];have p:=List.length_filterMap_le Vy N.items;by_cases g:N.lvl=0
 ·obtain⟨f,_,_,q⟩:=q12 h g;have e:N.kids=[]:=congrArg Nd.kids f;rw[e,List.length_nil];omega
 ·obtain⟨f,_,_,_,u,_⟩:=q13 h g;have e:N.items=[]:=congrArg Nd.items f;rw[e] at p ⊢;rw[List.filterMap_nil,List.length_nil];omega
section
variable {D:DM}{S0:Sp}{C0:Ct}{O H:List Int}{P:Pl}
theorem Keep.nonneg (K:Keep D S0 C0 O H P)(x:Int):0<=P.C.get x:=(Ct.Q5 K.c x).1
theorem Keep.low (K:Keep D S0 C0 O H P)(hH:H.length<=30000){c:Nat}(h0:P.C.get (c:Int)≠0):P.C.get (c:Int)<=60000:=by
 obtain⟨c0,p⟩:=K.first h0
 have h:=K.Xd.eq c c0 p;have h1:H.count (c:Int)<=H.length:=List.count_le_length;have h2:=Dj (K:=λb=>(P.hide D O (b:Int)).1.named) (most:=P.C.n) (k:=12) (out:=P.cnt) (λb f=>by
  show ((P.hide D O (b:Int)).1.named).length<=12;by_cases g:P.C.get (b:Int)=0
  ·by_cases e:(b:Int)∈O
   ·rw[Y1 e];exact Nat.zero_le _
   ·rw[Vt e,Vp g];exact Nat.zero_le _
  ·by_cases e:(b:Int)∈O
   ·rw[Y1 e];exact Nat.zero_le _
   ·rcases K.loc b f g e with L|L
    ·rw[q16 L];exact Nat.zero_le _
    ·exact Nat.le_trans (Ea L.may) (by omega)) c
 have q:=K.c.1.2;have f:=Ct.Q5 K.c (c:Int);have u:P.cnt c=(P.C.get (c:Int)).toNat:=rfl;omega
theorem Qly:∀(f:List Int) {H:List Int} {P:Pl},Keep D S0 C0 O H P->(∀x∈f,(P.hide D O x).2=0)->H.length+f.length<=30000->
  ∃e,Yg f P=some e/\Keep D S0 C0 O (f++H) e/\∀l,Move l D O O P e 0
 |[],H,P,K,_,_=>⟨P,rfl,K,λl=>Move.refl l D O P⟩
 |a::r,H,P,K,hx,hl=>by
  rw[List.length_cons] at hl;obtain⟨F,n,rfl,hn,h0⟩:=Fq (hx a (List.mem_cons_self ..));have p:=K.low (by omega) h0;obtain⟨z,u,q⟩:=K.ref h0 (by omega) F;obtain⟨e,E,y,G⟩:=Qly r u (λx g=>by
   have h1:=hx x (List.mem_cons_of_mem _ g);rw[(q 0).ext x h1];exact h1) (by rw[List.length_cons];omega)
  refine⟨e,?_,y.perm (λb _ _=>?_),λl=>(q l).trans K.nonneg (G l)⟩
  ·show (if P.C.Xc (n:Int)=0 then _ else none)=_;rw[if_pos z];exact E
  ·simp only[List.count_append,List.count_cons,List.cons_append];omega
theorem Qe5 {R:Int->Nd × Int}{l:Nat}{N:Nd}{M:List (List Qq)}(h:U7 R l N M)(g:∀x∈M.flatten,Dat R x):(∀x∈N.named,(R x).2=0)/\N.named.length<=M.length:=by
 cases l with
 |zero=>
  obtain⟨its,rfl,rfl⟩:=h;rw[Nb] at g;have e:(⟨0,its,[]⟩:Nd).named=its.filterMap Vy:=by unfold Nd.named;simp
  rw[e,List.length_map];refine⟨λc p=>?_,List.length_filterMap_le _ _⟩;obtain⟨x,f,e⟩:=List.mem_filterMap.1 p;rw[g x f c e]
 |succ l=>
  obtain⟨G,rfl,rfl,q⟩:=h;have e:(⟨((l+1:Nat):Int),[],G.map Qy⟩:Nd).named=(G.map Qy).map (·.a):=by unfold Nd.named;simp
  refine⟨λx f=>?_,by rw[e];simp⟩;rw[e] at f;obtain⟨y,z,rfl⟩:=List.mem_map.1 f;obtain⟨t,u,rfl⟩:=List.mem_map.1 z;exact (Gv (q t u).1).2.2
theorem Qb5 (z:Int)(Ns:List Nd)(a:Int):(Wv z Ns).named.count a=(Ns.map λN=>N.named.count a).sum:=by
 induction Ns with
 |nil=>rfl
 |cons N r ih=>
  rw[join_cons,List.map_cons,List.sum_cons,<-ih];unfold Nd.named Wv;simp only[List.map_append,List.filterMap_append,List.count_append];omega
def Ls (s:Zz)(i j:Nat):Nd:=Wv s.N.lvl [s.N.cut 0 i,s.N.cut j s.N.size]
structure Outside (R:Int->Nd × Int)(l:Nat)(N:Nd)(i j:Nat)(ML MR:List (List Qq)):Prop where
 left:U7 R l (N.cut 0 i) ML
 right:U7 R l (N.cut j N.size) MR
 lvl:N.lvl=(l:Int)
 li:ML.length=i
 size:N.size=j+MR.length
 ij:i<=j
theorem Qg5 {R:Int->Nd × Int}{l:Nat}{N:Nd}{M:List (List Qq)}(h:U7 R l N M){i j:Nat}(hi:i<=j)(g:j<=M.length):Outside R l N i j (M.take i) (M.drop j):=by
 have e:=Qbm h;refine⟨?_,?_,Qa1 h,by rw[List.length_take];omega,by rw[e,List.length_drop];omega,hi⟩
 ·have:=Qe4 h 0 i;simpa using this
 ·have:=Qe4 h j N.size;rw[e] at this ⊢;have f:(M.drop j).take (M.length-j)=M.drop j:=List.take_of_length_le (by rw[List.length_drop];omega);rw[f] at this;exact this
theorem Qnu {R:Int->Nd × Int}{l:Nat}{s:Zz}{i j:Nat}{f g:List (List Qq)}(h:Outside R l s.N i j f g):U7 R l (Ls s i j) (f++g):=by
 have h2:=Qc2 (R:=R) (l:=l) [(s.N.cut 0 i,f),(s.N.cut j s.N.size,g)] (λx e=>by
  rcases List.mem_cons.1 e with rfl|e
  ·exact h.left
  ·rcases List.mem_cons.1 e with rfl|e
   ·exact h.right
   ·cases e)
 unfold Ls;rw[h.lvl];simpa using h2
theorem Qtk {R:Int->Nd × Int}{l:Nat}{s:Zz}{g p q:List (List Qq)}{e:Nd}{i j:Nat}(h:Outside R l s.N i j g p)(u:U7 R l e q):U7 R l (Pe s i j e) (g++(q++p)):=by
 have h2:=Qc2 (R:=R) (l:=l) [(s.N.cut 0 i,g),(e,q),(s.N.cut j s.N.size,p)] (λx f=>by
  rcases List.mem_cons.1 f with rfl|f
  ·exact h.left
  ·rcases List.mem_cons.1 f with rfl|f
   ·exact u
   ·rcases List.mem_cons.1 f with rfl|f
    ·exact h.right
    ·cases f)
 unfold Pe;rw[h.lvl];simpa using h2
theorem Qfu (K:Keep D S0 C0 O H P){l:Nat}{s:Zz}{q u:List (List Qq)}{i j:Nat}(z:Outside (P.hide D O) l s.N i j q u)(f:∀x∈(q++u).flatten,Dat (P.hide D O) x)(g:s.shared=false->l=0->(s.N.cut i j).named=[])(J:q.length+u.length<=100)(I:H.length<=20000) :
  ∃y,P.X7 s i j=some y/\Keep D S0 C0 O ((if s.shared=true then (Ls s i j).named else [])++H) y/\∀l,Move l D O O P y 0:=by
 unfold Pl.X7;by_cases p:s.shared=true
 ·rw[if_pos p,if_pos p];obtain⟨F,G⟩:=Qe5 (Qnu z) f;refine Qly _ K F ?_;rw[List.length_append] at G;show H.length+(Ls s i j).named.length<=30000;omega
 ·rw[if_neg p,if_neg p];have e:=z.lvl;by_cases E:0<s.N.lvl
  ·rw[if_pos E];exact⟨P,rfl,K,λl=>Move.refl l D O P⟩
  ·rw[if_neg E,g (by cases e:s.shared with|true=>exact absurd e p|false=>rfl) (by omega)];exact⟨P,rfl,K,λl=>Move.refl l D O P⟩
def own (s:Zz):List Int:=if s.held=true then [] else [s.addr]
structure Zh (P:Pl)(D:DM)(O:List Int)(l:Int)(s:Zz):Prop where
 shared:s.shared=true->s.held=false->2<=P.C.get s.addr/\s.addr∉O/\(P.Qb D s.addr).lvl=l
 mine:s.shared=false->s.held=false/\s.addr∈O/\(P.Qb D s.addr).lvl=l/\P.Qj D s.addr=0
theorem Zh.above {l l':Int}{s:Zz}(h:Zh P D O l s){O':List Int}{P':Pl}(K:Keep D S0 C0 O H P)(ha:Jk l' D O O' P P')(hl:l'<l):Zh P' D O' l s:=by
 refine⟨λh1 h2=>?_,λh1=>?_⟩
 ·obtain⟨g,f,e⟩:=h.shared h1 h2;obtain⟨j1,j2,j3⟩:=ha s.addr (by omega) (by rw[e];exact hl);exact⟨by omega,λh=>f (j3.2 h),by rw[show P'.Qb D s.addr=P.Qb D s.addr from congrArg Prod.fst j2];exact e⟩
 ·obtain⟨g,f,e,p⟩:=h.mine h1;have q:=(K.opened _ f).2;obtain⟨j1,j2,j3⟩:=ha s.addr (by omega) (by rw[e];exact hl);exact⟨g,j3.1 f,by rw[show P'.Qb D s.addr=P.Qb D s.addr from congrArg Prod.fst j2];exact e,(congrArg Prod.snd j2).trans p⟩
def Qkn (O:List Int)(s:Zz):List Int:=if s.shared=true then O else less1 O s.addr
theorem Qix (K:Keep D S0 C0 O H P){l:Int}{s:Zz}(T:Zh P D O l s){X:List Int}(g:∀a:Nat,0<a->a<P.C.n->H.count (a:Int)=(own s++X).count (a:Int)) :
  ∃q,P.leave s=some q/\Keep D S0 C0 (Qkn O s) X q/\Move l D O (Qkn O s) P q 0/\∀x,x≠s.addr->q.C.get x=P.C.get x/\q.store D x=P.store D x:=by
 unfold Pl.leave;by_cases p:s.held=true
 ·have f:s.shared=true:=by
   cases e:s.shared with
   |true=>rfl
   |false=>have:=(T.mine e).1;rw[this] at p;cases p
  rw[if_pos p];have e:Qkn O s=O:=if_pos f;rw[e];have E:own s=[]:=if_pos p;rw[E] at g;exact⟨P,rfl,K.perm λa h1 h2=>(g a h1 h2).symm,Move.refl l D O P,λ_ _=>⟨rfl,rfl⟩⟩
 ·have I:s.held=false:=by cases e:s.held with|true=>exact absurd e p|false=>rfl
  rw[if_neg p];have E:own s=[s.addr]:=if_neg p;rw[E] at g;have other:∀c:Nat,∀x:Int,P.C.get (c:Int)≠0->x≠(c:Int)->(P.C.Zf (c:Int)).get x=P.C.get x/\Pl.store ⟨P.S,P.C.Zf (c:Int),P.L⟩ D x=P.store D x:=λc x h0 J=>by
   rw[(G9 h0).2];exact q30 J
  cases f:s.shared with
  |true=>
   obtain⟨Y,u,V⟩:=T.shared f I;obtain⟨c,F,G⟩:=Xr (C:=P.C) (a:=s.addr) (by omega);rw[F] at Y V g ⊢;obtain⟨z,y,W⟩:=K.Zf (H0:=X) Y g;have e:Qkn O s=O:=if_pos f;rw[if_pos z,e];exact⟨_,rfl,y,W l (by omega),λx U=>other c x (by omega) U⟩
  |false=>
   obtain⟨_,u,V,_⟩:=T.mine f;have Z:=(K.opened _ u).2;obtain⟨c,F,G⟩:=Xr (C:=P.C) (a:=s.addr) (by omega);have e:Qkn O s=less1 O s.addr:=if_neg (by rw[f];decide);rw[e];rw[F] at u V g Z ⊢;obtain⟨z,y,W⟩:=K.drop (H0:=X) u g;rw[if_pos z];exact⟨_,rfl,y,W l (by omega),λx U=>other c x (by omega) U⟩
end
