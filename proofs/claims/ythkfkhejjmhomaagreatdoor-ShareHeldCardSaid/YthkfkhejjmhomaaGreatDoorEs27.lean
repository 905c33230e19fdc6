/- A pool some of whose nodes are open: another content of an open node, and a new node -/
import Derived.Test.YthkfkhejjmhomaaGreatDoorGcA
import Derived.Test.YthkfkhejjmhomaaGreatDoorEs26
namespace Go.Proofs.YthkfkhejjmhomaaGreatDoor
open Go Go.RowKit Go.Proofs
set_option maxHeartbeats 4000000
set_option maxRecDepth 100000
structure Fits (R:Int->Nd × Int)(N:Nd):Prop where
 may:N.may=true
 data:∀x∈N.items,Dat R x
 kids:∀x∈N.kids,(R x.a).2=0/\(R x.a).1.lvl+1=N.lvl/\(R x.a).1.least=x.k/\(R x.a).1.enough
theorem Fits.ext {R R':Int->Nd × Int}{N:Nd}(h:Fits R N)(e:Ext R R'):Fits R' N:=
 ⟨h.may,λx b=>(h.data x b).ext e,λx b=>by
  obtain⟨f,p,u,y⟩:=h.kids x b;rw[e x.a f];exact⟨f,p,u,y⟩⟩
theorem Fits.told {R:Int->Nd × Int}{N:Nd}(h:Fits R N){c:Int}(b:c∈N.named):(R c).2=0:=by
 unfold Nd.named at b;rcases List.mem_append.1 b with b|b
 ·obtain⟨x,f,rfl⟩:=List.mem_map.1 b;exact (h.kids x f).1
 ·obtain⟨x,f,e⟩:=List.mem_filterMap.1 b;rw[h.data x f c e]
theorem Fits.loc {R R':Int->Nd × Int}{N:Nd}{a:Int}(h:Fits R N)(e:Ext R R')(ha:R' a=(N,0)):Loc R' a:=by
 have h2:=h.ext e;exact .inr ⟨by rw[ha],by rw[ha];exact h.may,by rw[ha];exact h2.data,by rw[ha];exact h2.kids⟩
section
variable {D:DM}{S0:Sp}{C0:Ct}{O H:List Int}{P:Pl}
theorem Keep.Eo (_K:Keep D S0 C0 O H P){N:Nd}(hN:Fits (P.hide D O) N){x:Int}(hx:(P.hide D O x).2≠0):x∉N.named:=λh=>hx (hN.told h)
theorem Keep.set (K:Keep D S0 C0 O H P){c:Nat}(ho:(c:Int)∈O)(hnE:P.Qd D (c:Int)=0)(hfr:P.C.fresh (c:Int)=true){N:Nd}(hN:Fits (P.hide D O) N){H0:List Int}(hH:∀a:Nat,0<a->a<P.C.n->H.count (a:Int)=N.named.count (a:Int)+H0.count (a:Int)) :
  P.Gl (c:Int) N=0/\Keep D S0 C0 (less1 O (c:Int)) H0 (P.Vm (c:Int) N)/\(P.Vm (c:Int) N).hide D (less1 O (c:Int)) (c:Int)=(N,0)/\(∀l,(P.Qa D (c:Int)).lvl<=l->Move l D O (less1 O (c:Int)) P (P.Vm (c:Int) N) 0)/\(P.Vm (c:Int) N).C=P.C/\∀x,x≠(c:Int)->(P.Vm (c:Int) N).store D x=P.store D x:=by
 obtain⟨a3,h1⟩:=K.opened _ ho;have h0:P.C.get (c:Int)≠0:=by omega
 obtain⟨c0,cn⟩:=K.first h0
 obtain⟨b,X⟩:=K.laid c hfr;have Z:P.live c=some b:=by unfold Pl.live;rw[if_neg h0];exact X
 have hE:=q9j D h0 Z;have y:isNode (P.L ((c:Int)).toNat)=true:=by
  rw[Int.toNat_natCast,X]
  cases b with
  |node M=>rfl
  |bytes k l=>
   have:bkE (Bk.bytes k l)=1:=rfl;rw[this] at hE;omega
 have hs:P.D8 (c:Int) N=true:=by
  unfold Pl.D8;rw[hN.may,hfr,y];rfl
 have e1:P.Gl (c:Int) N=0:=if_pos hs;have e2:P.Vm (c:Int) N=⟨P.S,P.C,upd P.L c (some (.node N))⟩:=by
  unfold Pl.Vm;rw[if_pos hs,Int.toNat_natCast]
 rw[e2];refine⟨e1,?_⟩;have E:∀x,x≠(c:Int)->Pl.store ⟨P.S,P.C,upd P.L c (some (.node N))⟩ D x=P.store D x:=λx f=>by
  by_cases Y:P.C.get x=0
  ·rw[q10 Y];exact q10 (P:=⟨P.S,P.C,upd P.L c (some (.node N))⟩) Y
  ·obtain⟨n,rfl,hn⟩:=Uc Y;unfold Pl.store Pl.Qa Pl.Qd Pl.live;show ((if P.C.get (n:Int)=0 then Zk else match (if P.C.get (((n:Int).toNat:Nat):Int)=0 then none else upd P.L c (some (.node N)) (n:Int).toNat) with|some (.node N)=>N|some (.bytes _ _)=>Zk|none=>_),(if P.C.get (n:Int)=0 then 1 else match (if P.C.get (((n:Int).toNat:Nat):Int)=0 then none else upd P.L c (some (.node N)) (n:Int).toNat) with|some (.node _)=>(0:Int)|some (.bytes _ _)=>1|none=>_))=_;rw[Int.toNat_natCast,Ag _ _ (λe=>f (by rw[e]))];rfl
 have G:Pl.store ⟨P.S,P.C,upd P.L c (some (.node N))⟩ D (c:Int)=(N,0):=by
  unfold Pl.store Pl.Qa Pl.Qd Pl.live;show ((if P.C.get (c:Int)=0 then Zk else match (if P.C.get (((c:Int).toNat:Nat):Int)=0 then none else upd P.L c (some (.node N)) (c:Int).toNat) with|some (.node N)=>N|some (.bytes _ _)=>Zk|none=>_),(if P.C.get (c:Int)=0 then 1 else match (if P.C.get (((c:Int).toNat:Nat):Int)=0 then none else upd P.L c (some (.node N)) (c:Int).toNat) with|some (.node _)=>(0:Int)|some (.bytes _ _)=>1|none=>_))=_;rw[Int.toNat_natCast,q0n,if_neg h0,if_neg h0,if_neg h0]
 have a0:(c:Int)∉less1 O (c:Int):=λh=>(Fg.1 h).2 rfl
 have u:Pl.hide ⟨P.S,P.C,upd P.L c (some (.node N))⟩ D (less1 O (c:Int)) (c:Int)=(N,0):=by
  rw[Et a0,D5 (P:=⟨P.S,P.C,upd P.L c (some (.node N))⟩) (congrArg Prod.snd G)];exact G
 have hh:∀x,x≠(c:Int)->Pl.hide ⟨P.S,P.C,upd P.L c (some (.node N))⟩ D (less1 O (c:Int)) x=P.hide D O x:=λx f=>by
  unfold Pl.hide;rw[q2t (P:=P) (P':=⟨P.S,P.C,upd P.L c (some (.node N))⟩) (E x f) Iff.rfl];by_cases I:x∈O
  ·rw[if_pos I,if_pos (Fg.2 ⟨I,f⟩)]
  ·rw[if_neg I,if_neg (λh=>I (Fg.1 h).1)]
 have F:Ext (P.hide D O) (Pl.hide ⟨P.S,P.C,upd P.L c (some (.node N))⟩ D (less1 O (c:Int))):=λx f=>hh x λe=>by
  rw[e,q22 ho] at f
  cases f
 have a1:(c:Int)∉N.named:=K.Eo hN (by rw[q22 ho];decide);refine⟨⟨⟨⟨K.Ze.ok.c,K.Ze.ok.res,K.Ze.ok.may,K.Ze.ok.sec,K.Ze.ok.gen,λa x f=>?_⟩,?_,λa x f=>?_⟩,λa T=>?_,?_,λx f=>?_,λa T U W=>?_⟩,u,λl hl=>⟨F,λx f a2=>?_,Nat.le_refl _,rfl⟩,rfl,λx f=>E x f⟩
 ·have f:upd P.L c (some (.node N)) a=some x:=f;by_cases e:a=c
  ·subst e;rw[q0n] at f;obtain rfl:=Option.some.inj f;exact qg0 hN.may
  ·rw[Ag _ _ e] at f;exact K.Ze.ok.fine a x f
 ·have:=K.Ze.sound;exact⟨this.free,this.n,this.Uj,⟨this.holds.may,this.holds.gen,this.holds.sec,this.holds.c,this.holds.res,this.holds.n,this.holds.slot,this.holds.other,this.holds.area⟩⟩
 ·have f:upd P.L c (some (.node N)) a=some x:=f;by_cases e:a=c
  ·subst e;rw[q0n] at f;obtain rfl:=Option.some.inj f;exact⟨trivial,q4w hN.may⟩
  ·rw[Ag _ _ e] at f;exact K.Ze.kinds a x f
 ·show ∃b,upd P.L c (some (.node N)) a=some b;by_cases e:a=c
  ·subst e;exact⟨_,q0n _ _ _⟩
  ·rw[Ag _ _ e];exact K.laid a T
 ·have J:=K.Vz.set (c:=c) (ks:=N.named) (H0:=H0) (K':=λb=>(Pl.hide ⟨P.S,P.C,upd P.L c (some (.node N))⟩ D (less1 O (c:Int)) (b:Int)).1.named) cn (by unfold Pl.cnt;omega) hH (by show (Pl.hide ⟨P.S,P.C,upd P.L c (some (.node N))⟩ D (less1 O (c:Int)) (c:Int)).1.named=_;rw[u]) (λb X p=>by
   show (Pl.hide ⟨P.S,P.C,upd P.L c (some (.node N))⟩ D (less1 O (c:Int)) (b:Int)).1.named=_;rw[hh _ (by omega)])
  have J:Jz P.C.n P.cnt (λb=>(Pl.hide ⟨P.S,P.C,upd P.L c (some (.node N))⟩ D (less1 O (c:Int)) (b:Int)).1.named) ((P.hide D O (c:Int)).1.named++H0):=J;rw[q22 ho] at J;exact J
 ·obtain⟨f,p⟩:=Fg.1 f;obtain⟨k1,k2⟩:=K.opened x f;obtain⟨n,rfl,hn⟩:=Uc (C:=P.C) (a:=x) (by omega);obtain⟨n0,_⟩:=K.first (c:=n) (by omega)
  refine⟨?_,k2⟩;have h3:=hH n n0 hn;have h4:=List.count_pos_iff.2 k1;have h5:N.named.count (n:Int)=0:=List.count_eq_zero.2 (K.Eo hN (by rw[q22 f];decide));exact List.count_pos_iff.1 (by omega)
 ·by_cases e:a=c
  ·subst e;exact hN.loc F u
  ·exact (K.loc a T U λh=>W (Fg.2 ⟨h,by omega⟩)).ext F
 ·have p:x≠(c:Int):=λe=>by subst e;omega
  exact⟨Int.le_refl _,E x p,⟨λh=>Fg.2 ⟨h,p⟩,λh=>(Fg.1 h).1⟩⟩
theorem Keep.put (K:Keep D S0 C0 O H P){c:Nat}(hp:P.C.pick=some c){N:Nd}(hN:Fits (P.hide D O) N){H0:List Int}(hH:∀a:Nat,0<a->a<P.C.n->H.count (a:Int)=N.named.count (a:Int)+H0.count (a:Int)) :
  P.Jo N=0/\P.Yw N=(c:Int)/\Keep D S0 C0 O ((c:Int)::H0) (P.Jm N)/\(P.Jm N).hide D O (c:Int)=(N,0)/\(∀l,Move l D O O P (P.Jm N) 1)/\1<=c/\c<2048:=by
 obtain⟨p1,p2,p3,p4,_⟩:=Ct.J4 hp;obtain⟨v1,v2,G⟩:=qe1 hp hN.may;have hz:P.C.get (c:Int)=0:=by
  unfold Ct.get;rw[if_pos (by omega),Int.toNat_natCast];exact p3
 have a2:P.C.first=2+2*Ql P.C.n:=rfl
 have J:(c:Int)∉O:=λh=>by
  have:=(K.opened _ h).2;omega
 have f:=λb (F:b<P.C.n)=>qdx hp (.node N) b F
 have U:=qfq hp (.node N);have hn:(P.Jm N).C.n=P.C.n:=by rw[G];exact qme _
 obtain⟨s1,_,s3⟩:=K.Ze.put hN.may (by have:=Ct.U3 hp;omega);have E:(P.Jm N).hide D O (c:Int)=(N,0):=by
  have e:=qpt D hp hN.may;rw[Et J,D5 (congrArg Prod.snd e)];exact e
 have X:∀x,x≠(c:Int)->(P.Jm N).store D x=P.store D x:=λx y=>by
  by_cases F:0<=x/\x<(P.C.n:Int)
  ·obtain⟨n,rfl⟩:∃n:Nat,x=(n:Int):=⟨x.toNat,by omega⟩;have f:=f n (by omega);have U:=U n;rw[if_neg (by omega)] at f U;rw[G];unfold Pl.store Pl.Qa Pl.Qd Pl.live;rw[Int.toNat_natCast,f,U]
  ·have h1:P.C.get x=0:=by unfold Ct.get;rw[if_neg F]
   have h2:(P.Jm N).C.get x=0:=by unfold Ct.get;rw[hn,if_neg F]
   rw[q10 h1,q10 h2]
 have hh:∀x,x≠(c:Int)->(P.Jm N).hide D O x=P.hide D O x:=λx y=>by
  have a0:(P.Jm N).C.get x=P.C.get x:=by
   by_cases F:0<=x/\x<(P.C.n:Int)
   ·obtain⟨n,rfl⟩:∃n:Nat,x=(n:Int):=⟨x.toNat,by omega⟩;have f:=f n (by omega);rw[if_neg (by omega)] at f;rw[G];exact f
   ·unfold Ct.get;rw[hn,if_neg F,if_neg F]
  unfold Pl.hide;rw[q2t (X x y) (by rw[a0])]
 have T:Ext (P.hide D O) ((P.Jm N).hide D O):=λx y=>hh x λe=>by
  rw[e,Et J,q32 hz] at y
  cases y
 have a1:=K.c.1.2;refine⟨v2,v1,⟨s1,λa u=>?_,?_,λx y=>?_,λa u W Z=>?_⟩,E,λl=>⟨T,λx y _=>?_,by omega,hn⟩,by omega,by omega⟩
 ·rw[G,U a];by_cases e:a=c
  ·exact⟨_,if_pos e⟩
  ·rw[if_neg e];refine K.laid a ?_;rw[G,q2n hp] at u;have u:P.C.alloc.fresh (a:Int)=true:=u;rw[(Ct.Jh hp).2.2] at u;have Y:a<P.C.n:=by
    obtain⟨n,e1,h2⟩:=Uc (q2w u);rw[P.C.Zf] at h2;omega
   unfold Ct.fresh at u ⊢;rw[Oh P.C a Y,if_neg e] at u;exact u
 ·rw[hn];refine K.Vz.put (c:=c) (ks:=N.named) (H0:=H0) (cnt':=(P.Jm N).cnt) (by omega) p1 (by unfold Pl.cnt;rw[hz];rfl) hH ?_ ?_ ?_ ?_
  ·unfold Pl.cnt;rw[G,f c p1,if_pos rfl];rfl
  ·intro b F p;unfold Pl.cnt;rw[G,f b F,if_neg p]
  ·show ((P.Jm N).hide D O (c:Int)).1.named=_;rw[E]
  ·intro b F p;show ((P.Jm N).hide D O (b:Int)).1.named=_;rw[hh _ (by omega)]
 ·obtain⟨k1,k2⟩:=K.opened x y;obtain⟨n,rfl,I⟩:=Uc (C:=P.C) (a:=x) (by omega);obtain⟨n0,_⟩:=K.first (c:=n) (by omega)
  have p:n≠c:=λe=>J (e▸y)
  refine⟨List.mem_cons_of_mem _ ?_,?_⟩
  ·have h3:=hH n n0 I;have h4:=List.count_pos_iff.2 k1;have h5:N.named.count (n:Int)=0:=List.count_eq_zero.2 (K.Eo hN (by rw[q22 y];decide));exact List.count_pos_iff.1 (by omega)
  ·rw[G,f n I,if_neg p];exact k2
 ·rw[hn] at u;by_cases e:a=c
  ·subst e;exact hN.loc T E
  ·rw[G,f a u,if_neg e] at W;exact (K.loc a u W Z).ext T
 ·obtain⟨n,rfl,I⟩:=Uc y;have p:n≠c:=λe=>y (by rw[e];exact hz)
  refine⟨?_,X _ (by omega),Iff.rfl⟩;rw[G,f n I,if_neg p];exact Int.le_refl _
end
def Nd.size (N:Nd):Nat:=N.items.length+N.kids.length
def Qr (l:Int):Nat:=if l=0 then 3 else 6
def Qq (l:Int):Nat:=if l=0 then 6 else 12
def Nd.cut (N:Nd)(i j:Nat):Nd:=if N.lvl=0 then ⟨N.lvl,(N.items.drop i).take (j-i),N.kids⟩ else ⟨N.lvl,N.items,(N.kids.drop i).take (j-i)⟩
def Zz (l:Int)(Ns:List Nd):Nd:=⟨l,Ns.flatMap (·.items),Ns.flatMap (·.kids)⟩
def parts (N:Nd):Nat:=(N.size+Qq N.lvl-1) / Qq N.lvl
def pieces (N:Nd):List Nd:=(List.range (parts N)).map λi=>N.cut (N.size*i / parts N) (N.size*(i+1) / parts N)
def good1 (R:Int->Nd × Int)(l:Nat)(x:Ja):Prop:=Qi R l x.1 x.2/\(R x.1).1.enough/\1<=x.1/\x.1<2048
def Yt (R:Int->Nd × Int):Nat->Nd->List (List Qg)->Prop
 |0,N,M=>∃its:List Qg,N=⟨0,its,[]⟩/\M=its.map λx=>[x]
 |l+1,N,M=>∃G:List Ja,N=⟨((l+1:Nat):Int),[],G.map Qp⟩/\M=G.map (·.2)/\∀x∈G,good1 R l x
section
variable {R R':Int->Nd × Int}{l:Nat}{N:Nd}{M:List (List Qg)}
theorem Po:∀(its:List Qg),(its.map λx=>[x]).flatten=its
 |[]=>rfl
 |x::r=>by rw[List.map_cons,List.flatten_cons,Po r];rfl
theorem q4y (h:Yt R l N M):N.lvl=(l:Int):=by
 cases l with
 |zero=>obtain⟨its,rfl,_⟩:=h;rfl
 |succ l=>obtain⟨G,rfl,_⟩:=h;rfl
theorem q5l (h:Yt R l N M):N.size=M.length:=by
 cases l with
 |zero=>obtain⟨its,rfl,rfl⟩:=h;simp[Nd.size]
 |succ l=>obtain⟨G,rfl,rfl,_⟩:=h;simp[Nd.size]
theorem qan (h:Yt R l N M)(i j:Nat):Yt R l (N.cut i j) ((M.drop i).take (j-i)):=by
 cases l with
 |zero=>
  obtain⟨its,rfl,rfl⟩:=h;refine⟨(its.drop i).take (j-i),?_,by rw[List.map_take,List.map_drop]⟩;unfold Nd.cut;rw[if_pos rfl]
 |succ l=>
  obtain⟨G,rfl,rfl,b⟩:=h;refine⟨(G.drop i).take (j-i),?_,by rw[List.map_take,List.map_drop],λx e=>b x (List.mem_of_mem_drop (List.mem_of_mem_take e))⟩;unfold Nd.cut;rw[if_neg (by show ¬((l+1:Nat):Int)=0;omega),List.map_take,List.map_drop]
theorem qxc (R:Int->Nd × Int)(l:Nat):Yt R l ⟨(l:Int),[],[]⟩ []:=by
 cases l with
 |zero=>exact⟨[],rfl,rfl⟩
 |succ l=>exact⟨[],rfl,rfl,λx b=>(by cases b)⟩
theorem qxd {e:Nd}{p:List (List Qg)}(h:Yt R l N M)(h2:Yt R l e p):Yt R l ⟨(l:Int),N.items++e.items,N.kids++e.kids⟩ (M++p):=by
 cases l with
 |zero=>
  obtain⟨its,rfl,rfl⟩:=h;obtain⟨b,rfl,rfl⟩:=h2;exact⟨its++b,rfl,by rw[List.map_append]⟩
 |succ l=>
  obtain⟨G,rfl,rfl,y⟩:=h;obtain⟨u,rfl,rfl,f⟩:=h2;refine⟨G++u,by rw[List.map_append];rfl,by rw[List.map_append],λx E=>?_⟩;rcases List.mem_append.1 E with h|h
  ·exact y x h
  ·exact f x h
theorem qg3 (z:Int)(A:Nd)(Ns:List Nd):Zz z (A::Ns)=⟨z,A.items++(Zz z Ns).items,A.kids++(Zz z Ns).kids⟩:=by
 unfold Zz;rw[List.flatMap_cons,List.flatMap_cons]
theorem q76:∀(b:List (Nd × List (List Qg))),(∀x∈b,Yt R l x.1 x.2)->Yt R l (Zz (l:Int) (b.map (·.1))) (b.map (·.2)).flatten
 |[],_=>qxc R l
 |x::r,h=>by
  rw[List.map_cons,List.map_cons,List.flatten_cons,qg3];exact qxd (h x (List.mem_cons_self ..)) (q76 r λy e=>h y (List.mem_cons_of_mem _ e))
theorem q2b {x:Ja}(h:good1 R l x)(e:Ext R R'):good1 R' l x:=by
 refine⟨q13 e h.1,?_,h.2.2⟩;rw[e x.1 (Ce h.1).2.2];exact h.2.1
theorem qq0 (h:Yt R l N M)(e:Ext R R'):Yt R' l N M:=by
 cases l with
 |zero=>exact h
 |succ l=>
  obtain⟨G,h1,h2,b⟩:=h;exact⟨G,h1,h2,λx f=>q2b (b x f) e⟩
theorem q3m (h:Yt R l N M):N.enough↔Qr (l:Int)<=M.length:=by
 have h1:=q4y h;have h2:=q5l h;unfold Nd.enough Qr;unfold Nd.size at h2;rw[h1,h2]
theorem qki (h:Yt R l N M)(y:∀x∈M.flatten,Dat R x)(b:N.may=true):Fits R N:=by
 cases l with
 |zero=>
  obtain⟨its,rfl,rfl⟩:=h;rw[Po] at y;exact⟨b,y,λx f=>(by cases f)⟩
 |succ l=>
  obtain⟨G,rfl,rfl,I⟩:=h;refine⟨b,λx f=>(by cases f),λx f=>?_⟩;obtain⟨t,K,rfl⟩:=List.mem_map.1 f;obtain⟨h1,h2,_⟩:=I t K;obtain⟨W,T,U⟩:=Ce h1;refine⟨U,by show (R t.1).1.lvl+1=((l+1:Nat):Int);rw[T];omega,?_,h2⟩;show (R t.1).1.least=(Qz t.2 0).k;exact holds_least h1
where
 holds_least {R:Int->Nd × Int}:∀{l:Nat} {a:Int} {its:List Qg},Qi R l a its->(R a).1.least=(Qz its 0).k
  |0,a,its,h=>by
   rw[h.1];exact qam h.2
  |l+1,a,its,h=>by
   obtain⟨kids,parts,h1,h2,u,rfl,F⟩:=h;rw[h1,qce _ h2];have J:0<kids.length:=List.length_pos_iff.2 h2;obtain⟨_,x,r,e,E⟩:=F 0 J;rw[E];match parts,u,e with
   |[],u,_=>rw[List.length_nil] at u;omega
   |p::ps,_,e=>
    have e:p=x::r:=e;rw[e,List.flatten_cons];rfl
theorem qao (h:Yt R l N M)(b:M≠[])(e:Ext R R'){a:Int}(f:R' a=(N,0)):Qi R' l a M.flatten:=by
 cases l with
 |zero=>
  obtain⟨its,rfl,rfl⟩:=h;rw[Po];exact⟨f,λe=>b (by rw[e];rfl)⟩
 |succ l=>
  obtain⟨G,rfl,rfl,p⟩:=h;exact qhk (λx u=>(q2b (p x u) e).1) (λe=>b (by rw[e];rfl)) f
theorem qq1 (h:Yt R l N M)(b:M≠[]):N.least=(Qz M.flatten 0).k:=by
 cases l with
 |zero=>
  obtain⟨its,rfl,rfl⟩:=h;rw[Po];exact qam λe=>b (by rw[e];rfl)
 |succ l=>
  obtain⟨G,rfl,rfl,f⟩:=h;have p:G≠[]:=λe=>b (by rw[e];rfl)
  rw[qce _ (by simpa using p)];match G,p,f with
  |x::r,_,f=>
   obtain⟨y,s,e⟩:=q60 (f x (List.mem_cons_self ..)).1;show (Qz x.2 0).k=(Qz (x.2++(r.map (·.2)).flatten) 0).k;rw[e];rfl
def Zr (x:Qg):Prop:=x.k.may=true/\x.v.length<=28
theorem qq2 (h:Yt R l N M)(I:l<8)(h1:1<=M.length)(h2:0<l->2<=M.length)(f:M.length<=Qq (l:Int))(u:Qk M.flatten)(p:∀x∈M.flatten,Zr x):N.may=true:=by
 cases l with
 |zero=>
  obtain⟨its,rfl,rfl⟩:=h;rw[Po] at u p;rw[List.length_map] at h1 f;exact qsz h1 f u λx b=>⟨(p x b).1,(p x b).2⟩
 |succ l=>
  obtain⟨G,rfl,rfl,F⟩:=h;rw[List.length_map] at h2 f;have e:Qq ((l+1:Nat):Int)=12:=if_neg (by omega);rw[e] at f;exact qob (by omega) (h2 (by omega)) f u (λx b=>(p x b).1) (λx b=>(F x b).2.2) λx b e=>by
   obtain⟨y,r,E⟩:=q60 (F x b).1;rw[e] at E
   cases E
theorem qap (h:Yt R l N M)(hm:M.length=0):pieces N=[]:=by
 have b:=q5l h;have:parts N=0:=by
  unfold parts;rw[b,hm];have:0<Qq N.lvl:=by unfold Qq;split<;>omega
  exact Nat.div_eq_of_lt (by omega)
 unfold pieces;rw[this];rfl
theorem qch (h:Yt R l N M)(h1:1<=M.length)(h2:M.length<=Qq (l:Int)):pieces N=[N.cut 0 M.length]:=by
 have e:=q5l h;have b:=q4y h;have f:0<Qq (l:Int):=by unfold Qq;split<;>omega
 have:parts N=1:=by
  unfold parts;rw[e,b];refine (Nat.div_eq_iff f).2 ?_;omega
 unfold pieces;rw[this,e];simp
theorem qci (h:Yt R l N M)(h1:Qq (l:Int)<M.length)(h2:M.length<=2*Qq (l:Int)):pieces N=[N.cut 0 (M.length / 2),N.cut (M.length / 2) M.length]:=by
 have e:=q5l h;have b:=q4y h;have f:0<Qq (l:Int):=by unfold Qq;split<;>omega
 have:parts N=2:=by
  unfold parts;rw[e,b];refine (Nat.div_eq_iff f).2 ?_;omega
 unfold pieces;rw[this,e];simp[List.range,List.range.loop]
end
structure Qs where
 N:Nd
 addr:Int
 next:Nat
 held:Bool
 shared:Bool
def Ui:List Int->Pl->Option Pl
 |[],P=>some P
 |a::l,P=>if P.C.Yg a=0 then Ui l ⟨P.S,P.C.ref a,P.L⟩ else none
def G8:List Int->Pl->Option Pl
 |[],P=>some P
 |a::l,P=>if P.C.Zh a=0 then G8 l ⟨P.S,P.C.Qj a,P.L⟩ else none
def Pl.Qv (P:Pl)(s:Qs)(i j:Nat):Option Pl:=
 if s.shared=true then Ui (Zz s.N.lvl [s.N.cut 0 i,s.N.cut j s.N.size]).named P else if 0<s.N.lvl then some P else G8 (s.N.cut i j).named P
def Pl.spot (P:Pl)(D:DM)(a:Int)(held:Bool):Qs:=⟨P.Qa D a,a,0,held,held||decide (1<P.C.get a)⟩
def Pl.Wi (P:Pl)(D:DM)(above:Qs)(i:Nat):Bool:=decide (i<above.N.kids.length/\P.Qd D (Qh above.N.kids i).a=0/\(P.Qa D (Qh above.N.kids i).a).lvl=above.N.lvl-1)
def Pl.Jf (P:Pl)(D:DM)(above:Qs)(i:Nat):Qs:=P.spot D (Qh above.N.kids i).a above.shared
def Pl.near (P:Pl)(D:DM)(above:Qs)(i:Nat):Option Pl:=if P.Wi D above i=true then P.Qv (P.Jf D above i) 0 0 else none
structure Ri where
 N:Nd
 olds:List Qs
 i:Nat
 j:Nat
def Pl.have_ (P:Pl)(D:DM)(s:Qs)(b:Nd)(above:Qs):Option (Ri × Pl):=
 if Qr b.lvl<=b.size then some (⟨b,[s],above.next,above.next+1⟩,P)
 else if 0<above.next then (P.near D above (above.next-1)).map λe=>(⟨Zz (P.Jf D above (above.next-1)).N.lvl [(P.Jf D above (above.next-1)).N,b],[P.Jf D above (above.next-1),s],above.next-1,above.next+1⟩,e)
 else (P.near D above (above.next+1)).map λe=>(⟨Zz b.lvl [b,(P.Jf D above (above.next+1)).N],[s,P.Jf D above (above.next+1)],above.next,above.next+2⟩,e)
def Pl.leave (P:Pl)(s:Qs):Option Pl:=if s.held=true then some P else if P.C.Zh s.addr=0 then some ⟨P.S,P.C.Qj s.addr,P.L⟩ else none
def Gh:List Qs->Pl->List Nd->List Qm->Option (Pl × List Nd × List Qm)
 |[],P,rest,ks=>some (P,rest,ks)
 |s::olds,P,[],ks=>match P.leave s with
  |some P'=>Gh olds P' [] ks
  |none=>none
 |s::olds,P,b::rest,ks=>if s.shared=true\/P.C.fresh s.addr=false then match P.leave s with
   |some P'=>Gh olds P' (b::rest) ks
   |none=>none
  else if P.Gl s.addr b=0 then Gh olds (P.Vm s.addr b) rest (ks++[⟨b.least,s.addr⟩]) else none
def J8:List Nd->Pl->List Qm->Option (Pl × Option (List Qm))
 |[],P,ks=>some (P,some ks)
 |b::rest,P,ks=>if P.Jo b=0 then J8 rest (P.Jm b) (ks++[⟨b.least,P.Yw b⟩]) else if P.Jo b=6 then some (P.Jm b,none) else none
def Pl.Y1 (P:Pl)(x:Ri):Option (Pl × Option (List Qm)):=match Gh x.olds P (pieces x.N) [] with
 |some (P',rest,ks)=>J8 rest P' ks
 |none=>none
def Pl.top (P:Pl)(s:Qs)(b:Nd):Option (Pl × Option Int):=
 if b.kids.length=1 then (P.leave s).map λe=>(e,some (Qh b.kids 0).a)
 else match P.Y1 ⟨b,[s],0,0⟩ with
  |some (e,some ks)=>if ks.length=0 then some (e,some 0) else if ks.length=1 then some (e,some (Qh ks 0).a) else
    if e.Jo ⟨b.lvl+1,[],ks⟩=0 then some (e.Jm ⟨b.lvl+1,[],ks⟩,some (e.Yw ⟨b.lvl+1,[],ks⟩)) else if e.Jo ⟨b.lvl+1,[],ks⟩=6 then some (e.Jm ⟨b.lvl+1,[],ks⟩,none) else none
  |some (e,none)=>some (e,none)
  |none=>none
def Xr (s:Qs)(i j:Nat)(b:Nd):Nd:=Zz s.N.lvl [s.N.cut 0 i,b,s.N.cut j s.N.size]
def Y8 (D:DM):List Qs->Pl->Qs->Nat->Nat->Nd->Option (Pl × Option Int)
 |[],P,s,i,j,come=>match P.Qv s i j with
  |some P1=>P1.top s (Xr s i j come)
  |none=>none
 |above::way,P,s,i,j,come=>match P.Qv s i j with
  |some P1=>match P1.have_ D s (Xr s i j come) above with
   |some (x,P2)=>match P2.Y1 x with
    |some (P3,some ks)=>Y8 D way P3 above x.i x.j ⟨x.N.lvl+1,[],ks⟩
    |some (P3,none)=>some (P3,none)
    |none=>none
   |none=>none
  |none=>none
def Pl.Gn (P:Pl)(D:DM)(k:Kd):Nat->Qs->List Qs->Option (List Qs × Qs)
 |0,s,up=>if s.N.lvl<=0 then some (up,s) else none
 |f+1,s,up=>if s.N.lvl<=0 then some (up,s) else if P.Wi D s (s.N.Zb k)=true then P.Gn D k f (P.Jf D s (s.N.Zb k)) ({ s with next:=s.N.Zb k }::up) else none
def q49:Qs:=⟨Zk,0,0,true,true⟩
def Pl.way (P:Pl)(D:DM)(root:Int)(k:Kd):Option (List Qs × Qs):=if root=0 then some ([],q49) else if P.Qd D root=0 then P.Gn D k 8 (P.spot D root false) [] else none
def Pl.Pn (P:Pl)(D:DM)(root:Int)(x:Qg):Option (Pl × Option Int):=match P.way D root x.k with
 |some (up,s)=>Y8 D up P s (s.N.Zb x.k) (s.N.Zb x.k+if Kz s.N.keys x.k (s.N.Zb x.k)=true then 1 else 0) ⟨0,[x],[]⟩
 |none=>none
def Pl.Oz (P:Pl)(D:DM)(root:Int)(k:Kd):Option (Pl × Option Int):=match P.way D root k with
 |some (up,s)=>Y8 D up P s (s.N.Zb k) (s.N.Zb k+1) ⟨0,[],[]⟩
 |none=>none
theorem RB.stored {w:World}{b:Nat}{r:List Value}(H:RB w b r)(vs:List Value)(h:r.length=vs.length):RB (w.setCells b 0 vs) b vs:=by
 obtain⟨t,H⟩:=H;have:=q0z b t vs 0 w r H (by omega);rw[q41 r vs h] at this;exact⟨t,this⟩
theorem RB.cell {w:World}{b:Nat}{r:List Value}(H:RB w b r)(j:Nat){v:Value}(h:r[j]?=some v):w.cell? ⟨b,j,none⟩=some v:=by
 have:=H.range j v h;rwa [Nat.zero_add] at this
theorem RB.turned {w w':World}{b:Nat}{r:List Value}(H:RB w b r){S:Nat->Prop}(T:Turn S w w')(hb:¬S b):RB w' b r:=H.keep (T.block b H.lt hb)
def Rh (Q:World->Prop)(A:Option Addr)(n c:Nat)(xs:List Qg):Prop:=∃b,(∀w,Q w->Js w 4 A n c b)/\b.length=xs.length/\∀(j:Nat) r x,b[j]?=some r->xs[j]?=some x->∃V p q,r=Vh x.k V p q/\∀w,Q w->Sl w V p q x.v
def Ry (Q:World->Prop)(B:Option Addr)(m d:Nat)(ks:List Qm):Prop:=∀w,Q w->Zp w B m d ks
structure Jg (Q:World->Prop)(N:Nd)(A:Option Addr)(n c:Nat)(B:Option Addr)(m d:Nat):Prop where
 its:Rh Q A n c N.items
 Bd:Ry Q B m d N.kids
 ln:N.items.length=n
 lm:N.kids.length=m
 hn:n<=60/\n<=c/\c<=maxLen
 hm:m<=60/\m<=d/\d<=maxLen
section
variable {Q Q':World->Prop}{w w':World}{A B:Option Addr}{n c m d:Nat}{N:Nd}
theorem Rh.mono {xs:List Qg}(h:Rh Q A n c xs)(hq:∀w,Q' w->Q w):Rh Q' A n c xs:=by
 obtain⟨f,h1,h2,u⟩:=h;refine⟨f,λw b=>h1 w (hq w b),h2,λj r x y F=>?_⟩;obtain⟨V,p,q,e,E⟩:=u j r x y F;exact⟨V,p,q,e,λw b=>E w (hq w b)⟩
theorem Jg.mono (h:Jg Q N A n c B m d)(hq:∀w,Q' w->Q w):Jg Q' N A n c B m d:=⟨h.its.mono hq,λw b=>h.Bd w (hq w b),h.ln,h.lm,h.hn,h.hm⟩
theorem Rh.J5 {xs:List Qg}(h:Rh Q A n c xs)(hw:Q w):Jd w A n c xs:=by
 obtain⟨b,h1,h2,f⟩:=h;refine⟨b,h1 w hw,h2,λj r x u E=>?_⟩;obtain⟨V,p,q,e,y⟩:=f j r x u E;exact⟨V,p,q,e,y w hw⟩
theorem qq3 (Q:World->Prop):Rh Q none 0 0 []:=⟨[],λw _=>q8a w 4,rfl,λj r x b=>by simp at b⟩
theorem qq4 (Q:World->Prop)(l:Int):Jg Q ⟨l,[],[]⟩ none 0 0 none 0 0:=⟨qq3 Q,λw _=>q8a w 4,rfl,rfl,⟨by omega,by omega,by unfold maxLen;omega⟩,⟨by omega,by omega,by unfold maxLen;omega⟩⟩
def F7 (A:Option Addr)(c i:Nat):Option Addr:=if c=i then A else A.map (·.add (i*4))
theorem Rh.sub {xs:List Qg}(h:Rh Q A n c xs){i j:Nat}(hi:i<=j)(hj:j<=n)(_hc:n<=c):Rh Q (F7 A c i) (j-i) (c-i) ((xs.drop i).take (j-i)):=by
 obtain⟨f,h1,h2,p⟩:=h;refine⟨(f.drop i).take (j-i),λw y=>((h1 w y).drop (by omega)).take (by omega),by rw[List.length_take,List.length_take,List.length_drop,List.length_drop,h2],λk r x b e=>?_⟩;rw[List.getElem?_take] at b e;split at b
 ·rename_i u;rw[if_pos u] at e;rw[List.getElem?_drop] at b e;exact p _ r x b e
 ·cases b
theorem Ry.sub {ks:List Qm}(h:Ry Q B m d ks){i j:Nat}(hi:i<=j)(hj:j<=m):Ry Q (F7 B d i) (j-i) (d-i) ((ks.drop i).take (j-i)):=λw b=>(h w b).sub hi hj
def Xo (l:Int)(A:Option Addr)(n c:Nat)(B:Option Addr)(m d:Nat):Value:=.agg #[.int .i64 l,.slice A n c,.slice B m d]
theorem qu4 (h:Jg Q N A n c B m d)(h0:N.lvl=0){i j:Nat}(b:i<=j)(f:j<=n):Jg Q (N.cut i j) (F7 A c i) (j-i) (c-i) B m d:=by
 have e:N.cut i j=⟨N.lvl,(N.items.drop i).take (j-i),N.kids⟩:=if_pos h0;rw[e];have h1:=h.hn;have h2:=h.ln;refine⟨h.its.sub b f h1.2.1,h.Bd,?_,h.lm,⟨by omega,by omega,by omega⟩,h.hm⟩;show ((N.items.drop i).take (j-i)).length=_;rw[List.length_take,List.length_drop];omega
theorem qu5 (h:Jg Q N A n c B m d)(h0:N.lvl≠0){i j:Nat}(b:i<=j)(f:j<=m):Jg Q (N.cut i j) A n c (F7 B d i) (j-i) (d-i):=by
 have e:N.cut i j=⟨N.lvl,N.items,(N.kids.drop i).take (j-i)⟩:=if_neg h0;rw[e];have h1:=h.hm;have h2:=h.lm;refine⟨h.its,h.Bd.sub b f,h.ln,?_,h.hn,⟨by omega,by omega,by omega⟩⟩;show ((N.kids.drop i).take (j-i)).length=_;rw[List.length_take,List.length_drop];omega
theorem Jg.size (h:Jg Q N A n c B m d):N.size=n+m:=by unfold Nd.size;rw[h.ln,h.lm]
end
theorem q1z (l:Int)(A:Option Addr)(n c:Nat)(B:Option Addr)(m d:Nat)(hn:n<=1000)(hm:m<=1000)(w:World) :
  Calls Tryz.prog 188 #[Xo l A n c B m d] w λe w'=>e=.returned (.int .i64 ((n+m:Nat):Int))/\Below w.1.size w w':=by
 have b:NB (w.alloc (.cells #[.int .i64 l,.slice A n c,.slice B m d] 178)) w.1.size l A n c B m d:=NB.new w _ _ _ _ _ _ _ _;have f:Below w.1.size w (w.alloc (.cells #[.int .i64 l,.slice A n c,.slice B m d] 178)):=Qn;have c1:=b.c1;have c2:=b.c2;unfold Xo;go_enter Tryz.func188,Tryz.ntmps188
 go_wp2;go_ret;exact⟨rfl,f⟩
theorem q37 (l:Int)(A:Option Addr)(n c:Nat)(B:Option Addr)(m d:Nat)(w:World) :
  Calls Tryz.prog 233 #[Xo l A n c B m d] w λe w'=>e=.returned (.tuple #[.int .i64 (Qr l:Int),.int .i64 (Qq l:Int)])/\Below w.1.size w w':=by
 have f:NB (w.alloc (.cells #[.int .i64 l,.slice A n c,.slice B m d] 178)) w.1.size l A n c B m d:=NB.new w _ _ _ _ _ _ _ _;have b:Below w.1.size w (w.alloc (.cells #[.int .i64 l,.slice A n c,.slice B m d] 178)):=Qn;have c0:=f.c0;unfold Xo Qr Qq;by_cases h:l=0
 ·have p:(l==0)=true:=by simp[h]
  rw[if_pos h,if_pos h];clear h;go_enter Tryz.func233,Tryz.ntmps233
  go_wp2;go_ret2;exact⟨rfl,b⟩
 ·have p:(l==0)=false:=by simp[h]
  rw[if_neg h,if_neg h];clear h;go_enter Tryz.func233,Tryz.ntmps233
  go_wp2;go_ret2;exact⟨rfl,b⟩
theorem q77 {N:Nd}(h:N.may=true):N.named.length<=12:=by
 unfold Nd.named;rw[List.length_append,List.length_map];have p:=List.length_filterMap_le Y4 N.items;by_cases f:N.lvl=0
 ·obtain⟨e,_,_,u⟩:=q16 h f;have b:N.kids=[]:=congrArg Nd.kids e;rw[b,List.length_nil];omega
 ·obtain⟨e,_,_,_,y,_⟩:=Fe h f;have b:N.items=[]:=congrArg Nd.items e;rw[b] at p ⊢;rw[List.filterMap_nil,List.length_nil];omega
section
variable {D:DM}{S0:Sp}{C0:Ct}{O H:List Int}{P:Pl}
theorem Keep.nonneg (K:Keep D S0 C0 O H P)(x:Int):0<=P.C.get x:=(Ct.Zd K.c x).1
theorem Keep.low (K:Keep D S0 C0 O H P)(hH:H.length<=30000){c:Nat}(h0:P.C.get (c:Int)≠0):P.C.get (c:Int)<=60000:=by
 obtain⟨c0,u⟩:=K.first h0
 have h:=K.Vz.eq c c0 u;have h1:H.count (c:Int)<=H.length:=List.count_le_length;have h2:=qdh (K:=λb=>(P.hide D O (b:Int)).1.named) (most:=P.C.n) (k:=12) (out:=P.cnt) (λb f=>by
  show ((P.hide D O (b:Int)).1.named).length<=12;by_cases p:P.C.get (b:Int)=0
  ·by_cases e:(b:Int)∈O
   ·rw[q22 e];exact Nat.zero_le _
   ·rw[Et e,q32 p];exact Nat.zero_le _
  ·by_cases e:(b:Int)∈O
   ·rw[q22 e];exact Nat.zero_le _
   ·rcases K.loc b f p e with L|L
    ·rw[q3w L];exact Nat.zero_le _
    ·exact Nat.le_trans (q77 L.may) (by omega)) c
 have y:=K.c.1.2;have f:=Ct.Zd K.c (c:Int);have E:P.cnt c=(P.C.get (c:Int)).toNat:=rfl;omega
theorem qg4:∀(f:List Int) {H:List Int} {P:Pl},Keep D S0 C0 O H P->(∀x∈f,(P.hide D O x).2=0)->H.length+f.length<=30000->
  ∃e,Ui f P=some e/\Keep D S0 C0 O (f++H) e/\∀l,Move l D O O P e 0
 |[],H,P,K,_,_=>⟨P,rfl,K,λl=>Move.refl l D O P⟩
 |a::r,H,P,K,hx,hl=>by
  rw[List.length_cons] at hl;obtain⟨J,n,rfl,hn,h0⟩:=Iy (hx a (List.mem_cons_self ..));have u:=K.low (by omega) h0;obtain⟨G,E,y⟩:=K.ref h0 (by omega) J;obtain⟨e,I,F,T⟩:=qg4 r E (λx p=>by
   have h1:=hx x (List.mem_cons_of_mem _ p);rw[(y 0).ext x h1];exact h1) (by rw[List.length_cons];omega)
  refine⟨e,?_,F.perm (λb _ _=>?_),λl=>(y l).trans K.nonneg (T l)⟩
  ·show (if P.C.Yg (n:Int)=0 then _ else none)=_;rw[if_pos G];exact I
  ·simp only[List.count_append,List.count_cons,List.cons_append];omega
theorem q9k {R:Int->Nd × Int}{l:Nat}{N:Nd}{M:List (List Qg)}(h:Yt R l N M)(f:∀x∈M.flatten,Dat R x):(∀x∈N.named,(R x).2=0)/\N.named.length<=M.length:=by
 cases l with
 |zero=>
  obtain⟨its,rfl,rfl⟩:=h;rw[Po] at f;have e:(⟨0,its,[]⟩:Nd).named=its.filterMap Y4:=by unfold Nd.named;simp
  rw[e,List.length_map];refine⟨λc p=>?_,List.length_filterMap_le _ _⟩;obtain⟨x,b,e⟩:=List.mem_filterMap.1 p;rw[f x b c e]
 |succ l=>
  obtain⟨G,rfl,rfl,u⟩:=h;have e:(⟨((l+1:Nat):Int),[],G.map Qp⟩:Nd).named=(G.map Qp).map (·.a):=by unfold Nd.named;simp
  refine⟨λx b=>?_,by rw[e];simp⟩;rw[e] at b;obtain⟨y,F,rfl⟩:=List.mem_map.1 b;obtain⟨t,E,rfl⟩:=List.mem_map.1 F;exact (Ce (u t E).1).2.2
theorem q5m (z:Int)(Ns:List Nd)(a:Int):(Zz z Ns).named.count a=(Ns.map λN=>N.named.count a).sum:=by
 induction Ns with
 |nil=>rfl
 |cons N r ih=>
  rw[qg3,List.map_cons,List.sum_cons,<-ih];unfold Nd.named Zz;simp only[List.map_append,List.filterMap_append,List.count_append];omega
def Zq (s:Qs)(i j:Nat):Nd:=Zz s.N.lvl [s.N.cut 0 i,s.N.cut j s.N.size]
structure Outside (R:Int->Nd × Int)(l:Nat)(N:Nd)(i j:Nat)(ML MR:List (List Qg)):Prop where
 left:Yt R l (N.cut 0 i) ML
 right:Yt R l (N.cut j N.size) MR
 lvl:N.lvl=(l:Int)
 li:ML.length=i
 size:N.size=j+MR.length
 ij:i<=j
theorem qaq {R:Int->Nd × Int}{l:Nat}{N:Nd}{M:List (List Qg)}(h:Yt R l N M){i j:Nat}(f:i<=j)(p:j<=M.length):Outside R l N i j (M.take i) (M.drop j):=by
 have b:=q5l h;refine⟨?_,?_,q4y h,by rw[List.length_take];omega,by rw[b,List.length_drop];omega,f⟩
 ·have:=qan h 0 i;simpa using this
 ·have:=qan h j N.size;rw[b] at this ⊢;have e:(M.drop j).take (M.length-j)=M.drop j:=List.take_of_length_le (by rw[List.length_drop];omega);rw[e] at this;exact this
theorem qkj {R:Int->Nd × Int}{l:Nat}{s:Qs}{i j:Nat}{e f:List (List Qg)}(h:Outside R l s.N i j e f):Yt R l (Zq s i j) (e++f):=by
 have h2:=q76 (R:=R) (l:=l) [(s.N.cut 0 i,e),(s.N.cut j s.N.size,f)] (λx b=>by
  rcases List.mem_cons.1 b with rfl|b
  ·exact h.left
  ·rcases List.mem_cons.1 b with rfl|b
   ·exact h.right
   ·cases b)
 unfold Zq;rw[h.lvl];simpa using h2
theorem qq5 {R:Int->Nd × Int}{l:Nat}{s:Qs}{f p u:List (List Qg)}{b:Nd}{i j:Nat}(h:Outside R l s.N i j f p)(y:Yt R l b u):Yt R l (Xr s i j b) (f++(u++p)):=by
 have h2:=q76 (R:=R) (l:=l) [(s.N.cut 0 i,f),(b,u),(s.N.cut j s.N.size,p)] (λx e=>by
  rcases List.mem_cons.1 e with rfl|e
  ·exact h.left
  ·rcases List.mem_cons.1 e with rfl|e
   ·exact y
   ·rcases List.mem_cons.1 e with rfl|e
    ·exact h.right
    ·cases e)
 unfold Xr;rw[h.lvl];simpa using h2
theorem q92 (K:Keep D S0 C0 O H P){l:Nat}{s:Qs}{u y:List (List Qg)}{i j:Nat}(F:Outside (P.hide D O) l s.N i j u y)(b:∀x∈(u++y).flatten,Dat (P.hide D O) x)(f:s.shared=false->l=0->(s.N.cut i j).named=[])(U:u.length+y.length<=100)(T:H.length<=20000) :
  ∃E,P.Qv s i j=some E/\Keep D S0 C0 O ((if s.shared=true then (Zq s i j).named else [])++H) E/\∀l,Move l D O O P E 0:=by
 unfold Pl.Qv;by_cases p:s.shared=true
 ·rw[if_pos p,if_pos p];obtain⟨I,J⟩:=q9k (qkj F) b;refine qg4 _ K I ?_;rw[List.length_append] at J;show H.length+(Zq s i j).named.length<=30000;omega
 ·rw[if_neg p,if_neg p];have e:=F.lvl;by_cases G:0<s.N.lvl
  ·rw[if_pos G];exact⟨P,rfl,K,λl=>Move.refl l D O P⟩
  ·rw[if_neg G,f (by cases e:s.shared with|true=>exact absurd e p|false=>rfl) (by omega)];exact⟨P,rfl,K,λl=>Move.refl l D O P⟩
def own (s:Qs):List Int:=if s.held=true then [] else [s.addr]
structure Zo (P:Pl)(D:DM)(O:List Int)(l:Int)(s:Qs):Prop where
 shared:s.shared=true->s.held=false->2<=P.C.get s.addr/\s.addr∉O/\(P.Qa D s.addr).lvl=l
 mine:s.shared=false->s.held=false/\s.addr∈O/\(P.Qa D s.addr).lvl=l/\P.Qd D s.addr=0
theorem Zo.above {l l':Int}{s:Qs}(h:Zo P D O l s){O':List Int}{P':Pl}(K:Keep D S0 C0 O H P)(ha:Ap l' D O O' P P')(hl:l'<l):Zo P' D O' l s:=by
 refine⟨λh1 h2=>?_,λh1=>?_⟩
 ·obtain⟨f,e,b⟩:=h.shared h1 h2;obtain⟨j1,j2,j3⟩:=ha s.addr (by omega) (by rw[b];exact hl);exact⟨by omega,λh=>e (j3.2 h),by rw[show P'.Qa D s.addr=P.Qa D s.addr from congrArg Prod.fst j2];exact b⟩
 ·obtain⟨f,e,b,p⟩:=h.mine h1;have u:=(K.opened _ e).2;obtain⟨j1,j2,j3⟩:=ha s.addr (by omega) (by rw[b];exact hl);exact⟨f,j3.1 e,by rw[show P'.Qa D s.addr=P.Qa D s.addr from congrArg Prod.fst j2];exact b,(congrArg Prod.snd j2).trans p⟩
def Dl (O:List Int)(s:Qs):List Int:=if s.shared=true then O else less1 O s.addr
theorem qcj (K:Keep D S0 C0 O H P){l:Int}{s:Qs}(W:Zo P D O l s){X:List Int}(f:∀a:Nat,0<a->a<P.C.n->H.count (a:Int)=(own s++X).count (a:Int)) :
  ∃u,P.leave s=some u/\Keep D S0 C0 (Dl O s) X u/\Move l D O (Dl O s) P u 0/\∀x,x≠s.addr->u.C.get x=P.C.get x/\u.store D x=P.store D x:=by
 unfold Pl.leave;by_cases p:s.held=true
 ·have b:s.shared=true:=by
   cases e:s.shared with
   |true=>rfl
   |false=>have:=(W.mine e).1;rw[this] at p;cases p
  rw[if_pos p];have e:Dl O s=O:=if_pos b;rw[e];have G:own s=[]:=if_pos p;rw[G] at f;exact⟨P,rfl,K.perm λa h1 h2=>(f a h1 h2).symm,Move.refl l D O P,λ_ _=>⟨rfl,rfl⟩⟩
 ·have T:s.held=false:=by cases e:s.held with|true=>exact absurd e p|false=>rfl
  rw[if_neg p];have G:own s=[s.addr]:=if_neg p;rw[G] at f;have other:∀c:Nat,∀x:Int,P.C.get (c:Int)≠0->x≠(c:Int)->(P.C.Qj (c:Int)).get x=P.C.get x/\Pl.store ⟨P.S,P.C.Qj (c:Int),P.L⟩ D x=P.store D x:=λc x h0 U=>by
   rw[(q2q h0).2];exact q5e U
  cases b:s.shared with
  |true=>
   obtain⟨k1,y,Z⟩:=W.shared b T;obtain⟨c,I,J⟩:=Uc (C:=P.C) (a:=s.addr) (by omega);rw[I] at k1 Z f ⊢;obtain⟨F,E,m1⟩:=K.Qj (H0:=X) k1 f;have e:Dl O s=O:=if_pos b;rw[if_pos F,e];exact⟨_,rfl,E,m1 l (by omega),λx Y=>other c x (by omega) Y⟩
  |false=>
   obtain⟨_,y,Z,_⟩:=W.mine b;have hg:=(K.opened _ y).2;obtain⟨c,I,J⟩:=Uc (C:=P.C) (a:=s.addr) (by omega);have e:Dl O s=less1 O s.addr:=if_neg (by rw[b];decide);rw[e];rw[I] at y Z f hg ⊢;obtain⟨F,E,m1⟩:=K.drop (H0:=X) y f;rw[if_pos F];exact⟨_,rfl,E,m1 l (by omega),λx Y=>other c x (by omega) Y⟩
end
