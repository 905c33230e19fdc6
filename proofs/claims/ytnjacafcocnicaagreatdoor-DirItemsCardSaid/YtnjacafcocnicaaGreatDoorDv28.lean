/- A pool some of whose nodes are open: another content of an open node, and a new node -/
import Derived.Test.YtnjacafcocnicaaGreatDoorGcA
namespace Go.Proofs.YtnjacafcocnicaaGreatDoor
open Go Go.RowKit Go.Proofs Tryz
set_option maxHeartbeats 4000000
set_option maxRecDepth 100000
structure Fits (R:Int->Nd × Int)(N:Nd):Prop where
 may:N.may=true
 data:∀x∈N.items,Dat R x
 kids:∀x∈N.kids,(R x.a).2=0/\(R x.a).1.lvl+1=N.lvl/\(R x.a).1.least=x.k/\(R x.a).1.enough
theorem Fits.ext {R R':Int->Nd × Int}{N:Nd}(h:Fits R N)(e:Ext R R'):Fits R' N:=
 ⟨h.may,λx f=>(h.data x f).ext e,λx f=>by
  obtain⟨p,q,u,y⟩:=h.kids x f;rw[e x.a p];exact⟨p,q,u,y⟩⟩
theorem Fits.told {R:Int->Nd × Int}{N:Nd}(h:Fits R N){c:Int}(f:c∈N.named):(R c).2=0:=by
 unfold Nd.named at f;rcases List.mem_append.1 f with f|f
 ·obtain⟨x,p,rfl⟩:=List.mem_map.1 f;exact (h.kids x p).1
 ·obtain⟨x,p,e⟩:=List.mem_filterMap.1 f;rw[h.data x p c e]
theorem Fits.loc {R R':Int->Nd × Int}{N:Nd}{a:Int}(h:Fits R N)(e:Ext R R')(ha:R' a=(N,0)):Loc R' a:=by
 have h2:=h.ext e;exact .inr ⟨by rw[ha],by rw[ha];exact h.may,by rw[ha];exact h2.data,by rw[ha];exact h2.kids⟩
section
variable {D:DM}{S0:Sp}{C0:Ct}{O H:LI}{P:Pl}
theorem Keep.Ih (_K:Keep D S0 C0 O H P){N:Nd}(hN:Fits (P.hide D O) N){x:Int}(hx:(P.hide D O x).2≠0):x∉N.named:=λh=>hx (hN.told h)
theorem Keep.set (K:Keep D S0 C0 O H P){c:Nat}(ho:(c:Int)∈O)(hnE:P.Qh D (c:Int)=0)(hfr:P.C.fresh (c:Int)=true){N:Nd}(hN:Fits (P.hide D O) N){H0:LI}(hH:∀a:Nat,0<a->a<P.C.n->H.count (a:Int)=N.named.count (a:Int)+H0.count (a:Int)) :
  P.Ah (c:Int) N=0/\Keep D S0 C0 (less1 O (c:Int)) H0 (P.Uc (c:Int) N)/\(P.Uc (c:Int) N).hide D (less1 O (c:Int)) (c:Int)=(N,0)/\(∀l,(P.Qd D (c:Int)).lvl<=l->Move l D O (less1 O (c:Int)) P (P.Uc (c:Int) N) 0)/\(P.Uc (c:Int) N).C=P.C/\∀x,x≠(c:Int)->(P.Uc (c:Int) N).store D x=P.store D x:=by
 obtain⟨a2,h1⟩:=K.opened _ ho;have h0:P.C.get (c:Int)≠0:=by omega
 obtain⟨c0,cn⟩:=K.first h0
 obtain⟨b,V⟩:=K.laid c hfr;have X:P.live c=some b:=by unfold Pl.live;rw[AB h0];exact V
 have hE:=q9u D h0 X;have u:isNode (P.L ((c:Int)).toNat)=true:=by
  rw[AJ,V]
  cases b with
  |node M=>rfl
  |bytes k l=>
   have:bkE (Bk.bytes k l)=1:=rfl;rw[this] at hE;omega
 have hs:P.F6 (c:Int) N=true:=by
  unfold Pl.F6;rw[hN.may,hfr,u];rfl
 have e1:P.Ah (c:Int) N=0:=AA hs;have e2:P.Uc (c:Int) N=⟨P.S,P.C,upd P.L c (some (.node N))⟩:=by
  unfold Pl.Uc;rw[AA hs,AJ]
 rw[e2];refine⟨e1,?_⟩;have y:∀x,x≠(c:Int)->Pl.store ⟨P.S,P.C,upd P.L c (some (.node N))⟩ D x=P.store D x:=λx f=>by
  by_cases W:P.C.get x=0
  ·rw[q17 W];exact q17 (P:=⟨P.S,P.C,upd P.L c (some (.node N))⟩) W
  ·obtain⟨n,rfl,hn⟩:=G5 W;unfold Pl.store Pl.Qd Pl.Qh Pl.live;show ((if P.C.get (n:Int)=0 then Je else match (if P.C.get (((n:Int).toNat:Nat):Int)=0 then none else upd P.L c (some (.node N)) (n:Int).toNat) with|some (.node N)=>N|some (.bytes _ _)=>Je|none=>_),(if P.C.get (n:Int)=0 then 1 else match (if P.C.get (((n:Int).toNat:Nat):Int)=0 then none else upd P.L c (some (.node N)) (n:Int).toNat) with|some (.node _)=>(0:Int)|some (.bytes _ _)=>1|none=>_))=_;rw[AJ,Bv _ _ (λe=>f (by rw[e]))];rfl
 have F:Pl.store ⟨P.S,P.C,upd P.L c (some (.node N))⟩ D (c:Int)=(N,0):=by
  unfold Pl.store Pl.Qd Pl.Qh Pl.live;show ((if P.C.get (c:Int)=0 then Je else match (if P.C.get (((c:Int).toNat:Nat):Int)=0 then none else upd P.L c (some (.node N)) (c:Int).toNat) with|some (.node N)=>N|some (.bytes _ _)=>Je|none=>_),(if P.C.get (c:Int)=0 then 1 else match (if P.C.get (((c:Int).toNat:Nat):Int)=0 then none else upd P.L c (some (.node N)) (c:Int).toNat) with|some (.node _)=>(0:Int)|some (.bytes _ _)=>1|none=>_))=_;rw[AJ,Ci,AB h0,AB h0,AB h0]
 have Y:(c:Int)∉less1 O (c:Int):=λh=>(I8.1 h).2 rfl
 have q:Pl.hide ⟨P.S,P.C,upd P.L c (some (.node N))⟩ D (less1 O (c:Int)) (c:Int)=(N,0):=by
  rw[q24 Y,Iy (P:=⟨P.S,P.C,upd P.L c (some (.node N))⟩) (congrArg Prod.snd F)];exact F
 have hh:∀x,x≠(c:Int)->Pl.hide ⟨P.S,P.C,upd P.L c (some (.node N))⟩ D (less1 O (c:Int)) x=P.hide D O x:=λx f=>by
  unfold Pl.hide;rw[q61 (P:=P) (P':=⟨P.S,P.C,upd P.L c (some (.node N))⟩) (y x f) Iff.rfl];by_cases G:x∈O
  ·rw[AA G,AA (I8.2 ⟨G,f⟩)]
  ·rw[AB G,AB (λh=>G (I8.1 h).1)]
 have E:Ext (P.hide D O) (Pl.hide ⟨P.S,P.C,upd P.L c (some (.node N))⟩ D (less1 O (c:Int))):=λx f=>hh x λe=>by
  rw[e,Td ho] at f
  cases f
 have Z:(c:Int)∉N.named:=K.Ih hN (by rw[Td ho];decide);refine⟨⟨⟨⟨K.Zo.ok.c,K.Zo.ok.res,K.Zo.ok.may,K.Zo.ok.sec,K.Zo.ok.gen,λa x f=>?_⟩,?_,λa x f=>?_⟩,λa J=>?_,?_,λx f=>?_,λa J T U=>?_⟩,q,λl hl=>⟨E,λx f a1=>?_,AE _,rfl⟩,rfl,λx f=>y x f⟩
 ·have f:upd P.L c (some (.node N)) a=some x:=f;by_cases e:a=c
  ·subst e;rw[Ci] at f;obtain rfl:=OI f;exact qh5 hN.may
  ·rw[Bv _ _ e] at f;exact K.Zo.ok.fine a x f
 ·have:=K.Zo.sound;exact⟨this.free,this.n,this.Vo,⟨this.holds.may,this.holds.gen,this.holds.sec,this.holds.c,this.holds.res,this.holds.n,this.holds.slot,this.holds.other,this.holds.area⟩⟩
 ·have f:upd P.L c (some (.node N)) a=some x:=f;by_cases e:a=c
  ·subst e;rw[Ci] at f;obtain rfl:=OI f;exact⟨trivial,q4s hN.may⟩
  ·rw[Bv _ _ e] at f;exact K.Zo.kinds a x f
 ·show ∃b,upd P.L c (some (.node N)) a=some b;by_cases e:a=c
  ·subst e;exact⟨_,Ci _ _ _⟩
  ·rw[Bv _ _ e];exact K.laid a J
 ·have I:=K.Af.set (c:=c) (ks:=N.named) (H0:=H0) (K':=λb=>(Pl.hide ⟨P.S,P.C,upd P.L c (some (.node N))⟩ D (less1 O (c:Int)) (b:Int)).1.named) cn (by unfold Pl.cnt;omega) hH (by show (Pl.hide ⟨P.S,P.C,upd P.L c (some (.node N))⟩ D (less1 O (c:Int)) (c:Int)).1.named=_;rw[q]) (λb V p=>by
   show (Pl.hide ⟨P.S,P.C,upd P.L c (some (.node N))⟩ D (less1 O (c:Int)) (b:Int)).1.named=_;rw[hh _ (by omega)])
  have I:Xb P.C.n P.cnt (λb=>(Pl.hide ⟨P.S,P.C,upd P.L c (some (.node N))⟩ D (less1 O (c:Int)) (b:Int)).1.named) ((P.hide D O (c:Int)).1.named++H0):=I;rw[Td ho] at I;exact I
 ·obtain⟨f,p⟩:=I8.1 f;obtain⟨k1,k2⟩:=K.opened x f;obtain⟨n,rfl,hn⟩:=G5 (C:=P.C) (a:=x) (by omega);obtain⟨n0,_⟩:=K.first (c:=n) (by omega)
  refine⟨?_,k2⟩;have h3:=hH n n0 hn;have h4:=List.count_pos_iff.2 k1;have h5:N.named.count (n:Int)=0:=List.count_eq_zero.2 (K.Ih hN (by rw[Td f];decide));exact List.count_pos_iff.1 (by omega)
 ·by_cases e:a=c
  ·subst e;exact hN.loc E q
  ·exact (K.loc a J T λh=>U (I8.2 ⟨h,by omega⟩)).ext E
 ·have p:x≠(c:Int):=λe=>by subst e;omega
  exact⟨Int.le_refl _,y x p,⟨λh=>I8.2 ⟨h,p⟩,λh=>(I8.1 h).1⟩⟩
theorem Keep.put (K:Keep D S0 C0 O H P){c:Nat}(hp:P.C.pick=some c){N:Nd}(hN:Fits (P.hide D O) N){H0:LI}(hH:∀a:Nat,0<a->a<P.C.n->H.count (a:Int)=N.named.count (a:Int)+H0.count (a:Int)) :
  P.Jt N=0/\P.Wi N=(c:Int)/\Keep D S0 C0 O ((c:Int)::H0) (P.Js N)/\(P.Js N).hide D O (c:Int)=(N,0)/\(∀l,Move l D O O P (P.Js N) 1)/\1<=c/\c<2048:=by
 obtain⟨p1,p2,p3,p4,_⟩:=Ct.Yw hp;obtain⟨v1,v2,v3⟩:=qex hp hN.may;have Y:P.C.get (c:Int)=0:=by
  unfold Ct.get;rw[AA (by omega),AJ];exact p3
 have a2:P.C.first=2+2*Qg P.C.n:=rfl
 have G:(c:Int)∉O:=λh=>by
  have:=(K.opened _ h).2;omega
 have f:=λb (E:b<P.C.n)=>qje hp (.node N) b E
 have J:=qjf hp (.node N);have hn:(P.Js N).C.n=P.C.n:=by rw[v3];exact qvr _
 obtain⟨s1,_,s3⟩:=K.Zo.put hN.may (by have:=Ct.Dh hp;omega);have y:(P.Js N).hide D O (c:Int)=(N,0):=by
  have e:=qrm D hp hN.may;rw[q24 G,Iy (congrArg Prod.snd e)];exact e
 have U:∀x,x≠(c:Int)->(P.Js N).store D x=P.store D x:=λx u=>by
  by_cases E:0<=x/\x<(P.C.n:Int)
  ·obtain⟨n,rfl⟩:∃n:Nat,x=(n:Int):=⟨x.toNat,by omega⟩;have f:=f n (by omega);have J:=J n;rw[AB (by omega)] at f J;rw[v3];unfold Pl.store Pl.Qd Pl.Qh Pl.live;rw[AJ,f,J]
  ·have h1:P.C.get x=0:=by unfold Ct.get;rw[AB E]
   have h2:(P.Js N).C.get x=0:=by unfold Ct.get;rw[hn,AB E]
   rw[q17 h1,q17 h2]
 have Z:∀x,x≠(c:Int)->(P.Js N).hide D O x=P.hide D O x:=λx u=>by
  have X:(P.Js N).C.get x=P.C.get x:=by
   by_cases E:0<=x/\x<(P.C.n:Int)
   ·obtain⟨n,rfl⟩:∃n:Nat,x=(n:Int):=⟨x.toNat,by omega⟩;have f:=f n (by omega);rw[AB (by omega)] at f;rw[v3];exact f
   ·unfold Ct.get;rw[hn,AB E,AB E]
  unfold Pl.hide;rw[q61 (U x u) (by rw[X])]
 have I:Ext (P.hide D O) ((P.Js N).hide D O):=λx u=>Z x λe=>by
  rw[e,q24 G,q2q Y] at u
  cases u
 have a1:=K.c.1.2;refine⟨v2,v1,⟨s1,λa q=>?_,?_,λx u=>?_,λa q T W=>?_⟩,y,λl=>⟨I,λx u _=>?_,by omega,hn⟩,by omega,by omega⟩
 ·rw[v3,J a];by_cases e:a=c
  ·exact⟨_,AA e⟩
  ·rw[AB e];refine K.laid a ?_;rw[v3,q49 hp] at q;have q:P.C.alloc.fresh (a:Int)=true:=q;rw[(Ct.Yd hp).2.2] at q;have V:a<P.C.n:=by
    obtain⟨n,e1,h2⟩:=G5 (q39 q);rw[P.C.Zk] at h2;omega
   unfold Ct.fresh at q ⊢;rw[q2c P.C a V,AB e] at q;exact q
 ·rw[hn];refine K.Af.put (c:=c) (ks:=N.named) (H0:=H0) (cnt':=(P.Js N).cnt) (by omega) p1 (by unfold Pl.cnt;rw[Y];rfl) hH ?_ ?_ ?_ ?_
  ·unfold Pl.cnt;rw[v3,f c p1,AA rfl];rfl
  ·intro b E p;unfold Pl.cnt;rw[v3,f b E,AB p]
  ·show ((P.Js N).hide D O (c:Int)).1.named=_;rw[y]
  ·intro b E p;show ((P.Js N).hide D O (b:Int)).1.named=_;rw[Z _ (by omega)]
 ·obtain⟨k1,k2⟩:=K.opened x u;obtain⟨n,rfl,F⟩:=G5 (C:=P.C) (a:=x) (by omega);obtain⟨n0,_⟩:=K.first (c:=n) (by omega)
  have p:n≠c:=λe=>G (e▸u)
  refine⟨AO _ ?_,?_⟩
  ·have h3:=hH n n0 F;have h4:=List.count_pos_iff.2 k1;have h5:N.named.count (n:Int)=0:=List.count_eq_zero.2 (K.Ih hN (by rw[Td u];decide));exact List.count_pos_iff.1 (by omega)
  ·rw[v3,f n F,AB p];exact k2
 ·rw[hn] at q;by_cases e:a=c
  ·subst e;exact hN.loc I y
  ·rw[v3,f a q,AB e] at T;exact (K.loc a q T W).ext I
 ·obtain⟨n,rfl,F⟩:=G5 u;have p:n≠c:=λe=>u (by rw[e];exact Y)
  refine⟨?_,U _ (by omega),Iff.rfl⟩;rw[v3,f n F,AB p];exact Int.le_refl _
end
def Nd.size (N:Nd):Nat:=N.items.length+N.kids.length
def Qv (l:Int):Nat:=if l=0 then 3 else 6
def Qu (l:Int):Nat:=if l=0 then 6 else 12
def Nd.cut (N:Nd)(i j:Nat):Nd:=if N.lvl=0 then ⟨N.lvl,(N.items.drop i).take (j-i),N.kids⟩ else ⟨N.lvl,N.items,(N.kids.drop i).take (j-i)⟩
def Jb (l:Int)(Ns:List Nd):Nd:=⟨l,Ns.flatMap (·.items),Ns.flatMap (·.kids)⟩
def parts (N:Nd):Nat:=(N.size+Qu N.lvl-1) / Qu N.lvl
def pieces (N:Nd):List Nd:=(List.range (parts N)).map λi=>N.cut (N.size*i / parts N) (N.size*(i+1) / parts N)
def good1 (R:Int->Nd × Int)(l:Nat)(x:Jc):Prop:=Qs R l x.1 x.2/\(R x.1).1.enough/\1<=x.1/\x.1<2048
def Y7 (R:Int->Nd × Int):Nat->Nd->List (List Qc)->Prop
 |0,N,M=>∃its:List Qc,N=⟨0,its,[]⟩/\M=its.map λx=>[x]
 |l+1,N,M=>∃G:List Jc,N=⟨((l+1:Nat):Int),[],G.map Qr⟩/\M=G.map (·.2)/\∀x∈G,good1 R l x
section
variable {R R':Int->Nd × Int}{l:Nat}{N:Nd}{M:List (List Qc)}
theorem Sz:∀(its:List Qc),(its.map λx=>[x]).flatten=its
 |[]=>rfl
 |x::r=>by rw[BJ,List.flatten_cons,Sz r];rfl
theorem q4t (h:Y7 R l N M):N.lvl=(l:Int):=by
 cases l with
 |zero=>obtain⟨its,rfl,_⟩:=h;rfl
 |succ l=>obtain⟨G,rfl,_⟩:=h;rfl
theorem q5l (h:Y7 R l N M):N.size=M.length:=by
 cases l with
 |zero=>obtain⟨its,rfl,rfl⟩:=h;simp[Nd.size]
 |succ l=>obtain⟨G,rfl,rfl,_⟩:=h;simp[Nd.size]
theorem qb0 (h:Y7 R l N M)(i j:Nat):Y7 R l (N.cut i j) ((M.drop i).take (j-i)):=by
 cases l with
 |zero=>
  obtain⟨its,rfl,rfl⟩:=h;refine⟨(its.drop i).take (j-i),?_,by rw[List.map_take,List.map_drop]⟩;unfold Nd.cut;rw[AA rfl]
 |succ l=>
  obtain⟨G,rfl,rfl,e⟩:=h;refine⟨(G.drop i).take (j-i),?_,by rw[List.map_take,List.map_drop],λx f=>e x (List.mem_of_mem_drop (List.mem_of_mem_take f))⟩;unfold Nd.cut;rw[AB (by show ¬((l+1:Nat):Int)=0;omega),List.map_take,List.map_drop]
theorem qAd (R:Int->Nd × Int)(l:Nat):Y7 R l ⟨(l:Int),[],[]⟩ []:=by
 cases l with
 |zero=>exact⟨[],rfl,rfl⟩
 |succ l=>exact⟨[],rfl,rfl,λx e=>(by cases e)⟩
theorem qAe {f:Nd}{q:List (List Qc)}(h:Y7 R l N M)(h2:Y7 R l f q):Y7 R l ⟨(l:Int),N.items++f.items,N.kids++f.kids⟩ (M++q):=by
 cases l with
 |zero=>
  obtain⟨its,rfl,rfl⟩:=h;obtain⟨e,rfl,rfl⟩:=h2;exact⟨its++e,rfl,by rw[List.map_append]⟩
 |succ l=>
  obtain⟨G,rfl,rfl,y⟩:=h;obtain⟨u,rfl,rfl,p⟩:=h2;refine⟨G++u,by rw[List.map_append];rfl,by rw[List.map_append],λx E=>?_⟩;rcases List.mem_append.1 E with h|h
  ·exact y x h
  ·exact p x h
theorem qh9 (z:Int)(A:Nd)(Ns:List Nd):Jb z (A::Ns)=⟨z,A.items++(Jb z Ns).items,A.kids++(Jb z Ns).kids⟩:=by
 unfold Jb;rw[BC,BC]
theorem q78:∀(e:List (Nd × List (List Qc))),(∀x∈e,Y7 R l x.1 x.2)->Y7 R l (Jb (l:Int) (e.map (·.1))) (e.map (·.2)).flatten
 |[],_=>qAd R l
 |x::r,h=>by
  rw[BJ,BJ,List.flatten_cons,qh9];exact qAe (h x (AP ..)) (q78 r λy f=>h y (AO _ f))
theorem q2i {x:Jc}(h:good1 R l x)(e:Ext R R'):good1 R' l x:=by
 refine⟨q10 e h.1,?_,h.2.2⟩;rw[e x.1 (Fz h.1).2.2];exact h.2.1
theorem qrw (h:Y7 R l N M)(e:Ext R R'):Y7 R' l N M:=by
 cases l with
 |zero=>exact h
 |succ l=>
  obtain⟨G,h1,h2,f⟩:=h;exact⟨G,h1,h2,λx p=>q2i (f x p) e⟩
theorem q3u (h:Y7 R l N M):N.enough↔Qv (l:Int)<=M.length:=by
 have h1:=q4t h;have h2:=q5l h;unfold Nd.enough Qv;unfold Nd.size at h2;rw[h1,h2]
theorem qlw (h:Y7 R l N M)(y:∀x∈M.flatten,Dat R x)(e:N.may=true):Fits R N:=by
 cases l with
 |zero=>
  obtain⟨its,rfl,rfl⟩:=h;rw[Sz] at y;exact⟨e,y,λx q=>(by cases q)⟩
 |succ l=>
  obtain⟨G,rfl,rfl,I⟩:=h;refine⟨e,λx q=>(by cases q),λx q=>?_⟩;obtain⟨t,K,rfl⟩:=List.mem_map.1 q;obtain⟨h1,h2,_⟩:=I t K;obtain⟨V,T,U⟩:=Fz h1;refine⟨U,by show (R t.1).1.lvl+1=((l+1:Nat):Int);rw[T];omega,?_,h2⟩;show (R t.1).1.least=(Zc t.2 0).k;exact holds_least h1
where
 holds_least {R:Int->Nd × Int}:∀{l:Nat} {a:Int} {its:List Qc},Qs R l a its->(R a).1.least=(Zc its 0).k
  |0,a,its,h=>by
   rw[h.1];exact qax h.2
  |l+1,a,its,h=>by
   obtain⟨kids,parts,h1,h2,u,rfl,F⟩:=h;rw[h1,qd7 _ h2];have J:0<kids.length:=List.length_pos_iff.2 h2;obtain⟨_,x,r,f,E⟩:=F 0 J;rw[E];match parts,u,f with
   |[],u,_=>rw[List.length_nil] at u;omega
   |p::ps,_,f=>
    have f:p=x::r:=f;rw[f,List.flatten_cons];rfl
theorem qb1 (h:Y7 R l N M)(f:M≠[])(e:Ext R R'){a:Int}(p:R' a=(N,0)):Qs R' l a M.flatten:=by
 cases l with
 |zero=>
  obtain⟨its,rfl,rfl⟩:=h;rw[Sz];exact⟨p,λe=>f (by rw[e];rfl)⟩
 |succ l=>
  obtain⟨G,rfl,rfl,q⟩:=h;exact qiw (λx u=>(q2i (q x u) e).1) (λe=>f (by rw[e];rfl)) p
theorem qrx (h:Y7 R l N M)(f:M≠[]):N.least=(Zc M.flatten 0).k:=by
 cases l with
 |zero=>
  obtain⟨its,rfl,rfl⟩:=h;rw[Sz];exact qax λe=>f (by rw[e];rfl)
 |succ l=>
  obtain⟨G,rfl,rfl,p⟩:=h;have q:G≠[]:=λe=>f (by rw[e];rfl)
  rw[qd7 _ (by simpa using q)];match G,q,p with
  |x::r,_,p=>
   obtain⟨y,s,e⟩:=q6u (p x (AP ..)).1;show (Zc x.2 0).k=(Zc (x.2++(r.map (·.2)).flatten) 0).k;rw[e];rfl
def Zx (x:Qc):Prop:=x.k.may=true/\x.v.length<=28
theorem qry (h:Y7 R l N M)(I:l<8)(h1:1<=M.length)(h2:0<l->2<=M.length)(p:M.length<=Qu (l:Int))(u:Qo M.flatten)(q:∀x∈M.flatten,Zx x):N.may=true:=by
 cases l with
 |zero=>
  obtain⟨its,rfl,rfl⟩:=h;rw[Sz] at u q;rw[AF] at h1 p;exact qv0 h1 p u λx f=>⟨(q x f).1,(q x f).2⟩
 |succ l=>
  obtain⟨G,rfl,rfl,F⟩:=h;rw[AF] at h2 p;have e:Qu ((l+1:Nat):Int)=12:=AB (by omega);rw[e] at p;exact qpw (by omega) (h2 (by omega)) p u (λx f=>(q x f).1) (λx f=>(F x f).2.2) λx f e=>by
   obtain⟨y,r,E⟩:=q6u (F x f).1;rw[e] at E
   cases E
theorem qb2 (h:Y7 R l N M)(hm:M.length=0):pieces N=[]:=by
 have e:=q5l h;have:parts N=0:=by
  unfold parts;rw[e,hm];have:0<Qu N.lvl:=by unfold Qu;split<;>omega
  exact Nat.div_eq_of_lt (by omega)
 unfold pieces;rw[this];rfl
theorem qdc (h:Y7 R l N M)(h1:1<=M.length)(h2:M.length<=Qu (l:Int)):pieces N=[N.cut 0 M.length]:=by
 have f:=q5l h;have e:=q4t h;have p:0<Qu (l:Int):=by unfold Qu;split<;>omega
 have:parts N=1:=by
  unfold parts;rw[f,e];refine (Nat.div_eq_iff p).2 ?_;omega
 unfold pieces;rw[this,f];simp
theorem qdd (h:Y7 R l N M)(h1:Qu (l:Int)<M.length)(h2:M.length<=2*Qu (l:Int)):pieces N=[N.cut 0 (M.length / 2),N.cut (M.length / 2) M.length]:=by
 have f:=q5l h;have e:=q4t h;have p:0<Qu (l:Int):=by unfold Qu;split<;>omega
 have:parts N=2:=by
  unfold parts;rw[f,e];refine (Nat.div_eq_iff p).2 ?_;omega
 unfold pieces;rw[this,f];simp[List.range,List.range.loop]
end
structure Qy where
 N:Nd
 addr:Int
 next:Nat
 held:Bool
 shared:Bool
def U7:LI->Pl->Option Pl
 |[],P=>some P
 |a::l,P=>if P.C.Wn a=0 then U7 l ⟨P.S,P.C.ref a,P.L⟩ else none
def q3o:LI->Pl->Option Pl
 |[],P=>some P
 |a::l,P=>if P.C.Jw a=0 then q3o l ⟨P.S,P.C.Qw a,P.L⟩ else none
def Pl.Q9 (P:Pl)(s:Qy)(i j:Nat):Option Pl:=
 if s.shared=true then U7 (Jb s.N.lvl [s.N.cut 0 i,s.N.cut j s.N.size]).named P else if 0<s.N.lvl then some P else q3o (s.N.cut i j).named P
def Pl.spot (P:Pl)(D:DM)(a:Int)(held:Bool):Qy:=⟨P.Qd D a,a,0,held,held||decide (1<P.C.get a)⟩
def Pl.Kq (P:Pl)(D:DM)(above:Qy)(i:Nat):Bool:=decide (i<above.N.kids.length/\P.Qh D (Qk above.N.kids i).a=0/\(P.Qd D (Qk above.N.kids i).a).lvl=above.N.lvl-1)
def Pl.Jk (P:Pl)(D:DM)(above:Qy)(i:Nat):Qy:=P.spot D (Qk above.N.kids i).a above.shared
def Pl.near (P:Pl)(D:DM)(above:Qy)(i:Nat):Option Pl:=if P.Kq D above i=true then P.Q9 (P.Jk D above i) 0 0 else none
structure Tv where
 N:Nd
 olds:List Qy
 i:Nat
 j:Nat
def Pl.have_ (P:Pl)(D:DM)(s:Qy)(b:Nd)(above:Qy):Option (Tv × Pl):=
 if Qv b.lvl<=b.size then some (⟨b,[s],above.next,above.next+1⟩,P)
 else if 0<above.next then (P.near D above (above.next-1)).map λe=>(⟨Jb (P.Jk D above (above.next-1)).N.lvl [(P.Jk D above (above.next-1)).N,b],[P.Jk D above (above.next-1),s],above.next-1,above.next+1⟩,e)
 else (P.near D above (above.next+1)).map λe=>(⟨Jb b.lvl [b,(P.Jk D above (above.next+1)).N],[s,P.Jk D above (above.next+1)],above.next,above.next+2⟩,e)
def Pl.leave (P:Pl)(s:Qy):Option Pl:=if s.held=true then some P else if P.C.Jw s.addr=0 then some ⟨P.S,P.C.Qw s.addr,P.L⟩ else none
def Ae:List Qy->Pl->List Nd->List Qn->Option (Pl × List Nd × List Qn)
 |[],P,rest,ks=>some (P,rest,ks)
 |s::olds,P,[],ks=>match P.leave s with
  |some P'=>Ae olds P' [] ks
  |none=>none
 |s::olds,P,b::rest,ks=>if s.shared=true\/P.C.fresh s.addr=false then match P.leave s with
   |some P'=>Ae olds P' (b::rest) ks
   |none=>none
  else if P.Ah s.addr b=0 then Ae olds (P.Uc s.addr b) rest (ks++[⟨b.least,s.addr⟩]) else none
def Xk:List Nd->Pl->List Qn->Option (Pl × Option (List Qn))
 |[],P,ks=>some (P,some ks)
 |b::rest,P,ks=>if P.Jt b=0 then Xk rest (P.Js b) (ks++[⟨b.least,P.Wi b⟩]) else if P.Jt b=6 then some (P.Js b,none) else none
def Pl.Wl (P:Pl)(x:Tv):Option (Pl × Option (List Qn)):=match Ae x.olds P (pieces x.N) [] with
 |some (P',rest,ks)=>Xk rest P' ks
 |none=>none
def Pl.top (P:Pl)(s:Qy)(b:Nd):Option (Pl × Option Int):=
 if b.kids.length=1 then (P.leave s).map λe=>(e,some (Qk b.kids 0).a)
 else match P.Wl ⟨b,[s],0,0⟩ with
  |some (e,some ks)=>if ks.length=0 then some (e,some 0) else if ks.length=1 then some (e,some (Qk ks 0).a) else
    if e.Jt ⟨b.lvl+1,[],ks⟩=0 then some (e.Js ⟨b.lvl+1,[],ks⟩,some (e.Wi ⟨b.lvl+1,[],ks⟩)) else if e.Jt ⟨b.lvl+1,[],ks⟩=6 then some (e.Js ⟨b.lvl+1,[],ks⟩,none) else none
  |some (e,none)=>some (e,none)
  |none=>none
def Yg (s:Qy)(i j:Nat)(e:Nd):Nd:=Jb s.N.lvl [s.N.cut 0 i,e,s.N.cut j s.N.size]
def Wu (D:DM):List Qy->Pl->Qy->Nat->Nat->Nd->Option (Pl × Option Int)
 |[],P,s,i,j,come=>match P.Q9 s i j with
  |some P1=>P1.top s (Yg s i j come)
  |none=>none
 |above::way,P,s,i,j,come=>match P.Q9 s i j with
  |some P1=>match P1.have_ D s (Yg s i j come) above with
   |some (x,P2)=>match P2.Wl x with
    |some (P3,some ks)=>Wu D way P3 above x.i x.j ⟨x.N.lvl+1,[],ks⟩
    |some (P3,none)=>some (P3,none)
    |none=>none
   |none=>none
  |none=>none
def Pl.Ai (P:Pl)(D:DM)(k:Kd):Nat->Qy->List Qy->Option (List Qy × Qy)
 |0,s,up=>if s.N.lvl<=0 then some (up,s) else none
 |f+1,s,up=>if s.N.lvl<=0 then some (up,s) else if P.Kq D s (s.N.Zw k)=true then P.Ai D k f (P.Jk D s (s.N.Zw k)) ({ s with next:=s.N.Zw k }::up) else none
def q4u:Qy:=⟨Je,0,0,true,true⟩
def Pl.way (P:Pl)(D:DM)(root:Int)(k:Kd):Option (List Qy × Qy):=if root=0 then some ([],q4u) else if P.Qh D root=0 then P.Ai D k 8 (P.spot D root false) [] else none
def Pl.Ii (P:Pl)(D:DM)(root:Int)(x:Qc):Option (Pl × Option Int):=match P.way D root x.k with
 |some (up,s)=>Wu D up P s (s.N.Zw x.k) (s.N.Zw x.k+if U6 s.N.keys x.k (s.N.Zw x.k)=true then 1 else 0) ⟨0,[x],[]⟩
 |none=>none
def Pl.Lj (P:Pl)(D:DM)(root:Int)(k:Kd):Option (Pl × Option Int):=match P.way D root k with
 |some (up,s)=>Wu D up P s (s.N.Zw k) (s.N.Zw k+1) ⟨0,[],[]⟩
 |none=>none
theorem qrz {N:Nd}(h:N.may=true):N.named.length<=12:=by
 unfold Nd.named;rw[AD,AF];have q:=List.length_filterMap_le Vz N.items;by_cases p:N.lvl=0
 ·obtain⟨f,_,_,u⟩:=q1e h p;have e:N.kids=[]:=congrArg Nd.kids f;rw[e,List.length_nil];omega
 ·obtain⟨f,_,_,_,y,_⟩:=q0n h p;have e:N.items=[]:=congrArg Nd.items f;rw[e] at q ⊢;rw[List.filterMap_nil,List.length_nil];omega
section
variable {D:DM}{S0:Sp}{C0:Ct}{O H:LI}{P:Pl}
theorem Keep.nonneg (K:Keep D S0 C0 O H P)(x:Int):0<=P.C.get x:=(Ct.Ja K.c x).1
theorem Keep.low (K:Keep D S0 C0 O H P)(hH:H.length<=30000){c:Nat}(h0:P.C.get (c:Int)≠0):P.C.get (c:Int)<=60000:=by
 obtain⟨c0,q⟩:=K.first h0
 have h:=K.Af.eq c c0 q;have h1:H.count (c:Int)<=H.length:=List.count_le_length;have h2:=qpn (K:=λb=>(P.hide D O (b:Int)).1.named) (most:=P.C.n) (k:=12) (out:=P.cnt) (λb f=>by
  show ((P.hide D O (b:Int)).1.named).length<=12;by_cases p:P.C.get (b:Int)=0
  ·by_cases e:(b:Int)∈O
   ·rw[Td e];exact AW _
   ·rw[q24 e,q2q p];exact AW _
  ·by_cases e:(b:Int)∈O
   ·rw[Td e];exact AW _
   ·rcases K.loc b f p e with L|L
    ·rw[q8z L];exact AW _
    ·exact AZ (qrz L.may) (by omega)) c
 have u:=K.c.1.2;have f:=Ct.Ja K.c (c:Int);have y:P.cnt c=(P.C.get (c:Int)).toNat:=rfl;omega
theorem qha:∀(f:LI) {H:LI} {P:Pl},Keep D S0 C0 O H P->(∀x∈f,(P.hide D O x).2=0)->H.length+f.length<=30000->
  ∃e,U7 f P=some e/\Keep D S0 C0 O (f++H) e/\∀l,Move l D O O P e 0
 |[],H,P,K,_,_=>⟨P,rfl,K,λl=>Move.refl l D O P⟩
 |a::r,H,P,K,hx,hl=>by
  rw[AX] at hl;obtain⟨I,n,rfl,hn,h0⟩:=q3g (hx a (AP ..));have q:=K.low (by omega) h0;obtain⟨F,y,u⟩:=K.ref h0 (by omega) I;obtain⟨e,G,E,J⟩:=qha r y (λx p=>by
   have h1:=hx x (AO _ p);rw[(u 0).ext x h1];exact h1) (by rw[AX];omega)
  refine⟨e,?_,E.perm (λb _ _=>?_),λl=>(u l).trans K.nonneg (J l)⟩
  ·show (if P.C.Wn (n:Int)=0 then _ else none)=_;rw[AA F];exact G
  ·simp only[A_,List.count_cons,List.cons_append];omega
theorem q9v {R:Int->Nd × Int}{l:Nat}{N:Nd}{M:List (List Qc)}(h:Y7 R l N M)(p:∀x∈M.flatten,Dat R x):(∀x∈N.named,(R x).2=0)/\N.named.length<=M.length:=by
 cases l with
 |zero=>
  obtain⟨its,rfl,rfl⟩:=h;rw[Sz] at p;have e:(⟨0,its,[]⟩:Nd).named=its.filterMap Vz:=by unfold Nd.named;simp
  rw[e,AF];refine⟨λc q=>?_,List.length_filterMap_le _ _⟩;obtain⟨x,f,e⟩:=List.mem_filterMap.1 q;rw[p x f c e]
 |succ l=>
  obtain⟨G,rfl,rfl,u⟩:=h;have e:(⟨((l+1:Nat):Int),[],G.map Qr⟩:Nd).named=(G.map Qr).map (·.a):=by unfold Nd.named;simp
  refine⟨λx f=>?_,by rw[e];simp⟩;rw[e] at f;obtain⟨y,F,rfl⟩:=List.mem_map.1 f;obtain⟨t,E,rfl⟩:=List.mem_map.1 F;exact (Fz (u t E).1).2.2
theorem q5m (z:Int)(Ns:List Nd)(a:Int):(Jb z Ns).named.count a=(Ns.map λN=>N.named.count a).sum:=by
 induction Ns with
 |nil=>rfl
 |cons N r ih=>
  rw[qh9,BJ,List.sum_cons,<-ih];unfold Nd.named Jb;simp only[List.map_append,List.filterMap_append,A_];omega
def Zp (s:Qy)(i j:Nat):Nd:=Jb s.N.lvl [s.N.cut 0 i,s.N.cut j s.N.size]
structure Outside (R:Int->Nd × Int)(l:Nat)(N:Nd)(i j:Nat)(ML MR:List (List Qc)):Prop where
 left:Y7 R l (N.cut 0 i) ML
 right:Y7 R l (N.cut j N.size) MR
 lvl:N.lvl=(l:Int)
 li:ML.length=i
 size:N.size=j+MR.length
 ij:i<=j
theorem qb3 {R:Int->Nd × Int}{l:Nat}{N:Nd}{M:List (List Qc)}(h:Y7 R l N M){i j:Nat}(hi:i<=j)(p:j<=M.length):Outside R l N i j (M.take i) (M.drop j):=by
 have e:=q5l h;refine⟨?_,?_,q4t h,by rw[AR];omega,by rw[e,AS];omega,hi⟩
 ·have:=qb0 h 0 i;simpa using this
 ·have:=qb0 h j N.size;rw[e] at this ⊢;have f:(M.drop j).take (M.length-j)=M.drop j:=AN (by rw[AS];omega);rw[f] at this;exact this
theorem qlx {R:Int->Nd × Int}{l:Nat}{s:Qy}{i j:Nat}{f p:List (List Qc)}(h:Outside R l s.N i j f p):Y7 R l (Zp s i j) (f++p):=by
 have h2:=q78 (R:=R) (l:=l) [(s.N.cut 0 i,f),(s.N.cut j s.N.size,p)] (λx e=>by
  rcases List.mem_cons.1 e with rfl|e
  ·exact h.left
  ·rcases List.mem_cons.1 e with rfl|e
   ·exact h.right
   ·cases e)
 unfold Zp;rw[h.lvl];simpa using h2
theorem qs0 {R:Int->Nd × Int}{l:Nat}{s:Qy}{p q u:List (List Qc)}{e:Nd}{i j:Nat}(h:Outside R l s.N i j p q)(y:Y7 R l e u):Y7 R l (Yg s i j e) (p++(u++q)):=by
 have h2:=q78 (R:=R) (l:=l) [(s.N.cut 0 i,p),(e,u),(s.N.cut j s.N.size,q)] (λx f=>by
  rcases List.mem_cons.1 f with rfl|f
  ·exact h.left
  ·rcases List.mem_cons.1 f with rfl|f
   ·exact y
   ·rcases List.mem_cons.1 f with rfl|f
    ·exact h.right
    ·cases f)
 unfold Yg;rw[h.lvl];simpa using h2
theorem q98 (K:Keep D S0 C0 O H P){l:Nat}{s:Qy}{u y:List (List Qc)}{i j:Nat}(F:Outside (P.hide D O) l s.N i j u y)(f:∀x∈(u++y).flatten,Dat (P.hide D O) x)(p:s.shared=false->l=0->(s.N.cut i j).named=[])(U:u.length+y.length<=100)(T:H.length<=20000) :
  ∃E,P.Q9 s i j=some E/\Keep D S0 C0 O ((if s.shared=true then (Zp s i j).named else [])++H) E/\∀l,Move l D O O P E 0:=by
 unfold Pl.Q9;by_cases q:s.shared=true
 ·rw[AA q,AA q];obtain⟨I,J⟩:=q9v (qlx F) f;refine qha _ K I ?_;rw[AD] at J;show H.length+(Zp s i j).named.length<=30000;omega
 ·rw[AB q,AB q];have e:=F.lvl;by_cases G:0<s.N.lvl
  ·rw[AA G];exact⟨P,rfl,K,λl=>Move.refl l D O P⟩
  ·rw[AB G,p (by cases e:s.shared with|true=>exact absurd e q|false=>rfl) (by omega)];exact⟨P,rfl,K,λl=>Move.refl l D O P⟩
def own (s:Qy):LI:=if s.held=true then [] else [s.addr]
structure Zl (P:Pl)(D:DM)(O:LI)(l:Int)(s:Qy):Prop where
 shared:s.shared=true->s.held=false->2<=P.C.get s.addr/\s.addr∉O/\(P.Qd D s.addr).lvl=l
 mine:s.shared=false->s.held=false/\s.addr∈O/\(P.Qd D s.addr).lvl=l/\P.Qh D s.addr=0
theorem Zl.above {l l':Int}{s:Qy}(h:Zl P D O l s){O':LI}{P':Pl}(K:Keep D S0 C0 O H P)(ha:Dc l' D O O' P P')(hl:l'<l):Zl P' D O' l s:=by
 refine⟨λh1 h2=>?_,λh1=>?_⟩
 ·obtain⟨p,f,e⟩:=h.shared h1 h2;obtain⟨j1,j2,j3⟩:=ha s.addr (by omega) (by rw[e];exact hl);exact⟨by omega,λh=>f (j3.2 h),by rw[show P'.Qd D s.addr=P.Qd D s.addr from congrArg Prod.fst j2];exact e⟩
 ·obtain⟨p,f,e,q⟩:=h.mine h1;have u:=(K.opened _ f).2;obtain⟨j1,j2,j3⟩:=ha s.addr (by omega) (by rw[e];exact hl);exact⟨p,j3.1 f,by rw[show P'.Qd D s.addr=P.Qd D s.addr from congrArg Prod.fst j2];exact e,(congrArg Prod.snd j2).trans q⟩
def Ey (O:LI)(s:Qy):LI:=if s.shared=true then O else less1 O s.addr
theorem qde (K:Keep D S0 C0 O H P){l:Int}{s:Qy}(V:Zl P D O l s){X:LI}(p:∀a:Nat,0<a->a<P.C.n->H.count (a:Int)=(own s++X).count (a:Int)) :
  ∃u,P.leave s=some u/\Keep D S0 C0 (Ey O s) X u/\Move l D O (Ey O s) P u 0/\∀x,x≠s.addr->u.C.get x=P.C.get x/\u.store D x=P.store D x:=by
 unfold Pl.leave;by_cases q:s.held=true
 ·have f:s.shared=true:=by
   cases e:s.shared with
   |true=>rfl
   |false=>have:=(V.mine e).1;rw[this] at q;cases q
  rw[AA q];have e:Ey O s=O:=AA f;rw[e];have G:own s=[]:=AA q;rw[G] at p;exact⟨P,rfl,K.perm λa h1 h2=>(p a h1 h2).symm,Move.refl l D O P,λ_ _=>⟨rfl,rfl⟩⟩
 ·have T:s.held=false:=by cases e:s.held with|true=>exact absurd e q|false=>rfl
  rw[AB q];have G:own s=[s.addr]:=AB q;rw[G] at p;have other:∀c:Nat,∀x:Int,P.C.get (c:Int)≠0->x≠(c:Int)->(P.C.Qw (c:Int)).get x=P.C.get x/\Pl.store ⟨P.S,P.C.Qw (c:Int),P.L⟩ D x=P.store D x:=λc x h0 U=>by
   rw[(qa5 h0).2];exact qcd U
  cases f:s.shared with
  |true=>
   obtain⟨k1,y,Y⟩:=V.shared f T;obtain⟨c,I,J⟩:=G5 (C:=P.C) (a:=s.addr) (by omega);rw[I] at k1 Y p ⊢;obtain⟨F,E,Z⟩:=K.Qw (H0:=X) k1 p;have e:Ey O s=O:=AA f;rw[AA F,e];exact⟨_,rfl,E,Z l (by omega),λx W=>other c x (by omega) W⟩
  |false=>
   obtain⟨_,y,Y,_⟩:=V.mine f;have hg:=(K.opened _ y).2;obtain⟨c,I,J⟩:=G5 (C:=P.C) (a:=s.addr) (by omega);have e:Ey O s=less1 O s.addr:=AB (by rw[f];decide);rw[e];rw[I] at y Y p hg ⊢;obtain⟨F,E,Z⟩:=K.drop (H0:=X) y p;rw[AA F];exact⟨_,rfl,E,Z l (by omega),λx W=>other c x (by omega) W⟩
end
theorem RB.stored {w:WD}{b:Nat}{r:LV}(H:RB w b r)(vs:LV)(h:r.length=vs.length):RB (w.setCells b 0 vs) b vs:=by
 obtain⟨t,H⟩:=H;have:=q0s b t vs 0 w r H (by omega);rw[q47 r vs h] at this;exact⟨t,this⟩
theorem RB.cell {w:WD}{b:Nat}{r:LV}(H:RB w b r)(j:Nat){v:Value}(h:r[j]?=some v):w.cell? ⟨b,j,none⟩=some v:=by
 have:=H.range j v h;rwa [AT] at this
theorem RB.turned {w w':WD}{b:Nat}{r:LV}(H:RB w b r){S:NP}(T:Turn S w w')(hb:¬S b):RB w' b r:=H.keep (T.block b H.lt hb)
def Tt (Q:WD->Prop)(A:OA)(n c:Nat)(xs:List Qc):Prop:=∃e,(∀w,Q w->Jp w 4 A n c e)/\e.length=xs.length/\∀(j:Nat) r x,e[j]?=some r->xs[j]?=some x->∃V p q,r=Vx x.k V p q/\∀w,Q w->Sl w V p q x.v
def KdQ (Q:WD->Prop)(B:OA)(m d:Nat)(ks:List Qn):Prop:=∀w,Q w->Zr w B m d ks
structure Jm (Q:WD->Prop)(N:Nd)(A:OA)(n c:Nat)(B:OA)(m d:Nat):Prop where
 its:Tt Q A n c N.items
 Ef:KdQ Q B m d N.kids
 ln:N.items.length=n
 lm:N.kids.length=m
 hn:n<=60/\n<=c/\c<=maxLen
 hm:m<=60/\m<=d/\d<=maxLen
section
variable {Q Q':WD->Prop}{w w':WD}{A B:OA}{n c m d:Nat}{N:Nd}
theorem Tt.mono {xs:List Qc}(h:Tt Q A n c xs)(hq:∀w,Q' w->Q w):Tt Q' A n c xs:=by
 obtain⟨u,h1,h2,y⟩:=h;refine⟨u,λw f=>h1 w (hq w f),h2,λj r x E G=>?_⟩;obtain⟨V,p,q,e,F⟩:=y j r x E G;exact⟨V,p,q,e,λw f=>F w (hq w f)⟩
theorem Jm.mono (h:Jm Q N A n c B m d)(hq:∀w,Q' w->Q w):Jm Q' N A n c B m d:=⟨h.its.mono hq,λw e=>h.Ef w (hq w e),h.ln,h.lm,h.hn,h.hm⟩
theorem Tt.Y3 {xs:List Qc}(h:Tt Q A n c xs)(hw:Q w):J3 w A n c xs:=by
 obtain⟨f,h1,h2,u⟩:=h;refine⟨f,h1 w hw,h2,λj r x y F=>?_⟩;obtain⟨V,p,q,e,E⟩:=u j r x y F;exact⟨V,p,q,e,E w hw⟩
theorem qs1 (Q:WD->Prop):Tt Q none 0 0 []:=⟨[],λw _=>q6n w 4,rfl,λj r x e=>by simp at e⟩
theorem qs2 (Q:WD->Prop)(l:Int):Jm Q ⟨l,[],[]⟩ none 0 0 none 0 0:=⟨qs1 Q,λw _=>q6n w 4,rfl,rfl,⟨by omega,by omega,by unfold maxLen;omega⟩,⟨by omega,by omega,by unfold maxLen;omega⟩⟩
def Lh (A:OA)(c i:Nat):OA:=if c=i then A else A.map (·.add (i*4))
theorem Tt.sub {xs:List Qc}(h:Tt Q A n c xs){i j:Nat}(hi:i<=j)(hj:j<=n)(_hc:n<=c):Tt Q (Lh A c i) (j-i) (c-i) ((xs.drop i).take (j-i)):=by
 obtain⟨p,h1,h2,q⟩:=h;refine⟨(p.drop i).take (j-i),λw y=>((h1 w y).drop (by omega)).take (by omega),by rw[AR,AR,AS,AS,h2],λk r x e f=>?_⟩;rw[List.getElem?_take] at e f;split at e
 ·rename_i u;rw[AA u] at f;rw[List.getElem?_drop] at e f;exact q _ r x e f
 ·cases e
theorem KdQ.sub {ks:List Qn}(h:KdQ Q B m d ks){i j:Nat}(hi:i<=j)(hj:j<=m):KdQ Q (Lh B d i) (j-i) (d-i) ((ks.drop i).take (j-i)):=λw e=>(h w e).sub hi hj
def Ym (l:Int)(A:OA)(n c:Nat)(B:OA)(m d:Nat):Value:=.agg #[.int .i64 l,.slice A n c,.slice B m d]
theorem qwc (h:Jm Q N A n c B m d)(h0:N.lvl=0){i j:Nat}(hi:i<=j)(f:j<=n):Jm Q (N.cut i j) (Lh A c i) (j-i) (c-i) B m d:=by
 have e:N.cut i j=⟨N.lvl,(N.items.drop i).take (j-i),N.kids⟩:=AA h0;rw[e];have h1:=h.hn;have h2:=h.ln;refine⟨h.its.sub hi f h1.2.1,h.Ef,?_,h.lm,⟨by omega,by omega,by omega⟩,h.hm⟩;show ((N.items.drop i).take (j-i)).length=_;rw[AR,AS];omega
theorem qwd (h:Jm Q N A n c B m d)(h0:N.lvl≠0){i j:Nat}(hi:i<=j)(f:j<=m):Jm Q (N.cut i j) A n c (Lh B d i) (j-i) (d-i):=by
 have e:N.cut i j=⟨N.lvl,N.items,(N.kids.drop i).take (j-i)⟩:=AB h0;rw[e];have h1:=h.hm;have h2:=h.lm;refine⟨h.its,h.Ef.sub hi f,h.ln,?_,h.hn,⟨by omega,by omega,by omega⟩⟩;show ((N.kids.drop i).take (j-i)).length=_;rw[AR,AS];omega
theorem Jm.size (h:Jm Q N A n c B m d):N.size=n+m:=by unfold Nd.size;rw[h.ln,h.lm]
end
theorem q26 (l:Int)(A:OA)(n c:Nat)(B:OA)(m d:Nat)(hn:n<=1000)(hm:m<=1000)(w:WD) :
  Calls prog 134 #[Ym l A n c B m d] w λe w'=>e=.returned (.int .i64 ((n+m:Nat):Int))/\Below w.1.size w w':=by
 have f:NB (w.alloc (.cells #[.int .i64 l,.slice A n c,.slice B m d] 142)) w.1.size l A n c B m d:=NB.new w _ _ _ _ _ _ _ _;have p:Below w.1.size w (w.alloc (.cells #[.int .i64 l,.slice A n c,.slice B m d] 142)):=Qi;have c1:=f.c1;have c2:=f.c2;unfold Ym;go_enter func134,ntmps134
 go_wp2;go_ret;exact⟨rfl,p⟩
theorem q3k (l:Int)(A:OA)(n c:Nat)(B:OA)(m d:Nat)(w:WD) :
  Calls prog 173 #[Ym l A n c B m d] w λe w'=>e=.returned (.tuple #[.int .i64 (Qv l:Int),.int .i64 (Qu l:Int)])/\Below w.1.size w w':=by
 have p:NB (w.alloc (.cells #[.int .i64 l,.slice A n c,.slice B m d] 142)) w.1.size l A n c B m d:=NB.new w _ _ _ _ _ _ _ _;have f:Below w.1.size w (w.alloc (.cells #[.int .i64 l,.slice A n c,.slice B m d] 142)):=Qi;have c0:=p.c0;unfold Ym Qv Qu;by_cases h:l=0
 ·have q:(l==0)=true:=by simp[h]
  rw[AA h,AA h];clear h;go_enter func173,ntmps173
  go_wp2;go_ret2;exact⟨rfl,f⟩
 ·have q:(l==0)=false:=by simp[h]
  rw[AB h,AB h];clear h;go_enter func173,ntmps173
  go_wp2;go_ret2;exact⟨rfl,f⟩
