/- A pool some of whose nodes are open: another content of an open node, and a new node -/
import Derived.Test.YtnnbaihfboacoaaGreatDoorEt24
namespace Go.Proofs.YtnnbaihfboacoaaGreatDoor
open Go Go.RowKit Go.Proofs
set_option maxHeartbeats 8000000
set_option maxRecDepth 100000
structure Fits (R:Int->Nd × Int)(N:Nd):Prop where
 may:N.may=true
 bare:∀x∈N.items,Ko x=none
 kids:∀x∈N.kids,(R x.a).2=0/\(R x.a).1.lvl+1=N.lvl/\(R x.a).1.least=x.k/\(R x.a).1.enough
theorem Fits.ext {R R':Int->Nd × Int}{N:Nd}(h:Fits R N)(e:Ext R R'):Fits R' N:=
 ⟨h.may,h.bare,λx y=>by
  obtain⟨b,p,f,u⟩:=h.kids x y;rw[e x.a b];exact⟨b,p,f,u⟩⟩
theorem Fits.named {R:Int->Nd × Int}{N:Nd}(h:Fits R N):N.named=N.kids.map (·.a):=by
 unfold Nd.named;rw[List.filterMap_eq_nil_iff.2 h.bare,List.append_nil]
theorem Fits.loc {R R':Int->Nd × Int}{N:Nd}{a:Int}(h:Fits R N)(e:Ext R R')(ha:R' a=(N,0)):Loc R' a:=by
 have h2:=h.ext e;exact⟨by rw[ha],by rw[ha];exact h.may,by rw[ha];exact h.bare,by rw[ha];exact h2.kids⟩
theorem Loc.fits {R:Int->Nd × Int}{a:Int}(h:Loc R a):Fits R (R a).1:=⟨h.may,h.bare,h.kids⟩
section
variable {D:DM}{S0:Sp}{C0:Ct}{O H:List Int}{P:Pl}
theorem Keep.Ew (_K:Keep D S0 C0 O H P){N:Nd}(hN:Fits (P.hide D O) N){x:Int}(hx:(P.hide D O x).2≠0):x∉N.named:=λh=>by
 rw[hN.named] at h;obtain⟨y,b,e⟩:=List.mem_map.1 h;have:=(hN.kids y b).1;rw[e] at this;exact hx this
theorem Keep.set (K:Keep D S0 C0 O H P){c:Nat}(ho:(c:Int)∈O)(hfr:P.C.fresh (c:Int)=true){N:Nd}(hN:Fits (P.hide D O) N){H0:List Int}(hH:∀a:Nat,0<a->a<P.C.n->H.count (a:Int)=N.named.count (a:Int)+H0.count (a:Int)) :
  P.Gw (c:Int) N=0/\Keep D S0 C0 (less1 O (c:Int)) H0 (P.Vq (c:Int) N)/\(P.Vq (c:Int) N).hide D (less1 O (c:Int)) (c:Int)=(N,0)/\(∀l,(P.Qh D (c:Int)).lvl<=l->Move l D O (less1 O (c:Int)) P (P.Vq (c:Int) N) 0)/\(P.Vq (c:Int) N).C=P.C/\∀x,x≠(c:Int)->(P.Vq (c:Int) N).Qh D x=P.Qh D x:=by
 obtain⟨a6,h1,a8⟩:=K.opened _ ho;have h0:P.C.get (c:Int)≠0:=by omega
 obtain⟨c0,cn⟩:=K.first h0
 obtain⟨b,U⟩:=K.laid c hfr;have W:P.live c=some b:=by unfold Pl.live;rw[if_neg h0];exact U
 have hE:=qju D h0 W;have y:isNode (P.L ((c:Int)).toNat)=true:=by
  rw[Int.toNat_natCast,U]
  cases b with
  |node M=>rfl
  |bytes k l=>
   have:bkE (Bk.bytes k l)=1:=rfl;rw[this] at hE;omega
 have hs:P.Ee (c:Int) N=true:=by
  unfold Pl.Ee;rw[hN.may,hfr,y];rfl
 have e1:P.Gw (c:Int) N=0:=if_pos hs;have e2:P.Vq (c:Int) N=⟨P.S,P.C,upd P.L c (some (.node N))⟩:=by
  unfold Pl.Vq;rw[if_pos hs,Int.toNat_natCast]
 rw[e2];refine⟨e1,?_⟩;have u:∀x,x≠(c:Int)->Pl.store ⟨P.S,P.C,upd P.L c (some (.node N))⟩ D x=P.store D x:=λx f=>by
  by_cases T:P.C.get x=0
  ·rw[q0z T];exact q0z (P:=⟨P.S,P.C,upd P.L c (some (.node N))⟩) T
  ·obtain⟨n,rfl,hn⟩:=Ae T;unfold Pl.store Pl.Qh Pl.Zh Pl.live;show ((if P.C.get (n:Int)=0 then Jh else match (if P.C.get (((n:Int).toNat:Nat):Int)=0 then none else upd P.L c (some (.node N)) (n:Int).toNat) with|some (.node N)=>N|some (.bytes _ _)=>Jh|none=>_),(if P.C.get (n:Int)=0 then 1 else match (if P.C.get (((n:Int).toNat:Nat):Int)=0 then none else upd P.L c (some (.node N)) (n:Int).toNat) with|some (.node _)=>(0:Int)|some (.bytes _ _)=>1|none=>_))=_;rw[Int.toNat_natCast,Ar _ _ (λe=>f (by rw[e]))];rfl
 have a1:Pl.store ⟨P.S,P.C,upd P.L c (some (.node N))⟩ D (c:Int)=(N,0):=by
  unfold Pl.store Pl.Qh Pl.Zh Pl.live;show ((if P.C.get (c:Int)=0 then Jh else match (if P.C.get (((c:Int).toNat:Nat):Int)=0 then none else upd P.L c (some (.node N)) (c:Int).toNat) with|some (.node N)=>N|some (.bytes _ _)=>Jh|none=>_),(if P.C.get (c:Int)=0 then 1 else match (if P.C.get (((c:Int).toNat:Nat):Int)=0 then none else upd P.L c (some (.node N)) (c:Int).toNat) with|some (.node _)=>(0:Int)|some (.bytes _ _)=>1|none=>_))=_;rw[Int.toNat_natCast,Aw,if_neg h0,if_neg h0,if_neg h0]
 have X:(c:Int)∉less1 O (c:Int):=λh=>(Fv.1 h).2 rfl
 have F:Pl.hide ⟨P.S,P.C,upd P.L c (some (.node N))⟩ D (less1 O (c:Int)) (c:Int)=(N,0):=by rw[q1z X];exact a1
 have hh:∀x,x≠(c:Int)->Pl.hide ⟨P.S,P.C,upd P.L c (some (.node N))⟩ D (less1 O (c:Int)) x=P.hide D O x:=λx f=>by
  unfold Pl.hide;rw[u x f];by_cases G:x∈O
  ·rw[if_pos G,if_pos (Fv.2 ⟨G,f⟩)]
  ·rw[if_neg G,if_neg (λh=>G (Fv.1 h).1)]
 have E:Ext (P.hide D O) (Pl.hide ⟨P.S,P.C,upd P.L c (some (.node N))⟩ D (less1 O (c:Int))):=λx f=>hh x λe=>by
  rw[e,Pe ho] at f
  cases f
 have a2:(c:Int)∉N.named:=K.Ew hN (by rw[Pe ho];decide);refine⟨⟨⟨⟨K.Zt.ok.c,K.Zt.ok.res,K.Zt.ok.may,K.Zt.ok.sec,K.Zt.ok.gen,λa x f=>?_⟩,?_,λa x f=>?_⟩,λa J=>?_,?_,λx f=>?_,λa J Y Z=>?_⟩,F,λl hl=>⟨E,λx f a7=>?_,Nat.le_refl _,rfl⟩,rfl,λx f=>congrArg Prod.fst (u x f)⟩
 ·have f:upd P.L c (some (.node N)) a=some x:=f;by_cases e:a=c
  ·subst e;rw[Aw] at f;obtain rfl:=Option.some.inj f;exact qa7 hN.may
  ·rw[Ar _ _ e] at f;exact K.Zt.ok.fine a x f
 ·have:=K.Zt.sound;exact⟨this.free,this.n,this.Vr,⟨this.holds.may,this.holds.gen,this.holds.sec,this.holds.c,this.holds.res,this.holds.n,this.holds.slot,this.holds.other,this.holds.area⟩⟩
 ·have f:upd P.L c (some (.node N)) a=some x:=f;by_cases e:a=c
  ·subst e;rw[Aw] at f;obtain rfl:=Option.some.inj f;exact⟨N,rfl,hN.may⟩
  ·rw[Ar _ _ e] at f;exact K.Zt.nodes a x f
 ·show ∃b,upd P.L c (some (.node N)) a=some b;by_cases e:a=c
  ·subst e;exact⟨_,Aw _ _ _⟩
  ·rw[Ar _ _ e];exact K.laid a J
 ·have I:=K.Uc.set (c:=c) (ks:=N.named) (H0:=H0) (K':=λb=>(Pl.hide ⟨P.S,P.C,upd P.L c (some (.node N))⟩ D (less1 O (c:Int)) (b:Int)).1.named) cn (by unfold Pl.cnt;omega) hH (by show (Pl.hide ⟨P.S,P.C,upd P.L c (some (.node N))⟩ D (less1 O (c:Int)) (c:Int)).1.named=_;rw[F]) (λb U p=>by
   show (Pl.hide ⟨P.S,P.C,upd P.L c (some (.node N))⟩ D (less1 O (c:Int)) (b:Int)).1.named=_;rw[hh _ (by omega)])
  have I:Jo P.C.n P.cnt (λb=>(Pl.hide ⟨P.S,P.C,upd P.L c (some (.node N))⟩ D (less1 O (c:Int)) (b:Int)).1.named) ((P.hide D O (c:Int)).1.named++H0):=I;rw[Pe ho] at I;exact I
 ·obtain⟨f,p⟩:=Fv.1 f;obtain⟨k1,k2,k3⟩:=K.opened x f;obtain⟨n,rfl,hn⟩:=Ae (C:=P.C) (a:=x) (by omega);obtain⟨n0,_⟩:=K.first (c:=n) (by omega)
  refine⟨?_,k2,?_⟩
  ·have h3:=hH n n0 hn;have h4:=List.count_pos_iff.2 k1;have h5:N.named.count (n:Int)=0:=List.count_eq_zero.2 (K.Ew hN (by rw[Pe f];decide));exact List.count_pos_iff.1 (by omega)
  ·have:=congrArg Prod.snd (u (n:Int) p);exact this.trans k3
 ·by_cases e:a=c
  ·subst e;exact hN.loc E F
  ·exact (K.loc a J Y λh=>Z (Fv.2 ⟨h,by omega⟩)).ext E
 ·have p:x≠(c:Int):=λe=>by subst e;omega
  exact⟨Int.le_refl _,congrArg Prod.fst (u x p),⟨λh=>Fv.2 ⟨h,p⟩,λh=>(Fv.1 h).1⟩⟩
theorem Keep.put (K:Keep D S0 C0 O H P){c:Nat}(hp:P.C.pick=some c){N:Nd}(hN:Fits (P.hide D O) N){H0:List Int}(hH:∀a:Nat,0<a->a<P.C.n->H.count (a:Int)=N.named.count (a:Int)+H0.count (a:Int)) :
  P.Jq N=0/\P.Xg N=(c:Int)/\Keep D S0 C0 O ((c:Int)::H0) (P.Zn N)/\(P.Zn N).hide D O (c:Int)=(N,0)/\(∀l,Move l D O O P (P.Zn N) 1)/\1<=c/\c<2048:=by
 obtain⟨p1,p2,p3,p4,_⟩:=Ct.Xk hp;obtain⟨v1,v2,v3⟩:=q6s hp hN.may;have Z:P.C.get (c:Int)=0:=by
  unfold Ct.get;rw[if_pos (by omega),Int.toNat_natCast];exact p3
 have a1:P.C.first=2+2*Qe P.C.n:=rfl
 have I:(c:Int)∉O:=λh=>by
  have:=(K.opened _ h).2.1;omega
 have E:=λb (G:b<P.C.n)=>qdm hp (.node N) b G
 have U:=qfc hp (.node N);have hn:(P.Zn N).C.n=P.C.n:=by rw[v3];exact qo1 _
 obtain⟨s1,_,s3⟩:=K.Zt.put hN.may (by have:=Ct.Uz hp;omega);have y:(P.Zn N).hide D O (c:Int)=(N,0):=by rw[q1z I];exact qa6 D hp hN.may
 have T:∀x,x≠(c:Int)->(P.Zn N).store D x=P.store D x:=λx u=>by
  by_cases G:0<=x/\x<(P.C.n:Int)
  ·obtain⟨n,rfl⟩:∃n:Nat,x=(n:Int):=⟨x.toNat,by omega⟩;have E:=E n (by omega);have U:=U n;rw[if_neg (by omega)] at E U;rw[v3];unfold Pl.store Pl.Qh Pl.Zh Pl.live;rw[Int.toNat_natCast,E,U]
  ·have h1:P.C.get x=0:=by unfold Ct.get;rw[if_neg G]
   have h2:(P.Zn N).C.get x=0:=by unfold Ct.get;rw[hn,if_neg G]
   rw[q0z h1,q0z h2]
 have hh:∀x,x≠(c:Int)->(P.Zn N).hide D O x=P.hide D O x:=λx u=>by
  unfold Pl.hide;rw[T x u]
 have J:Ext (P.hide D O) ((P.Zn N).hide D O):=λx u=>hh x λe=>by
  rw[e,q1z I,q0z Z] at u
  cases u
 have a2:=K.c.1.2;refine⟨v2,v1,⟨s1,λa p=>?_,?_,λx u=>?_,λa p W Y=>?_⟩,y,λl=>⟨J,λx u _=>?_,by omega,hn⟩,by omega,by omega⟩
 ·rw[v3,U a];by_cases e:a=c
  ·exact⟨_,if_pos e⟩
  ·rw[if_neg e];refine K.laid a ?_;rw[v3,q37 hp] at p;have p:P.C.alloc.fresh (a:Int)=true:=p;rw[(Ct.Xv hp).2.2] at p;have X:a<P.C.n:=by
    obtain⟨n,e1,h2⟩:=Ae (q31 p);rw[P.C.Zi] at h2;omega
   unfold Ct.fresh at p ⊢;rw[q2q P.C a X,if_neg e] at p;exact p
 ·rw[hn];refine K.Uc.put (c:=c) (ks:=N.named) (H0:=H0) (cnt':=(P.Zn N).cnt) (by omega) p1 (by unfold Pl.cnt;rw[Z];rfl) hH ?_ ?_ ?_ ?_
  ·unfold Pl.cnt;rw[v3,E c p1,if_pos rfl];rfl
  ·intro b G f;unfold Pl.cnt;rw[v3,E b G,if_neg f]
  ·show ((P.Zn N).hide D O (c:Int)).1.named=_;rw[y]
  ·intro b G f;show ((P.Zn N).hide D O (b:Int)).1.named=_;rw[hh _ (by omega)]
 ·obtain⟨k1,k2,k3⟩:=K.opened x u;obtain⟨n,rfl,F⟩:=Ae (C:=P.C) (a:=x) (by omega);obtain⟨n0,_⟩:=K.first (c:=n) (by omega)
  have f:n≠c:=λe=>I (e▸u)
  refine⟨List.mem_cons_of_mem _ ?_,?_,?_⟩
  ·have h3:=hH n n0 F;have h4:=List.count_pos_iff.2 k1;have h5:N.named.count (n:Int)=0:=List.count_eq_zero.2 (K.Ew hN (by rw[Pe u];decide));exact List.count_pos_iff.1 (by omega)
  ·rw[v3,E n F,if_neg f];exact k2
  ·have:=congrArg Prod.snd (T (n:Int) (by omega));exact this.trans k3
 ·rw[hn] at p;by_cases e:a=c
  ·subst e;exact hN.loc J y
  ·rw[v3,E a p,if_neg e] at W;exact (K.loc a p W Y).ext J
 ·obtain⟨n,rfl,F⟩:=Ae u;have f:n≠c:=λe=>u (by rw[e];exact Z)
  refine⟨?_,congrArg Prod.fst (T _ (by omega)),Iff.rfl⟩;rw[v3,E n F,if_neg f];exact Int.le_refl _
end
def Nd.size (N:Nd):Nat:=N.items.length+N.kids.length
def Qr (l:Int):Nat:=if l=0 then 3 else 6
def Qq (l:Int):Nat:=if l=0 then 6 else 12
def Nd.cut (N:Nd)(i j:Nat):Nd:=if N.lvl=0 then ⟨N.lvl,(N.items.drop i).take (j-i),N.kids⟩ else ⟨N.lvl,N.items,(N.kids.drop i).take (j-i)⟩
def Jd (l:Int)(Ns:List Nd):Nd:=⟨l,Ns.flatMap (·.items),Ns.flatMap (·.kids)⟩
def parts (N:Nd):Nat:=(N.size+Qq N.lvl-1) / Qq N.lvl
def pieces (N:Nd):List Nd:=(List.range (parts N)).map λi=>N.cut (N.size*i / parts N) (N.size*(i+1) / parts N)
def good1 (R:Int->Nd × Int)(l:Nat)(x:Zw):Prop:=Qp R l x.1 x.2/\(R x.1).1.enough/\1<=x.1/\x.1<2048
def Yr (R:Int->Nd × Int):Nat->Nd->List (List Qc)->Prop
 |0,N,M=>∃its:List Qc,N=⟨0,its,[]⟩/\M=its.map λx=>[x]
 |l+1,N,M=>∃G:List Zw,N=⟨((l+1:Nat):Int),[],G.map Qn⟩/\M=G.map (·.2)/\∀x∈G,good1 R l x
section
variable {R R':Int->Nd × Int}{l:Nat}{N:Nd}{M:List (List Qc)}
theorem Ig:∀(its:List Qc),(its.map λx=>[x]).flatten=its
 |[]=>rfl
 |x::r=>by rw[List.map_cons,List.flatten_cons,Ig r];rfl
theorem q4s (h:Yr R l N M):N.lvl=(l:Int):=by
 cases l with
 |zero=>obtain⟨its,rfl,_⟩:=h;rfl
 |succ l=>obtain⟨G,rfl,_⟩:=h;rfl
theorem q5l (h:Yr R l N M):N.size=M.length:=by
 cases l with
 |zero=>obtain⟨its,rfl,rfl⟩:=h;simp[Nd.size]
 |succ l=>obtain⟨G,rfl,rfl,_⟩:=h;simp[Nd.size]
theorem q69 (h:Yr R l N M)(i j:Nat):Yr R l (N.cut i j) ((M.drop i).take (j-i)):=by
 cases l with
 |zero=>
  obtain⟨its,rfl,rfl⟩:=h;refine⟨(its.drop i).take (j-i),?_,by rw[List.map_take,List.map_drop]⟩;unfold Nd.cut;rw[if_pos rfl]
 |succ l=>
  obtain⟨G,rfl,rfl,b⟩:=h;refine⟨(G.drop i).take (j-i),?_,by rw[List.map_take,List.map_drop],λx e=>b x (List.mem_of_mem_drop (List.mem_of_mem_take e))⟩;unfold Nd.cut;rw[if_neg (by show ¬((l+1:Nat):Int)=0;omega),List.map_take,List.map_drop]
theorem qwd (R:Int->Nd × Int)(l:Nat):Yr R l ⟨(l:Int),[],[]⟩ []:=by
 cases l with
 |zero=>exact⟨[],rfl,rfl⟩
 |succ l=>exact⟨[],rfl,rfl,λx b=>(by cases b)⟩
theorem qwe {e:Nd}{p:List (List Qc)}(h:Yr R l N M)(h2:Yr R l e p):Yr R l ⟨(l:Int),N.items++e.items,N.kids++e.kids⟩ (M++p):=by
 cases l with
 |zero=>
  obtain⟨its,rfl,rfl⟩:=h;obtain⟨b,rfl,rfl⟩:=h2;exact⟨its++b,rfl,by rw[List.map_append]⟩
 |succ l=>
  obtain⟨G,rfl,rfl,u⟩:=h;obtain⟨y,rfl,rfl,f⟩:=h2;refine⟨G++y,by rw[List.map_append];rfl,by rw[List.map_append],λx E=>?_⟩;rcases List.mem_append.1 E with h|h
  ·exact u x h
  ·exact f x h
theorem qpc (z:Int)(A:Nd)(Ns:List Nd):Jd z (A::Ns)=⟨z,A.items++(Jd z Ns).items,A.kids++(Jd z Ns).kids⟩:=by
 unfold Jd;rw[List.flatMap_cons,List.flatMap_cons]
theorem q6u:∀(b:List (Nd × List (List Qc))),(∀x∈b,Yr R l x.1 x.2)->Yr R l (Jd (l:Int) (b.map (·.1))) (b.map (·.2)).flatten
 |[],_=>qwd R l
 |x::r,h=>by
  rw[List.map_cons,List.map_cons,List.flatten_cons,qpc];exact qwe (h x (List.mem_cons_self ..)) (q6u r λy e=>h y (List.mem_cons_of_mem _ e))
theorem q3m {x:Zw}(h:good1 R l x)(e:Ext R R'):good1 R' l x:=by
 refine⟨P9 e h.1,?_,h.2.2⟩;rw[e x.1 (Fq h.1).2.2];exact h.2.1
theorem qe7 (h:Yr R l N M)(e:Ext R R'):Yr R' l N M:=by
 cases l with
 |zero=>exact h
 |succ l=>
  obtain⟨G,h1,h2,b⟩:=h;exact⟨G,h1,h2,λx f=>q3m (b x f) e⟩
theorem q3n (h:Yr R l N M):N.enough↔Qr (l:Int)<=M.length:=by
 have h1:=q4s h;have h2:=q5l h;unfold Nd.enough Qr;unfold Nd.size at h2;rw[h1,h2]
theorem qjy (h:Yr R l N M)(y:∀x∈M.flatten,Ko x=none)(b:N.may=true):Fits R N:=by
 cases l with
 |zero=>
  obtain⟨its,rfl,rfl⟩:=h;rw[Ig] at y;exact⟨b,y,λx f=>(by cases f)⟩
 |succ l=>
  obtain⟨G,rfl,rfl,I⟩:=h;refine⟨b,λx f=>(by cases f),λx f=>?_⟩;obtain⟨t,E,rfl⟩:=List.mem_map.1 f;obtain⟨h1,h2,_⟩:=I t E;obtain⟨W,K,F⟩:=Fq h1;refine⟨F,by show (R t.1).1.lvl+1=((l+1:Nat):Int);rw[K];omega,?_,h2⟩;show (R t.1).1.least=(Qj t.2 0).k;exact holds_least h1
where
 holds_least {R:Int->Nd × Int}:∀{l:Nat} {a:Int} {its:List Qc},Qp R l a its->(R a).1.least=(Qj its 0).k
  |0,a,its,h=>by
   rw[h.1];exact qa8 h.2
  |l+1,a,its,h=>by
   obtain⟨kids,parts,h1,h2,u,rfl,J⟩:=h;rw[h1,q7r _ h2];have U:0<kids.length:=List.length_pos_iff.2 h2;obtain⟨_,x,r,e,T⟩:=J 0 U;rw[T];match parts,u,e with
   |[],u,_=>rw[List.length_nil] at u;omega
   |p::ps,_,e=>
    have e:p=x::r:=e;rw[e,List.flatten_cons];rfl
theorem qae (h:Yr R l N M)(b:M≠[])(e:Ext R R'){a:Int}(f:R' a=(N,0)):Qp R' l a M.flatten:=by
 cases l with
 |zero=>
  obtain⟨its,rfl,rfl⟩:=h;rw[Ig];exact⟨f,λe=>b (by rw[e];rfl)⟩
 |succ l=>
  obtain⟨G,rfl,rfl,p⟩:=h;exact q9s (λx u=>(q3m (p x u) e).1) (λe=>b (by rw[e];rfl)) f
theorem qpd (h:Yr R l N M)(b:M≠[]):N.least=(Qj M.flatten 0).k:=by
 cases l with
 |zero=>
  obtain⟨its,rfl,rfl⟩:=h;rw[Ig];exact qa8 λe=>b (by rw[e];rfl)
 |succ l=>
  obtain⟨G,rfl,rfl,f⟩:=h;have p:G≠[]:=λe=>b (by rw[e];rfl)
  rw[q7r _ (by simpa using p)];match G,p,f with
  |x::r,_,f=>
   obtain⟨y,s,e⟩:=q39 (f x (List.mem_cons_self ..)).1;show (Qj x.2 0).k=(Qj (x.2++(r.map (·.2)).flatten) 0).k;rw[e];rfl
def Ze (x:Qc):Prop:=x.k.may=true/\x.v.length<=28/\Ko x=none
theorem qpe (h:Yr R l N M)(I:l<8)(h1:1<=M.length)(h2:0<l->2<=M.length)(f:M.length<=Qq (l:Int))(u:Qd M.flatten)(p:∀x∈M.flatten,Ze x):N.may=true:=by
 cases l with
 |zero=>
  obtain⟨its,rfl,rfl⟩:=h;rw[Ig] at u p;rw[List.length_map] at h1 f;exact qsl h1 f u λx b=>⟨(p x b).1,(p x b).2.1⟩
 |succ l=>
  obtain⟨G,rfl,rfl,E⟩:=h;rw[List.length_map] at h2 f;have e:Qq ((l+1:Nat):Int)=12:=if_neg (by omega);rw[e] at f;exact qfk (by omega) (h2 (by omega)) f u (λx b=>(p x b).1) (λx b=>(E x b).2.2) λx b e=>by
   obtain⟨y,r,F⟩:=q39 (E x b).1;rw[e] at F
   cases F
theorem qaf (h:Yr R l N M)(hm:M.length=0):pieces N=[]:=by
 have b:=q5l h;have:parts N=0:=by
  unfold parts;rw[b,hm];have:0<Qq N.lvl:=by unfold Qq;split<;>omega
  exact Nat.div_eq_of_lt (by omega)
 unfold pieces;rw[this];rfl
theorem qch (h:Yr R l N M)(h1:1<=M.length)(h2:M.length<=Qq (l:Int)):pieces N=[N.cut 0 M.length]:=by
 have e:=q5l h;have b:=q4s h;have f:0<Qq (l:Int):=by unfold Qq;split<;>omega
 have:parts N=1:=by
  unfold parts;rw[e,b];refine (Nat.div_eq_iff f).2 ?_;omega
 unfold pieces;rw[this,e];simp
theorem qci (h:Yr R l N M)(h1:Qq (l:Int)<M.length)(h2:M.length<=2*Qq (l:Int)):pieces N=[N.cut 0 (M.length / 2),N.cut (M.length / 2) M.length]:=by
 have e:=q5l h;have b:=q4s h;have f:0<Qq (l:Int):=by unfold Qq;split<;>omega
 have:parts N=2:=by
  unfold parts;rw[e,b];refine (Nat.div_eq_iff f).2 ?_;omega
 unfold pieces;rw[this,e];simp[List.range,List.range.loop]
end
structure Qu where
 N:Nd
 addr:Int
 next:Nat
 held:Bool
 shared:Bool
def Um:List Int->Pl->Option Pl
 |[],P=>some P
 |a::l,P=>if P.C.Y8 a=0 then Um l ⟨P.S,P.C.ref a,P.L⟩ else none
def q3g:List Int->Pl->Option Pl
 |[],P=>some P
 |a::l,P=>if P.C.Jz a=0 then q3g l ⟨P.S,P.C.Qy a,P.L⟩ else none
def Pl.Qx (P:Pl)(s:Qu)(i j:Nat):Option Pl:=
 if s.shared=true then Um (Jd s.N.lvl [s.N.cut 0 i,s.N.cut j s.N.size]).named P else if 0<s.N.lvl then some P else q3g (s.N.cut i j).named P
def Pl.spot (P:Pl)(D:DM)(a:Int)(held:Bool):Qu:=⟨P.Qh D a,a,0,held,held||decide (1<P.C.get a)⟩
def Pl.Wn (P:Pl)(D:DM)(above:Qu)(i:Nat):Bool:=decide (i<above.N.kids.length/\P.Zh D (Qg above.N.kids i).a=0/\(P.Qh D (Qg above.N.kids i).a).lvl=above.N.lvl-1)
def Pl.Jj (P:Pl)(D:DM)(above:Qu)(i:Nat):Qu:=P.spot D (Qg above.N.kids i).a above.shared
def Pl.near (P:Pl)(D:DM)(above:Qu)(i:Nat):Option Pl:=if P.Wn D above i=true then P.Qx (P.Jj D above i) 0 0 else none
structure Px where
 N:Nd
 olds:List Qu
 i:Nat
 j:Nat
def Pl.have_ (P:Pl)(D:DM)(s:Qu)(b:Nd)(above:Qu):Option (Px × Pl):=
 if Qr b.lvl<=b.size then some (⟨b,[s],above.next,above.next+1⟩,P)
 else if 0<above.next then (P.near D above (above.next-1)).map λe=>(⟨Jd (P.Jj D above (above.next-1)).N.lvl [(P.Jj D above (above.next-1)).N,b],[P.Jj D above (above.next-1),s],above.next-1,above.next+1⟩,e)
 else (P.near D above (above.next+1)).map λe=>(⟨Jd b.lvl [b,(P.Jj D above (above.next+1)).N],[s,P.Jj D above (above.next+1)],above.next,above.next+2⟩,e)
def Pl.leave (P:Pl)(s:Qu):Option Pl:=if s.held=true then some P else if P.C.Jz s.addr=0 then some ⟨P.S,P.C.Qy s.addr,P.L⟩ else none
def Gu:List Qu->Pl->List Nd->List Ql->Option (Pl × List Nd × List Ql)
 |[],P,rest,ks=>some (P,rest,ks)
 |s::olds,P,[],ks=>match P.leave s with
  |some P'=>Gu olds P' [] ks
  |none=>none
 |s::olds,P,b::rest,ks=>if s.shared=true\/P.C.fresh s.addr=false then match P.leave s with
   |some P'=>Gu olds P' (b::rest) ks
   |none=>none
  else if P.Gw s.addr b=0 then Gu olds (P.Vq s.addr b) rest (ks++[⟨b.least,s.addr⟩]) else none
def Xe:List Nd->Pl->List Ql->Option (Pl × Option (List Ql))
 |[],P,ks=>some (P,some ks)
 |b::rest,P,ks=>if P.Jq b=0 then Xe rest (P.Zn b) (ks++[⟨b.least,P.Xg b⟩]) else if P.Jq b=6 then some (P.Zn b,none) else none
def Pl.Y7 (P:Pl)(x:Px):Option (Pl × Option (List Ql)):=match Gu x.olds P (pieces x.N) [] with
 |some (P',rest,ks)=>Xe rest P' ks
 |none=>none
def Pl.top (P:Pl)(s:Qu)(b:Nd):Option (Pl × Option Int):=
 if b.kids.length=1 then (P.leave s).map λe=>(e,some (Qg b.kids 0).a)
 else match P.Y7 ⟨b,[s],0,0⟩ with
  |some (e,some ks)=>if ks.length=0 then some (e,some 0) else if ks.length=1 then some (e,some (Qg ks 0).a) else
    if e.Jq ⟨b.lvl+1,[],ks⟩=0 then some (e.Zn ⟨b.lvl+1,[],ks⟩,some (e.Xg ⟨b.lvl+1,[],ks⟩)) else if e.Jq ⟨b.lvl+1,[],ks⟩=6 then some (e.Zn ⟨b.lvl+1,[],ks⟩,none) else none
  |some (e,none)=>some (e,none)
  |none=>none
def Ye (s:Qu)(i j:Nat)(b:Nd):Nd:=Jd s.N.lvl [s.N.cut 0 i,b,s.N.cut j s.N.size]
def Wj (D:DM):List Qu->Pl->Qu->Nat->Nat->Nd->Option (Pl × Option Int)
 |[],P,s,i,j,come=>match P.Qx s i j with
  |some P1=>P1.top s (Ye s i j come)
  |none=>none
 |above::way,P,s,i,j,come=>match P.Qx s i j with
  |some P1=>match P1.have_ D s (Ye s i j come) above with
   |some (x,P2)=>match P2.Y7 x with
    |some (P3,some ks)=>Wj D way P3 above x.i x.j ⟨x.N.lvl+1,[],ks⟩
    |some (P3,none)=>some (P3,none)
    |none=>none
   |none=>none
  |none=>none
def Pl.Gx (P:Pl)(D:DM)(k:Kd):Nat->Qu->List Qu->Option (List Qu × Qu)
 |0,s,up=>if s.N.lvl<=0 then some (up,s) else none
 |f+1,s,up=>if s.N.lvl<=0 then some (up,s) else if P.Wn D s (s.N.Za k)=true then P.Gx D k f (P.Jj D s (s.N.Za k)) ({ s with next:=s.N.Za k }::up) else none
def q46:Qu:=⟨Jh,0,0,true,true⟩
def Pl.way (P:Pl)(D:DM)(root:Int)(k:Kd):Option (List Qu × Qu):=if root=0 then some ([],q46) else if P.Zh D root=0 then P.Gx D k 8 (P.spot D root false) [] else none
def Pl.O6 (P:Pl)(D:DM)(root:Int)(x:Qc):Option (Pl × Option Int):=match P.way D root x.k with
 |some (up,s)=>Wj D up P s (s.N.Za x.k) (s.N.Za x.k+if Vb s.N.keys x.k (s.N.Za x.k)=true then 1 else 0) ⟨0,[x],[]⟩
 |none=>none
def Pl.Oq (P:Pl)(D:DM)(root:Int)(k:Kd):Option (Pl × Option Int):=match P.way D root k with
 |some (up,s)=>Wj D up P s (s.N.Za k) (s.N.Za k+1) ⟨0,[],[]⟩
 |none=>none
def Rq (w:World)(lo hi:Nat)(A:Option Addr)(n:Nat)(xs:List Qc):Prop:=
 ∀j,j<n->∃g o V p q,A=some ⟨g,o,none⟩/\g<w.1.size/\w.cell? ⟨g,o+j*4,none⟩=some (.int .i64 (Qj xs j).k.obj)/\w.cell? ⟨g,o+j*4+1,none⟩=some (.int .i64 (Qj xs j).k.kind)/\
  w.cell? ⟨g,o+j*4+2,none⟩=some (.int .i64 (Qj xs j).k.off)/\w.cell? ⟨g,o+j*4+3,none⟩=some (.slice V p q)/\Sl w V p q (Qj xs j).v/\((Qj xs j).v≠[]->∀b,q01 V=some b->lo<=b/\b<hi)
def Held (w:World)(lo hi:Nat)(A:Option Addr)(n c:Nat)(B:Option Addr)(m d:Nat)(M:Nd):Prop:=
 hi<=w.1.size/\n<=20/\m<=20/\∀w',w.1.size<=w'.1.size->(∀k,lo<=k->k<hi->w'.1[k]?=w.1[k]?)->J4 w' lo A n c M.items/\Zm w' B m d M.kids/\Rq w' lo hi A n M.items
section
variable {w w':World}{lo hi n c m d:Nat}{A B:Option Addr}{M:Nd}
theorem Held.rows (h:Held w lo hi A n c B m d M):J4 w lo A n c M.items/\Zm w B m d M.kids:=by
 obtain⟨a,b,_⟩:=h.2.2.2 w (Nat.le_refl _) λ_ _ _=>rfl
 exact⟨a,b⟩
theorem Held.turn {S:Nat->Prop}(h:Held w lo hi A n c B m d M)(t:Turn S w w')(hS:∀k,lo<=k->k<hi->¬S k):Held w' lo hi A n c B m d M:=by
 obtain⟨h1,h2,G,F⟩:=h;have p:∀k,lo<=k->k<hi->w'.1[k]?=w.1[k]?:=λk f e=>t.block k (by omega) (hS k f e)
 exact⟨Nat.le_trans h1 t.size,h2,G,λy E u=>F y (Nat.le_trans t.size E) λk a b=>(u k a b).trans (p k a b)⟩
theorem Held.below (h:Held w lo hi A n c B m d M)(hb:Below w.1.size w w'):Held w' lo hi A n c B m d M:=h.turn (Qv (S:=λ_=>False) hb) λ_ _ _ h=>h
end
theorem qg3 {w w':World}{base n c:Nat}{A:Option Addr}{xs:List Qc}(h:J4 w base A n c xs)(hz:w.1.size<=w'.1.size)(J:∀k,base<=k->k<w.1.size->w'.1[k]?=w.1[k]?):J4 w' base A n c xs:=by
 obtain⟨G,h1,h2,Z⟩:=h;refine⟨G,h1.keep λg a b=>J g a b,h2,λj r x W U=>?_⟩;obtain⟨V,p,q,e,y,f⟩:=Z j r x W U;refine⟨V,p,q,e,⟨y.1,y.2.1,y.2.2.1,λi u F=>?_⟩,f⟩;obtain⟨E,I,Y,X⟩:=y.2.2.2 i u F;have T:x.v≠[]:=λe=>by rw[e] at F;simp at F
 have K:=(f T E.block (by rw[I];rfl)).1;exact⟨E,I,by omega,(World.cell?_of_block (a:=E.add i) (by rw[q0n];exact J _ K Y)).trans X⟩
theorem qpf {w w':World}{lo n c:Nat}{A:Option Addr}{xs:List Qc}(h:J4 w lo A n c xs)(hz:w.1.size<=w'.1.size)(X:∀k,lo<=k->k<w.1.size->w'.1[k]?=w.1[k]?):Rq w' lo w.1.size A n xs:=λj hj=>by
 obtain⟨f,h1,h2,h3⟩:=h;have hl:f.length=n:=h1.len (by omega);have U:f[j]?=some (f[j]'(by omega)):=List.getElem?_eq_getElem (by omega);have hx:=q11 (xs:=xs) (j:=j) (by omega);obtain⟨V,p,q,e,E,F⟩:=h3 j _ _ U hx;obtain⟨g,o,Y,Z,_,T⟩:=(h1.Vs (by omega)).2.2.2 j _ U;rw[e] at T;have K:=(h1.Qa g (by rw[Y];rfl)).1;have cell:∀i v,(Yi (Qj xs j).k V p q)[i]?=some v->w'.cell? ⟨g,o+j*4+i,none⟩=some v:=λi v y=>(World.cell?_of_block (a:=⟨g,_,none⟩) (X g K Z)).trans (T i v y)
 refine⟨g,o,V,p,q,Y,by omega,cell 0 _ rfl,cell 1 _ rfl,cell 2 _ rfl,cell 3 _ rfl,⟨E.1,E.2.1,E.2.2.1,λi u J=>?_⟩,λy b G=>⟨(F y b G).1,E.Qa y b G⟩⟩;obtain⟨I,W,e2,e3⟩:=E.2.2.2 i u J;have y:(Qj xs j).v≠[]:=λe=>by rw[e] at J;simp at J
 have G:=(F y I.block (by rw[W];rfl)).1;exact⟨I,W,by omega,(World.cell?_of_block (a:=I.add i) (by rw[q0n];exact X _ G e2)).trans e3⟩
theorem qe8 {w w':World}{A B:Option Addr}{n c m d:Nat}{M:Nd}(hn:n<=20)(hm:m<=20)(f:J4 w' w.1.size A n c M.items)(u:Qs w' w.1.size 81 4 B m d (M.kids.map Ql.vs)):Held w' w.1.size w'.1.size A n c B m d M:=
 ⟨Nat.le_refl _,hn,hm,λy p e=>⟨qg3 f p e,(u.keep λg a b=>e g a b).Vs (by omega),qpf f p e⟩⟩
theorem NB.turned {w w':World}{b:Nat}{l:Int}{A B:Option Addr}{n c m d:Nat}(H:NB w b l A n c B m d){S:Nat->Prop}(T:Turn S w w')(hb:¬S b):NB w' b l A n c B m d:=H.keep (T.block b H.lt hb)
def Ap (R:Int->Nd × Int)(l a:Int):Int:=if (R a).2≠0 then (R a).2 else if (R a).1.lvl≠l-1 then 5 else 0
def Dl (R:Int->Nd × Int)(l a:Int):Nd:=if (R a).2≠0 then Jh else if (R a).1.lvl≠l-1 then Jh else (R a).1
theorem qjz {w0 w:World}{p:Nat}{R:Int->Nd × Int}(H:Src w0 p R)(B0:Below w0.1.size w0 w)(ht:Tab w)(l:Int)(b4:1<=l)(b0:l<8)(kids:List Ql)(A:Option Addr)(n c:Nat)(B:Option Addr)(m d:Nat)(hK:Zm w B m d kids)(i:Nat)(hi:i<m)(x:Int)(G:(Qg kids i).a=x) :
  Calls Tryz.prog 72 #[.pointer (some ⟨p,0,none⟩),.agg #[.int .i64 l,.slice A n c,.slice B m d],.int .i64 (i:Int)] w λe w'=>q68 (Dl R l x) (Ap R l x) w e w':=by
 obtain⟨g,o,rfl,hg,-,-,-,k3⟩:=hK.cell hi;rw[G] at k3;have U:NB ((w.alloc (.cells #[.int .i64 l,.slice A n c,.slice (some ⟨g,o,none⟩) m d] 75)).alloc (.cells #[.int .i64 0,.slice none 0 0,.slice none 0 0] 75)) w.1.size l A n c (some ⟨g,o,none⟩) m d:=(NB.new w _ _ _ _ _ _ _ _).below (Qm) (by simp);have W:NB ((w.alloc (.cells #[.int .i64 l,.slice A n c,.slice (some ⟨g,o,none⟩) m d] 75)).alloc (.cells #[.int .i64 0,.slice none 0 0,.slice none 0 0] 75)) (w.1.size+1) 0 none 0 0 none 0 0:=by
  have:=NB.new (w.alloc (.cells #[.int .i64 l,.slice A n c,.slice (some ⟨g,o,none⟩) m d] 75)) 0 none 0 0 none 0 0 75;rwa [World.size_alloc] at this
 have f:Below w.1.size w ((w.alloc (.cells #[.int .i64 l,.slice A n c,.slice (some ⟨g,o,none⟩) m d] 75)).alloc (.cells #[.int .i64 0,.slice none 0 0,.slice none 0 0] 75)):=(Qm).alloc (by simp) _;have z1:((w.alloc (.cells #[.int .i64 l,.slice A n c,.slice (some ⟨g,o,none⟩) m d] 75)).alloc (.cells #[.int .i64 0,.slice none 0 0,.slice none 0 0] 75)).1.size=w.1.size+2:=by simp
 have q2:=U.c2;have F:=(f.cell (p:=⟨g,_,none⟩) hg).trans k3;have Hn:=Lib.hid (λu hu tu=>H.node u hu tu x);have zw:=B0.size;have hj:(0:Int)<=(i:Int):=by omega
 have b5:(i:Int)<(m:Int):=by omega
 obtain⟨_,a8⟩:=hK.bounds;clear k3 hK;obtain⟨M,E,hR⟩:∃M E,R x=(M,E):=⟨_,_,rfl⟩;rw[hR] at Hn;unfold Dl Ap;rw[hR];dsimp only;clear hR;by_cases K:E=0
 ·have g1:(E==0)=true:=by simp[K]
  have g2:(E != 0)=false:=by simp[K]
  by_cases Z:M.lvl=l-1
  ·have g3:(M.lvl==l-1)=true:=by simp[Z]
   have g4:(M.lvl != l-1)=false:=by simp[Z]
   simp only[if_neg (show ¬E≠0 by simpa using K),if_neg (show ¬M.lvl≠l-1 by simpa using Z)];clear Z K;go_enter Tryz.func72,Tryz.ntmps72
   go_wp2_with fail
   generalize (w.alloc (.cells #[.int .i64 l,.slice A n c,.slice (some ⟨g,o,none⟩) m d] 75)).alloc (.cells #[.int .i64 0,.slice none 0 0,.slice none 0 0] 75)=w1 at U W f z1 q2 F ⊢;have t1:=ht.below f ht.1;refine (Hn.out w1 (B0.trans (f.mono zw)) t1).mono ?_;clear q2 F;rintro e b ⟨A1,n1,c1,B1,m1,d1,rfl,a6,a2,hI,a1,y⟩;have z2:=y.size;have N2:=U.below y U.lt;have I:=W.below y W.lt;have X:=f.trans (y.mono f.size);have N3:NB (b.alloc (.cells #[.int .i64 0,.slice none 0 0,.slice none 0 0] 75)) b.1.size 0 none 0 0 none 0 0:=NB.new b _ _ _ _ _ _ _ _;have T:Below b.1.size b (b.alloc (.cells #[.int .i64 0,.slice none 0 0,.slice none 0 0] 75)):=Qm;have R3:=I.below T I.lt;have zz:=I.lt;have X2:NB b w.1.size l A n c (some ⟨g,o,none⟩) m d:=N2;go_wp2_with (first
    |(refine Gt rfl (.tmp 6) _ rfl (w.1.size+1) rfl M.lvl A1 n1 c1 B1 m1 d1 rfl R4 ?_;intro w5 R5 T5)
    |(refine Gt rfl (.tmp 8) _ rfl b.1.size rfl M.lvl A1 n1 c1 B1 m1 d1 rfl N3 ?_;intro w4 N4 J;have R4:NB w4 (w.1.size+1) 0 none 0 0 none 0 0:=R3.turned J (λh=>by have h:w.1.size+1=b.1.size:=h;omega);have p0:=N4.c0;have a7:=((X2.below T X2.lt).turned J (λh=>by have h:w.1.size=b.1.size:=h;omega)).c0;have p1:=N4.c1;have p2:=N4.c2)
    |fail)
   have Y:Turn (λk=>k=w.1.size+1) b w5:=((Qv (S:=λk=>k=w.1.size+1) T).trans J (λx G=>.inr (by have:x=b.1.size:=G;omega))).trans T5 (λx G=>.inl G);refine bodyPost_ret (q16 Tryz.results72 rfl (Ii R5)) rfl ?_;exact⟨A1,n1,c1,B1,m1,d1,rfl,a6,a2,(qg3 hI Y.size λk h1 h2=>Y.block k h2 (by intro (h:k=w.1.size+1);omega)).less (by omega),(a1.keep λk h1 h2=>Y.block k h2 (by intro (h:k=w.1.size+1);omega)).less (by omega),X.trans (Y.below (λk hk=>by have:k=w.1.size+1:=hk;omega) X.size)⟩
  ·have g3:(M.lvl==l-1)=false:=by simp[Z]
   have g4:(M.lvl != l-1)=true:=by simp[Z]
   simp only[if_neg (show ¬E≠0 by simpa using K),if_pos (show M.lvl≠l-1 from Z)];clear Z K;go_enter Tryz.func72,Tryz.ntmps72
   go_wp2_with fail
   generalize (w.alloc (.cells #[.int .i64 l,.slice A n c,.slice (some ⟨g,o,none⟩) m d] 75)).alloc (.cells #[.int .i64 0,.slice none 0 0,.slice none 0 0] 75)=w1 at U W f z1 q2 F ⊢;have t1:=ht.below f ht.1;refine (Hn.out w1 (B0.trans (f.mono zw)) t1).mono ?_;clear q2 F;rintro e b ⟨A1,n1,c1,B1,m1,d1,rfl,a6,a2,hI,a1,y⟩;have z2:=y.size;have N2:=U.below y U.lt;have I:=W.below y W.lt;have X:=f.trans (y.mono f.size);have N3:NB (b.alloc (.cells #[.int .i64 0,.slice none 0 0,.slice none 0 0] 75)) b.1.size 0 none 0 0 none 0 0:=NB.new b _ _ _ _ _ _ _ _;have T:Below b.1.size b (b.alloc (.cells #[.int .i64 0,.slice none 0 0,.slice none 0 0] 75)):=Qm;have R3:=I.below T I.lt;have zz:=I.lt;have X2:NB b w.1.size l A n c (some ⟨g,o,none⟩) m d:=N2;go_wp2_with (first
    |(refine Gt rfl (.tmp 6) _ rfl (w.1.size+1) rfl 0 none 0 0 none 0 0 rfl R4 ?_;intro w5 R5 T5)
    |(refine Gt rfl (.tmp 8) _ rfl b.1.size rfl M.lvl A1 n1 c1 B1 m1 d1 rfl N3 ?_;intro w4 N4 J;have R4:NB w4 (w.1.size+1) 0 none 0 0 none 0 0:=R3.turned J (λh=>by have h:w.1.size+1=b.1.size:=h;omega);have p0:=N4.c0;have a7:=((X2.below T X2.lt).turned J (λh=>by have h:w.1.size=b.1.size:=h;omega)).c0)
    |fail)
   have Y:Turn (λk=>k=w.1.size+1) b w5:=((Qv (S:=λk=>k=w.1.size+1) T).trans J (λx G=>.inr (by have:x=b.1.size:=G;omega))).trans T5 (λx G=>.inl G);refine bodyPost_ret (q16 Tryz.results72 rfl (Ii R5)) rfl ?_;exact⟨none,0,0,none,0,0,rfl,by omega,by omega,O8 _ _,q10 _ _ _ _,X.trans (Y.below (λk hk=>by have:k=w.1.size+1:=hk;omega) X.size)⟩
 ·have g1:(E==0)=false:=by simp[K]
  have g2:(E != 0)=true:=by simp[K]
  simp only[if_pos (show E≠0 from K)];clear K;go_enter Tryz.func72,Tryz.ntmps72
  go_wp2_with fail
  generalize (w.alloc (.cells #[.int .i64 l,.slice A n c,.slice (some ⟨g,o,none⟩) m d] 75)).alloc (.cells #[.int .i64 0,.slice none 0 0,.slice none 0 0] 75)=w1 at U W f z1 q2 F ⊢;have t1:=ht.below f ht.1;refine (Hn.out w1 (B0.trans (f.mono zw)) t1).mono ?_;clear q2 F;rintro e b ⟨A1,n1,c1,B1,m1,d1,rfl,a6,a2,hI,a1,y⟩;have z2:=y.size;have N2:=U.below y U.lt;have I:=W.below y W.lt;have X:=f.trans (y.mono f.size);have N3:NB (b.alloc (.cells #[.int .i64 0,.slice none 0 0,.slice none 0 0] 75)) b.1.size 0 none 0 0 none 0 0:=NB.new b _ _ _ _ _ _ _ _;have T:Below b.1.size b (b.alloc (.cells #[.int .i64 0,.slice none 0 0,.slice none 0 0] 75)):=Qm;have R3:=I.below T I.lt;have zz:=I.lt;have X2:NB b w.1.size l A n c (some ⟨g,o,none⟩) m d:=N2;go_wp2_with (first
   |(refine Gt rfl (.tmp 6) _ rfl (w.1.size+1) rfl 0 none 0 0 none 0 0 rfl R4 ?_;intro w5 R5 T5)
   |(refine Gt rfl (.tmp 8) _ rfl b.1.size rfl M.lvl A1 n1 c1 B1 m1 d1 rfl N3 ?_;intro w4 N4 J;have R4:NB w4 (w.1.size+1) 0 none 0 0 none 0 0:=R3.turned J (λh=>by have h:w.1.size+1=b.1.size:=h;omega))
   |fail)
  have Y:Turn (λk=>k=w.1.size+1) b w5:=((Qv (S:=λk=>k=w.1.size+1) T).trans J (λx G=>.inr (by have:x=b.1.size:=G;omega))).trans T5 (λx G=>.inl G);refine bodyPost_ret (q16 Tryz.results72 rfl (Ii R5)) rfl ?_;exact⟨none,0,0,none,0,0,rfl,by omega,by omega,O8 _ _,q10 _ _ _ _,X.trans (Y.below (λk hk=>by have:k=w.1.size+1:=hk;omega) X.size)⟩
theorem RB.stored {w:World}{b:Nat}{r:List Value}(H:RB w b r)(vs:List Value)(h:r.length=vs.length):RB (w.setCells b 0 vs) b vs:=by
 obtain⟨t,H⟩:=H;have:=q0o b t vs 0 w r H (by omega);rw[q4g r vs h] at this;exact⟨t,this⟩
theorem RB.cell {w:World}{b:Nat}{r:List Value}(H:RB w b r)(j:Nat){v:Value}(h:r[j]?=some v):w.cell? ⟨b,j,none⟩=some v:=by
 have:=H.range j v h;rwa [Nat.zero_add] at this
theorem RB.turned {w w':World}{b:Nat}{r:List Value}(H:RB w b r){S:Nat->Prop}(T:Turn S w w')(hb:¬S b):RB w' b r:=H.keep (T.block b H.lt hb)
def Pv (Q:World->Prop)(A:Option Addr)(n c:Nat)(xs:List Qc):Prop:=∃b,(∀w,Q w->Jf w 4 A n c b)/\b.length=xs.length/\∀(j:Nat) r x,b[j]?=some r->xs[j]?=some x->∃V p q,r=Yi x.k V p q/\∀w,Q w->Sl w V p q x.v
def Rw (Q:World->Prop)(B:Option Addr)(m d:Nat)(ks:List Ql):Prop:=∀w,Q w->Zm w B m d ks
structure Jl (Q:World->Prop)(N:Nd)(A:Option Addr)(n c:Nat)(B:Option Addr)(m d:Nat):Prop where
 its:Pv Q A n c N.items
 Bo:Rw Q B m d N.kids
 ln:N.items.length=n
 lm:N.kids.length=m
 hn:n<=60/\n<=c/\c<=maxLen
 hm:m<=60/\m<=d/\d<=maxLen
section
variable {Q Q':World->Prop}{w w':World}{A B:Option Addr}{n c m d:Nat}{N:Nd}
theorem Pv.mono {xs:List Qc}(h:Pv Q A n c xs)(hq:∀w,Q' w->Q w):Pv Q' A n c xs:=by
 obtain⟨f,h1,h2,F⟩:=h;refine⟨f,λw b=>h1 w (hq w b),h2,λj r x u E=>?_⟩;obtain⟨V,p,q,e,y⟩:=F j r x u E;exact⟨V,p,q,e,λw b=>y w (hq w b)⟩
theorem Jl.mono (h:Jl Q N A n c B m d)(hq:∀w,Q' w->Q w):Jl Q' N A n c B m d:=⟨h.its.mono hq,λw b=>h.Bo w (hq w b),h.ln,h.lm,h.hn,h.hm⟩
theorem Pv.Zq {xs:List Qc}(h:Pv Q A n c xs)(hw:Q w):Zl w A n c xs:=by
 obtain⟨b,h1,h2,E⟩:=h;refine⟨b,h1 w hw,h2,λj r x f y=>?_⟩;obtain⟨V,p,q,e,u⟩:=E j r x f y;exact⟨V,p,q,e,u w hw⟩
theorem qpg (Q:World->Prop):Pv Q none 0 0 []:=⟨[],λw _=>q67 w 4,rfl,λj r x b=>by simp at b⟩
theorem qph (Q:World->Prop)(l:Int):Jl Q ⟨l,[],[]⟩ none 0 0 none 0 0:=⟨qpg Q,λw _=>q67 w 4,rfl,rfl,⟨by omega,by omega,by unfold maxLen;omega⟩,⟨by omega,by omega,by unfold maxLen;omega⟩⟩
def F8 (A:Option Addr)(c i:Nat):Option Addr:=if c=i then A else A.map (·.add (i*4))
theorem Pv.sub {xs:List Qc}(h:Pv Q A n c xs){i j:Nat}(hi:i<=j)(hj:j<=n)(_hc:n<=c):Pv Q (F8 A c i) (j-i) (c-i) ((xs.drop i).take (j-i)):=by
 obtain⟨f,h1,h2,y⟩:=h;refine⟨(f.drop i).take (j-i),λw u=>((h1 w u).drop (by omega)).take (by omega),by rw[List.length_take,List.length_take,List.length_drop,List.length_drop,h2],λk r x b e=>?_⟩;rw[List.getElem?_take] at b e;split at b
 ·rename_i p;rw[if_pos p] at e;rw[List.getElem?_drop] at b e;exact y _ r x b e
 ·cases b
theorem Rw.sub {ks:List Ql}(h:Rw Q B m d ks){i j:Nat}(hi:i<=j)(hj:j<=m):Rw Q (F8 B d i) (j-i) (d-i) ((ks.drop i).take (j-i)):=λw b=>(h w b).sub hi hj
def Xy (l:Int)(A:Option Addr)(n c:Nat)(B:Option Addr)(m d:Nat):Value:=.agg #[.int .i64 l,.slice A n c,.slice B m d]
theorem qtb (h:Jl Q N A n c B m d)(h0:N.lvl=0){i j:Nat}(hi:i<=j)(b:j<=n):Jl Q (N.cut i j) (F8 A c i) (j-i) (c-i) B m d:=by
 have e:N.cut i j=⟨N.lvl,(N.items.drop i).take (j-i),N.kids⟩:=if_pos h0;rw[e];have h1:=h.hn;have h2:=h.ln;refine⟨h.its.sub hi b h1.2.1,h.Bo,?_,h.lm,⟨by omega,by omega,by omega⟩,h.hm⟩;show ((N.items.drop i).take (j-i)).length=_;rw[List.length_take,List.length_drop];omega
theorem qtc (h:Jl Q N A n c B m d)(h0:N.lvl≠0){i j:Nat}(hi:i<=j)(b:j<=m):Jl Q (N.cut i j) A n c (F8 B d i) (j-i) (d-i):=by
 have e:N.cut i j=⟨N.lvl,N.items,(N.kids.drop i).take (j-i)⟩:=if_neg h0;rw[e];have h1:=h.hm;have h2:=h.lm;refine⟨h.its,h.Bo.sub hi b,h.ln,?_,h.hn,⟨by omega,by omega,by omega⟩⟩;show ((N.kids.drop i).take (j-i)).length=_;rw[List.length_take,List.length_drop];omega
theorem Jl.size (h:Jl Q N A n c B m d):N.size=n+m:=by unfold Nd.size;rw[h.ln,h.lm]
end
theorem q29 (l:Int)(A:Option Addr)(n c:Nat)(B:Option Addr)(m d:Nat)(hn:n<=1000)(hm:m<=1000)(w:World) :
  Calls Tryz.prog 108 #[Xy l A n c B m d] w λe w'=>e=.returned (.int .i64 ((n+m:Nat):Int))/\Below w.1.size w w':=by
 have b:NB (w.alloc (.cells #[.int .i64 l,.slice A n c,.slice B m d] 127)) w.1.size l A n c B m d:=NB.new w _ _ _ _ _ _ _ _;have f:Below w.1.size w (w.alloc (.cells #[.int .i64 l,.slice A n c,.slice B m d] 127)):=Qm;have c1:=b.c1;have c2:=b.c2;unfold Xy;go_enter Tryz.func108,Tryz.ntmps108
 go_wp2;go_ret;exact⟨rfl,f⟩
theorem q3d (l:Int)(A:Option Addr)(n c:Nat)(B:Option Addr)(m d:Nat)(w:World) :
  Calls Tryz.prog 141 #[Xy l A n c B m d] w λe w'=>e=.returned (.tuple #[.int .i64 (Qr l:Int),.int .i64 (Qq l:Int)])/\Below w.1.size w w':=by
 have p:NB (w.alloc (.cells #[.int .i64 l,.slice A n c,.slice B m d] 127)) w.1.size l A n c B m d:=NB.new w _ _ _ _ _ _ _ _;have b:Below w.1.size w (w.alloc (.cells #[.int .i64 l,.slice A n c,.slice B m d] 127)):=Qm;have c0:=p.c0;unfold Xy Qr Qq;by_cases h:l=0
 ·have f:(l==0)=true:=by simp[h]
  rw[if_pos h,if_pos h];clear h;go_enter Tryz.func141,Tryz.ntmps141
  go_wp2;go_ret2;exact⟨rfl,b⟩
 ·have f:(l==0)=false:=by simp[h]
  rw[if_neg h,if_neg h];clear h;go_enter Tryz.func141,Tryz.ntmps141
  go_wp2;go_ret2;exact⟨rfl,b⟩
