/- What Put and Delete leave as it is: the superblock, and what was committed -/
import Derived.Test.YtloolbmdiimanaaGreatDoorGv38
import Derived.Test.YtloolbmdiimanaaGreatDoorGv39
import Derived.Test.YtloolbmdiimanaaGreatDoorGv40
import Derived.Lib.Strings
namespace Go.Proofs.YtloolbmdiimanaaGreatDoor
open Go Go.RowKit Go.Proofs Tryz
def Pl.like (P P':Pl):Prop:=P'.S=P.S/\P'.C.done=P.C.done
theorem Pl.like.refl (P:Pl):P.like P:=⟨rfl,rfl⟩
theorem Pl.like.trans {P P' P'':Pl}(h:P.like P')(h2:P'.like P''):P.like P'':=⟨h2.1.trans h.1,h2.2.trans h.2⟩
theorem quu (P:Pl)(a:Int):P.like ⟨P.S,P.C.ref a,P.L⟩:=⟨rfl,by show (P.C.ref a).done=_;unfold Ct.ref;split<;>rfl⟩
theorem qd6 (P:Pl)(a:Int):P.like ⟨P.S,P.C.Qp a,P.L⟩:=⟨rfl,by show (P.C.Qp a).done=_;unfold Ct.Qp;split<;>rfl⟩
theorem q9g (P:Pl)(N:Nd):P.like (P.Jg N):=by
 unfold Pl.Jg;split
 ·unfold Pl.lay;split
  ·exact⟨rfl,by show P.C.alloc.done=_;unfold Ct.alloc;split<;>rfl⟩
  ·exact .refl _
 ·exact .refl _
theorem quv (P:Pl)(a:Int)(N:Nd):P.like (P.Kz a N):=by
 unfold Pl.Kz;split
 ·exact⟨rfl,rfl⟩
 ·exact .refl _
theorem qd7:∀(l:LI) {P P':Pl},Vk l P=some P'->P.like P'
 |[],P,P',h=>by cases h;exact .refl _
 |a::l,P,P',h=>by
  unfold Vk at h;split at h
  ·exact (quu P a).trans (qd7 l h)
  ·cases h
theorem q8t:∀(l:LI) {P P':Pl},Rh l P=some P'->P.like P'
 |[],P,P',h=>by cases h;exact .refl _
 |a::l,P,P',h=>by
  unfold Rh at h;split at h
  ·exact (qd6 P a).trans (q8t l h)
  ·cases h
theorem q4v {P P':Pl}{s:Qr}{i j:Nat}(h:P.Qw s i j=some P'):P.like P':=by
 unfold Pl.Qw at h;split at h
 ·exact qd7 _ h
 ·split at h
  ·cases h;exact .refl _
  ·exact q8t _ h
theorem qgz {P P':Pl}{D:DM}{s:Qr}{i:Nat}(h:P.near D s i=some P'):P.like P':=by
 unfold Pl.near at h;split at h
 ·exact q4v h
 ·cases h
theorem qr5 {P P':Pl}{D:DM}{s t:Qr}{b:Nd}{x:Nl}(h:P.have_ D s b t=some (x,P')):P.like P':=by
 unfold Pl.have_ at h;split at h
 ·cases h;exact .refl _
 ·split at h
  ·obtain⟨q,h1,h2⟩:=Option.map_eq_some_iff.1 h
   cases h2;exact qgz h1
  ·obtain⟨q,h1,h2⟩:=Option.map_eq_some_iff.1 h
   cases h2;exact qgz h1
theorem q83 {P P':Pl}{s:Qr}(h:P.leave s=some P'):P.like P':=by
 unfold Pl.leave at h;split at h
 ·cases h;exact .refl _
 ·split at h
  ·cases h;exact qd6 P _
  ·cases h
theorem q73:∀(l:List Qr) {P P':Pl} {r r':List Nd} {ks f:List Qk},Ut l P r ks=some (P',r',f)->P.like P'
 |[],P,P',r,r',ks,f,h=>by unfold Ut at h;cases h;exact .refl _
 |s::l,P,P',[],r',ks,f,h=>by
  unfold Ut at h;split at h
  ·rename_i u e;exact (q83 e).trans (q73 l h)
  ·cases h
 |s::l,P,P',b::r,r',ks,f,h=>by
  unfold Ut at h;split at h
  ·split at h
   ·rename_i u e;exact (q83 e).trans (q73 l h)
   ·cases h
  ·split at h
   ·exact (quv P _ _).trans (q73 l h)
   ·cases h
theorem ql5:∀(l:List Nd) {P P':Pl} {ks:List Qk} {q:Option (List Qk)},Jl l P ks=some (P',q)->P.like P'
 |[],P,P',ks,q,h=>by unfold Jl at h;cases h;exact .refl _
 |b::l,P,P',ks,q,h=>by
  unfold Jl at h;split at h
  ·exact (q9g P b).trans (ql5 l h)
  ·split at h
   ·cases h;exact q9g P b
   ·cases h
theorem q9h {P P':Pl}{x:Nl}{q:Option (List Qk)}(h:P.Yo x=some (P',q)):P.like P':=by
 unfold Pl.Yo at h;split at h
 ·rename_i u f y e;exact (q73 _ e).trans (ql5 _ h)
 ·cases h
theorem quw {P P':Pl}{s:Qr}{b:Nd}{r:Option Int}(h:P.top s b=some (P',r)):P.like P':=by
 unfold Pl.top at h;split at h
 ·obtain⟨q,h1,h2⟩:=Option.map_eq_some_iff.1 h
  cases h2;exact q83 h1
 ·split at h
  ·rename_i f u e;have h0:=q9h e;split at h
   ·cases h;exact h0
   ·split at h
    ·cases h;exact h0
    ·split at h
     ·cases h;exact h0.trans (q9g f _)
     ·split at h
      ·cases h;exact h0.trans (q9g f _)
      ·cases h
  ·rename_i f e
   cases h;exact q9h e
  ·cases h
theorem qb9 {D:DM}:∀(way:List Qr) {P P':Pl} {s:Qr} {i j:Nat} {f:Nd} {r:Option Int},Yy D way P s i j f=some (P',r)->P.like P'
 |[],P,P',s,i,j,f,r,h=>by
  unfold Yy at h;split at h
  ·rename_i y e;exact (q4v e).trans (quw h)
  ·cases h
 |t::way,P,P',s,i,j,f,r,h=>by
  unfold Yy at h;split at h
  ·rename_i y e;split at h
   ·rename_i x E B;have h2:=(q4v e).trans (qr5 B);split at h
    ·rename_i A F u;exact (h2.trans (q9h u)).trans (qb9 way h)
    ·rename_i A u
     cases h;exact h2.trans (q9h u)
    ·cases h
   ·cases h
  ·cases h
theorem qr6 {P P':Pl}{D:DM}{root:Int}{x:Qb}{r:Option Int}(h:P.Ih D root x=some (P',r)):P.like P':=by
 unfold Pl.Ih at h;split at h
 ·exact qb9 _ h
 ·cases h
theorem qr7 {P P':Pl}{D:DM}{root:Int}{k:Kd}{r:Option Int}(h:P.Fz D root k=some (P',r)):P.like P':=by
 unfold Pl.Fz at h;split at h
 ·exact qb9 _ h
 ·cases h
theorem qr8 {P P':Pl}(h:P.like P')(hn:P'.C.n=P.C.n):P'.C.kept=P.C.kept:=by
 unfold Ct.kept;rw[h.2,hn]
theorem qr9 (n:Nat):(Ct.zero n).kept=0:=by
 unfold Ct.kept;refine List.countP_eq_zero.2 λa e h=>AK h ?_
 show (List.replicate n (0:Int)).getD a 0=0;rw[AG,List.getElem?_replicate];split<;>rfl
structure Told (w:WD)(p:Nat)(R:Int->Nd × Int)(root:Int)(its:List Qb):Prop where
 src:Src w p R
 tree:Xk R root its
 Qg:Qg its
 len:its.length<=1000
theorem Told.below {w w':WD}{p:Nat}{R:Int->Nd × Int}{root:Int}{its:List Qb}(h:Told w p R root its)(hb:Below w.1.size w w'):Told w' p R root its:=⟨h.src.below hb,h.tree,h.Qg,h.len⟩
section
variable {w:WD}{p:Nat}{R:Int->Nd × Int}{root:Int}{its:List Qb}
theorem Told.Qar (h:Told w p R root its)(ht:Tab w)(fr «to»:Kd)(most:Int)(L:List Qb)(hL:(within fr «to» its).take most.toNat=L) :
  Calls prog 29 #[.pointer (some ⟨p,0,none⟩),.int .i64 root,.agg #[.int .i64 fr.obj,.int .i64 fr.kind,.int .i64 fr.off],.agg #[.int .i64 «to».obj,.int .i64 «to».kind,.int .i64 «to».off],.int .i64 most] w λe w'=>∃A n c,e=.returned (.tuple #[.slice A n c,.int .i64 0])/\J5 w' w.1.size A n c L/\Below w.1.size w w':=by
 have:=qqw h.src ht root fr «to» most (λh0=>by have:=qn0 (qqv R) h.tree h0;have:=h.len;omega);rw[qpn h.tree h.Qg,hL] at this;exact this
end
def Gj (r:Int):LI:=if r=0 then [] else [r]
structure Ed (b:Nat)(w:WD)(d p:Nat)(U:NP)(D:DM)(P:Pl)(H:LI)(m:Nat)(g:Int):Prop where
 sys:∃S0 S T,Qh b w d p S0 S T D P/\(∀k,S0 k->U k)/\∀k,S k->U k
 low:∀k,U k->b<=k/\k<w.heap.size
 tab:Tab w
 keep:∃S0 C0,Keep D S0 C0 [] H P
 Y2:D.Y2 m
 gen:P.S.gen<=g
section
variable {b:Nat}{w w':WD}{d p:Nat}{U:NP}{D:DM}{P:Pl}{H H0:LI}{m:Nat}{g:Int}{root:Int}{its:List Qb}
theorem Ed.tidy (E:Ed b w d p U D P H m g):P.tidy:=by
 obtain⟨_,_,K⟩:=E.keep;exact⟨K.Zl.kind,K.laid⟩
theorem Ed.below (E:Ed b w d p U D P H m g)(hb:Below w.1.size w w'):Ed b w' d p U D P H m g:=by
 obtain⟨S0,S,T,h,h0,h1⟩:=E.sys;exact⟨⟨S0,S,T,h.below hb,h0,h1⟩,λk e=>⟨(E.low k e).1,by have:=(E.low k e).2;have:=hb.size;omega⟩,E.tab.below hb E.tab.1,E.keep,E.Y2,E.gen⟩
theorem Ed.src (E:Ed b w d p U D P H m g):Src w p (P.store D):=by
 obtain⟨S0,S,T,h,h0,h1⟩:=E.sys;obtain⟨_,_,K⟩:=E.keep;exact qyu h.Bc h.pool K.Zl.kind K.Zl.good
structure Qbr (b:Nat)(w w':WD)(d p:Nat)(U:NP)(D:DM)(P P':Pl)(r:Int)(H0:LI)(its:List Qb)(m:Nat)(g:Int):Prop where
 ed:Ed b w' d p U D P' (Gj r++H0) m g
 tree:Xk (P'.store D) r its
 like:P.like P'
 n:P'.C.n=P.C.n
 free:P.C.free<=P'.C.free+17
 old:∀l a t,a∈H0->Qm (P.store D) l a t->Qm (P'.store D) l a t
 turn:Turn U w w'
theorem Ed.Qb2 (E:Ed b w d p U D P (Gj root++H0) m g)(hb:1<b)(u:Xk (P.store D) root its)(hr:Qg its)(hf:∀x∈its,Jb x)(k:Kd)(hfew:its.length<1000)(hH0:H0.length<=10000)(hk:¬∃x∈its,x.k.same k=true) :
  Calls prog 109 #[.pointer (some ⟨p,0,none⟩),.int .i64 root,.agg #[.int .i64 k.obj,.int .i64 k.kind,.int .i64 k.off]] w λe w'=>e=.returned (.tuple #[.int .i64 0,.int .i64 10])/\Below w.1.size w w':=by
 obtain⟨G,I,J,A,h0,h1⟩:=E.sys;obtain⟨S0,C0,K⟩:=E.keep;replace u:=q9c.2 u;by_cases f:root=0
 ·exact qqu A hb E.tab E.tidy root k (AA f:P.way D root k=some ([],q44)) rfl
 ·obtain⟨up,s,B,M,F,T⟩:=qkx K u hr hf f k hfew hH0;refine qqu A hb E.tab E.tidy root k B ?_
  cases y:Uf s.N.keys k (s.N.Zo k) with
  |false=>rfl
  |true=>exact absurd (F.1 y) hk
end
def Fh (b:Nat)(w:WD)(d p:Nat)(U Q V:NP)(D:DM)(P:Pl):Prop:=
 ∃S0 S T,Qh b w d p S0 S T D P/\(∀k,S0 k->U k)/\(∀k,S k->U k)/\(∀k,Q k->T k)/\∀k,S k->V k
section
variable {b:Nat}{w w':WD}{d p:Nat}{U Q V:NP}{D:DM}{P:Pl}{H H0:LI}{m:Nat}{g:Int}{root:Int}{its:List Qb}
theorem Fh.below (h:Fh b w d p U Q V D P)(hb:Below w.1.size w w'):Fh b w' d p U Q V D P:=by
 obtain⟨S0,S,T,h1,h2,e,f,u⟩:=h;exact⟨S0,S,T,h1.below hb,h2,e,f,u⟩
theorem Ed.Qc3 (E:Ed b w d p U D P H m g):Fh b w d p U (λ_=>False) U D P:=by
 obtain⟨S0,S,T,h,h0,h1⟩:=E.sys;exact⟨S0,S,T,h,h0,h1,λ_ h=>h.elim,h1⟩
end
section
variable {D:DM}{S0:Sp}{C0:Ct}{O H:LI}{P:Pl}
theorem Gy {v:LU}(e:v.length<=128):Pl.Gy 5 v.length=true:=by
 unfold Pl.Gy Yg;rw[AA rfl];exact AL e
theorem Qce {v:LU}(e:v.length<=128):P.put 5 v=P.lay (.bytes 5 v)/\P.Du 5 v.length=P.C.Ku/\P.Zr 5 v.length=P.C.Kt:=by
 unfold Pl.put Pl.Du Pl.Zr;rw[Gy e];exact⟨rfl,rfl,rfl⟩
theorem qn5 (K:Keep D S0 C0 O H P){c:Nat}(T:P.C.pick=some c){v:LU}(hv:v.length<=128) :
  P.Zr 5 v.length=0/\P.Du 5 v.length=(c:Int)/\Keep D S0 C0 O ((c:Int)::H) (P.put 5 v)/\(P.put 5 v).tell D (c:Int)=(Jc,0)/\Ext (P.hide D O) ((P.put 5 v).hide D O)/\P.C.free=(P.put 5 v).C.free+1/\(P.put 5 v).C.n=P.C.n/\P.like (P.put 5 v)/\1<=c/\c<2048/\
   (∀x,x≠(c:Int)->(P.put 5 v).store D x=P.store D x/\(P.put 5 v).C.get x=P.C.get x)/\P.C.get (c:Int)=0:=by
 obtain⟨p1,p2,p3,p4,_⟩:=Ct.Ju T;obtain⟨a1,a2,a3⟩:=Ct.Jf T;obtain⟨A,v1,v2⟩:=Qce (P:=P) hv;have hz:P.C.get (c:Int)=0:=by
  unfold Ct.get;rw[AA (by omega),AJ];exact p3
 have a9:P.C.first=2+2*Qj P.C.n:=rfl
 have J:(c:Int)∉O:=λh=>by
  have:=(K.opened _ h).2;omega
 have E:=λb (f:b<P.C.n)=>q7n T (.bytes 5 v) b f
 have I:=qbv T (.bytes 5 v);have a0:(Bk.bytes 5 v).good:=qcg (.inl rfl) (by omega);have hn:(P.put 5 v).C.n=P.C.n:=by rw[A];exact qi2 _
 have hE:(P.put 5 v).Qe D (c:Int)≠0:=by
  have h0:(P.put 5 v).C.get (c:Int)≠0:=by rw[A,E c p1,AA rfl];decide
  have hl:(P.put 5 v).live c=some (.bytes 5 v):=by
   unfold Pl.live;rw[AB h0,A,I c,AA rfl]
  rw[q5c D h0 hl];show (1:Int)≠0;decide
 have Z:(P.put 5 v).C.get (c:Int)=1:=by rw[A,E c p1,AA rfl]
 have G:(P.put 5 v).tell D (c:Int)=(Jc,0):=q9o (by rw[Z];decide) hE;have y:∀x,x≠(c:Int)->(P.put 5 v).C.get x=P.C.get x:=λx u=>by
  by_cases f:0<=x/\x<(P.C.n:Int)
  ·obtain⟨n,rfl⟩:∃n:Nat,x=(n:Int):=⟨x.toNat,by omega⟩;have E:=E n (by omega);rw[AB (by omega)] at E;rw[A];exact E
  ·unfold Ct.get;rw[hn,AB f,AB f]
 have a4:∀x,x≠(c:Int)->(P.put 5 v).store D x=P.store D x:=λx u=>by
  by_cases f:0<=x/\x<(P.C.n:Int)
  ·obtain⟨n,rfl⟩:∃n:Nat,x=(n:Int):=⟨x.toNat,by omega⟩;have E:=E n (by omega);have I:=I n;rw[AB (by omega)] at E I;rw[A];unfold Pl.store Pl.Qd Pl.Qe Pl.live;rw[AJ,E,I]
  ·have h1:P.C.get x=0:=by unfold Ct.get;rw[AB f]
   rw[O6 h1,O6 (by rw[y x u];exact h1)]
 have hh:∀x,x≠(c:Int)->(P.put 5 v).hide D O x=P.hide D O x:=λx u=>by
  unfold Pl.hide;rw[q3e (a4 x u) (by rw[y x u])]
 have B:(P.put 5 v).hide D O (c:Int)=(Jc,0):=by rw[O8 J];exact G
 have a5:Ext (P.hide D O) ((P.put 5 v).hide D O):=λx u=>hh x λe=>by
  rw[e,O8 J,q2q hz] at u
  cases u
 have a8:=K.c.1.2;have hC:(P.put 5 v).C=P.C.alloc:=by rw[A,q2k T]
 have b0:=Ct.U4 T;refine⟨by rw[v2];exact a1,by rw[v1];exact a2,⟨⟨by rw[A];exact qjv K.Zl.ok a0.fine,by rw[A];exact qft K.Zl.sound _,λa b f=>?_⟩,λa F=>?_,?_,λx u=>?_,λa F Y a7=>?_⟩,G,a5,by rw[hC];omega,hn,?_,by omega,by omega,λx u=>⟨a4 x u,y x u⟩,hz⟩
 ·rw[A,I a] at f;split at f
  ·injection f with f;subst f;exact⟨⟨128,rfl,hv⟩,a0⟩
  ·exact K.Zl.kinds a b f
 ·rw[A,I a];by_cases e:a=c
  ·exact⟨_,AA e⟩
  ·rw[AB e];refine K.laid a ?_;rw[hC] at F;rw[(Ct.Jf T).2.2] at F;have a6:a<P.C.n:=by
    obtain⟨n,e1,h2⟩:=Uh (q2s F);rw[P.C.Zg] at h2;omega
   unfold Ct.fresh at F ⊢;rw[P8 P.C a a6,AB e] at F;exact F
 ·rw[hn];refine K.Gi.put (c:=c) (ks:=[]) (H0:=H) (cnt':=(P.put 5 v).cnt) (by omega) p1 (by unfold Pl.cnt;rw[hz];rfl) (λa _ _=>by simp) ?_ ?_ ?_ ?_
  ·unfold Pl.cnt;rw[Z];rfl
  ·intro b f M;unfold Pl.cnt;rw[y _ (by omega)]
  ·show ((P.put 5 v).hide D O (c:Int)).1.named=_;rw[B];rfl
  ·intro b f M;show ((P.put 5 v).hide D O (b:Int)).1.named=_;rw[hh _ (by omega)]
 ·obtain⟨k1,k2⟩:=K.opened x u;have M:x≠(c:Int):=λe=>J (e▸u)
  exact⟨AO _ k1,by rw[y x M];exact k2⟩
 ·rw[hn] at F;by_cases e:a=c
  ·subst e;exact .inl B
  ·rw[y _ (by omega)] at Y;exact (K.loc a F Y a7).ext a5
 ·refine⟨by rw[A];exact qte _,?_⟩;rw[hC];unfold Ct.alloc;split<;>rfl
end
def Pl.dat (P:Pl)(D:DM)(a:Int):Int × LU:=(P.Jt D a 5,P.Jz D a 5)
def Yv (D:DM)(P P':Pl):Prop:=∀a,P'.C.get a≠0->P'.Qe D a≠0->P.C.get a≠0/\P.Qe D a≠0/\P'.dat D a=P.dat D a
theorem Qaz:Yg 5=some 128:=by unfold Yg;exact AA rfl
theorem qh0 {D:DM}{P P':Pl}{n:Nat}(h1:P'.C.get (n:Int)≠0)(h0:P.C.get (n:Int)≠0)(f:P'.L n=P.L n):P'.Qe D (n:Int)=P.Qe D (n:Int)/\P'.dat D (n:Int)=P.dat D (n:Int):=by
 have e:P'.live n=P.live n:=by unfold Pl.live;rw[AB h1,AB h0,f]
 refine⟨?_,?_⟩
 ·unfold Pl.Qe;rw[AB h1,AB h0,AJ,e]
 ·unfold Pl.dat Pl.Jt Pl.Jz;rw[Qaz];dsimp only;rw[AB h1,AB h0,AB h1,AB h0,AJ,e]
theorem Yv.refl {D:DM}(P:Pl):Yv D P P:=λ_ h0 e=>⟨h0,e,rfl⟩
theorem Yv.trans {D:DM}{P P' P'':Pl}(h:Yv D P P')(h2:Yv D P' P''):Yv D P P'':=λa h0 e=>by
 obtain⟨f,u,y⟩:=h2 a h0 e;obtain⟨j1,j2,j3⟩:=h a f u;exact⟨j1,j2,y.trans j3⟩
theorem qev {D:DM}{P P':Pl}(h:∀n:Nat,P'.C.get (n:Int)≠0->P'.Qe D (n:Int)≠0->P.C.get (n:Int)≠0/\P'.L n=P.L n):Yv D P P':=λa h0 e=>by
 obtain⟨n,rfl,_⟩:=Uh h0;obtain⟨f,A⟩:=h n h0 e;obtain⟨u,y⟩:=qh0 (D:=D) h0 f A;exact⟨f,by rw[<-u];exact e,y⟩
theorem qd8 {C:Ct}{c n:Nat}{x:Int}(h0:C.get (c:Int)≠0)(h:(C.put c x).get (n:Int)≠0):C.get (n:Int)≠0:=by
 by_cases e:n=c
 ·rw[e];exact h0
 ·intro f;refine h ?_;by_cases hn:n<C.n
  ·rw[P8 C n hn,AB e];exact f
  ·unfold Ct.get;rw[C.Zg,AB (by omega)]
theorem qux {D:DM}(P:Pl)(a:Int):Yv D P ⟨P.S,P.C.ref a,P.L⟩:=qev λn h0 _=>by
 refine⟨?_,rfl⟩;have h0:(P.C.ref a).get (n:Int)≠0:=h0;unfold Ct.ref at h0;split at h0
 ·next h=>
  have f:P.C.get a≠0:=λe=>by
   unfold Ct.Y0 at h;rw[AA e] at h
   cases h
  obtain⟨k,rfl,_⟩:=Uh f;rw[AJ] at h0;exact qd8 f h0
 ·exact h0
theorem qd9 {D:DM}(P:Pl)(a:Int):Yv D P ⟨P.S,P.C.Qp a,P.L⟩:=qev λn h0 _=>by
 refine⟨?_,rfl⟩;have h0:(P.C.Qp a).get (n:Int)≠0:=h0;unfold Ct.Qp at h0;split at h0
 ·exact h0
 ·next ha=>
  obtain⟨k,rfl,_⟩:=Uh ha;rw[AJ] at h0;exact qd8 ha h0
theorem q9i {D:DM}(P:Pl)(N:Nd):Yv D P (P.Jg N):=by
 unfold Pl.Jg;split
 ·cases u:P.C.pick with
  |none=>rw[q6w u];exact .refl _
  |some c=>
   refine qev λn h0 y=>?_
   have hn:n<P.C.n:=by
    obtain⟨m,e,h⟩:=Uh h0;have:=qi2 (P:=P) (.node N);omega
   have f:=qbv u (.node N) n;by_cases e:n=c
   ·rw[AA e] at f;refine absurd ?_ y;rw[q5c D h0 (b:=.node N) (by unfold Pl.live;rw[AB h0];exact f)];rfl
   ·rw[AB e] at f;rw[q7n u (.node N) n hn,AB e] at h0;exact⟨h0,f⟩
 ·exact .refl _
theorem quy {D:DM}(P:Pl)(a:Int)(N:Nd):Yv D P (P.Kz a N):=by
 unfold Pl.Kz;split
 ·refine qev λn h0 f=>?_
  have h0:P.C.get (n:Int)≠0:=h0;refine⟨h0,?_⟩;show upd P.L a.toNat (some (.node N)) n=P.L n;by_cases e:n=a.toNat
  ·refine absurd ?_ f;rw[q5c D (P:=⟨P.S,P.C,upd P.L a.toNat (some (.node N))⟩) h0 (b:=.node N) (by unfold Pl.live;rw[AB h0];show upd P.L a.toNat (some (.node N)) n=_;rw[e];exact Aj _ _ _)];rfl
  ·exact Af _ _ e
 ·exact .refl _
theorem qda {D:DM}:∀(l:LI) {P P':Pl},Vk l P=some P'->Yv D P P'
 |[],P,P',h=>by cases h;exact .refl _
 |a::l,P,P',h=>by
  unfold Vk at h;split at h
  ·exact (qux P a).trans (qda l h)
  ·cases h
theorem q8u {D:DM}:∀(l:LI) {P P':Pl},Rh l P=some P'->Yv D P P'
 |[],P,P',h=>by cases h;exact .refl _
 |a::l,P,P',h=>by
  unfold Rh at h;split at h
  ·exact (qd9 P a).trans (q8u l h)
  ·cases h
theorem q4w {D:DM}{P P':Pl}{s:Qr}{i j:Nat}(h:P.Qw s i j=some P'):Yv D P P':=by
 unfold Pl.Qw at h;split at h
 ·exact qda _ h
 ·split at h
  ·cases h;exact .refl _
  ·exact q8u _ h
theorem qh1 {P P':Pl}{D:DM}{s:Qr}{i:Nat}(h:P.near D s i=some P'):Yv D P P':=by
 unfold Pl.near at h;split at h
 ·exact q4w h
 ·cases h
theorem qra {P P':Pl}{D:DM}{s t:Qr}{b:Nd}{x:Nl}(h:P.have_ D s b t=some (x,P')):Yv D P P':=by
 unfold Pl.have_ at h;split at h
 ·cases h;exact .refl _
 ·split at h
  ·obtain⟨q,h1,h2⟩:=Option.map_eq_some_iff.1 h
   cases h2;exact qh1 h1
  ·obtain⟨q,h1,h2⟩:=Option.map_eq_some_iff.1 h
   cases h2;exact qh1 h1
theorem q84 {D:DM}{P P':Pl}{s:Qr}(h:P.leave s=some P'):Yv D P P':=by
 unfold Pl.leave at h;split at h
 ·cases h;exact .refl _
 ·split at h
  ·cases h;exact qd9 P _
  ·cases h
theorem q74 {D:DM}:∀(l:List Qr) {P P':Pl} {r r':List Nd} {ks f:List Qk},Ut l P r ks=some (P',r',f)->Yv D P P'
 |[],P,P',r,r',ks,f,h=>by unfold Ut at h;cases h;exact .refl _
 |s::l,P,P',[],r',ks,f,h=>by
  unfold Ut at h;split at h
  ·rename_i u e;exact (q84 e).trans (q74 l h)
  ·cases h
 |s::l,P,P',b::r,r',ks,f,h=>by
  unfold Ut at h;split at h
  ·split at h
   ·rename_i u e;exact (q84 e).trans (q74 l h)
   ·cases h
  ·split at h
   ·exact (quy P _ _).trans (q74 l h)
   ·cases h
theorem ql6 {D:DM}:∀(l:List Nd) {P P':Pl} {ks:List Qk} {q:Option (List Qk)},Jl l P ks=some (P',q)->Yv D P P'
 |[],P,P',ks,q,h=>by unfold Jl at h;cases h;exact .refl _
 |b::l,P,P',ks,q,h=>by
  unfold Jl at h;split at h
  ·exact (q9i P b).trans (ql6 l h)
  ·split at h
   ·cases h;exact q9i P b
   ·cases h
theorem q9j {D:DM}{P P':Pl}{x:Nl}{q:Option (List Qk)}(h:P.Yo x=some (P',q)):Yv D P P':=by
 unfold Pl.Yo at h;split at h
 ·rename_i u f y e;exact (q74 _ e).trans (ql6 _ h)
 ·cases h
theorem quz {D:DM}{P P':Pl}{s:Qr}{b:Nd}{r:Option Int}(h:P.top s b=some (P',r)):Yv D P P':=by
 unfold Pl.top at h;split at h
 ·obtain⟨q,h1,h2⟩:=Option.map_eq_some_iff.1 h
  cases h2;exact q84 h1
 ·split at h
  ·rename_i f u e;have h0:=q9j (D:=D) e;split at h
   ·cases h;exact h0
   ·split at h
    ·cases h;exact h0
    ·split at h
     ·cases h;exact h0.trans (q9i f _)
     ·split at h
      ·cases h;exact h0.trans (q9i f _)
      ·cases h
  ·rename_i f e
   cases h;exact q9j e
  ·cases h
theorem qba {D:DM}:∀(way:List Qr) {P P':Pl} {s:Qr} {i j:Nat} {f:Nd} {r:Option Int},Yy D way P s i j f=some (P',r)->Yv D P P'
 |[],P,P',s,i,j,f,r,h=>by
  unfold Yy at h;split at h
  ·rename_i y e;exact (q4w e).trans (quz h)
  ·cases h
 |t::way,P,P',s,i,j,f,r,h=>by
  unfold Yy at h;split at h
  ·rename_i y e;split at h
   ·rename_i x E B;have h2:=(q4w e).trans (qra B);split at h
    ·rename_i A F u;exact (h2.trans (q9j u)).trans (qba way h)
    ·rename_i A u
     cases h;exact h2.trans (q9j u)
    ·cases h
   ·cases h
  ·cases h
theorem qrb {P P':Pl}{D:DM}{root:Int}{x:Qb}{r:Option Int}(h:P.Ih D root x=some (P',r)):Yv D P P':=by
 unfold Pl.Ih at h;split at h
 ·exact qba _ h
 ·cases h
theorem qrc {P P':Pl}{D:DM}{root:Int}{k:Kd}{r:Option Int}(h:P.Fz D root k=some (P',r)):Yv D P P':=by
 unfold Pl.Fz at h;split at h
 ·exact qba _ h
 ·cases h
theorem qv0 {D:DM}{P:Pl}{c:Nat}(B:P.C.pick=some c){v:LU}(E:v.length<=128)(hn:P.C.n<=2048):(P.put 5 v).dat D (c:Int)=(0,v)/\∀a,a≠(c:Int)->P.C.get a≠0->(P.put 5 v).dat D a=P.dat D a:=by
 obtain⟨J,_⟩:=Ct.Ju B;obtain⟨K,_,_⟩:=Qce (P:=P) E;rw[K];have u:=qbv B (.bytes 5 v);have y:=λb (A:b<P.C.n)=>q7n B (.bytes 5 v) b A
 refine⟨?_,λa f h0=>?_⟩
 ·have h0:(P.lay (.bytes 5 v)).C.get (c:Int)≠0:=by rw[y c J,AA rfl];decide
  have I:(P.lay (.bytes 5 v)).live c=some (.bytes 5 v):=by
   unfold Pl.live;rw[AB h0,u c,AA rfl]
  obtain⟨F,G⟩:=qpf D I Qaz E (by omega);unfold Pl.dat;rw[F,G]
 ·obtain⟨n,rfl,A⟩:=Uh h0;have f:n≠c:=λe=>f (by rw[e])
  have u:=u n;have y:=y n A;rw[AB f] at u y;exact (qh0 (D:=D) (by rw[y];exact h0) h0 u).2
section
variable {b:Nat}{w w':WD}{d p:Nat}{U Q V:NP}{D:DM}{P:Pl}{H H0:LI}{m:Nat}{g:Int}{root:Int}{its:List Qb}
def qew (b:Nat)(w:WD)(d p:Nat)(U Q V:NP)(D:DM)(P:Pl)(H0:LI)(its:List Qb)(m:Nat)(g:Int)(e:Ending)(w':WD):Prop:=
 (∃r P',e=.returned (.tuple #[.int .i64 r,.int .i64 0])/\Qbr b w w' d p U D P P' r H0 its m g/\Fh b w' d p U Q V D P'/\Turn V w w'/\Yv D P P'/\∀a,a∈H0->P.tell D a=(Jc,0)->P'.tell D a=(Jc,0))\/((∃v,e=.returned (.tuple #[.int .i64 v,.int .i64 6]))/\P.C.free<17)
theorem ql7 {S0:Sp}{C0:Ct}{B A G:NP}(J:Ed b w d p U D P H m g)(h0:∀k,B k->U k)(h1:∀k,A k->U k)(hQ:∀k,Q k->G k)(M:∀k,A k->V k){E:Option (Pl × Option Int)}(ho:Yd D S0 C0 [] H0 P its 17 E)(hl:∀P' r,E=some (P',r)->P.like P'/\Yv D P P')
  {f:FuncId} {u:Array Value} (T:∀P' r,E=some (P',r)->Calls prog f u w (Gs b d p B A G D w P' r)):Calls prog f u w (qew b w d p U Q V D P H0 its m g):=by
 rcases ho with⟨P',r,I,F⟩|⟨P',I,hf⟩
 ·refine (T _ _ I).mono ?_;rintro e w' ⟨v,rfl,hv,y,X,t',td⟩;have:=hv r rfl;subst this;obtain⟨Z,dk⟩:=hl _ _ I;have ext:∀l a t,a∈H0->Qm (P.store D) l a t->Qm (P'.store D) l a t:=λl a t K ht=>q2e.1 (F.old l a t K (q2e.2 ht))
  have tr:=q9c.1 F.tree;exact .inl ⟨v,P',rfl,⟨⟨⟨B,A,G,y,h0,h1⟩,λk Y=>⟨(J.low k Y).1,by have:=(J.low k Y).2;have:=X.size;omega⟩,t',⟨S0,C0,F.keep⟩,J.Y2,by rw[Z.1];exact J.gen⟩,tr,Z,F.n,F.free,ext,X.mono h1⟩,⟨B,A,G,y,h0,h1,hQ,M⟩,X.mono M,dk,λa K hd=>by
   have:=F.Ig a K (by rw[O9];exact hd);rw[O9] at this;exact this⟩
 ·refine (T _ _ I).mono ?_;rintro e w' ⟨v,rfl,_,y,X,t',td⟩;exact .inr ⟨⟨v,rfl⟩,hf⟩
theorem Ed.Qcz {k:Kd}{v:LU}(E:Ed b w d p U D P (Gj root++(Pv ⟨k,v⟩++H0)) m g)(hQ:Fh b w d p U Q V D P)(hb:1<b)(f:Xk (P.store D) root its)(hr:Qg its)(hf:∀x∈its,Jb x)(hx:Jb ⟨k,v⟩)(hdx:Dat (P.tell D) ⟨k,v⟩)(hfew:its.length<1000)(hH0:H0.length<=10000)(VV:OA)(q c:Nat)(hV:Sl w VV q c v)(hVU:v≠[]->∀g,q01 VV=some g->¬U g) :
  Calls prog 84 #[.pointer (some ⟨p,0,none⟩),.int .i64 root,.agg #[.int .i64 k.obj,.int .i64 k.kind,.int .i64 k.off],.slice VV q c] w (qew b w d p U Q V D P H0 (Yp k v false its) m g):=by
 obtain⟨I,J,M,F,h0,h1,h2,y⟩:=hQ;obtain⟨S0,C0,K⟩:=E.keep;replace f:=q9c.2 f;have B:q<=28:=by
  have:=hV.len;have:=hx.2;have e:(⟨k,v⟩:Qb).v=v:=rfl;rw[e] at this;omega
 exact ql7 E h0 h1 h2 y (que K f hr hf hx (by rw[O9];exact hdx) hfew hH0) (λ_ _ h=>⟨qr6 h,qrb h⟩) λP' r e=>qul F hb E.tab E.tidy root k VV q c v (λu X=>hV.turned' X λG g A h=>hVU G g A (h1 g h)) hx.1 B e
theorem Ed.Qct (E:Ed b w d p U D P (Gj root++H0) m g)(hQ:Fh b w d p U Q V D P)(hb:1<b)(f:Xk (P.store D) root its)(hr:Qg its)(hf:∀x∈its,Jb x)(k:Kd)(hfew:its.length<1000)(hH0:H0.length<=10000)(hk:∃x∈its,x.k.same k=true) :
  Calls prog 109 #[.pointer (some ⟨p,0,none⟩),.int .i64 root,.agg #[.int .i64 k.obj,.int .i64 k.kind,.int .i64 k.off]] w (qew b w d p U Q V D P H0 (Ve k its) m g):=by
 obtain⟨J,M,T,G,h0,h1,h2,u⟩:=hQ;obtain⟨S0,C0,K⟩:=E.keep;replace f:=q9c.2 f;have y:root≠0:=by
  rcases f with⟨rfl,_⟩|⟨l,_,_,h,_⟩
  ·obtain⟨x,I,_⟩:=hk
   cases I
  ·omega
 obtain⟨up,s,B,Y,A,F⟩:=qkx K f hr hf y k hfew hH0;exact ql7 E h0 h1 h2 u (F (A.2 hk)) (λ_ _ h=>⟨qr7 h,qrc h⟩) λP' r e=>qum G hb E.tab E.tidy root k B (A.2 hk) e
end
def Xe (l:LU)(i:Nat):UInt8:=l.getD i 0
theorem qvw {l:LU}{i:Nat}(h:i<l.length):Xe l i=l[i]:=by
 unfold Xe;rw[AG,AC h];rfl
theorem q4x {l:LU}{i:Nat}(h:l.length<=i):Xe l i=0:=by
 unfold Xe;rw[AG,List.getElem?_eq_none h];rfl
theorem qrd {x y:LU}(e:x.length=y.length)(h:∀i,i<x.length->Xe x i=Xe y i):x=y:=List.ext_getElem e λi h1 h2=>by
 rw[<-qvw h1,<-qvw h2];exact h i h1
theorem q75 {x y:LU}{i:Nat}(h:i<x.length):Xe (x++y) i=Xe x i:=by
 unfold Xe;rw[AG,AG,List.getElem?_append_left h]
theorem q5n {x y:LU}{i:Nat}(h:x.length<=i):Xe (x++y) i=Xe y (i-x.length):=by
 unfold Xe;rw[AG,AG,List.getElem?_append_right h]
theorem Ob (l:LU)(k i:Nat):Xe (l.take k) i=if i<k then Xe l i else 0:=by
 unfold Xe;rw[AG,AG,List.getElem?_take];split<;>rfl
theorem q2l (l:LU)(k i:Nat):Xe (l.drop k) i=Xe l (k+i):=by
 unfold Xe;rw[AG,AG,List.getElem?_drop]
theorem qex (n i:Nat):Xe (List.replicate n 0) i=0:=by
 unfold Xe;rw[AG,List.getElem?_replicate];split<;>rfl
theorem qit (i:Nat):Xe [] i=0:=q4x (AW _)
def Qv (l:LU):LU:=(l.reverse.dropWhile (λx=>x==0)).reverse
theorem qdb (l:LU):Qv (l++[0])=Qv l:=by
 unfold Qv;rw[List.reverse_append];rfl
theorem qdc (l:LU){x:UInt8}(h:x≠0):Qv (l++[x])=l++[x]:=by
 have e:(l++[x]).reverse=x::l.reverse:=by rw[List.reverse_append];rfl
 unfold Qv;rw[e,List.dropWhile_cons,AB (by simpa using h),List.reverse_cons,List.reverse_reverse]
theorem q4y:∀(r l:LU),l=r.reverse->(∀i,Xe (Qv l) i=Xe l i)/\(Qv l).length<=l.length/\(Qv l≠[]->Xe (Qv l) ((Qv l).length-1)≠0)/\Qv l=l.take (Qv l).length
 |[],_,h=>by
  subst h;exact⟨λ_=>rfl,AE _,λh=>absurd rfl h,rfl⟩
 |x::r,_,h=>by
  subst h;rw[List.reverse_cons];obtain⟨f,u,y,A⟩:=q4y r r.reverse rfl;by_cases e:x=0
  ·subst e;rw[qdb];refine⟨λi=>?_,by rw[AD];omega,y,?_⟩
   ·rw[f];by_cases hi:i<r.reverse.length
    ·rw[q75 hi]
    ·rw[q5n (by omega),q4x (by omega)];match i-r.reverse.length with
     |0=>rfl
     |n+1=>exact (q4x (by simp)).symm
   ·rw[List.take_append_of_le_length u];exact A
  ·rw[qdc _ e];refine⟨λ_=>rfl,AE _,λ_=>?_,(List.take_length ..).symm⟩;rw[AD,List.length_singleton,Nat.add_sub_cancel,q5n (AE _),Nat.sub_self];exact e
theorem q3t (l:LU)(i:Nat):Xe (Qv l) i=Xe l i:=(q4y l.reverse l (List.reverse_reverse l).symm).1 i
theorem qh2 (l:LU):(Qv l).length<=l.length:=(q4y l.reverse l (List.reverse_reverse l).symm).2.1
theorem qn6 {l:LU}(h:Qv l≠[]):Xe (Qv l) ((Qv l).length-1)≠0:=(q4y l.reverse l (List.reverse_reverse l).symm).2.2.1 h
theorem qn7 (l:LU):Qv l=l.take (Qv l).length:=(q4y l.reverse l (List.reverse_reverse l).symm).2.2.2
theorem ql8 {x y:LU}(h:∀i,Xe x i=Xe y i):(Qv y).length<=(Qv x).length:=Classical.byContradiction λu=>by
 have f:Qv y≠[]:=λe=>by rw[e] at u;simp at u
 refine qn6 f ?_;rw[q3t,<-h,<-q3t x];exact q4x (by omega)
theorem q9k {x y:LU}(h:∀i,Xe x i=Xe y i):Qv x=Qv y:=
 qrd (Nat.le_antisymm (ql8 λi=>(h i).symm) (ql8 h)) λi _=>by rw[q3t,q3t,h]
theorem qre {x:LU}(h:∀i,Xe x i=0):Qv x=[]:=by
 rw[q9k (y:=[]) λi=>by rw[h,qit]];rfl
theorem qn8 (l:LU):Qv (Qv l)=Qv l:=q9k λi=>q3t l i
def Za (b:LU)(c:Nat):LU:=Qv ((b.drop (128*c)).take 128)
theorem qbb (b:LU)(c j:Nat):Xe (Za b c) j=if j<128 then Xe b (128*c+j) else 0:=by
 unfold Za;rw[q3t,Ob,q2l]
theorem qbc (b:LU)(c:Nat):(Za b c).length<=128:=by
 have h:=qh2 ((b.drop (128*c)).take 128);rw[AR] at h;unfold Za;omega
theorem qey {b e:LU}{c f:Nat}(h:∀j,j<128->Xe b (128*c+j)=Xe e (128*f+j)):Za b c=Za e f:=q9k λi=>by
 rw[Ob,Ob,q2l,q2l];split
 ·next hi=>exact h i hi
 ·rfl
theorem ql9 {b x:LU}{c:Nat}(h:∀j,j<128->Xe b (128*c+j)=Xe x j)(e:x.length<=128):Qv x=Za b c:=q9k λi=>by
 rw[Ob,q2l];split
 ·next hi=>exact (h i hi).symm
 ·exact q4x (by omega)
theorem qrf {b:LU}{c:Nat}(h:b.length<=128*c):Za b c=[]:=qre λi=>by
 rw[Ob,q2l];split
 ·exact q4x (by omega)
 ·rfl
theorem qn9 {b:LU}{c:Nat}(h:Za b c=[]){j:Nat}(e:j<128):Xe b (128*c+j)=0:=by
 have:=qbb b c j;rw[AA e,h,qit] at this;exact this.symm
theorem qv1 {b:LU}{c:Nat}(h:Za b c≠[]):128*c<b.length:=Classical.byContradiction λe=>h (qrf (by omega))
def Ij (P:Pl)(D:DM)(v:Option (LU))(t:LU):Prop:=
 (t=[]/\v=none)\/(1<=t.length/\t.length<=24/\v=some (q0n t 0))\/(24<t.length/\∃a:Nat,1<=a/\a<=2047/\v=some (q0n [] (a:Int))/\P.dat D (a:Int)=(0,t))
structure Zt (P:Pl)(D:DM)(its:List Qb)(ino:Int)(b:LU):Prop where
 few:b.length<=8192
 at_:∀c:Nat,c<=2147483647->Ij P D (valOf its ⟨ino,3,(c:Int)⟩) (Za b c)
theorem Ij.inj {P:Pl}{D:DM}{v:Option (LU)}{t t':LU}(h:Ij P D v t)(h':t=t'):Ij P D v t':=h'▸h
theorem qrg {P:Pl}{D:DM}{its:List Qb}{ino:Int}(h:∀x∈its,x.k.obj≠ino):Zt P D its ino []:=⟨by decide,λc _=>.inl ⟨by unfold Za;simp[Qv],by
 unfold valOf;rw[List.find?_eq_none.2 λx f e=>h x f (((Kd.same_iff _ _).1 e).1)];rfl⟩⟩
theorem q1s {l:List Qb}{k:Kd}{v:LU}(h:valOf l k=some v):⟨k,v⟩∈l:=by
 unfold valOf at h;obtain⟨x,h1,h2⟩:=Option.map_eq_some_iff.1 h;have e:=List.find?_some h1;have f:=List.mem_of_find?_eq_some h1;have:x.k=k:=qek e
 cases x;simp only at this h2;subst this h2;exact f
theorem qbd {l:List Qb}(e:Qg l){k:Kd}{v:LU}:valOf l k=some v↔⟨k,v⟩∈l:=⟨q1s,λh=>q6p e _ h⟩
theorem q3u {l:List Qb}{k:Kd}:valOf l k=none↔∀x∈l,x.k.same k=false:=by
 unfold valOf;rw[Option.map_eq_none_iff,List.find?_eq_none];exact⟨λh x e=>by have:=h x e;simpa using this,λh x e=>by rw[h x e];decide⟩
theorem qrh (k:Kd):k.same k=true:=(Kd.same_iff _ _).2 ⟨rfl,rfl,rfl⟩
theorem qri {a b:Kd}(h:a.same b=false):b.same a=false:=by
 cases e:b.same a with
 |false=>rfl
 |true=>
  have:=qek e;rw[this,qrh] at h
  cases h
theorem q9l {k:Kd}{v:LU}{y:Qb}:∀{l:List Qb},Qg l->(y∈Yp k v false l↔y=⟨k,v⟩\/(y∈l/\y.k.same k=false))
 |[],_=>by
  show y∈[(⟨k,v⟩:Qb)]↔_;simp
 |x::r,hr=>by
  obtain⟨h1,h2⟩:=List.pairwise_cons.1 hr;rw[q1v hr];by_cases A:k.less x.k=true
  ·rw[AA A];have e:=(Nb A).2;have f:∀z∈r,z.k.same k=false:=λz B=>(Nb (Kd.trans _ _ _ A (h1 z B))).2
   constructor
   ·intro h;rcases List.mem_cons.1 h with h|h
    ·exact .inl h
    ·refine .inr ⟨h,?_⟩;rcases List.mem_cons.1 h with rfl|h
     ·exact e
     ·exact f y h
   ·rintro (h|⟨h,_⟩)
    ·exact h▸AP ..
    ·exact AO _ h
  ·rw[AB A];by_cases e:x.k.same k=true
   ·rw[AA e];have f:∀z∈r,z.k.same k=false:=λz B=>by
     have u:=h1 z B;rw[<-q7c e] at u;exact (Nb u).2
    constructor
    ·intro h;rcases List.mem_cons.1 h with h|h
     ·exact .inl h
     ·exact .inr ⟨AO _ h,f y h⟩
    ·rintro (h|⟨h,h2⟩)
     ·exact h▸AP ..
     ·rcases List.mem_cons.1 h with rfl|h
      ·rw[e] at h2;cases h2
      ·exact AO _ h
   ·rw[AB e];have e:x.k.same k=false:=by simpa using e
    have E:=q9l (k:=k) (v:=v) (y:=y) h2;constructor
    ·intro h;rcases List.mem_cons.1 h with rfl|h
     ·exact .inr ⟨AP ..,e⟩
     ·rcases E.1 h with h|⟨h,u⟩
      ·exact .inl h
      ·exact .inr ⟨AO _ h,u⟩
    ·rintro (h|⟨h,u⟩)
     ·exact AO _ (E.2 (.inl h))
     ·rcases List.mem_cons.1 h with rfl|h
      ·exact AP ..
      ·exact AO _ (E.2 (.inr ⟨h,u⟩))
theorem qdd {l:List Qb}(e:Qg l)(k:Kd)(v:LU):valOf (Yp k v false l) k=some v:=
 (qbd (q3j (k:=k) (v:=v) e)).2 ((q9l e).2 (.inl rfl))
theorem qrj {q k:Kd}(h:q≠k):q.same k=false:=by
 cases e:q.same k with
 |false=>rfl
 |true=>exact absurd (qek e) h
theorem qrk {l:List Qb}(f:Qg l){k:Kd}(v:LU){q:Kd}(h:q≠k):valOf (Yp k v false l) q=valOf l q:=by
 have y:=q3j (k:=k) (v:=v) f;have A:=qrj h
 cases e:valOf l q with
 |some u=>exact (qbd y).2 ((q9l f).2 (.inr ⟨q1s e,A⟩))
 |none=>
  refine q3u.2 λx B=>?_
  rcases (q9l f).1 B with h1|⟨h1,_⟩
  ·rw[h1];exact qri A
  ·exact q3u.1 e x h1
theorem qna (k:Kd)(l:List Qb):valOf (Ve k l) k=none:=q3u.2 λx e=>by
 have:=(List.mem_filter.1 e).2;simpa using this
theorem qrl {l:List Qb}(y:Qg l){k q:Kd}(h:q≠k):valOf (Ve k l) q=valOf l q:=by
 have f:=qb0 (k:=k) y;have A:=qrj h
 cases e:valOf l q with
 |some u=>exact (qbd f).2 (List.mem_filter.2 ⟨q1s e,by show (!q.same k)=true;rw[A];rfl⟩)
 |none=>exact q3u.2 λx B=>q3u.1 e x (List.mem_filter.1 B).1
section
variable {D:DM}{S0:Sp}{C0:Ct}{O H:LI}{P P' P'':Pl}
structure Only (D:DM)(P P':Pl):Prop where
 get:∀a,P'.C.get a≠0->P.C.get a≠0
 store:∀a,P'.C.get a≠0->P'.store D a=P.store D a
 like:P.like P'
 n:P'.C.n=P.C.n
theorem Only.trans (h:Only D P P')(h2:Only D P' P''):Only D P P'':=
 ⟨λa e=>h.get a (h2.get a e),λa e=>(h2.store a e).trans (h.store a (h2.get a e)),h.like.trans h2.like,h2.n.trans h.n⟩
end
section
variable {b:Nat}{w w':WD}{d p:Nat}{U:NP}{D:DM}{P:Pl}{H H0 X:LI}{m:Nat}{g:Int}{root:Int}{its:List Qb}
theorem Ed.Qbl (E:Ed b w d p U D P (Gj root++(X++H0)) m g)(hX:∀a∈X,P.Qe D a≠0)(hT:Xk (P.store D) root its){L:List (Nat × Int × List Qb)}(hL:Fg (P.store D) L)(hH:∀a∈H0,∃x∈L,x.2.1=a) :
  P.C.n<=P.C.free+(P.C.first+P.C.kept+(2*(its.length+(L.map λx=>x.2.2.length).sum)+X.length)):=by
 obtain⟨S0,C0,K⟩:=E.keep;have h2:=qqn P.C;have y:∀M:List (Nat × Int × List Qb),(M.map λx=>(x.2.2.filterMap Ky).length).sum<=(M.map λx=>x.2.2.length).sum:=λM=>by
  induction M with
  |nil=>exact AE _
  |cons x r ih=>
   have:=List.length_filterMap_le Ky x.2.2;simp only[BJ,List.sum_cons];omega
 have f:∀{M:List (Nat × Int × List Qb)},Fg (P.store D) M->Fg (P.hide D []) M:=λh x u=>q2e.2 (h x u)
 rcases hT with⟨rfl,rfl⟩|⟨l,h0,B,_⟩
 ·have h1:=K.used (L:=L) (X:=X) (f hL) λa A=>by
   rcases List.mem_append.1 (show a∈X++H0 from A) with h|h
   ·exact .inr h
   ·exact .inl (hH a h)
  have h1:=h1 hX;have:=y L;simp only[List.length_nil];omega
 ·have e:Gj root=[root]:=AB (by omega);rw[e] at K;have h1:=K.used (L:=(l,root,its)::L) (X:=X) (f λx u=>by
   rcases List.mem_cons.1 u with rfl|u
   ·exact B
   ·exact hL x u) λa A=>by
   rcases List.mem_cons.1 (show a∈root::(X++H0) from A) with rfl|h
   ·exact .inl ⟨_,AP ..,rfl⟩
   rcases List.mem_append.1 h with h|h
   ·exact .inr h
   ·obtain⟨x,u,e⟩:=hH a h;exact .inl ⟨x,AO _ u,e⟩
  have h1:=h1 hX;have:=y ((l,root,its)::L);simp only[BJ,List.sum_cons] at h1 this;omega
end
section
open Go.ChangeShapes Go.WideShapes Go.ChangeAt Go.Deep
structure Qbw where
 z:Int
 k:Kd
 V:OA
 q:Nat
 c:Nat
 v:LU
structure Qbw.here (o:Qbw)(W:WD):Prop where
 z:i64 o.z
 off:i64 o.k.off
 sl:Sl W o.V o.q o.c o.v
 few:o.q<=140737488355328
section
variable {H:Type}{enc:TypeId × Value->H}{W:WD}
end
end
theorem qv2 {x:Qb}(h:Ky x=none):Pv x=[]:=by unfold Pv;rw[h];rfl
section
variable {b:Nat}{w w' w'':WD}{d p:Nat}{U:NP}{D:DM}{P P' P'':Pl}{H H0:LI}{m:Nat}{g:Int}{root r r':Int}{its row row':List Qb}
end
theorem qla (n:Nat):(Pl.fresh n).C.n=n:=Ct.Zc n
