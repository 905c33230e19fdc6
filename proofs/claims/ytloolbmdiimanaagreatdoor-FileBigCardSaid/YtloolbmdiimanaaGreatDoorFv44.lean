/- What Put and Delete leave of blocks of bytes: none comes, and those that stay have what th -/
import Derived.Test.YtloolbmdiimanaaGreatDoorFv43
namespace Go.Proofs.YtloolbmdiimanaaGreatDoor
open Go Go.RowKit Go.Proofs Tryz
set_option maxHeartbeats 8000000
set_option maxRecDepth 100000
def Pl.dat (P:Pl)(D:DM)(a:Int):Int × LU:=(P.Jt D a 5,P.J3 D a 5)
def Yu (D:DM)(P P':Pl):Prop:=∀a,P'.C.get a≠0->P'.Qe D a≠0->P.C.get a≠0/\P.Qe D a≠0/\P'.dat D a=P.dat D a
theorem Qay:Yf 5=some 128:=by unfold Yf;exact AA rfl
theorem qgr {D:DM}{P P':Pl}{n:Nat}(h1:P'.C.get (n:Int)≠0)(h0:P.C.get (n:Int)≠0)(f:P'.L n=P.L n):P'.Qe D (n:Int)=P.Qe D (n:Int)/\P'.dat D (n:Int)=P.dat D (n:Int):=by
 have e:P'.live n=P.live n:=by unfold Pl.live;rw[AB h1,AB h0,f]
 refine⟨?_,?_⟩
 ·unfold Pl.Qe;rw[AB h1,AB h0,AJ,e]
 ·unfold Pl.dat Pl.Jt Pl.J3;rw[Qay];dsimp only;rw[AB h1,AB h0,AB h1,AB h0,AJ,e]
theorem Yu.refl {D:DM}(P:Pl):Yu D P P:=λ_ h0 e=>⟨h0,e,rfl⟩
theorem Yu.trans {D:DM}{P P' P'':Pl}(h:Yu D P P')(h2:Yu D P' P''):Yu D P P'':=λa h0 e=>by
 obtain⟨f,u,y⟩:=h2 a h0 e;obtain⟨j1,j2,j3⟩:=h a f u;exact⟨j1,j2,y.trans j3⟩
theorem qei {D:DM}{P P':Pl}(h:∀n:Nat,P'.C.get (n:Int)≠0->P'.Qe D (n:Int)≠0->P.C.get (n:Int)≠0/\P'.L n=P.L n):Yu D P P':=λa h0 e=>by
 obtain⟨n,rfl,_⟩:=Uf h0;obtain⟨f,A⟩:=h n h0 e;obtain⟨u,y⟩:=qgr (D:=D) h0 f A;exact⟨f,by rw[<-u];exact e,y⟩
theorem qcx {C:Ct}{c n:Nat}{x:Int}(h0:C.get (c:Int)≠0)(h:(C.put c x).get (n:Int)≠0):C.get (n:Int)≠0:=by
 by_cases e:n=c
 ·rw[e];exact h0
 ·intro f;refine h ?_;by_cases hn:n<C.n
  ·rw[Px C n hn,AB e];exact f
  ·unfold Ct.get;rw[C.Zf,AB (by omega)]
theorem quj {D:DM}(P:Pl)(a:Int):Yu D P ⟨P.S,P.C.ref a,P.L⟩:=qei λn h0 _=>by
 refine⟨?_,rfl⟩;have h0:(P.C.ref a).get (n:Int)≠0:=h0;unfold Ct.ref at h0;split at h0
 ·next h=>
  have f:P.C.get a≠0:=λe=>by
   unfold Ct.Y0 at h;rw[AA e] at h
   cases h
  obtain⟨k,rfl,_⟩:=Uf f;rw[AJ] at h0;exact qcx f h0
 ·exact h0
theorem qcy {D:DM}(P:Pl)(a:Int):Yu D P ⟨P.S,P.C.Qp a,P.L⟩:=qei λn h0 _=>by
 refine⟨?_,rfl⟩;have h0:(P.C.Qp a).get (n:Int)≠0:=h0;unfold Ct.Qp at h0;split at h0
 ·exact h0
 ·next ha=>
  obtain⟨k,rfl,_⟩:=Uf ha;rw[AJ] at h0;exact qcx ha h0
theorem q9b {D:DM}(P:Pl)(N:Nd):Yu D P (P.Jg N):=by
 unfold Pl.Jg;split
 ·cases u:P.C.pick with
  |none=>rw[q6t u];exact .refl _
  |some c=>
   refine qei λn h0 y=>?_
   have hn:n<P.C.n:=by
    obtain⟨m,e,h⟩:=Uf h0;have:=qi1 (P:=P) (.node N);omega
   have f:=qbl u (.node N) n;by_cases e:n=c
   ·rw[AA e] at f;refine absurd ?_ y;rw[q57 D h0 (b:=.node N) (by unfold Pl.live;rw[AB h0];exact f)];rfl
   ·rw[AB e] at f;rw[q7m u (.node N) n hn,AB e] at h0;exact⟨h0,f⟩
 ·exact .refl _
theorem quk {D:DM}(P:Pl)(a:Int)(N:Nd):Yu D P (P.Va a N):=by
 unfold Pl.Va;split
 ·refine qei λn h0 f=>?_
  have h0:P.C.get (n:Int)≠0:=h0;refine⟨h0,?_⟩;show upd P.L a.toNat (some (.node N)) n=P.L n;by_cases e:n=a.toNat
  ·refine absurd ?_ f;rw[q57 D (P:=⟨P.S,P.C,upd P.L a.toNat (some (.node N))⟩) h0 (b:=.node N) (by unfold Pl.live;rw[AB h0];show upd P.L a.toNat (some (.node N)) n=_;rw[e];exact Ag _ _ _)];rfl
  ·exact Ae _ _ e
 ·exact .refl _
theorem qcz {D:DM}:∀(l:LI) {P P':Pl},Vk l P=some P'->Yu D P P'
 |[],P,P',h=>by cases h;exact .refl _
 |a::l,P,P',h=>by
  unfold Vk at h;split at h
  ·exact (quj P a).trans (qcz l h)
  ·cases h
theorem q8p {D:DM}:∀(l:LI) {P P':Pl},Py l P=some P'->Yu D P P'
 |[],P,P',h=>by cases h;exact .refl _
 |a::l,P,P',h=>by
  unfold Py at h;split at h
  ·exact (qcy P a).trans (q8p l h)
  ·cases h
theorem q4s {D:DM}{P P':Pl}{s:Qr}{i j:Nat}(h:P.Qu s i j=some P'):Yu D P P':=by
 unfold Pl.Qu at h;split at h
 ·exact qcz _ h
 ·split at h
  ·cases h;exact .refl _
  ·exact q8p _ h
theorem qgs {P P':Pl}{D:DM}{s:Qr}{i:Nat}(h:P.near D s i=some P'):Yu D P P':=by
 unfold Pl.near at h;split at h
 ·exact q4s h
 ·cases h
theorem qqr {P P':Pl}{D:DM}{s t:Qr}{b:Nd}{x:Na}(h:P.have_ D s b t=some (x,P')):Yu D P P':=by
 unfold Pl.have_ at h;split at h
 ·cases h;exact .refl _
 ·split at h
  ·obtain⟨q,h1,h2⟩:=Option.map_eq_some_iff.1 h
   cases h2;exact qgs h1
  ·obtain⟨q,h1,h2⟩:=Option.map_eq_some_iff.1 h
   cases h2;exact qgs h1
theorem q80 {D:DM}{P P':Pl}{s:Qr}(h:P.leave s=some P'):Yu D P P':=by
 unfold Pl.leave at h;split at h
 ·cases h;exact .refl _
 ·split at h
  ·cases h;exact qcy P _
  ·cases h
theorem q71 {D:DM}:∀(l:List Qr) {P P':Pl} {r u:List Nd} {ks f:List Qk},Uu l P r ks=some (P',u,f)->Yu D P P'
 |[],P,P',r,u,ks,f,h=>by unfold Uu at h;cases h;exact .refl _
 |s::l,P,P',[],u,ks,f,h=>by
  unfold Uu at h;split at h
  ·rename_i y e;exact (q80 e).trans (q71 l h)
  ·cases h
 |s::l,P,P',b::r,u,ks,f,h=>by
  unfold Uu at h;split at h
  ·split at h
   ·rename_i y e;exact (q80 e).trans (q71 l h)
   ·cases h
  ·split at h
   ·exact (quk P _ _).trans (q71 l h)
   ·cases h
theorem qkz {D:DM}:∀(l:List Nd) {P P':Pl} {ks:List Qk} {q:Option (List Qk)},Jl l P ks=some (P',q)->Yu D P P'
 |[],P,P',ks,q,h=>by unfold Jl at h;cases h;exact .refl _
 |b::l,P,P',ks,q,h=>by
  unfold Jl at h;split at h
  ·exact (q9b P b).trans (qkz l h)
  ·split at h
   ·cases h;exact q9b P b
   ·cases h
theorem q9c {D:DM}{P P':Pl}{x:Na}{q:Option (List Qk)}(h:P.Yn x=some (P',q)):Yu D P P':=by
 unfold Pl.Yn at h;split at h
 ·rename_i u f y e;exact (q71 _ e).trans (qkz _ h)
 ·cases h
theorem qul {D:DM}{P P':Pl}{s:Qr}{b:Nd}{r:Option Int}(h:P.top s b=some (P',r)):Yu D P P':=by
 unfold Pl.top at h;split at h
 ·obtain⟨q,h1,h2⟩:=Option.map_eq_some_iff.1 h
  cases h2;exact q80 h1
 ·split at h
  ·rename_i f u e;have h0:=q9c (D:=D) e;split at h
   ·cases h;exact h0
   ·split at h
    ·cases h;exact h0
    ·split at h
     ·cases h;exact h0.trans (q9b f _)
     ·split at h
      ·cases h;exact h0.trans (q9b f _)
      ·cases h
  ·rename_i f e
   cases h;exact q9c e
  ·cases h
theorem qb1 {D:DM}:∀(way:List Qr) {P P':Pl} {s:Qr} {i j:Nat} {f:Nd} {r:Option Int},Yx D way P s i j f=some (P',r)->Yu D P P'
 |[],P,P',s,i,j,f,r,h=>by
  unfold Yx at h;split at h
  ·rename_i y e;exact (q4s e).trans (qul h)
  ·cases h
 |t::way,P,P',s,i,j,f,r,h=>by
  unfold Yx at h;split at h
  ·rename_i y e;split at h
   ·rename_i x E B;have h2:=(q4s e).trans (qqr B);split at h
    ·rename_i A F u;exact (h2.trans (q9c u)).trans (qb1 way h)
    ·rename_i A u
     cases h;exact h2.trans (q9c u)
    ·cases h
   ·cases h
  ·cases h
theorem qqs {P P':Pl}{D:DM}{root:Int}{x:Qb}{r:Option Int}(h:P.Ib D root x=some (P',r)):Yu D P P':=by
 unfold Pl.Ib at h;split at h
 ·exact qb1 _ h
 ·cases h
theorem qqt {P P':Pl}{D:DM}{root:Int}{k:Kd}{r:Option Int}(h:P.Fp D root k=some (P',r)):Yu D P P':=by
 unfold Pl.Fp at h;split at h
 ·exact qb1 _ h
 ·cases h
theorem qum {D:DM}{P:Pl}{c:Nat}(B:P.C.pick=some c){v:LU}(E:v.length<=128)(hn:P.C.n<=2048):(P.put 5 v).dat D (c:Int)=(0,v)/\∀a,a≠(c:Int)->P.C.get a≠0->(P.put 5 v).dat D a=P.dat D a:=by
 obtain⟨J,_⟩:=Ct.Jv B;obtain⟨K,_,_⟩:=Qcc (P:=P) E;rw[K];have u:=qbl B (.bytes 5 v);have y:=λb (A:b<P.C.n)=>q7m B (.bytes 5 v) b A
 refine⟨?_,λa f h0=>?_⟩
 ·have h0:(P.lay (.bytes 5 v)).C.get (c:Int)≠0:=by rw[y c J,AA rfl];decide
  have I:(P.lay (.bytes 5 v)).live c=some (.bytes 5 v):=by
   unfold Pl.live;rw[AB h0,u c,AA rfl]
  obtain⟨F,G⟩:=qoy D I Qay E (by omega);unfold Pl.dat;rw[F,G]
 ·obtain⟨n,rfl,A⟩:=Uf h0;have f:n≠c:=λe=>f (by rw[e])
  have u:=u n;have y:=y n A;rw[AB f] at u y;exact (qgr (D:=D) (by rw[y];exact h0) h0 u).2
section
variable {b:Nat}{w w':WD}{d p:Nat}{U Q V:NP}{D:DM}{P:Pl}{H H0:LI}{m:Nat}{g:Int}{root:Int}{its:List Qb}
def qej (b:Nat)(w:WD)(d p:Nat)(U Q V:NP)(D:DM)(P:Pl)(H0:LI)(its:List Qb)(m:Nat)(g:Int)(e:Ending)(w':WD):Prop:=
 (∃r P',e=.returned (.tuple #[.int .i64 r,.int .i64 0])/\Qbn b w w' d p U D P P' r H0 its m g/\Fb b w' d p U Q V D P'/\Turn V w w'/\Yu D P P'/\∀a,a∈H0->P.tell D a=(Jc,0)->P'.tell D a=(Jc,0))\/((∃v,e=.returned (.tuple #[.int .i64 v,.int .i64 6]))/\P.C.free<17)
theorem ql0 {O:Sp}{M:Ct}{B A G:NP}(J:Ed b w d p U D P H m g)(h0:∀k,B k->U k)(h1:∀k,A k->U k)(hQ:∀k,Q k->G k)(R:∀k,A k->V k){E:Option (Pl × Option Int)}(ho:Yc D O M [] H0 P its 17 E)(hl:∀P' r,E=some (P',r)->P.like P'/\Yu D P P')
  {f:FuncId} {u:Array Value} (T:∀P' r,E=some (P',r)->Calls prog f u w (Gt b d p B A G D w P' r)):Calls prog f u w (qej b w d p U Q V D P H0 its m g):=by
 rcases ho with⟨P',r,I,F⟩|⟨P',I,hf⟩
 ·refine (T _ _ I).mono ?_;rintro e w' ⟨v,rfl,hv,y,X,Z,td⟩;have:=hv r rfl;subst this;obtain⟨Y,dk⟩:=hl _ _ I;have ext:∀l a t,a∈H0->Qm (P.store D) l a t->Qm (P'.store D) l a t:=λl a t K ht=>q2c.1 (F.old l a t K (q2c.2 ht))
  have tr:=q98.1 F.tree;exact .inl ⟨v,P',rfl,⟨⟨⟨B,A,G,y,h0,h1⟩,λk W=>⟨(J.low k W).1,by have:=(J.low k W).2;have:=X.size;omega⟩,Z,⟨O,M,F.keep⟩,J.Y2,by rw[Y.1];exact J.gen⟩,tr,Y,F.n,F.free,ext,X.mono h1⟩,⟨B,A,G,y,h0,h1,hQ,R⟩,X.mono R,dk,λa K hd=>by
   have:=F.Ia a K (by rw[O0];exact hd);rw[O0] at this;exact this⟩
 ·refine (T _ _ I).mono ?_;rintro e w' ⟨v,rfl,_,y,X,Z,td⟩;exact .inr ⟨⟨v,rfl⟩,hf⟩
theorem Ed.Qcy {k:Kd}{v:LU}(E:Ed b w d p U D P (Gl root++(Pm ⟨k,v⟩++H0)) m g)(hQ:Fb b w d p U Q V D P)(hb:1<b)(f:Xk (P.store D) root its)(hr:Qh its)(hf:∀x∈its,Zt x)(hx:Zt ⟨k,v⟩)(hdx:Dat (P.tell D) ⟨k,v⟩)(hfew:its.length<1000)(hH0:H0.length<=10000)(VV:OA)(q c:Nat)(hV:Sl w VV q c v)(hVU:v≠[]->∀g,q01 VV=some g->¬U g) :
  Calls prog 84 #[.pointer (some ⟨p,0,none⟩),.int .i64 root,.agg #[.int .i64 k.obj,.int .i64 k.kind,.int .i64 k.off],.slice VV q c] w (qej b w d p U Q V D P H0 (Yo k v false its) m g):=by
 obtain⟨M,O,R,F,h0,h1,h2,y⟩:=hQ;obtain⟨J,I,K⟩:=E.keep;replace f:=q98.2 f;have B:q<=28:=by
  have:=hV.len;have:=hx.2;have e:(⟨k,v⟩:Qb).v=v:=rfl;rw[e] at this;omega
 exact ql0 E h0 h1 h2 y (qu6 K f hr hf hx (by rw[O0];exact hdx) hfew hH0) (λ_ _ h=>⟨qqp h,qqs h⟩) λP' r e=>qty F hb E.tab E.tidy root k VV q c v (λu X=>hV.turned' X λG g A h=>hVU G g A (h1 g h)) hx.1 B e
theorem Ed.Qcr (E:Ed b w d p U D P (Gl root++H0) m g)(hQ:Fb b w d p U Q V D P)(hb:1<b)(f:Xk (P.store D) root its)(hr:Qh its)(hf:∀x∈its,Zt x)(k:Kd)(hfew:its.length<1000)(hH0:H0.length<=10000)(hk:∃x∈its,x.k.same k=true) :
  Calls prog 109 #[.pointer (some ⟨p,0,none⟩),.int .i64 root,.agg #[.int .i64 k.obj,.int .i64 k.kind,.int .i64 k.off]] w (qej b w d p U Q V D P H0 (Vf k its) m g):=by
 obtain⟨O,R,T,G,h0,h1,h2,u⟩:=hQ;obtain⟨M,J,K⟩:=E.keep;replace f:=q98.2 f;have y:root≠0:=by
  rcases f with⟨rfl,_⟩|⟨l,_,_,h,_⟩
  ·obtain⟨x,I,_⟩:=hk
   cases I
  ·omega
 obtain⟨up,s,B,W,A,F⟩:=qkr K f hr hf y k hfew hH0;exact ql0 E h0 h1 h2 u (F (A.2 hk)) (λ_ _ h=>⟨qqq h,qqt h⟩) λP' r e=>qtz G hb E.tab E.tidy root k B (A.2 hk) e
end
def Xq (l:LU)(i:Nat):UInt8:=l.getD i 0
theorem qvn {l:LU}{i:Nat}(h:i<l.length):Xq l i=l[i]:=by
 unfold Xq;rw[AG,AC h];rfl
theorem q6a {l:LU}{i:Nat}(h:l.length<=i):Xq l i=0:=by
 unfold Xq;rw[AG,List.getElem?_eq_none h];rfl
theorem qqu {x y:LU}(e:x.length=y.length)(h:∀i,i<x.length->Xq x i=Xq y i):x=y:=List.ext_getElem e λi h1 h2=>by
 rw[<-qvn h1,<-qvn h2];exact h i h1
theorem q9d {x y:LU}{i:Nat}(h:i<x.length):Xq (x++y) i=Xq x i:=by
 unfold Xq;rw[AG,AG,List.getElem?_append_left h]
theorem q72 {x y:LU}{i:Nat}(h:x.length<=i):Xq (x++y) i=Xq y (i-x.length):=by
 unfold Xq;rw[AG,AG,List.getElem?_append_right h]
theorem q2k (l:LU)(k i:Nat):Xq (l.take k) i=if i<k then Xq l i else 0:=by
 unfold Xq;rw[AG,AG,List.getElem?_take];split<;>rfl
theorem q2l (l:LU)(k i:Nat):Xq (l.drop k) i=Xq l (k+i):=by
 unfold Xq;rw[AG,AG,List.getElem?_drop]
theorem qek (n i:Nat):Xq (List.replicate n 0) i=0:=by
 unfold Xq;rw[AG,List.getElem?_replicate];split<;>rfl
theorem qel (i:Nat):Xq [] i=0:=q6a (AW _)
def Za (l:LU):LU:=(l.reverse.dropWhile (λx=>x==0)).reverse
theorem qd0 (l:LU):Za (l++[0])=Za l:=by
 unfold Za;rw[List.reverse_append];rfl
theorem qd1 (l:LU){x:UInt8}(h:x≠0):Za (l++[x])=l++[x]:=by
 have e:(l++[x]).reverse=x::l.reverse:=by rw[List.reverse_append];rfl
 unfold Za;rw[e,List.dropWhile_cons,AB (by simpa using h),List.reverse_cons,List.reverse_reverse]
theorem q4t:∀(r l:LU),l=r.reverse->(∀i,Xq (Za l) i=Xq l i)/\(Za l).length<=l.length/\(Za l≠[]->Xq (Za l) ((Za l).length-1)≠0)/\Za l=l.take (Za l).length
 |[],_,h=>by
  subst h;exact⟨λ_=>rfl,AE _,λh=>absurd rfl h,rfl⟩
 |x::r,_,h=>by
  subst h;rw[List.reverse_cons];obtain⟨f,u,y,A⟩:=q4t r r.reverse rfl;by_cases e:x=0
  ·subst e;rw[qd0];refine⟨λi=>?_,by rw[AD];omega,y,?_⟩
   ·rw[f];by_cases hi:i<r.reverse.length
    ·rw[q9d hi]
    ·rw[q72 (by omega),q6a (by omega)];match i-r.reverse.length with
     |0=>rfl
     |n+1=>exact (q6a (by simp)).symm
   ·rw[List.take_append_of_le_length u];exact A
  ·rw[qd1 _ e];refine⟨λ_=>rfl,AE _,λ_=>?_,(List.take_length ..).symm⟩;rw[AD,List.length_singleton,Nat.add_sub_cancel,q72 (AE _),Nat.sub_self];exact e
theorem q4u (l:LU)(i:Nat):Xq (Za l) i=Xq l i:=(q4t l.reverse l (List.reverse_reverse l).symm).1 i
theorem qgt (l:LU):(Za l).length<=l.length:=(q4t l.reverse l (List.reverse_reverse l).symm).2.1
theorem qmy {l:LU}(h:Za l≠[]):Xq (Za l) ((Za l).length-1)≠0:=(q4t l.reverse l (List.reverse_reverse l).symm).2.2.1 h
theorem qmz (l:LU):Za l=l.take (Za l).length:=(q4t l.reverse l (List.reverse_reverse l).symm).2.2.2
theorem ql1 {x y:LU}(h:∀i,Xq x i=Xq y i):(Za y).length<=(Za x).length:=Classical.byContradiction λu=>by
 have f:Za y≠[]:=λe=>by rw[e] at u;simp at u
 refine qmy f ?_;rw[q4u,<-h,<-q4u x];exact q6a (by omega)
theorem qem {x y:LU}(h:∀i,Xq x i=Xq y i):Za x=Za y:=
 qqu (Nat.le_antisymm (ql1 λi=>(h i).symm) (ql1 h)) λi _=>by rw[q4u,q4u,h]
theorem qqv {x:LU}(h:∀i,Xq x i=0):Za x=[]:=by
 rw[qem (y:=[]) λi=>by rw[h,qel]];rfl
def Jb (b:LU)(c:Nat):LU:=Za ((b.drop (128*c)).take 128)
theorem qgu (b:LU)(c j:Nat):Xq (Jb b c) j=if j<128 then Xq b (128*c+j) else 0:=by
 unfold Jb;rw[q4u,q2k,q2l]
theorem qgv (b:LU)(c:Nat):(Jb b c).length<=128:=by
 have h:=qgt ((b.drop (128*c)).take 128);rw[AR] at h;unfold Jb;omega
theorem qun {b e:LU}{c f:Nat}(h:∀j,j<128->Xq b (128*c+j)=Xq e (128*f+j)):Jb b c=Jb e f:=qem λi=>by
 rw[q2k,q2k,q2l,q2l];split
 ·next hi=>exact h i hi
 ·rfl
theorem quo {b x:LU}{c:Nat}(h:∀j,j<128->Xq b (128*c+j)=Xq x j)(e:x.length<=128):Za x=Jb b c:=qem λi=>by
 rw[q2k,q2l];split
 ·next hi=>exact (h i hi).symm
 ·exact q6a (by omega)
theorem qn0 {b:LU}{c:Nat}(h:Jb b c=[]){j:Nat}(e:j<128):Xq b (128*c+j)=0:=by
 have:=qgu b c j;rw[AA e,h,qel] at this;exact this.symm
def P6 (P:Pl)(D:DM)(v:Option (LU))(t:LU):Prop:=
 (t=[]/\v=none)\/(1<=t.length/\t.length<=24/\v=some (q0n t 0))\/(24<t.length/\∃a:Nat,1<=a/\a<=2047/\v=some (q0n [] (a:Int))/\P.dat D (a:Int)=(0,t))
structure J5 (P:Pl)(D:DM)(its:List Qb)(ino:Int)(b:LU):Prop where
 few:b.length<=8192
 at_:∀c:Nat,c<=2147483647->P6 P D (valOf its ⟨ino,3,(c:Int)⟩) (Jb b c)
theorem P6.inj {P:Pl}{D:DM}{v:Option (LU)}{t t':LU}(h:P6 P D v t)(h':t=t'):P6 P D v t':=h'▸h
theorem qqw {P:Pl}{D:DM}{its:List Qb}{e:Int}(h:∀x∈its,x.k.obj≠e):J5 P D its e []:=⟨by decide,λc _=>.inl ⟨by unfold Jb;simp[Za],by
 unfold valOf;rw[List.find?_eq_none.2 λx u f=>h x u (((Kd.same_iff _ _).1 f).1)];rfl⟩⟩
theorem q1q {l:List Qb}{k:Kd}{v:LU}(h:valOf l k=some v):⟨k,v⟩∈l:=by
 unfold valOf at h;obtain⟨x,h1,h2⟩:=Option.map_eq_some_iff.1 h;have e:=List.find?_some h1;have f:=List.mem_of_find?_eq_some h1;have:x.k=k:=qea e
 cases x;simp only at this h2;subst this h2;exact f
theorem qb2 {l:List Qb}(e:Qh l){k:Kd}{v:LU}:valOf l k=some v↔⟨k,v⟩∈l:=⟨q1q,λh=>q6m e _ h⟩
theorem q3p {l:List Qb}{k:Kd}:valOf l k=none↔∀x∈l,x.k.same k=false:=by
 unfold valOf;rw[Option.map_eq_none_iff,List.find?_eq_none];exact⟨λh x e=>by have:=h x e;simpa using this,λh x e=>by rw[h x e];decide⟩
theorem qqx (k:Kd):k.same k=true:=(Kd.same_iff _ _).2 ⟨rfl,rfl,rfl⟩
theorem qqy {a b:Kd}(h:a.same b=false):b.same a=false:=by
 cases e:b.same a with
 |false=>rfl
 |true=>
  have:=qea e;rw[this,qqx] at h
  cases h
theorem q9e {k:Kd}{v:LU}{y:Qb}:∀{l:List Qb},Qh l->(y∈Yo k v false l↔y=⟨k,v⟩\/(y∈l/\y.k.same k=false))
 |[],_=>by
  show y∈[(⟨k,v⟩:Qb)]↔_;simp
 |x::r,hr=>by
  obtain⟨h1,h2⟩:=List.pairwise_cons.1 hr;rw[q1s hr];by_cases A:k.less x.k=true
  ·rw[AA A];have e:=(Lp A).2;have f:∀z∈r,z.k.same k=false:=λz B=>(Lp (Kd.trans _ _ _ A (h1 z B))).2
   constructor
   ·intro h;rcases List.mem_cons.1 h with h|h
    ·exact .inl h
    ·refine .inr ⟨h,?_⟩;rcases List.mem_cons.1 h with rfl|h
     ·exact e
     ·exact f y h
   ·rintro (h|⟨h,_⟩)
    ·exact h▸AP ..
    ·exact AO _ h
  ·rw[AB A];by_cases e:x.k.same k=true
   ·rw[AA e];have f:∀z∈r,z.k.same k=false:=λz B=>by
     have u:=h1 z B;rw[<-q79 e] at u;exact (Lp u).2
    constructor
    ·intro h;rcases List.mem_cons.1 h with h|h
     ·exact .inl h
     ·exact .inr ⟨AO _ h,f y h⟩
    ·rintro (h|⟨h,h2⟩)
     ·exact h▸AP ..
     ·rcases List.mem_cons.1 h with rfl|h
      ·rw[e] at h2;cases h2
      ·exact AO _ h
   ·rw[AB e];have e:x.k.same k=false:=by simpa using e
    have E:=q9e (k:=k) (v:=v) (y:=y) h2;constructor
    ·intro h;rcases List.mem_cons.1 h with rfl|h
     ·exact .inr ⟨AP ..,e⟩
     ·rcases E.1 h with h|⟨h,u⟩
      ·exact .inl h
      ·exact .inr ⟨AO _ h,u⟩
    ·rintro (h|⟨h,u⟩)
     ·exact AO _ (E.2 (.inl h))
     ·rcases List.mem_cons.1 h with rfl|h
      ·exact AP ..
      ·exact AO _ (E.2 (.inr ⟨h,u⟩))
theorem qd2 {l:List Qb}(e:Qh l)(k:Kd)(v:LU):valOf (Yo k v false l) k=some v:=
 (qb2 (q3f (k:=k) (v:=v) e)).2 ((q9e e).2 (.inl rfl))
theorem qqz {q k:Kd}(h:q≠k):q.same k=false:=by
 cases e:q.same k with
 |false=>rfl
 |true=>exact absurd (qea e) h
theorem qr0 {l:List Qb}(f:Qh l){k:Kd}(v:LU){q:Kd}(h:q≠k):valOf (Yo k v false l) q=valOf l q:=by
 have y:=q3f (k:=k) (v:=v) f;have A:=qqz h
 cases e:valOf l q with
 |some u=>exact (qb2 y).2 ((q9e f).2 (.inr ⟨q1q e,A⟩))
 |none=>
  refine q3p.2 λx B=>?_
  rcases (q9e f).1 B with h1|⟨h1,_⟩
  ·rw[h1];exact qqy A
  ·exact q3p.1 e x h1
theorem qn1 (k:Kd)(l:List Qb):valOf (Vf k l) k=none:=q3p.2 λx e=>by
 have:=(List.mem_filter.1 e).2;simpa using this
theorem qr1 {l:List Qb}(y:Qh l){k q:Kd}(h:q≠k):valOf (Vf k l) q=valOf l q:=by
 have f:=qau (k:=k) y;have A:=qqz h
 cases e:valOf l q with
 |some u=>exact (qb2 f).2 (List.mem_filter.2 ⟨q1q e,by show (!q.same k)=true;rw[A];rfl⟩)
 |none=>exact q3p.2 λx B=>q3p.1 e x (List.mem_filter.1 B).1
structure Ft (b:Nat)(w:WD)(d p:Nat)(U Q V:NP)(D:DM)(P:Pl)(root:Int)(its:List Qb)(X:LI)(m:Nat)(g:Int):Prop where
 ed:Ed b w d p U D P (Gl root++X) m g
 sys:Fb b w d p U Q V D P
 tree:Xk (P.store D) root its
 Qh:Qh its
 fine:∀x∈its,Zt x
 data:∀a∈X,P.tell D a=(Jc,0)
structure Yv (D:DM)(P P':Pl)(its its':List Qb)(X:LI)(N:Kd->Prop)(w w':WD)(U V:NP):Prop where
 same:∀k,¬N k->valOf its' k=valOf its k/\(k.kind=3->∀t,P6 P D (valOf its k) t->P6 P' D (valOf its k) t)
 held:∀a∈X,P'.dat D a=P.dat D a
 like:P.like P'
 n:P'.C.n=P.C.n
 turn:Turn V w w'
 D9:Turn U w w'
section
variable {b:Nat}{w w' w'':WD}{d p:Nat}{U Q V:NP}{D:DM}{P P' P'':Pl}{its its' its'':List Qb}{X X':LI}{m:Nat}{g:Int}{root r:Int}{N N':Kd->Prop}
theorem Ft.below (h:Ft b w d p U Q V D P root its X m g)(hb:Below w.1.size w w'):Ft b w' d p U Q V D P root its X m g:=⟨h.ed.below hb,h.sys.below hb,h.tree,h.Qh,h.fine,h.data⟩
theorem Ft.told (h:Ft b w d p U Q V D P root its X m g)(hl:its.length<=1000):Told w p (P.store D) root its:=⟨h.ed.src,h.tree,h.Qh,hl⟩
theorem Yv.refl (D:DM)(P:Pl)(its:List Qb)(X:LI)(N:Kd->Prop)(U V:NP)(hb:Below w.1.size w w'):Yv D P P its its X N w w' U V:=
 ⟨λ_ _=>⟨rfl,λ_ _ h=>h⟩,λ_ _=>rfl,.refl _,rfl,Q9 hb,Q9 hb⟩
theorem Yv.trans (h:Yv D P P' its its' X N w w' U V)(h2:Yv D P' P'' its' its'' X' N' w' w'' U V)(hX:∀a∈X',a∈X):Yv D P P'' its its'' X' (λk=>N k\/N' k) w w'' U V:=
 ⟨λk y=>by
  obtain⟨f,B⟩:=h.same k (λe=>y (.inl e));obtain⟨E,F⟩:=h2.same k (λe=>y (.inr e));exact⟨E.trans f,λA t G=>by have:=F A t (by rw[f];exact B A t G);rw[f] at this;exact this⟩,
  λa u=>(h2.held a u).trans (h.held a (hX a u)),h.like.trans h2.like,h2.n.trans h.n,h.turn.trans h2.turn λ_ h=>.inl h,h.D9.trans h2.D9 λ_ h=>.inl h⟩
theorem Yv.wider (h:Yv D P P' its its' X N w w' U V)(hN:∀k,N k->N' k):Yv D P P' its its' X N' w w' U V:=
 ⟨λk f=>h.same k λe=>f (hN k e),h.held,h.like,h.n,h.turn,h.D9⟩
theorem Yv.ahead (h:Yv D P P' its its' X N w' w'' U V)(hb:Below w.1.size w w'):Yv D P P' its its' X N w w'' U V:=
 ⟨h.same,h.held,h.like,h.n,(Q9 hb).trans h.turn λ_ h=>.inl h,(Q9 hb).trans h.D9 λ_ h=>.inl h⟩
theorem Yv.file (h:Yv D P P' its its' X N w w' U V){ino:Int}{b:LU}(F:J5 P D its ino b)(hN:∀c:Int,¬N ⟨ino,3,c⟩):J5 P' D its' ino b:=⟨F.few,λc e=>by
 obtain⟨h1,h2⟩:=h.same _ (hN (c:Int));rw[h1];exact h2 rfl _ (F.at_ c e)⟩
theorem Ft.room (h:Ft b w d p U Q V D P root its X m g):P.C.n<=P.C.free+(P.C.first+P.C.kept+(2*its.length+X.length)):=by
 have E:Ed b w d p U D P (Gl root++(X++[])) m g:=by rw[BM];exact h.ed
 have f:∀a∈X,P.Qe D a≠0:=λa e=>by
  obtain⟨A,y,K⟩:=h.ed.keep;exact (q5n K.Zk (h.data a e)).2
 have:=E.Qbh f h.tree (L:=[]) (λx u=>absurd u List.not_mem_nil) (λa e=>absurd e List.not_mem_nil);simpa using this
theorem Ft.dat (h:Ft b w d p U Q V D P root its X m g){x:Qb}(hx:x∈its):Dat (P.tell D) x:=by
 obtain⟨u,f,K⟩:=h.ed.keep;rcases h.tree with⟨rfl,_⟩|⟨l,_,e,_⟩
 ·cases hx
 ·have:=K.dat l _ _ (q2c.2 e) x hx;rwa [O0] at this
theorem qr2 {k:Kd}{t:LU}(h0:t≠[]):Kz ⟨k,q0n t 0⟩=none:=by
 have e:q0n t 0=0::t:=AB λe=>h0 (BF e)
 unfold Kz;rw[e];refine AB λh=>?_
 have f:(0:Nat)=1:=h.2.2
 cases f
theorem qb3 {k:Kd}(A:k.kind=3){c:Nat}(y:c<65536):Kz ⟨k,q0n [] (c:Int)⟩=some (c:Int):=by
 have e:q0n [] (c:Int)=1::Qy (c:Int) 2:=rfl;have h1:Qq (Qy (c:Int) 2)=c:=by rw[qff];exact Nat.mod_eq_of_lt y
 unfold Kz;rw[e,AA ⟨A,by simp[Xy],rfl⟩];have h2:Qq (Qy (c:Int) 2)=256*(256*0+(low (c:Int) 1).toNat)+(low (c:Int) 0).toNat:=rfl;have f:Yb (1::Qy (c:Int) 2) 1=(low (c:Int) 1).toNat:=rfl;have u:Yb (1::Qy (c:Int) 2) 2=(low (c:Int) 0).toNat:=rfl;rw[f,u];congr 1
 omega
theorem qr3 (t:LU)(a:Int)(e:t.length<=24):(q0n t a).length<=28:=by
 unfold q0n;split
 ·rw[AX,Xy];omega
 ·rw[AX];omega
theorem qn2 {a:Int}{t:LU}(h:P.dat D a=(0,t)):P.C.get a≠0:=λh0=>by
 have h1:=(qmb (P:=P) (D:=D) (k:=5) h0).1;have h2:P.Jt D a 5=0:=congrArg Prod.fst h;omega
theorem Ft.bytes (h:Ft b w d p U Q V D P root its X m g)(hb:1<b)(hfree:1<=P.C.free){v:LU}(hv:v.length<=128)(VV:OA)(q cV:Nat)(hV:Sl w VV q cV v)(hVU:∀g,q01 VV=some g->¬U g) :
  Calls prog 48 #[.pointer (some ⟨p,0,none⟩),.int .i64 5,.slice VV q cV] w λe w'=>∃(c:Nat) (P':Pl),e=.returned (.tuple #[.int .i64 (c:Int),.int .i64 0])/\Ft b w' d p U Q V D P' root its ((c:Int)::X) m g/\Yv D P P' its its X (λ_=>False) w w' U V/\P'.dat D (c:Int)=(0,v)/\1<=c/\c<=2047:=by
 obtain⟨O,T,W,u,k0,F,k2,kV⟩:=h.sys;obtain⟨M,J,K⟩:=h.ed.keep;obtain⟨c,hp⟩:∃c,P.C.pick=some c:=by
  cases h:P.C.pick with
  |some c=>exact⟨c,rfl⟩
  |none=>
   have:=Ct.Yg h;omega
 obtain⟨j1,j2,j3,j4,j5,j6,j7,j8,j9,a0,a1,I⟩:=qmx K hp hv;obtain⟨d1,d2⟩:=qum (D:=D) hp hv K.c.1.2;have f:∀a:Int,P.C.get a≠0->(P.put 5 v).dat D a=P.dat D a:=λa h0=>d2 a (λe=>h0 (by rw[e];exact I)) h0
 have hS:=u.low;refine (qdv u.pool (λk E=>(u.tight k E).2) (λh=>by have:=(u.tight _ h).1;omega) 5 VV q cV v hV (λhn ad e h=>hVU ad.block (by rw[e];rfl) (F _ h)) h.ed.tab).mono ?_;rintro e w' ⟨rfl,R,Y⟩;rw[j1,j2];have B:=u.step R Y;have K2:Keep D M J [] (Gl root++((c:Int)::X)) (P.put 5 v):=j3.perm λa _ _=>by
  simp only[A_,List.count_cons];omega
 have A:∀l a t,Qm (P.store D) l a t->Qm ((P.put 5 v).store D) l a t:=λl a t h=>q2c.1 (q10 j5 (q2c.2 h))
 refine⟨c,_,rfl,⟨⟨⟨O,T,W,B,k0,F⟩,λk E=>⟨(h.ed.low k E).1,by have:=(h.ed.low k E).2;have:=Y.size;omega⟩,u.tab hb h.ed.tab Y,⟨M,J,K2⟩,h.ed.Y2,by rw[j8.1];exact h.ed.gen⟩,⟨O,T,W,B,k0,F,k2,kV⟩,?_,h.Qh,h.fine,λa y=>?_⟩,⟨λk _=>⟨rfl,λ_ t ht=>?_⟩,λa y=>?_,j8,j7,Y.mono kV,Y.mono F⟩,d1,j9,by omega⟩
 ·rcases h.tree with h|⟨l,h1,h2,G⟩
  ·exact .inl h
  ·exact .inr ⟨l,h1,A _ _ _ h2,G⟩
 ·rcases List.mem_cons.1 y with rfl|y
  ·exact j4
  ·have:=q5m j5 (a:=a) (by rw[O0];exact h.data a y);rwa [O0] at this
 ·rcases ht with h1|h1|⟨h1,a,h2,G,h4,Z⟩
  ·exact .inl h1
  ·exact .inr (.inl h1)
  ·exact .inr (.inr ⟨h1,a,h2,G,h4,(f _ (qn2 Z)).trans Z⟩)
 ·exact f a (q5n K.Zk (h.data a y)).1
def Nb (b:Nat)(w:WD)(d p:Nat)(U Q V:NP)(D:DM)(P:Pl)(its its':List Qb)(X:LI)(k:Kd)(m:Nat)(g:Int)(e:Ending)(w':WD):Prop:=
 ∃r P',e=.returned (.tuple #[.int .i64 r,.int .i64 0])/\Ft b w' d p U Q V D P' r its' X m g/\Yv D P P' its its' X (λq=>q=k) w w' U V/\∀a,P'.tell D a=(Jc,0)->P'.dat D a=P.dat D a
theorem qr4 (_h:Ft b w d p U Q V D P root its X' m g){k:Kd}(E:∀a∈X,P.tell D a=(Jc,0))(Y:Go.Proofs.YtloolbmdiimanaaGreatDoor.Qh its')(W:∀x∈its',Zt x)(I:∀q,q≠k->valOf its' q=valOf its q){e:Ending}(H:qej b w d p U Q V D P X its' m g e w')(u:17<=P.C.free):Nb b w d p U Q V D P its its' X k m g e w':=by
 rcases H with⟨r,P',rfl,N,R,T,O,B⟩|⟨_,h1⟩
 ·have F:Ft b w' d p U Q V D P' r its' X m g:=⟨N.ed,R,N.tree,Y,W,λa f=>B a f (E a f)⟩;have hd:∀a,P'.tell D a=(Jc,0)->P'.dat D a=P.dat D a:=λa f=>by
   obtain⟨S0,C0,K⟩:=N.ed.keep;obtain⟨h1,h2⟩:=q5n K.Zk f;exact (O a h1 h2).2.2
  refine⟨r,P',rfl,F,⟨λq G=>⟨I q G,λy t Z=>?_⟩,λa f=>hd a (B a f (E a f)),N.like,N.n,T,N.turn⟩,hd⟩;rcases Z with h1|h1|⟨h1,a,h2,J,A,M⟩
  ·exact .inl h1
  ·exact .inr (.inl h1)
  ·refine .inr (.inr ⟨h1,a,h2,J,A,?_⟩);have hm:=q1q ((I q G).trans A);rw[hd _ (F.dat hm _ (qb3 y (by omega)))];exact M
 ·omega
theorem Ft.put {k:Kd}{v:LU}(h:Ft b w d p U Q V D P root its (Pm ⟨k,v⟩++X) m g)(hb:1<b)(hx:Zt ⟨k,v⟩)(hfew:its.length<1000)(hX:X.length<=10000)(hfree:17<=P.C.free)(VV:OA)(q c:Nat)(hV:Sl w VV q c v)(hVU:v≠[]->∀g,q01 VV=some g->¬U g) :
  Calls prog 84 #[.pointer (some ⟨p,0,none⟩),.int .i64 root,.agg #[.int .i64 k.obj,.int .i64 k.kind,.int .i64 k.off],.slice VV q c] w (Nb b w d p U Q V D P its (Yo k v false its) X k m g):=by
 have hd:Dat (P.tell D) ⟨k,v⟩:=λa f=>h.data a (List.mem_append_left _ (by unfold Pm;rw[f];exact AP ..))
 refine (h.ed.Qcy h.sys hb h.tree h.Qh h.fine hx hd hfew hX VV q c hV hVU).mono λe w' H=>?_
 exact qr4 h (λa f=>h.data a (AU _ f)) (q3f h.Qh) (λx u=>by
  rcases q8x h.Qh x u with rfl|h1
  ·exact hx
  ·exact h.fine x h1) (λq y=>qr0 h.Qh v y) H hfree
theorem Ft.del (h:Ft b w d p U Q V D P root its X m g)(hb:1<b)(k:Kd)(hfew:its.length<1000)(hX:X.length<=10000)(hfree:17<=P.C.free)(hk:∃x∈its,x.k.same k=true) :
  Calls prog 109 #[.pointer (some ⟨p,0,none⟩),.int .i64 root,.agg #[.int .i64 k.obj,.int .i64 k.kind,.int .i64 k.off]] w (Nb b w d p U Q V D P its (Vf k its) X k m g):=by
 refine (h.ed.Qcr h.sys hb h.tree h.Qh h.fine k hfew hX hk).mono λe w' H=>?_
 exact qr4 h h.data (qau h.Qh) (λx f=>h.fine x (qqa f)) (λq u=>qr1 h.Qh u) H hfree
end
structure Ck where
 c:Int
 l:LU
 a:Int
def Ck.row (k:Ck)(V:OA)(p q:Nat):LV:=[.int .i64 k.c,.slice V p q,.int .i64 k.a]
theorem qys (k:Ck)(V:OA)(p q:Nat):(k.row V p q).length=3/\∀u∈k.row V p q,u.oneCell'=true:=⟨rfl,λu e=>by
 simp[Ck.row] at e;rcases e with rfl|rfl|rfl<;>rfl⟩
theorem Qcn:Au prog 49 55 3 40 (.agg #[.int .i64 0,.slice none 0 0,.int .i64 0]):=⟨underlying49,by kernel_rfl,rfl,by omega⟩
abbrev P7:=Ua 3 55 Ck.row Ck.l
def Si (x:Qb):Ck:=⟨x.k.off,Ur x.v,Yk x.v⟩
theorem qr5 {l:LU}(h:Yy l=true):l.length<=25:=by
 have:=AK h;omega
theorem qn3 {w:WD}{p:Nat}{R:Int->Nd × Int}{root u fr up:Int}{its L:List Qb}(T:Told w p R root its)(ht:Tab w)(hL:within ⟨u,3,fr⟩ ⟨u,3,up⟩ its=L)(f:∀x∈L,Yy x.v=true) :
  Calls prog 18 #[.pointer (some ⟨p,0,none⟩),.int .i64 root,.int .i64 u,.int .i64 fr,.int .i64 up] w λe w'=>∃A n c,e=.returned (.tuple #[.slice A n c,.int .i64 0])/\P7 w' w.1.size A n c (L.map Si)/\Below w.1.size w w':=by
 have a4:=T.len;have d6:L.length<=1000:=by
  rw[<-hL];exact AZ (List.length_filter_le _ _) a4
 have HT:=HI T;have HL:=HI hL;have a7:=HI f;clear T hL f;go_enter func18,ntmps18
 go_wp2_with fail
 refine (q37 u fr w).mono ?_;rintro e wa ⟨rfl,ba⟩;go_wp2_with fail
 refine (q37 u up wa).mono ?_;rintro e wb ⟨rfl,bb⟩;have bw:Below w.1.size w wb:=ba.trans (bb.mono ba.size);have tb:=ht.below bw ht.1;have a6:=(HT.out.below bw).Qaq tb ⟨u,3,fr⟩ ⟨u,3,up⟩ 2147483647 L (by rw[HL.out];exact AN (by have:(2147483647:Int).toNat=2147483647:=rfl;omega));go_wp2_with fail
 refine a6.mono ?_;rintro e I ⟨A1,n1,c1,rfl,y,a2⟩;have d1:=bw.size;have M:Below w.1.size w I:=bw.trans (a2.mono d1);have hn:=y.Y6.len;obtain⟨d4,b6⟩:=y.Y6.bounds;unfold maxLen at b6;have b8:P7 I I.1.size none 0 0 []:=qsl _ _;clear a6 tb ba bb bw a2;go_wp2_with fail
 go_loopw [14,36] (λsv iv wr=>∃(j:Nat) (A:OA) (c:Nat),j<=n1/\iv=.int .i64 (j:Int)/\sv=.slice A j c/\P7 wr I.1.size A j c ((L.take j).map Si)/\Below I.1.size I wr) (λ_ iv _=>n1-(intOf iv).toNat)
 case atStart=>exact⟨0,none,0,AW _,rfl,rfl,b8,AI _ _⟩
 case round=>
  obtain⟨j,A,c,hj,rfl,rfl,hC,hB⟩:=hrel;by_cases b5:j<n1
  ·have a3:j<L.length:=by omega
   have B:=y.below hB;obtain⟨gb,o,W,Y,Z,rfl,hg,x0,x1,x2,x3,hs⟩:=B.Y6.cell b5;have K:Qw L j∈L:=List.mem_of_getElem? (q13 a3);have f:=a7.out _ K;have G:L.take (j+1)=L.take j++[Qw L j]:=by rw[List.take_add_one,q13 a3];rfl
   obtain⟨x,hx⟩:∃x,Qw L j=x:=⟨_,rfl⟩;rw[hx] at x0 x1 x2 hs f G;have b7:Y<=1000000:=by have:=hs.len;have:=qr5 f;omega
   have e0:(0:Int)<=(j:Int):=by omega
   have e1:(j:Int)<(n1:Int):=by omega
   have a1:=HI hC;have a5:=HI f;clear B hx K hC f;have bx:Below wr.1.size wr (wr.alloc (.cells #[.int .i64 x.k.obj,.int .i64 x.k.kind,.int .i64 x.k.off,.slice W Y Z] 84)):=Ql;have O:=hs.below bx;have sx:wr.1.size<(wr.alloc (.cells #[.int .i64 x.k.obj,.int .i64 x.k.kind,.int .i64 x.k.off,.slice W Y Z] 84)).1.size:=by simp
   have Kx:IB (wr.alloc (.cells #[.int .i64 x.k.obj,.int .i64 x.k.kind,.int .i64 x.k.off,.slice W Y Z] 84)) wr.1.size [.int .i64 x.k.obj,.int .i64 x.k.kind,.int .i64 x.k.off,.slice W Y Z]:=IB.new wr _ _;go_wp2_with fail
   generalize wr.alloc (.cells #[.int .i64 x.k.obj,.int .i64 x.k.kind,.int .i64 x.k.off,.slice W Y Z] 84)=wx at bx O Kx sx ⊢;have d2:=Kx.cell 3 rfl;go_wp2_with fail
   refine (qax W Y Z x.v wx O b7).mono ?_;rintro e J ⟨-,hy,b3⟩;obtain⟨V,E,F,rfl,hv,d0⟩:=hy a5.out;have K3:=Kx.below b3 Kx.lt;have z3:=K3.lt;have b4:Below J.1.size J (J.alloc (.cells #[.slice V E F,.int .i64 (Yk x.v)] 53)):=Ql;have K4:IB (J.alloc (.cells #[.slice V E F,.int .i64 (Yk x.v)] 53)) J.1.size [.slice V E F,.int .i64 (Yk x.v)]:=IB.new J _ _;clear x0 x1 x2 x3 hs O Kx d2;have k2:=K3.cell 2 rfl;have z1:=hB.size;have zx:=bx.size;have d3:=b3.size;have a0:=a1.out.Qc;have B4:Below wr.1.size wr (J.alloc (.cells #[.slice V E F,.int .i64 (Yk x.v)] 53)):=bx.trans ((b3.mono zx).trans (b4.mono (AZ zx d3)));have l5:=(q1l (J.alloc (.cells #[.slice V E F,.int .i64 (Yk x.v)] 53)) 55 3 [.int .i64 x.k.off,.slice V E F,.int .i64 (Yk x.v)] #[.int .i64 x.k.off,.slice V E F,.int .i64 (Yk x.v)] rfl rfl).Um (by omega);rw[BH] at l5;have B5:Below wr.1.size wr ((J.alloc (.cells #[.slice V E F,.int .i64 (Yk x.v)] 53)).alloc (.cells #[.int .i64 x.k.off,.slice V E F,.int .i64 (Yk x.v)] 55)):=B4.trans (Ql.mono B4.size);have b1:=a1.out.below B5;have b9:=(hv.below b4).below (Ql (o:=.cells #[.int .i64 x.k.off,.slice V E F,.int .i64 (Yk x.v)] 55));have c9:Ur x.v≠[]->∀g,q01 V=some g->I.1.size<=g/\q01 A≠some g:=λ_ g hg=>by
    have:=d0 g hg;refine⟨by omega,λe=>?_⟩;have:=(a0 g e).2;omega
   go_wp2_with (first
    |(at_builtin;refine qf6 Qcn (by omega) qys rfl (.tmp 48) (.tmp 54) rfl rfl b1 _ 1 ⟨x.k.off,Ur x.v,Yk x.v⟩ V E F rfl l5 b9 c9 (by omega) (by have:=B5.size;omega) ?_;intro A' c' w' a9 T' d5)
    |fail)
   have B6:Below I.1.size I w':=(hB.trans (B5.mono z1)).trans (T'.below (λk hk=>(a0 k hk).1) (by have:=B5.size;omega));exact⟨⟨j+1,A',c',by omega,by go_num,rfl,by rw[G,List.map_append];exact a9,B6⟩,by simp[intOf];omega⟩
  ·have b2:j=n1:=by omega
   subst b2;have G:L.take j=L:=AN (by omega);rw[G] at hC;have a8:=M.trans (hB.mono M.size);have b0:=hC.less M.size;go_wp2_with fail
   go_ret2;exact⟨_,_,_,rfl,b0,a8⟩
