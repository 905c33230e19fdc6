/- The reference's counts: Body -/
import Derived.Test.YtloolbmdiimanaaGreatDoorFv17
namespace Go.Proofs.YtloolbmdiimanaaGreatDoor
open Go Go.RowKit Go.Proofs Tryz
set_option maxHeartbeats 4000000
set_option maxRecDepth 10000
def Ct.Zp (C:Ct)(m:Int):Nat->LU
 |0=>[]
 |k+1=>C.Zp m k++Qy (C.get (m+(k:Int))) 2
theorem Ct.J7 (C:Ct)(m:Int)(k:Nat):(C.Zp m k).length=2*k:=by
 induction k with
 |zero=>rfl
 |succ k ih=>show (C.Zp m k++Qy _ 2).length=_;rw[AD,ih,Xy];omega
def Ct.body (C:Ct)(i:Int):LU:=if 0<=i/\i<(Qj C.n:Int) then C.Zp (i*118) 118 else []
section
def Fh (l:LU)(k:Nat):Int:=Qq ((l.drop (2*k)).take 2)
def Yp (n f i:Nat)(l:LU)(k:Nat):Bool:=decide (Fh l k≠0/\(i*118+k<f\/n<=i*118+k))
def Yi (n i:Nat)(l:LU)(C:Ct):Nat->Ct
 |0=>C
 |k+1=>if i*118+k<n then (Yi n i l C k).put (i*118+k) (Fh l k) else Yi n i l C k
def q4j (n f i:Nat)(l:LU):Prop:=l.length=236/\∀k,k<118->Yp n f i l k=false
def Yw (n:Nat)(d:List (LU)):Nat->Ct
 |0=>Ct.zero n
 |i+1=>Yi n i (nth d i) (Yw n d i) 118
open Classical in
noncomputable def J9 (n:Int) (d:List (LU)):Int:=if ¬(32<=n/\n<=2048) then 1 else if d.length≠Qj n.toNat\/¬∀i,i<Qj n.toNat->q4j n.toNat (2+2*Qj n.toNat) i (nth d i) then 3 else 0
def Vu (n:Nat)(d:List (LU)):Ct:=(Yw n d (Qj n)).commit
theorem qhu (n i:Nat)(l:LU)(C:Ct)(k:Nat):(Yi n i l C k).n=C.n:=by
 induction k with
 |zero=>rfl
 |succ k ih=>unfold Yi;split;rw[Ct.Zf,ih];exact ih
theorem q9v (n:Nat)(d:List (LU))(i:Nat):(Yw n d i).n=n:=by
 induction i with
 |zero=>exact Ct.Zb n
 |succ i ih=>exact (qhu _ _ _ _ _).trans ih
end
theorem qhv (C:Ct)(m:Int)(n k:Nat)(h:k<n):((C.Zp m n).drop (2*k)).take 2=Qy (C.get (m+(k:Int))) 2:=by
 induction n with
 |zero=>omega
 |succ n ih=>
  show ((C.Zp m n++Qy (C.get (m+(n:Int))) 2).drop (2*k)).take 2=_;by_cases d:k<n
  ·rw[List.drop_append_of_le_length (by rw[C.J7];omega),List.take_append_of_le_length (by rw[AS,C.J7];omega)];exact ih d
  ·obtain rfl:k=n:=by omega
   rw[List.drop_append,List.drop_eq_nil_of_le (by rw[C.J7];omega),C.J7,Nat.sub_self,BG,List.drop_zero,AN (by rw[Xy];omega)]
theorem Ct.Rx {C:Ct}(h:C.ok){i k:Nat}(hi:i<Qj C.n)(hk:k<118):Fh (C.body (i:Int)) k=C.get ((i:Int)*118+(k:Int)):=by
 have d:C.body (i:Int)=C.Zp ((i:Int)*118) 118:=by unfold Ct.body;rw[AA ⟨by omega,by omega⟩]
 unfold Fh;rw[d,qhv C _ 118 k hk];have h1:=C.Zv h ((i:Int)*118+(k:Int));exact q6o _ 2 h1.1 (by have:=h1.2;simp;omega)
theorem Ct.Uj {C:Ct}{i:Nat}(hi:i<Qj C.n):(C.body (i:Int)).length=236:=by
 unfold Ct.body;rw[AA ⟨by omega,by omega⟩,C.J7]
theorem q60 (C:Ct)(k:Nat)(x:Int)(a:Nat)(d:a<C.n):nm (C.put k x).now a=if a=k then x else nm C.now a:=by
 show nm (C.now.set k x) a=_;by_cases h:a=k
 ·subst h;rw[AA rfl,q5z _ _ _ d]
 ·rw[AB h,q4i _ _ _ _ (λe=>h e.symm)]
theorem qfa (i:Nat)(l:LU)(C:Ct)(k a:Nat)(f:a<C.n):nm (Yi C.n i l C k).now a=if i*118<=a/\a<i*118+k then Fh l (a-i*118) else nm C.now a:=by
 induction k with
 |zero=>rw[AB (by omega)];rfl
 |succ k ih=>
  unfold Yi;by_cases d:i*118+k<C.n
  ·rw[AA d,q60 _ _ _ _ (by rw[qhu];exact f),ih];by_cases e:a=i*118+k
   ·rw[AA e,AA (by omega),show a-i*118=k by omega]
   ·rw[AB e];by_cases h2:i*118<=a/\a<i*118+k
    ·rw[AA h2,AA (by omega)]
    ·rw[AB h2,AB (by omega)]
  ·rw[AB d,ih];by_cases h2:i*118<=a/\a<i*118+k
   ·rw[AA h2,AA (by omega)]
   ·rw[AB h2,AB (by omega)]
theorem q9w (n:Nat)(d:List (LU))(i a:Nat)(e:a<n):nm (Yw n d i).now a=if a<i*118 then Fh (nth d (a / 118)) (a % 118) else 0:=by
 induction i with
 |zero=>
  rw[AB (by omega)];show nm (List.replicate n 0) a=0;unfold nm;simp[e]
 |succ i ih=>
  have h:=qfa i (nth d i) (Yw n d i) 118 a (by rw[q9v];exact e);rw[q9v,ih] at h;refine (show nm (Yw n d (i+1)).now a=_ from h).trans ?_;by_cases h1:i*118<=a/\a<i*118+118
  ·rw[AA h1,AA (by omega),show a / 118=i by omega,show a % 118=a-i*118 by omega]
  ·rw[AB h1];by_cases h2:a<i*118
   ·rw[AA h2,AA (by omega)]
   ·rw[AB h2,AB (by omega)]
def Ct.res (C:Ct):Prop:=∀a,a<C.n->a<C.first->nm C.now a=0
def Ct.bodies (C:Ct):List (LU):=(List.range (Qj C.n)).map λ(i:Nat)=>C.body (i:Int)
theorem Ct.Dv (C:Ct){i:Nat}(h:i<Qj C.n):nth C.bodies i=C.body (i:Int):=by
 unfold nth Ct.bodies;rw[AG,BA,List.getElem?_range h];rfl
theorem Ct.Oe {C:Ct}(h:C.ok)(hr:C.res){i:Nat}(hi:i<Qj C.n):q4j C.n (2+2*Qj C.n) i (nth C.bodies i):=by
 rw[C.Dv hi];refine⟨Ct.Uj hi,λk d=>?_⟩;unfold Yp;rw[Ct.Rx h hi d];refine AH ?_;rintro⟨h1,h2⟩;refine h1 ?_;unfold Ct.get;split
 ·rename_i f;have e:((i:Int)*118+(k:Int)).toNat=i*118+k:=by omega
  rw[e];rcases h2 with h2|h2
  ·exact hr _ (by omega) h2
  ·omega
 ·rfl
theorem Ct.Lc {C:Ct}(h:C.ok)(hr:C.res):J9 (C.n:Int) C.bodies=0/\Vu C.n C.bodies=C.commit:=by
 have A:C.bodies.length=Qj C.n:=by unfold Ct.bodies;rw[AF,List.length_range]
 constructor
 ·unfold J9;rw[AJ,AB (λe=>e (by have:=h.1;omega)),AB];rintro (e|e)
  ·exact e A
  ·exact e λi hi=>Ct.Oe h hr hi
 ·have m:(Yw C.n C.bodies (Qj C.n)).now=C.now:=by
   have h1:(Yw C.n C.bodies (Qj C.n)).now.length=C.now.length:=q9v _ _ _;refine List.ext_getElem h1 λa p f=>?_
   have y:a<C.n:=f;have d:=q9w C.n C.bodies (Qj C.n) a y;have g:a / 118<Qj C.n:=by unfold Qj;omega
   rw[AA (by unfold Qj;omega),C.Dv g,Ct.Rx h g (Nat.mod_lt _ (by omega))] at d;have u:((a / 118:Nat):Int)*118+((a % 118:Nat):Int)=(a:Int):=by omega
   rw[u] at d;unfold Ct.get at d;rw[AA ⟨by omega,by omega⟩,AJ] at d;unfold nm at d;simpa [p,f] using d
  unfold Vu Ct.commit;simp only[m]
theorem Ct.Ba {C D:Ct}(h:D.n=C.n):D.first=C.first:=by unfold Ct.first;rw[h]
theorem Ct.Ai {C:Ct}(h:C.res){k:Nat}(x:Int)(hk:C.first<=k):(C.put k x).res:=λa d e=>by
 rw[C.Zf] at d;rw[Ct.Ba (C.Zf k x)] at e;rw[q60 C k x a d,AB (by omega)];exact h a d e
theorem Ct.Vr {C:Ct}(h:C.res){a:Int}(hg:¬C.get a=0):0<=a/\a<(C.n:Int)/\C.first<=a.toNat:=by
 obtain⟨h1,h2,e⟩:=Ct.Ej hg;refine⟨h1,h2,?_⟩;rcases Nat.lt_or_ge a.toNat C.first with d|d
 ·exact absurd (e.trans (h a.toNat (by omega) d)) hg
 ·exact d
theorem Ct.Jv {C:Ct}{k:Nat}(h:C.pick=some k):k<C.n/\C.first<=k/\nm C.now k=0/\nm C.done k=0/\∀j,j<k->C.may j=false:=by
 unfold Ct.pick at h;rw[List.find?_range_eq_some] at h;obtain⟨h1,h2,d⟩:=h;unfold Ct.may Ct.Gw at h1;rw[BN,decide_eq_true_iff,decide_eq_true_iff] at h1;exact⟨List.mem_range.1 h2,h1.1,h1.2.1,h1.2.2,λj e=>by have:=d j e;simpa using this⟩
theorem Ct.Td {C:Ct}(h:C.pick=none):∀j,j<C.n->C.may j=false:=λj d=>by
 unfold Ct.pick at h;rw[List.find?_eq_none] at h;have:=h j (List.mem_range.2 d);simpa using this
theorem Ct.Yg {C:Ct}(h:C.pick=none):C.free=0:=by
 unfold Ct.free Ct.Ju;rw[List.countP_eq_zero];intro j d;rw[Ct.Td h j (List.mem_range.1 d)];simp
theorem Ct.Ef (C:Ct):C.alloc.n=C.n:=by unfold Ct.alloc;split;exact C.Zf _ _;rfl
theorem Ct.Qaz (C:Ct)(a:Int):(C.ref a).n=C.n:=by unfold Ct.ref;split;exact C.Zf _ _;rfl
theorem Ct.Ew (C:Ct)(a:Int):(C.Qp a).n=C.n:=by unfold Ct.Qp;split;rfl;exact C.Zf _ _
theorem Ct.Rt {C:Ct}(h:C.ok):C.alloc.ok:=by unfold Ct.alloc;split;exact Ct.Bl h _ _ (by omega) (by omega);exact h
theorem Ct.Ob {C:Ct}(h:C.res):C.alloc.res:=by
 unfold Ct.alloc;split
 ·rename_i k d;exact Ct.Ai h _ (Ct.Jv d).2.1
 ·exact h
theorem Ct.Qap {C:Ct}(h:C.res)(a:Int):(C.ref a).res:=by
 unfold Ct.ref;split
 ·rename_i d;have f:¬C.get a=0:=λe=>by unfold Ct.Y0 at d;rw[AA e] at d;omega
  exact Ct.Ai h _ (Ct.Vr h f).2.2
 ·exact h
theorem Ct.Pg {C:Ct}(h:C.res)(a:Int):(C.Qp a).res:=by
 unfold Ct.Qp;split
 ·exact h
 ·rename_i d;exact Ct.Ai h _ (Ct.Vr h d).2.2
theorem Ct.Qao {C:Ct}(h:C.ok)(a:Int):(C.ref a).ok:=by
 unfold Ct.ref;split
 ·rename_i d;have e:=C.Zv h a;refine Ct.Bl h _ _ (by omega) ?_;unfold Ct.Y0 at d;split at d
  ·omega
  ·split at d<;>omega
 ·exact h
theorem Ct.Pe {C:Ct}(h:C.ok)(a:Int):(C.Qp a).ok:=by
 unfold Ct.Qp;split
 ·exact h
 ·have d:=C.Zv h a;exact Ct.Bl h _ _ (by omega) (by omega)
theorem Ct.Ij (n:Nat):(Ct.zero n).res:=λa d _=>by
 rw[Ct.Zb] at d;show nm (List.replicate n 0) a=0;unfold nm;simp[d]
theorem Ct.Lj (C:Ct)(j:Nat):C.may j=decide (C.first<=j/\nm C.now j=0/\nm C.done j=0):=by
 unfold Ct.may Ct.Gw;rw[Bool.eq_iff_iff];simp
theorem qsp (n:Int)(h:n<32\/2048<n)(w:WD) :
  Calls prog 22 #[.int .i64 n] w λe d=>e=.returned (.tuple #[.pointer none,.int .i64 1])/\w=d:=by
 by_cases h1:n<32
 ·go_enter func22,ntmps22
  go_wp2;go_ret2;exact⟨rfl,rfl⟩
 ·have h2:2048<n:=by omega
  go_enter func22,ntmps22
  go_wp2;go_ret2;exact⟨rfl,rfl⟩
section
attribute [local go_sem ↓] qjg
theorem qdp (n:Nat)(h1:32<=n)(h2:n<=2048)(w:WD) :
  Calls prog 22 #[.int .i64 (n:Int)] w λe G=>∃p,e=.returned (.tuple #[.pointer (some ⟨p,0,none⟩),.int .i64 0])/\Yt G p 0 (λk=>w.1.size<=k) (Ct.zero n)/\w.1.size<=p/\Below w.1.size w G:=by
 have H:¬(n:Int)<32:=by omega
 have I:¬(2048:Int)<(n:Int):=by omega
 have hn:n<=1000000:=by omega
 obtain⟨m,hm⟩:∃m,Qj n=m:=⟨_,rfl⟩;have D:=HI hm;have d:=HI (show ((Ct.zero n).first:Int)=2+2*(m:Int) by unfold Ct.first;rw[Ct.Zb,hm];omega);clear hm;have F:=qnz n hn w.drew;have B:=qnz n hn (Uc n w.drew);rw[q3g] at B;have f:w.drew.1.size=w.1.size:=rfl;rw[f] at F B;go_enter func22,ntmps22
 go_wp2_with fail
 refine (qcp (n:Int) n rfl (by omega) m D.out w).mono ?_;rintro e K ⟨rfl,rfl⟩;go_wp2_with fail
 go_region
 all_goals (
  have u:Xe (Uc n (Uc n w.drew)) (w.1.size+1) n n (List.replicate n 0):=by
   have:=qjh n hn (Uc n w.drew);rw[q3g,f] at this;exact this
  have g:Xe (Uc n (Uc n w.drew)) w.1.size n n (List.replicate n 0):=by
   have h:=qjh n hn w.drew;rw[f] at h;exact h.keep (heap_alloc_old (Uc n w.drew) _ (by rw[q3g,f];omega))
  have A:Below w.1.size w (Uc n (Uc n w.drew)):=((AI _ _).drew.trans (qbv n _ _ (AE _))).trans (qbv n _ _ (by rw[q3g,f];omega));have y:(Uc n (Uc n w.drew)).1.size=w.1.size+2:=by rw[q3g,q3g,f]
  clear F B;generalize Uc n (Uc n w.drew)=W at g u A y ⊢;go_wp2_with fail
  go_ret2;rw[y];refine⟨w.1.size+2,rfl,?_,by omega,A.alloc A.size _⟩;have J:=(Ct.Zb n).symm;have hF:=d.out;have E:=D.out;first
   |exact⟨w.1.size,n,w.1.size+1,n,_,_,by rw[<-y];exact BE W _,⟨by rw[Ct.Zb];rfl,by rw[Ct.Zb];rfl,by rw[Ct.Zb,E];rfl,by rw[hF];rfl⟩,by rw[Ct.Zb];exact g.keep (heap_alloc_old W _ g.lt),by rw[Ct.Zb];exact u.keep (heap_alloc_old W _ u.lt),⟨by omega,by omega,by omega⟩,⟨by dsimp only;omega,by dsimp only;omega⟩,Ct.Ak h1 h2⟩
   |exact⟨w.1.size+1,n,w.1.size,n,_,_,by rw[<-y];exact BE W _,⟨by rw[Ct.Zb];rfl,by rw[Ct.Zb];rfl,by rw[Ct.Zb,E];rfl,by rw[hF];rfl⟩,by rw[Ct.Zb];exact u.keep (heap_alloc_old W _ u.lt),by rw[Ct.Zb];exact g.keep (heap_alloc_old W _ g.lt),⟨by omega,by omega,by omega⟩,⟨by dsimp only;omega,by dsimp only;omega⟩,Ct.Ak h1 h2⟩
   |fail)
end
theorem Qba (A:OA)(m k c:Nat)(l:LU)(w:WD)(h:Sl w A m c l)(E:m=k+2)(hm:m<=100000)(y:Nat)(B:Qq (l.take 2)=y) :
  Calls prog 54 #[.slice A m c,.int .i64 2] w λe g=>∃d f,e=.returned (.tuple #[.int .i64 (y:Int),.slice d k f,.int .i64 0])/\Below w.1.size w g:=by
 subst B;refine (q49 A m c l 2 w h (by omega) (by omega) (by omega) (by omega)).mono ?_;rintro e g ⟨d,D,f,rfl,own,u⟩;have p:=own.len;rw[AS,h.len] at p;have:D=k:=by have:(2:Int).toNat=2:=rfl;omega
 subst this;exact⟨d,f,rfl,u⟩
theorem q6n {w w':WD}{A:OA}{n c:Nat}{l:LU}(h:Sl w A n c l){S:NP}(T:Turn S w w')(g:∀d,A=some d->¬S d.block):Sl w' A n c l:=
 ⟨h.1,h.2.1,h.2.2.1,λj u p=>by
  obtain⟨d,e,f,m⟩:=h.2.2.2 j u p;exact⟨d,e,Nat.lt_of_lt_of_le f T.size,(AY (a:=d.add j) (by rw[Ov];exact T.block _ f (g d e))).trans m⟩⟩
theorem qlt (C:Ct)(k:Nat)(d:k<C.n)(h:nm C.now k=0):C.put k 0=C:=by
 have e:C.now.set k 0=C.now:=by
  have h1:C.now[k]'d=0:=by
   unfold nm at h;rw[AG,AC d] at h;exact h
  rw[<-h1];exact List.set_getElem_self d
 unfold Ct.put;simp only[e]
theorem qo0 {w:WD}{p:Nat}{S:NP}{C:Ct}(H:Yt w p 0 S C)(i:Nat)(hi:i<=1000)(A:OA)(c:Nat)(l:LU)(hs:Sl w A 236 c l)(hA:∀ad,A=some ad->¬S ad.block)(hz:∀a,i*118<=a->a<C.n->nm C.now a=0) :
  Calls prog 102 #[.pointer (some ⟨p,0,none⟩),.int .i64 (i:Int),.slice A 236 c] w λe w'=>((e=.returned (.bool true)/\(∀k,k<118->Yp C.n C.first i l k=false)/\Yt w' p 0 S (Yi C.n i l C 118))\/(e=.returned (.bool false)/\∃k,k<118/\Yp C.n C.first i l k=true))/\Turn S w w':=by
 have Hs:=HI hs;have HA:=HI hA;have Hz:=HI hz;have b3:=hs.cap;have a2:=hs.max;unfold maxLen at a2;have c9:=H.ok.1;clear hs hA hz;go_enter func102,ntmps102
 go_wp2_with fail
 go_loopw [7,8,9,10,11,12] (λ_ _ _ _ _ k wr=>∃t:Nat,t<=118/\k=.int .i64 (t:Int)/\Yt wr p 0 S (Yi C.n i l C t)/\(∀q,q<t->Yp C.n C.first i l q=false)/\Turn S w wr) (λ_ _ _ _ _ k _=>118-(intOf k).toNat)
 case atStart=>exact⟨0,AW _,rfl,H,λq hq=>absurd hq (Nat.not_lt_zero _),Turn.refl _ _⟩
 case round=>
  clear H;obtain⟨t,ht,rfl,R,f,T⟩:=hrel;by_cases a9:t<118
  ·have e3:(t:Int)<118:=by omega
   have e0:(0:Int)<=(t:Int):=by omega
   obtain⟨b,hb⟩:∃b,2*t=b:=⟨_,rfl⟩;have b7:(t:Int)*2=(b:Int):=by omega
   have b8:b<=234:=by omega
   have a3:=q6n Hs.out T HA.out;have Q:=a3.drop (k:=b) (by omega);obtain⟨A2,a8⟩:∃A2,(if c=b then A else Option.map (λx=>x.add b) A)=A2:=⟨_,rfl⟩;rw[a8] at Q;have U:=Q.take (k:=2) (by omega);obtain⟨y,hy⟩:∃y,Qq (((l.drop b).take 2).take 2)=y:=⟨_,rfl⟩;have hX:=HI (show Fh l t=(y:Int) by unfold Fh;rw[hb,<-hy,List.take_take];rfl);have d2:y<65536:=by
    have h1:=q7j (((l.drop b).take 2).take 2);have h2:(((l.drop b).take 2).take 2).length=2:=by rw[AR,U.len];rfl
    rw[h2,hy] at h1;exact h1
   have Hy:=HI hy;have a6:=HI U;have Hb:=HI hb;have K:=HI f;have E:(Yi C.n i l C t).n=C.n:=qhu _ _ _ _ _;have F:(Yi C.n i l C t).first=C.first:=by unfold Ct.first;rw[E]
   obtain⟨a,ha⟩:∃a,i*118+t=a:=⟨_,rfl⟩;have b6:(i:Int)*118+(t:Int)=(a:Int):=by omega
   have b5:a<=200000:=by omega
   have W:a<C.n->nm (Yi C.n i l C t).now a=0:=λh=>by
    rw[qfa i l C t a h,AB (by omega)];exact Hz.out a (by omega) h
   have B:=HI (show Yp C.n C.first i l t=decide ((y:Int)≠0/\(a<C.first\/C.n<=a)) by unfold Yp;rw[hX.out,ha]);have d:=HI (show Yi C.n i l C (t+1)=if a<C.n then (Yi C.n i l C t).put a (y:Int) else Yi C.n i l C t by rw[<-hX.out,<-ha];rfl);have X:=HI (show (Yp C.n C.first i l t=false)->∀q,q<t+1->Yp C.n C.first i l q=false from λh q hq=>by
    by_cases e:q=t
    ·rw[e];exact h
    ·exact K.out q (by omega))
   obtain⟨u,Z⟩:∃u,Yi C.n i l C t=u:=⟨_,rfl⟩;rw[Z] at R E F W d;have a1:=HI (show u.counted a=decide (C.first<=a/\a<C.n) by unfold Ct.counted;rw[E,F]);have Y:=HI E;have b4:=HI F;have a7:=HI W;have Ha:=HI ha;have i1:2<=c-b:=by omega
   have i2:b<=236:=by omega
   have i3:b<=c:=by omega
   clear a3 Q U hy f Z E F W ha hb;go_wp2_with fail
   refine (Qba A2 2 0 (c-b) _ wr a6.out rfl (by omega) y Hy.out).mono ?_;rintro e w4 ⟨A4,c4,rfl,a0⟩;have R4:=R.below a0;have T4:=T.then (Q9 a0 |>.mono (S':=S) λk hk=>hk);clear R T;by_cases a5:y=0
   ·subst a5;have D:=HI (show Yp C.n C.first i l t=false by rw[B.out];simp);have P:=HI (show Yi C.n i l C (t+1)=u by
     rw[d.out];split
     ·rename_i h;exact qlt u a (by rw[Y.out];exact h) (a7.out h)
     ·rfl)
    go_wp2;exact⟨⟨t+1,by omega,by go_num,by rw[P.out];exact R4,X.out D.out,T4⟩,by simp[intOf];omega⟩
   ·have d3:((y:Int)==0)=false:=by simpa using a5
    have b2:¬(y:Int)=0:=by omega
    by_cases m:C.first<=a/\a<C.n
    ·have M:=HI (show u.counted a=true by rw[a1.out];exact AL m);have D:=HI (show Yp C.n C.first i l t=false by rw[B.out];exact AH (by omega));have P:=HI (show Yi C.n i l C (t+1)=u.put a (y:Int) by rw[d.out,AA m.2]);have G:a<u.n:=by rw[Y.out];exact m.2
     obtain⟨g,cg,b0,cb,c0,c1,c2,c3,k1,k2,I,O,J⟩:=R4.open_;obtain⟨hc,b9⟩:=I a G;obtain⟨R5,T5,d0,d1⟩:=J a ((y:Nat):Int) G (by omega) (by omega);rw[<-P.out] at R5;have T6:=T4.then T5;have e8:(a:Int)<(u.n:Int):=by omega
     have e9:(0:Int)<=(a:Int):=by omega
     obtain⟨x0,a4⟩:∃x,nm u.now a=x:=⟨_,rfl⟩;rw[a4] at hc;clear a4 I O J c1 c2 c3 m;go_wp2_with fail
     refine (q27 R4 a true M.out).mono ?_;rintro e w5 ⟨rfl,rfl⟩;go_wp2;exact⟨⟨t+1,by omega,by go_num,R5,X.out D.out,T6⟩,by simp[intOf];omega⟩
    ·have M:=HI (show u.counted a=false by rw[a1.out];exact AH m);have D:=HI (show Yp C.n C.first i l t=true by rw[B.out];exact AL ⟨b2,by omega⟩);clear m;go_wp2_with fail
     refine (q27 R4 a false M.out).mono ?_;rintro e w5 ⟨rfl,rfl⟩;go_wp2;go_ret;exact⟨.inr ⟨rfl,t,a9,D.out⟩,T4⟩
  ·have b1:t=118:=by omega
   subst b1;go_wp2;go_ret;exact⟨.inl ⟨rfl,f,R⟩,T⟩
theorem qsq (n:Nat)(d:List (LU))(h1:32<=n)(h2:n<=2048)(A:OA)(m c:Nat){w:WD}(H:Parts w A m c d)(hm:m=Qj n) :
  Calls prog 73 #[.int .i64 (n:Int),.slice A m c] w λe w'=>(((∀i,i<Qj n->q4j n (2+2*Qj n) i (nth d i))/\∃p,e=.returned (.tuple #[.pointer (some ⟨p,0,none⟩),.int .i64 0])/\Yt w' p 0 (λk=>w.1.size<=k) (Vu n d)/\w.1.size<=p)\/
   ((¬∀i,i<Qj n->q4j n (2+2*Qj n) i (nth d i))/\e=.returned (.tuple #[.pointer none,.int .i64 3])))/\Below w.1.size w w':=by
 obtain⟨many,F⟩:∃k,Qj n=k:=⟨_,rfl⟩;have b4:many<=1000:=by rw[<-F];unfold Qj;omega
 have J:=HI F;have a7:m=many:=by omega
 subst a7;rw[F];clear hm F;have b3:m<=c:=H.2.1;have a8:c<=maxLen:=H.2.2.1;unfold maxLen at a8;go_enter func73,ntmps73
 go_wp2_with fail
 refine (qdp n h1 h2 w).mono ?_;rintro e w1 ⟨p,rfl,R,a9,B⟩;have c2:w1.cell? ⟨p,2,none⟩=some (.int .i64 (m:Int)):=by
  obtain⟨_,_,_,_,_,_,c2,_⟩:=R.open_;rw[Ct.Zb,J.out] at c2;exact c2
 have R:=R.shrink;obtain⟨S,hS⟩:∃S:NP,(λk=>w.1.size<=k/\k<w1.1.size)=S:=⟨_,rfl⟩;rw[hS] at R;have U:∀k,S k->w.1.size<=k:=λk g=>by rw[<-hS] at g;exact g.1
 clear hS;have u:=HI U;clear U;go_wp2_with fail
 clear c2;go_loopw [8,9,27] (λ_ _ i wr=>∃j:Nat,j<=m/\i=.int .i64 (j:Int)/\Yt wr p 0 S (Yw n d j)/\(∀q,q<j->q4j n (2+2*m) q (nth d q))/\Below w.1.size w wr) (λ_ _ i _=>m-(intOf i).toNat)
 case atStart=>exact⟨0,AW _,rfl,R,λq hq=>absurd hq (Nat.not_lt_zero _),B⟩
 case round=>
  clear R B;obtain⟨j,hj,rfl,R,f,B⟩:=hrel;by_cases M:j<m
  ·obtain⟨Q,A1,n1,c1,eA,a5,Y,D⟩:=H.cell M;subst eA;have b2:=(B.cell (p:=Q.add j) (by rw[Ov];exact a5)).trans Y;have O:=D.below B;have e3:(j:Int)<(m:Int):=by omega
   have e0:(0:Int)<=(j:Int):=by omega
   have K:=D.len;obtain⟨l,hl⟩:∃l,nth d j=l:=⟨_,rfl⟩;rw[hl] at D O K;have Hl:=HI hl;have y:=HI f;have P:=HI K;clear hl f Y K;by_cases I:n1=236
   ·subst I;have T:∀Q,A1=some Q->¬S Q.block:=λQ e=>by
     obtain⟨b0,e',hb,_⟩:=D.cell (k:=0) (by omega);rw[e] at e';injection e' with e';subst e';exact λh=>absurd (u.out _ h) (by omega)
    have a3:=HI T;have a1:=HI O;clear T O D;have G:(Yw n d j).n=n:=q9v _ _ _;have Z:(Yw n d j).first=2+2*m:=by unfold Ct.first;rw[G,J.out]
    have a2:∀a,j*118<=a->a<(Yw n d j).n->nm (Yw n d j).now a=0:=λa b1 W=>by
     rw[G] at W;rw[q9w n d j a W,AB (by omega)]
    have E:Yi n j l (Yw n d j) 118=Yw n d (j+1):=by rw[<-Hl.out];rfl
    have g:=qo0 R j (by omega) A1 c1 l a1.out a3.out a2;rw[G,Z,E] at g;have Hk:=HI g;clear g G Z a2 E;go_wp2_with fail
    refine Hk.out.mono ?_;rintro e w4 ⟨⟨rfl,hg,R4⟩|⟨rfl,q,hq,hg⟩,T4⟩
    ·have B4:=B.trans (T4.below (λ_ g=>u.out _ g) B.size);have Hg:=HI hg;clear hg R;go_wp2;refine⟨⟨j+1,by omega,by go_num,R4,λq hq=>?_,B4⟩,by simp[intOf];omega⟩;by_cases e:q=j
     ·rw[e,Hl.out];exact⟨P.out,Hg.out⟩
     ·exact y.out q (by omega)
    ·have B4:=B.trans (T4.below (λ_ g=>u.out _ g) B.size);have a0:¬∀i,i<m->q4j n (2+2*m) i (nth d i):=λhh=>by
      have h3:=(hh j M).2 q hq;rw[Hl.out,hg] at h3
      cases h3
     have a4:=HI a0;clear a0 hg;go_wp2;go_ret2;exact⟨.inr ⟨a4.out,rfl⟩,B4⟩
   ·have e4:¬(n1:Int)=236:=by omega
    have X:=HI (show ¬∀i,i<m->q4j n (2+2*m) i (nth d i) from λhh=>I (by have:=(hh j M).1;rw[Hl.out] at this;exact P.out.symm.trans this));have hb:((n1:Int)==236)=false:=by simpa using e4
    go_wp2;go_ret2;exact⟨.inr ⟨X.out,rfl⟩,B⟩
  ·have a6:j=m:=by omega
   subst a6;have y:=HI f;clear f;go_wp2_with fail
   refine (qht R).mono ?_;rintro e w5 ⟨rfl,R5,T5⟩;go_wp2;go_ret2;refine⟨.inl ⟨y.out,p,rfl,?_,a9⟩,B.trans (T5.below (λ_ g=>u.out _ g) B.size)⟩;exact (show Vu n d=(Yw n d j).commit by unfold Vu;rw[J.out])▸R5.mono λk g=>u.out k g
theorem qo1 (n:Int)(h:n<32\/2048<n)(A:OA)(m c:Nat)(w:WD) :
  Calls prog 73 #[.int .i64 n,.slice A m c] w λe d=>e=.returned (.tuple #[.pointer none,.int .i64 1])/\w=d:=by
 have H:=HI h;clear h;go_enter func73,ntmps73
 go_wp2_with fail
 refine (qsp n H.out w).mono ?_;rintro e f ⟨rfl,rfl⟩;go_wp2;go_ret2;exact⟨rfl,rfl⟩
theorem qlu (n:Nat)(h1:32<=n)(h2:n<=2048)(A:OA)(m c:Nat)(w:WD)(hm:m≠Qj n) :
  Calls prog 73 #[.int .i64 (n:Int),.slice A m c] w λe u=>e=.returned (.tuple #[.pointer none,.int .i64 3])/\Below w.1.size w u:=by
 obtain⟨k,d⟩:∃k,Qj n=k:=⟨_,rfl⟩;rw[d] at hm;have f:=HI d;have g:¬(m:Int)=(k:Int):=by omega
 have D:((m:Int)==(k:Int))=false:=by simpa using g
 clear d;go_enter func73,ntmps73
 go_wp2_with fail
 refine (qdp n h1 h2 w).mono ?_;rintro e y ⟨p,rfl,R,_,B⟩;have c2:y.cell? ⟨p,2,none⟩=some (.int .i64 (k:Int)):=by
  obtain⟨_,_,_,_,_,_,c2,_⟩:=R.open_;rw[Ct.Zb,f.out] at c2;exact c2
 go_wp2;go_ret2;exact⟨rfl,B⟩
theorem qo2 (n:Int)(d:List (LU))(A:OA)(m c:Nat){w:WD}(H:Parts w A m c d) :
  Calls prog 73 #[.int .i64 n,.slice A m c] w λe g=>((J9 n d=0/\∃p,e=.returned (.tuple #[.pointer (some ⟨p,0,none⟩),.int .i64 0])/\Yt g p 0 (λk=>w.1.size<=k) (Vu n.toNat d)/\w.1.size<=p)\/
   (J9 n d≠0/\e=.returned (.tuple #[.pointer none,.int .i64 (J9 n d)])))/\Below w.1.size w g:=by
 by_cases hn:32<=n/\n<=2048
 ·obtain⟨k,rfl⟩:=Int.eq_ofNat_of_zero_le (show 0<=n by omega);by_cases hm:m=Qj k
  ·refine (qsq k d (by omega) (by omega) A m c H hm).mono ?_;have D:d.length=Qj k:=H.len.trans hm;rintro e g ⟨⟨u,p,rfl,R,y⟩|⟨u,rfl⟩,B⟩
   ·have f:J9 (k:Int) d=0:=by unfold J9;rw[AJ,AB (λh=>h hn),AB (λh=>h.elim (λh=>h D) (λh=>h u))]
    exact⟨.inl ⟨f,p,rfl,R,y⟩,B⟩
   ·have f:J9 (k:Int) d=3:=by unfold J9;rw[AJ,AB (λh=>h hn),AA (.inr u)]
    rw[f];exact⟨.inr ⟨by omega,rfl⟩,B⟩
  ·refine (qlu k (by omega) (by omega) A m c w hm).mono ?_;rintro e g ⟨rfl,B⟩;have f:J9 (k:Int) d=3:=by unfold J9;rw[AJ,AB (λh=>h hn),AA (.inl (by rw[H.len];exact hm))]
   rw[f];exact⟨.inr ⟨by omega,rfl⟩,B⟩
 ·refine (qo1 n (by omega) A m c w).mono ?_;rintro e g ⟨rfl,rfl⟩;have f:J9 n d=1:=by unfold J9;rw[AA hn]
  rw[f];exact⟨.inr ⟨by omega,rfl⟩,AI _ _⟩
theorem Qa9 (x:Int)(w:WD) :
  Calls prog 65 #[.slice none 0 0,.int .i64 x,.int .i64 2] w λe g=>∃d f,e=.returned (.slice d 2 f)/\Sl g d 2 f (Qy x 2)/\Below w.1.size w g:=by
 have m:=q7l none 0 0 [] x 2 w (Ah w) (by omega);rw[show G6 [] x 2=Qy x 2 from rfl] at m;refine m.mono ?_;rintro e g ⟨d,y,f,rfl,own,u⟩;have p:=own.len;rw[Xy] at p;subst p;exact⟨d,f,rfl,own.sl,u⟩
theorem qfb {w:WD}{p o:Nat}{S:NP}{C:Ct}(H:Yt w p o S C)(i:Int) :
  Calls prog 39 #[.pointer (some ⟨p,o,none⟩),.int .i64 i] w λe Y=>∃A n c,e=.returned (.slice A n c)/\Sl Y A n c (C.body i)/\Below w.1.size w Y/\∀B,A=some B->w.1.size<=B.block:=by
 obtain⟨many,hm⟩:∃m,Qj C.n=m:=⟨_,rfl⟩;have a2:=H.ok.1;have a1:many<=1000:=by rw[<-hm];unfold Qj;omega
 obtain⟨g,cg,b,cb,c0,c1,c2,c3,k1,k2,J,y,K⟩:=H.open_;clear J y K c1 c0 c3 k1 k2;rw[hm] at c2;have X:=HI hm;clear hm;by_cases hi:0<=i/\i<(many:Int)
 ·have d:=HI (show C.body i=C.Zp (i*118) 118 by unfold Ct.body;rw[X.out,AA hi]);obtain⟨q,rfl⟩:=Int.eq_ofNat_of_zero_le hi.1;have e1:¬(q:Int)<0:=by omega
  have e2:¬(many:Int)<=(q:Int):=by omega
  have hq:q<many:=by omega
  have d1:decide ((q:Int)<0)=false:=by simp
  have d2:decide ((many:Int)<=(q:Int))=false:=by simp;omega
  have d3:decide (many<=q)=false:=by simp;omega
  go_enter func39,ntmps39
  go_wp2_with (first
   |(at_make;refine qew _ Bv rfl _ _ rfl _ _ 236 rfl rfl (by omega) ?_)
   |fail)
  intro w1 Oo G;go_wp2_with fail
  go_loopw [5,6,18] (λb _ k wr=>∃(j:Nat) (O:OA) (P:Nat),j<=118/\k=.int .i64 (j:Int)/\b=.slice O (2*j) P/\Own wr w.1.size 5 O (2*j) P (C.Zp ((q:Int)*118) j)/\Below w.1.size w wr) (λ_ _ k _=>118-(intOf k).toNat)
  case atStart=>exact⟨0,_,_,by omega,rfl,rfl,Oo,G⟩
  case round=>
   clear Oo G;obtain⟨j,O,P,hj,rfl,rfl,own,Q⟩:=hrel;by_cases a0:j<118
   ·have Hr:=H.below Q;have e3:(j:Int)<118:=by omega
    obtain⟨x,U⟩:∃x,C.get ((q:Int)*118+(j:Int))=x:=⟨_,rfl⟩;have u:=HI (show C.Zp ((q:Int)*118) (j+1)=C.Zp ((q:Int)*118) j++Qy x 2 by rw[<-U];rfl);have Hx:=HI U;clear U c2;go_wp2_with fail
    refine (q2i Hr _ x Hx.out).mono ?_;rintro e w3 ⟨rfl,rfl⟩;go_wp2_with fail
    refine (Qa9 x wr).mono ?_;rintro e w4 ⟨Z,c4,rfl,W,I⟩;have M:=own.below I;have F:=Q.trans (I.mono Q.size);go_wp2_with (at_builtin;refine q5t _ Bv rfl _ _ rfl w.1.size O (2*j) P _ rfl M Z 2 c4 _ rfl W (by omega) F.size ?_)
    intro A5 c5 w5 f R;rw[<-u.out] at f;go_wp2;exact⟨⟨j+1,A5,c5,by omega,by go_num,rfl,f,F.trans R⟩,by simp[intOf];omega⟩
   ·have T:j=118:=by omega
    subst T;have E:=own.sl;have D:=λB e=>(own.block B e).1
    go_wp2;go_ret;rw[d.out];exact⟨_,_,_,rfl,E,Q,D⟩
 ·have d:=HI (show C.body i=[] by unfold Ct.body;rw[X.out,AB hi]);by_cases h0:i<0
  ·go_enter func39,ntmps39
   go_wp2;go_ret;rw[d.out];exact⟨_,_,_,rfl,Ah _,AI _ _,λB e=>by cases e⟩
  ·have e2:(many:Int)<=i:=by omega
   have e1:¬i<0:=h0;go_enter func39,ntmps39
   go_wp2;go_ret;rw[d.out];exact⟨_,_,_,rfl,Ah _,AI _ _,λB e=>by cases e⟩
