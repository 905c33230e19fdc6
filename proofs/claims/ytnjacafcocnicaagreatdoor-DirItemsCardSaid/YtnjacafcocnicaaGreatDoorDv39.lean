/- What a scan tells from a node on; how many items there are below a node -/
import Derived.Test.YtnjacafcocnicaaGreatDoorDv27
namespace Go.Proofs.YtnjacafcocnicaaGreatDoor
open Go Go.RowKit Go.Proofs Tryz
set_option maxHeartbeats 16000000
set_option maxRecDepth 100000
def Um (R:Int->Nd × Int)(fr «to»:Kd)(most:Nat):Nat->Nd->List Qc->List Qc × Int
 |0,M,acc=>((acc++within fr «to» M.items).take most,0)
 |l+1,M,acc=>Yo (Ju R fr «to» most l) «to» most (M.kids.drop (M.Zw fr)) acc
theorem qa0 {R:Int->Nd × Int}{fr «to»:Kd}{most:Nat}{a:Int}{M:Nd}(h:R a=(M,0))(e:List Qc):∀{l:Nat},M.lvl=(l:Int)->Ju R fr «to» most l a e=Um R fr «to» most l M e
 |0,hl=>by
  unfold Ju Um;rw[h];dsimp only;rw[AB (by simp),AB (by simpa using hl)]
 |l+1,hl=>by
  unfold Ju Um;rw[h];dsimp only;rw[AB (by simp),AB (by simpa using hl)]
theorem q7c {R:Int->Nd × Int}{fr «to»:Kd}{most:Nat}{a:Int}(h:(R a).2≠0)(e:List Qc):∀l:Nat,Ju R fr «to» most l a e=([],(R a).2)
 |0=>by unfold Ju;rw[AA h]
 |l+1=>by unfold Ju;rw[AA h]
theorem qbi {R:Int->Nd × Int}{fr «to»:Kd}{most:Nat}{a:Int}(h:(R a).2=0)(e:List Qc):∀{l:Nat},(R a).1.lvl≠(l:Int)->Ju R fr «to» most l a e=([],5)
 |0,hl=>by unfold Ju;rw[AB (by simpa using h),AA (by simpa using hl)]
 |l+1,hl=>by unfold Ju;rw[AB (by simpa using h),AA hl]
theorem qdr {f:Int->List Qc->List Qc × Int}{«to»:Kd}{most:Nat}:∀(kids:List Qn) (e:List Qc),(Yo f «to» most kids e).2≠0->(Yo f «to» most kids e).1=[]
 |[],e,h=>absurd rfl h
 |x::r,e,h=>by
  unfold Yo at h ⊢;by_cases m:«to».less x.k=true\/most<=e.length
  ·rw[AA m] at h;exact absurd rfl h
  ·rw[AB m] at h ⊢;by_cases h1:(f x.a e).2=0
   ·rw[AB (by simpa using h1)] at h ⊢;exact qdr r _ h
   ·rw[AA h1]
theorem qp3 {R:Int->Nd × Int}{fr «to»:Kd}{most:Nat}:∀(l:Nat) (M:Nd) (e:List Qc),(Um R fr «to» most l M e).2≠0->(Um R fr «to» most l M e).1=[]
 |0,_,_,h=>absurd rfl h
 |_+1,_,_,h=>qdr _ _ h
def Zz (R:Int->Nd × Int):Nat->Int->Nat
 |0,a=>if (R a).2≠0 then 0 else (R a).1.items.length
 |l+1,a=>if (R a).2≠0 then 0 else ((R a).1.kids.map λx=>Zz R l x.a).sum
def Gt (R:Int->Nd × Int):Nat->Nd->Nat
 |0,M=>M.items.length
 |l+1,M=>(M.kids.map λx=>Zz R l x.a).sum
theorem q3x {R:Int->Nd × Int}{a:Int}{M:Nd}(h:R a=(M,0)):∀l,Zz R l a=Gt R l M
 |0=>by unfold Zz Gt;rw[h];dsimp only;rw[AB (by simp)]
 |l+1=>by unfold Zz Gt;rw[h];dsimp only;rw[AB (by simp)]
theorem qmr (l:List Nat):∀n,(l.drop n).sum<=l.sum:=λn=>by
 conv=>rhs;rw[<-AV n l]
 rw[List.sum_append];omega
theorem qhy {f:Int->List Qc->List Qc × Int}{«to»:Kd}{most:Nat}{cnt:Int->Nat}(p:∀x e,e.length<=most->(f x e).2=0->(f x e).1.length<=most/\(f x e).1.length<=e.length+cnt x) :
  ∀(kids:List Qn) (e:List Qc),e.length<=most->(Yo f «to» most kids e).2=0->(Yo f «to» most kids e).1.length<=most/\(Yo f «to» most kids e).1.length<=e.length+(kids.map λx=>cnt x.a).sum
 |[],e,ha,_=>by
  unfold Yo;exact⟨ha,by simp⟩
 |x::r,e,ha,h0=>by
  unfold Yo at h0 ⊢;by_cases m:«to».less x.k=true\/most<=e.length
  ·rw[AA m];exact⟨ha,by simp⟩
  ·rw[AB m] at h0 ⊢;by_cases h1:(f x.a e).2=0
   ·rw[AB (by simpa using h1)] at h0 ⊢;obtain⟨q,y⟩:=p x.a e ha h1;obtain⟨u,A⟩:=qhy p r _ q h0;refine⟨u,?_⟩;rw[BJ,List.sum_cons];omega
   ·rw[AA h1] at h0;exact absurd h0 h1
theorem qhz {R:Int->Nd × Int}{fr «to»:Kd}{most:Nat}:∀(l:Nat) (a:Int) (e:List Qc),e.length<=most->(Ju R fr «to» most l a e).2=0->(Ju R fr «to» most l a e).1.length<=most/\(Ju R fr «to» most l a e).1.length<=e.length+Zz R l a
 |0,a,e,ha,h0=>by
  by_cases h1:(R a).2=0
  ·by_cases h2:(R a).1.lvl=0
   ·have f:R a=((R a).1,0):=Prod.ext rfl h1;rw[qa0 f e (l:=0) (by simpa using h2),q3x f];unfold Um Gt;dsimp only;have:(within fr «to» (R a).1.items).length<=(R a).1.items.length:=List.length_filter_le ..;rw[AR,AD];omega
   ·rw[qbi h1 e (l:=0) (by simpa using h2)] at h0
    cases h0
  ·rw[q7c h1] at h0;exact absurd h0 h1
 |l+1,a,e,ha,h0=>by
  by_cases h1:(R a).2=0
  ·by_cases h2:(R a).1.lvl=((l+1:Nat):Int)
   ·have f:R a=((R a).1,0):=Prod.ext rfl h1;rw[qa0 f e h2] at h0 ⊢;rw[q3x f];unfold Um at h0 ⊢;obtain⟨m,p⟩:=qhy (cnt:=Zz R l) (λx e q h=>qhz l x e q h) _ _ ha h0;refine⟨m,AZ p ?_⟩;show _<=e.length+((R a).1.kids.map λx=>Zz R l x.a).sum;rw[List.map_drop];have:=qmr ((R a).1.kids.map λx=>Zz R l x.a) ((R a).1.Zw fr);omega
   ·rw[qbi h1 e h2] at h0
    cases h0
  ·rw[q7c h1] at h0;exact absurd h0 h1
theorem qi0 (f:Qn->Nat):∀(kids:List Qn) (parts:List (List Qc)),parts.length=kids.length->(∀j,j<kids.length->f (Qk kids j)<=(parts.getD j []).length)->(kids.map f).sum<=parts.flatten.length
 |[],parts,_,_=>by simp
 |x::r,[],h,_=>by simp at h
 |x::r,p::ps,h,hf=>by
  rw[BJ,List.sum_cons,List.flatten_cons,AD];have h0:=hf 0 (by simp);have h0:f x<=p.length:=h0;have:=qi0 f r ps (by simpa using h) λj m=>by
   have:=hf (j+1) (by simpa using m);rw[getD_cons_succ] at this;have e:Qk (x::r) (j+1)=Qk r j:=by unfold Qk;rw[getD_cons_succ]
   rwa [e] at this
  omega
theorem qds {R R':Int->Nd × Int}(h:Qac R R'):∀{l:Nat} {a:Int} {its:List Qc},Qs R l a its->Zz R' l a<=its.length
 |0,a,its,hh=>by
  rcases h a (by rw[hh.1]) with e|e
  ·unfold Zz;rw[e,hh.1];simp
  ·unfold Zz;rw[AA (by rw[e];decide)];omega
 |l+1,a,its,hh=>by
  obtain⟨kids,parts,h1,h2,m,rfl,p⟩:=hh;rcases h a (by rw[h1]) with e|e
  ·have f:R' a=(⟨((l+1:Nat):Int),[],kids⟩,0):=e.trans h1;rw[q3x f];unfold Gt;exact qi0 _ kids parts m λj q=>qds h (p j q).1
  ·unfold Zz;rw[AA (by rw[e];decide)];omega
theorem qt3 (R:Int->Nd × Int):Qac R R:=λ_ _=>.inl rfl
theorem qp4 {R R':Int->Nd × Int}(f:Qac R R'){root:Int}{its:List Qc}(h:Jg R root its)(h0:root≠0):Zz R' (Dk R' root) root<=its.length:=by
 rcases h with⟨rfl,rfl⟩|⟨l,_,h,h1,_⟩
 ·exact absurd rfl h0
 ·obtain⟨p,u,q⟩:=Fz h;rcases f root q with e|e
  ·have:Dk R' root=l:=by unfold Dk;rw[e];exact p
   rw[this];exact qds f h
  ·generalize Dk R' root=m
   cases m with
   |zero=>unfold Zz;rw[AA (by rw[e];decide)];omega
   |succ m=>unfold Zz;rw[AA (by rw[e];decide)];omega
theorem qx7 (R:Int->Nd × Int)(fr «to»:Kd)(most:Nat){l:Nat}{L:Int}(u:L=((l+1:Nat):Int))(x:Int)(e:List Qc) :
  (Md R L x≠0/\Ju R fr «to» most l x e=([],Md R L x))\/(Md R L x=0/\R x=(O0 R L x,0)/\(O0 R L x).lvl=(l:Int)/\Ju R fr «to» most l x e=Um R fr «to» most l (O0 R L x) e):=by
 by_cases h1:(R x).2=0
 ·have f:Md R L x=if (R x).1.lvl≠L-1 then 5 else 0:=AB (by simpa using h1)
  have m:O0 R L x=if (R x).1.lvl≠L-1 then Je else (R x).1:=AB (by simpa using h1)
  by_cases h2:(R x).1.lvl=L-1
  ·rw[AB (by simpa using h2)] at f m;have q:(R x).1.lvl=(l:Int):=by omega
   have p:R x=((R x).1,0):=Prod.ext rfl h1;rw[f,m];exact .inr ⟨rfl,p,q,qa0 p e q⟩
  ·rw[AA h2] at f;rw[f];exact .inl ⟨by omega,qbi h1 e (λh=>h2 (by omega))⟩
 ·have f:Md R L x=(R x).2:=AA h1;rw[f];exact .inl ⟨h1,q7c h1 e l⟩
theorem qx8 {l:List Qn}{j:Nat}(h:j<l.length):l.drop j=Qk l j::l.drop (j+1):=by
 have e:=q16 h;rw[AC h] at e;rw[<-List.getElem_cons_drop (h:=h),OI e]
def Ua (vb:Nat)(A:OA):NP:=λk=>k=vb\/q01 A=some k
theorem qp5 {p:Nat}(fr «to»:Kd)(most:Int){lim base vb mb tb:Nat}(w:WD)(M:Nd)(lo hi:Nat)(J:OA)(B c1:Nat)(K:OA)(T P:Nat)(A:OA)(q:List Qc)
  (S:Oi w lim base vb mb tb most «to» A q) (Hd:Held w lo hi J B c1 K T P M) (U:∀k,lo<=k->k<hi->¬Ua vb A k) (d0:lim<=lo) (W:M.may=true) (hl:M.lvl=0) (ha:q.length<=most.toNat) (hc:q.length+M.items.length<=100000) :
  Calls prog 34 #[.pointer (some ⟨p,0,none⟩),.agg #[.int .i64 M.lvl,.slice J B c1,.slice K T P],.agg #[.int .i64 fr.obj,.int .i64 fr.kind,.int .i64 fr.off],.func (.func 32) #[] #[.pointer (some ⟨vb,0,none⟩),.pointer (some ⟨mb,0,none⟩),.pointer (some ⟨tb,0,none⟩)],.func (.func 35) #[] #[.pointer (some ⟨vb,0,none⟩)]] w λe w'=>
   e=.returned (.int .i64 0)/\∃F,Oi w' lim base vb mb tb most «to» F ((q++within fr «to» M.items).take most.toNat)/\Turn (Ua vb A) w w'/\∀k,q01 F=some k->q01 A=some k\/w.1.size<=k:=by
 obtain⟨hM,Y,c8,c9⟩:=q1e W hl;obtain⟨t,a1⟩:∃t,M.Zw fr=t:=⟨_,rfl⟩;obtain⟨r,hr⟩:∃r,U6 M.keys fr t=r:=⟨_,rfl⟩;have b8:t=lead (M.items.map (·.k)) fr:=by
  rw[<-a1,hM];unfold Nd.Zw;rw[AA rfl,q2z]
 have b9:t<=M.items.length:=by have:=qc4 (M.items.map (·.k)) fr;rw[AF] at this;omega
 have hG:Ag «to» most.toNat (M.items.drop t) q=(q++within fr «to» M.items).take most.toNat:=by rw[b8];exact qrp Y fr «to» q ha
 obtain⟨G,b0⟩:∃G,(q++within fr «to» M.items).take most.toNat=G:=⟨_,rfl⟩;rw[b0] at hG ⊢;have N1:NB ((w.alloc (.cells #[.int .i64 M.lvl,.slice J B c1,.slice K T P] 74)).alloc (.cells #[.int .i64 fr.obj,.int .i64 fr.kind,.int .i64 fr.off] 45)) w.1.size M.lvl J B c1 K T P:=(NB.new w _ _ _ _ _ _ _ _).below (Qi) (by simp);have b1:Below w.1.size w ((w.alloc (.cells #[.int .i64 M.lvl,.slice J B c1,.slice K T P] 74)).alloc (.cells #[.int .i64 fr.obj,.int .i64 fr.kind,.int .i64 fr.off] 45)):=(Qi).alloc (by simp) _;have z1:((w.alloc (.cells #[.int .i64 M.lvl,.slice J B c1,.slice K T P] 74)).alloc (.cells #[.int .i64 fr.obj,.int .i64 fr.kind,.int .i64 fr.off] 45)).1.size=w.1.size+2:=by simp
 have K1:KB ((w.alloc (.cells #[.int .i64 M.lvl,.slice J B c1,.slice K T P] 74)).alloc (.cells #[.int .i64 fr.obj,.int .i64 fr.kind,.int .i64 fr.off] 45)) (w.1.size+1) fr:=KB.new2 w _ fr.obj fr.kind fr.off _;have I:M.items.length=B:=Hd.rows.1.Y3.len;have c7:∀k,Ua vb A k->k<w.1.size:=λk E=>by
  obtain⟨⟨_,_,hv,row,_⟩,_⟩:=S;rcases E with rfl|E
  ·exact Ky hv
  ·exact (row.Qa k E).2
 have S1:=S.below b1;have O:=Hd.below b1;obtain⟨r1,s1⟩:=O.rows;have a6:=HI (q4r M (Tc W) fr t a1 r hr J B c1 K T P _ r1.Y3 s1 (by have:=Hd.2.1;omega) (by have:=Hd.2.2.1;omega));have g1:(M.lvl==0)=true:=by rw[hl];rfl
 have g2:decide (M.lvl=0)=true:=AL hl;rw[I] at b9 hc;have HG:=HI hG;have I:=HI I;have p0:=N1.c0;have p1:=N1.c1;have p2:=N1.c2;have k0:=K1.c0;have k1:=K1.c1;have k2:=K1.c2;clear hM Y c8 c9 a1 hr b8 hG b0 r1 s1 hl K1 S Hd;go_enter func34,ntmps34
 go_wp2_with fail
 refine a6.out.mono ?_;generalize (w.alloc (.cells #[.int .i64 M.lvl,.slice J B c1,.slice K T P] 74)).alloc (.cells #[.int .i64 fr.obj,.int .i64 fr.kind,.int .i64 fr.off] 45)=w1 at N1 b1 z1 S1 O p0 p1 p2 k0 k1 k2 ⊢;rintro e w2 ⟨rfl,b2⟩;have N2:=N1.below b2 N1.lt;have S2:=S1.below b2;have a2:=O.below b2;have B2:=b1.trans (b2.mono b1.size);have z2:=b2.size;clear p0 p1 p2 k0 k1 k2 a6 N1 S1 O b1 b2;have p0:=N2.c0;go_wp2_with fail
 clear p0;go_loopw [11] (λiv wr=>∃(j:Nat) (F:OA) (f:List Qc),j<=B/\iv=.int .i64 (j:Int)/\Oi wr lim base vb mb tb most «to» F f/\Ag «to» most.toNat (M.items.drop j) f=G/\f.length+(B-j)<=100000/\Turn (Ua vb A) w2 wr/\∀k,q01 F=some k->q01 A=some k\/w2.1.size<=k) (λiv _=>B-(intOf iv).toNat)
 case atStart=>exact⟨t,A,q,b9,rfl,S2,HG.out,by omega,Turn.refl _ _,λk E=>.inl E⟩
 case round=>
  obtain⟨j,F,f,d4,rfl,S',y,d2,X,Q⟩:=hrel;have Nr:=N2.turned X (λh=>by have:=c7 _ h;omega);have Hr:=a2.turn X U;have p1:=Nr.c1;have out:f=G->∃F,Oi wr lim base vb mb tb most «to» F G/\Turn (Ua vb A) w wr/\∀k,q01 F=some k->q01 A=some k\/w.1.size<=k:=λe=>by
   refine⟨F,e▸S',(Qz (S:=Ua vb A) B2).trans X (λk h=>.inl h),λk E=>(Q k E).imp id λh=>by have:=B2.size;omega⟩
  have a7:=HI out;clear out;by_cases b7:j<B
  ·obtain⟨g,o,V,pp,qq,rfl,hg,c0,a8,c2,c3,hs,R⟩:=Hr.vals j b7;have b3:=qzd (l:=M.items) (j:=j) (by rw[I.out];exact b7);rw[b3] at y;clear b3;obtain⟨x,hx⟩:∃x,Zc M.items j=x:=⟨_,rfl⟩;rw[hx] at c0 a8 c2 hs R y;clear hx;have e0:(0:Int)<=(j:Int):=by omega
   have e1:(j:Int)<(B:Int):=by omega
   obtain⟨_,d3⟩:=Hr.rows.1.Y3.bounds;obtain⟨rr,u⟩:∃rr,(decide ((f.length:Int)<most)&&!(«to».less x.k))=rr:=⟨_,rfl⟩;have Hw:=HI (qaz S' x.k rr u)
   cases rr with
   |false=>
    have m:f=G:=by
     rw[<-y];unfold Ag;rw[AA ?_];rw[Bool.and_eq_false_iff] at u;rcases u with h|h
     ·exact .inr (by have:=of_decide_eq_false h;omega)
     ·exact .inl (by simpa using h)
    have m:=HI m;clear y u hs R c3;go_wp2_with (first
     |(go_at_call 32;refine Hw.out.mono ?_;rintro e w4 ⟨rfl,D⟩)
     |fail)
    go_ret;obtain⟨A9,S9,X9,h9⟩:=a7.out m.out;exact⟨rfl,A9,S9.below D,X9.trans (Qz (S:=Ua vb A) D) (λk h=>.inl h),h9⟩
   |true=>
    have b5:Ag «to» most.toNat (M.items.drop (j+1)) (f++[x])=G:=by
     rw[<-y];conv=>rhs;unfold Ag
     rw[AB ?_];rw[BN] at u;rintro (h|h)
     ·rw[h] at u;simp at u
     ·have:=AK u.1;omega
    have H:x.v≠[]->∀g,q01 V=some g->lim<=g/\q01 F≠some g:=λhv b hb=>by
     obtain⟨h1,h2⟩:=R hv b hb;refine⟨AZ d0 h1,λh=>?_⟩;rcases Q b h with h3|h3
     ·exact U b h1 h2 (.inr h3)
     ·have:=a2.1;omega
    have c6:=HI b5;have Hs:=HI (λw4 (D:Below wr.1.size wr w4)=>qrv (S'.below D) x V pp qq (hs.below D) H (by omega));have Z:=HI (λw4 (D:Below wr.1.size wr w4)=>(⟨(D.cell (p:=⟨g,_,none⟩) hg).trans c0,(D.cell (p:=⟨g,_,none⟩) hg).trans a8,(D.cell (p:=⟨g,_,none⟩) hg).trans c2,(D.cell (p:=⟨g,_,none⟩) hg).trans c3⟩:_/\_/\_/\_));clear y u hs R b5 H;go_wp2_with (first
     |(go_at_call 32;refine Hw.out.mono ?_;rintro e w4 ⟨rfl,D⟩;obtain⟨y0,y1,y2,y3⟩:=Z.out w4 D;have q1:=(Nr.below D Nr.lt).c1)
     |(go_at_call 35;refine (Hs.out w4 D).mono ?_;rintro e w5 ⟨rfl,A5,S5,X5,h5⟩)
     |fail)
    refine⟨⟨j+1,A5,f++[x],by omega,by go_num,S5,c6.out,by simp;omega,(X.trans (Qz (S:=Ua vb A) D) (λk h=>.inl h)).trans X5 (λk E=>?_),λk E=>?_⟩,by simp[intOf];omega⟩
    ·rcases E with rfl|E
     ·exact .inl (.inl rfl)
     ·exact (Q k E).imp (λh=>.inr h) id
    ·rcases h5 k E with h|h
     ·exact Q k h
     ·exact .inr (by have:=X.size;have:=D.size;omega)
  ·have b6:j=B:=by omega
   have m:f=G:=by
    rw[<-y,List.drop_eq_nil_of_le (by rw[I.out];omega)];rfl
   have m:=HI m;have e1:¬(j:Int)<(B:Int):=by omega
   clear y b6;go_wp2_with fail
   go_ret;obtain⟨A9,S9,X9,h9⟩:=a7.out m.out;exact⟨rfl,A9,S9,X9,h9⟩
theorem qp6 (f:Int->List Qc->List Qc × Int)(«to»:Kd)(most:Nat)(x:Qn)(r:List Qn)(e:List Qc):Yo f «to» most (x::r) e=if «to».less x.k=true\/most<=e.length then (e,0) else if (f x.a e).2≠0 then ([],(f x.a e).2) else Yo f «to» most r (f x.a e).1:=rfl
def qff (F:WD)(p:Nat)(R:Int->Nd × Int)(fr «to»:Kd)(most:Int)(lim base vb mb tb:Nat)(l:Nat):Prop:=
 ∀(w:WD) (M:Nd) (lo hi:Nat) (q:OA) (D c1:Nat) (u:OA) (B y:Nat) (A:OA) (f:List Qc),Below F.1.size F w->Oi w lim base vb mb tb most «to» A f->Held w lo hi q D c1 u B y M->(∀k,lo<=k->k<hi->¬Ua vb A k)->lim<=lo->M.may=true->M.lvl=(l:Int)->f.length<=most.toNat->f.length+Gt R l M<=100000->
  Calls prog 34 #[.pointer (some ⟨p,0,none⟩),.agg #[.int .i64 M.lvl,.slice q D c1,.slice u B y],.agg #[.int .i64 fr.obj,.int .i64 fr.kind,.int .i64 fr.off],.func (.func 32) #[] #[.pointer (some ⟨vb,0,none⟩),.pointer (some ⟨mb,0,none⟩),.pointer (some ⟨tb,0,none⟩)],.func (.func 35) #[] #[.pointer (some ⟨vb,0,none⟩)]] w λe E=>
   e=.returned (.int .i64 (Um R fr «to» most.toNat l M f).2)/\∃m,((Um R fr «to» most.toNat l M f).2=0->Oi E lim base vb mb tb most «to» m (Um R fr «to» most.toNat l M f).1)/\Turn (Ua vb A) w E/\∀k,q01 m=some k->q01 A=some k\/w.1.size<=k
theorem qp7 {w0:WD}{p:Nat}{R:Int->Nd × Int}(H:Src w0 p R)(g6:Tab w0)(fr «to»:Kd)(most:Int){lim base vb mb tb:Nat}(j9:w0.1.size<=vb)(Y:w0.1.size=lim)(l:Nat)(e6:qff w0 p R fr «to» most lim base vb mb tb l):qff w0 p R fr «to» most lim base vb mb tb (l+1):=by
 intro w M lo hi A1 n1 c1 B1 J d1 A V B0 S Hd f3 k6 b0 hl ha hc;have IH:=HI e6;have e3:=HI Y;clear e6;obtain⟨-,i7,i9,i8,f9,g5⟩:=q0n b0 (by rw[hl];omega);obtain⟨t,a7⟩:∃t,M.Zw fr=t:=⟨_,rfl⟩;obtain⟨r,hr⟩:∃r,U6 M.keys fr t=r:=⟨_,rfl⟩;have g7:=g5 fr;rw[a7] at g7;obtain⟨G,d0⟩:∃G,Um R fr «to» most.toNat (l+1) M V=G:=⟨_,rfl⟩;have hG:Yo (Ju R fr «to» most.toNat l) «to» most.toNat (M.kids.drop t) V=G:=by rw[<-d0,<-a7];rfl
 rw[d0];have f2:V.length+((M.kids.drop t).map λx=>Zz R l x.a).sum<=100000:=by
  have h1:=qmr (M.kids.map λx=>Zz R l x.a) t;rw[<-List.map_drop] at h1;have h2:V.length+(M.kids.map λx=>Zz R l x.a).sum<=100000:=hc;omega
 have N1:NB ((w.alloc (.cells #[.int .i64 M.lvl,.slice A1 n1 c1,.slice B1 J d1] 74)).alloc (.cells #[.int .i64 fr.obj,.int .i64 fr.kind,.int .i64 fr.off] 45)) w.1.size M.lvl A1 n1 c1 B1 J d1:=(NB.new w _ _ _ _ _ _ _ _).below (Qi) (by simp);have b1:Below w.1.size w ((w.alloc (.cells #[.int .i64 M.lvl,.slice A1 n1 c1,.slice B1 J d1] 74)).alloc (.cells #[.int .i64 fr.obj,.int .i64 fr.kind,.int .i64 fr.off] 45)):=(Qi).alloc (by simp) _;have z1:((w.alloc (.cells #[.int .i64 M.lvl,.slice A1 n1 c1,.slice B1 J d1] 74)).alloc (.cells #[.int .i64 fr.obj,.int .i64 fr.kind,.int .i64 fr.off] 45)).1.size=w.1.size+2:=by simp
 have K1:KB ((w.alloc (.cells #[.int .i64 M.lvl,.slice A1 n1 c1,.slice B1 J d1] 74)).alloc (.cells #[.int .i64 fr.obj,.int .i64 fr.kind,.int .i64 fr.off] 45)) (w.1.size+1) fr:=KB.new2 w _ fr.obj fr.kind fr.off _;have k3:J<=20:=Hd.2.2.1;have Z:M.kids.length=J:=by
  have:=Jp.len Hd.rows.2;rwa [AF] at this
 have d4:∀k,Ua vb A k->w0.1.size<=k/\k<w.1.size:=λk I=>by
  obtain⟨⟨_,_,hv,row,_⟩,_⟩:=S;rcases I with rfl|I
  ·exact⟨j9,Ky hv⟩
  ·exact⟨by rw[Y];exact (row.Qa k I).1,(row.Qa k I).2⟩
 clear Y;have S1:=S.below b1;have a1:=Hd.below b1;obtain⟨r1,s1⟩:=a1.rows;have e4:=HI (q4r M (Tc b0) fr t a7 r hr A1 n1 c1 B1 J d1 _ r1.Y3 s1 (by have:=Hd.2.1;omega) (by have:=Hd.2.2.1;omega));have g1:(M.lvl==0)=false:=by rw[hl];simp;omega
 have g2:decide (M.lvl=0)=false:=AH (by rw[hl];omega);rw[Z] at g7;have HG:=HI hG;have Z:=HI Z;have Hl:=HI hl;have p0:=N1.c0;have p1:=N1.c1;have p2:=N1.c2;have k0:=K1.c0;have k1:=K1.c1;have k2:=K1.c2;have z0:=B0.size;clear a7 hr g5 hG d0 r1 s1 hl S Hd hc i8 f9;go_enter func34,ntmps34
 go_wp2_with fail
 refine e4.out.mono ?_;generalize (w.alloc (.cells #[.int .i64 M.lvl,.slice A1 n1 c1,.slice B1 J d1] 74)).alloc (.cells #[.int .i64 fr.obj,.int .i64 fr.kind,.int .i64 fr.off] 45)=w1 at N1 b1 z1 S1 a1 K1 p0 p1 p2 k0 k1 k2 ⊢;rintro e w2 ⟨rfl,b2⟩;have N2:=N1.below b2 N1.lt;have K2:=K1.below b2 K1.lt;have S2:=S1.below b2;have g9:=a1.below b2;have B2:=b1.trans (b2.mono b1.size);have z2:=b2.size;clear p0 p1 p2 k0 k1 k2 e4 N1 S1 a1 K1 b1 b2;have p0:=N2.c0;go_wp2_with fail
 clear p0;go_loopw [11,13,14] (λiv _ _ wr=>∃(j:Nat) (A':OA) (f:List Qc),j<=J/\iv=.int .i64 (j:Int)/\Oi wr lim base vb mb tb most «to» A' f/\Yo (Ju R fr «to» most.toNat l) «to» most.toNat (M.kids.drop j) f=G/\f.length<=most.toNat/\f.length+((M.kids.drop j).map λx=>Zz R l x.a).sum<=100000/\Turn (Ua vb A) w2 wr/\∀k,q01 A'=some k->q01 A=some k\/w2.1.size<=k) (λiv _ _ _=>J-(intOf iv).toNat)
 case atStart=>exact⟨t,A,V,by omega,rfl,S2,HG.out,ha,f2,Turn.refl _ _,λk I=>.inl I⟩
 case round=>
  clear ha f2 HG S2;obtain⟨j,A',f,k5,rfl,S',E,ha,T,X,c8⟩:=hrel;have Nr:=N2.turned X (λh=>by have:=(d4 _ h).2;omega);have Kr:=K2.keep (X.block _ K2.lt (λh=>by have:=(d4 _ h).2;omega));have Hr:=g9.turn X f3;have XB:Turn (Ua vb A) w wr:=(Qz (S:=Ua vb A) B2).trans X (λk h=>.inl h);have u:Below w0.1.size w0 wr:=B0.trans (XB.below (λk I=>(d4 k I).1) z0);have p2:=Nr.c2;have d9:=HI T;clear T;have out:G=(f,0)->∃A',Oi wr lim base vb mb tb most «to» A' G.1/\∀k,q01 A'=some k->q01 A=some k\/w.1.size<=k:=λe=>by
   refine⟨A',by rw[e];exact S',λk I=>(c8 k I).imp id λh=>by have:=B2.size;omega⟩
  have e7:=HI out;clear out;by_cases d8:j<J
  ·obtain⟨g,o,rfl,hg,c0,c6,c2,c3⟩:=Hr.rows.2.cell d8;obtain⟨_,k4⟩:=Zr.bounds Hr.rows.2;have d6:=qx8 (l:=M.kids) (j:=j) (by rw[Z.out];exact d8);rw[d6] at E;have e2:=HI d6;clear d6;have O:=HI (λw4 (F:Below wr.1.size wr w4)=>qwb H (u.trans (F.mono u.size)) (g6.below (u.trans (F.mono u.size)) g6.1) M.lvl i7 i9 M.kids A1 n1 c1 (some ⟨g,o,none⟩) J d1 (Hr.below F).rows.2 j d8 (Qk M.kids j).a rfl);obtain⟨y,hy⟩:∃y,Qk M.kids j=y:=⟨_,rfl⟩;rw[hy] at c0 c6 c2 E e2 O;clear hy c3;have e0:(0:Int)<=(j:Int):=by omega
   have e1:(j:Int)<(J:Int):=by omega
   obtain⟨rr,D⟩:∃rr,(decide ((f.length:Int)<most)&&!(«to».less y.k))=rr:=⟨_,rfl⟩;have Hw:=HI (qaz S' y.k rr D)
   cases rr with
   |false=>
    as_aux_lemma=>
     have q:G=(f,0):=by
      rw[<-E];unfold Yo;rw[AA ?_];rw[Bool.and_eq_false_iff] at D;rcases D with h|h
      ·exact .inr (by have:=of_decide_eq_false h;omega)
      ·exact .inl (by simpa using h)
     replace q:=HI q;clear E D;go_wp2_with (first
      |(go_at_call 32;refine Hw.out.mono ?_;rintro e w4 ⟨rfl,F⟩)
      |fail)
     go_ret;obtain⟨A9,S9,h9⟩:=e7.out q.out;exact⟨by rw[q.out];rfl,A9,λ_=>S9.below F,XB.trans (Qz (S:=Ua vb A) F) (λk h=>.inl h),h9⟩
   |true=>
    as_aux_lemma=>
     have m:(if (Ju R fr «to» most.toNat l y.a f).2≠0 then ([],(Ju R fr «to» most.toNat l y.a f).2) else Yo (Ju R fr «to» most.toNat l) «to» most.toNat (M.kids.drop (j+1)) (Ju R fr «to» most.toNat l y.a f).1)=G:=by
      have j8:¬(«to».less y.k=true\/most.toNat<=f.length):=by
       rw[BN] at D;rintro (h|h)
       ·rw[h] at D;simp at D
       ·have:=AK D.1;omega
      rw[<-E,qp6,AB j8]
     have U:=HI (qhz (R:=R) (fr:=fr) («to»:=«to») l y.a f ha);have d7:=qx7 R fr «to» most.toNat Hl.out y.a f;obtain⟨M2,d3⟩:∃M2,O0 R M.lvl y.a=M2:=⟨_,rfl⟩;obtain⟨E2,c9⟩:∃E2,Md R M.lvl y.a=E2:=⟨_,rfl⟩;rw[d3,c9] at O;rw[d3,c9] at d7;obtain⟨F2,i6⟩:∃F2,Ju R fr «to» most.toNat l y.a f=F2:=⟨_,rfl⟩;rw[i6] at d7 m U;clear d3 c9 E D;have b8:=HI (λw4 (F:Below wr.1.size wr w4)=>(⟨(F.cell (p:=⟨g,_,none⟩) hg).trans c0,(F.cell (p:=⟨g,_,none⟩) hg).trans c6,(F.cell (p:=⟨g,_,none⟩) hg).trans c2⟩:_/\_/\_));go_wp2_with (first
      |(go_at_call 32;refine Hw.out.mono ?_;rintro e w4 ⟨rfl,F⟩;have N4:=Nr.below F Nr.lt;have u0:=N4.c0;have u1:=N4.c1;have u2:=N4.c2)
      |fail)
     refine (O.out w4 F).mono ?_;rintro e Q ⟨A2,n2,c7,b7,m2,d2,rfl,j7,j0,f0,f1,b5⟩;have i0:=qrt j7 j0 f0 f1;have b6:Below Q.1.size Q (Q.alloc (.cells #[.int .i64 0,.slice none 0 0,.slice none 0 0] 74)):=Qi;have NZ:NB (Q.alloc (.cells #[.int .i64 0,.slice none 0 0,.slice none 0 0] 74)) Q.1.size 0 none 0 0 none 0 0:=NB.new Q _ _ _ _ _ _ _ _;have z4:=F.size;have z5:=b5.size;clear u0 u1 u2 f0 f1 O Hw b8 c0 c6 c2 p2;rcases d7 with⟨hE,hF⟩|⟨hE,hR,g0,hF⟩
     ·as_aux_lemma=>
       rw[hF] at m;rw[AA hE] at m;have m:=HI m;have i5:=HI hE;have g3:(E2==0)=false:=by simp[hE]
       have g4:(E2 != 0)=true:=by simp[hE]
       clear hE hF;go_wp2_with (first
        |(refine Bj rfl (.tmp 13) _ rfl Q.1.size rfl M2.lvl A2 n2 c7 b7 m2 d2 rfl NZ ?_;intro w6 N6 T6)
        |fail)
       go_ret;have a2:Turn (λ_=>False) Q w6:=(Qz (S:=λ_=>False) b6).trans T6 (λk h=>.inr (by have h:k=Q.1.size:=h;omega));have X6:Turn (λ_=>False) wr w6:=((Qz (S:=λ_=>False) F).trans (Qz (S:=λ_=>False) b5) (λ_ h=>.inl h)).trans a2 (λ_ h=>.inl h);exact⟨by rw[<-m.out];rfl,A,λh=>absurd (by rw[<-m.out] at h;exact h) i5.out,XB.trans X6 (λ_ h=>h.elim),λk h=>.inl h⟩
     ·as_aux_lemma=>
       subst hE;have b3:((M.kids.drop j).map λx=>Zz R l x.a).sum=Gt R l M2+((M.kids.drop (j+1)).map λx=>Zz R l x.a).sum:=by
        rw[e2.out,BJ,List.sum_cons,q3x hR]
       have T:=d9.out;rw[b3] at T;have W:=U.out;rw[q3x hR] at W;have B:=H.may y.a (by rw[hR]);rw[hR] at B;have B:M2.may=true:=B;have b9:=HI W;have HR:=HI hR;have i2:=HI g0;have HF:=HI hF;have e5:=HI m;have a8:=HI T;clear b3 T W hR g0 hF m U d9;go_wp2_with (first
        |(refine Bj rfl (.tmp 13) _ rfl Q.1.size rfl M2.lvl A2 n2 c7 b7 m2 d2 rfl NZ ?_;intro w6 N6 T6;have v0:=N6.c0;have v1:=N6.c1;have v2:=N6.c2;have a2:Turn (λ_=>False) Q w6:=(Qz (S:=λ_=>False) b6).trans T6 (λk h=>.inr (by have h:k=Q.1.size:=h;omega));have X6:Turn (λ_=>False) wr w6:=((Qz (S:=λ_=>False) F).trans (Qz (S:=λ_=>False) b5) (λ_ h=>.inl h)).trans a2 (λ_ h=>.inl h);have K6:=Kr.keep (X6.block _ Kr.lt (λh=>h));have k0:=K6.c0;have k1:=K6.c1;have k2:=K6.c2)
        |fail)
       have a6:Below wr.1.size wr w6:=X6.below (λ_ h=>h.elim) (AE _);have g8:=u.trans (a6.mono u.size);have S6:=S'.below a6;have i1:=i0.turn a2 (λ_ _ _ h=>h);have d5:∀k,w4.1.size<=k->k<Q.1.size->¬Ua vb A' k:=λk h1 h2 h=>by
        obtain⟨⟨_,_,hv,row,_⟩,_⟩:=S';rcases h with rfl|h
        ·have:=Ky hv;omega
        ·have:=(row.Qa k h).2;omega
       refine (IH.out w6 M2 w4.1.size Q.1.size A2 n2 c7 b7 m2 d2 A' f g8 S6 i1 d5 (by have:=u.size;have:=e3.out;omega) B i2.out ha (by have:=a8.out;omega)).mono ?_;rw[<-HF.out];rintro e w7 ⟨rfl,A7,h7,X7,i4⟩;have z6:=a6.size;have z7:=X7.size;have zr:=X.size;have e8:Turn (Ua vb A) w2 w7:=(X.trans (Qz (S:=Ua vb A) a6) (λ_ h=>.inl h)).trans X7 (λk I=>by
        rcases I with rfl|I
        ·exact .inl (.inl rfl)
        ·exact (c8 k I).imp (λh=>.inr h) id)
       have e9:∀k,q01 A7=some k->q01 A=some k\/w2.1.size<=k:=λk I=>by
        rcases i4 k I with h|h
        ·exact c8 k h
        ·exact .inr (by omega)
       clear v0 v1 v2 k0 k1 k2;by_cases h0:F2.2=0
       ·as_aux_lemma=>
         have g3:(F2.2==0)=true:=by simp[h0]
         have g4:(F2.2 != 0)=false:=by simp[h0]
         have K:=e5.out;rw[AB (by simpa using h0)] at K;have P:=HI K;have h7:=h7 h0;obtain⟨q1,q2⟩:=b9.out h0;clear K h0;go_wp2_with fail
         exact⟨⟨j+1,A7,F2.1,by omega,by go_num,h7,P.out,q1,by have:=a8.out;omega,e8,e9⟩,by simp[intOf];omega⟩
       ·as_aux_lemma=>
         have g3:(F2.2==0)=false:=by simp[h0]
         have g4:(F2.2 != 0)=true:=by simp[h0]
         have K:=e5.out;rw[AA h0] at K;have P:=HI K;have i3:=HI h0;clear K h0 h7;go_wp2_with fail
         go_ret;exact⟨by rw[<-P.out];rfl,A,λh=>absurd (by rw[<-P.out] at h;exact h) i3.out,(Qz (S:=Ua vb A) B2).trans e8 (λ_ h=>.inl h),λk h=>.inl h⟩
  ·as_aux_lemma=>
    have f4:j=J:=by omega
    have q:G=(f,0):=by
     rw[<-E,List.drop_eq_nil_of_le (by rw[Z.out];omega)];rfl
    replace q:=HI q;have e1:¬(j:Int)<(J:Int):=by omega
    clear E f4;go_wp2_with fail
    go_ret;obtain⟨A9,S9,h9⟩:=e7.out q.out;exact⟨by rw[q.out];rfl,A9,λ_=>S9,XB,h9⟩
theorem qi1 {B:WD}{p:Nat}{R:Int->Nd × Int}(H:Src B p R)(u:Tab B)(fr «to»:Kd)(most:Int){lim base vb mb tb:Nat}(y:B.1.size<=vb)(f:B.1.size=lim):∀l,qff B p R fr «to» most lim base vb mb tb l
 |0=>by
  intro w M lo hi G U c1 I T J A D _ S Hd m E q Q O P;refine (qp5 (p:=p) fr «to» most w M lo hi G U c1 I T J A D S Hd m E q Q O P).mono ?_;rintro e V ⟨rfl,F,h1,h2,K⟩;exact⟨rfl,F,λ_=>h1,h2,K⟩
 |l+1=>qp7 H u fr «to» most y f l (qi1 H u fr «to» most y f l)
