/- What a scan tells from a node on; how many items there are below a node -/
import Derived.Test.YtloolbmdiimanaaGreatDoorGv27
namespace Go.Proofs.YtloolbmdiimanaaGreatDoor
open Go Go.RowKit Go.Proofs Tryz
set_option maxHeartbeats 16000000
set_option maxRecDepth 100000
def Ua (R:Int->Nd × Int)(fr «to»:Kd)(most:Nat):Nat->Nd->List Qb->List Qb × Int
 |0,M,acc=>((acc++within fr «to» M.items).take most,0)
 |l+1,M,acc=>Ya (Jo R fr «to» most l) «to» most (M.kids.drop (M.Zo fr)) acc
theorem q9f {R:Int->Nd × Int}{fr «to»:Kd}{most:Nat}{a:Int}{M:Nd}(h:R a=(M,0))(d:List Qb):∀{l:Nat},M.lvl=(l:Int)->Jo R fr «to» most l a d=Ua R fr «to» most l M d
 |0,hl=>by
  unfold Jo Ua;rw[h];dsimp only;rw[AB (by simp),AB (by simpa using hl)]
 |l+1,hl=>by
  unfold Jo Ua;rw[h];dsimp only;rw[AB (by simp),AB (by simpa using hl)]
theorem q72 {R:Int->Nd × Int}{fr «to»:Kd}{most:Nat}{a:Int}(h:(R a).2≠0)(d:List Qb):∀l:Nat,Jo R fr «to» most l a d=([],(R a).2)
 |0=>by unfold Jo;rw[AA h]
 |l+1=>by unfold Jo;rw[AA h]
theorem qb6 {R:Int->Nd × Int}{fr «to»:Kd}{most:Nat}{a:Int}(h:(R a).2=0)(d:List Qb):∀{l:Nat},(R a).1.lvl≠(l:Int)->Jo R fr «to» most l a d=([],5)
 |0,hl=>by unfold Jo;rw[AB (by simpa using h),AA (by simpa using hl)]
 |l+1,hl=>by unfold Jo;rw[AB (by simpa using h),AA hl]
theorem qd2 {f:Int->List Qb->List Qb × Int}{«to»:Kd}{most:Nat}:∀(kids:List Qk) (d:List Qb),(Ya f «to» most kids d).2≠0->(Ya f «to» most kids d).1=[]
 |[],d,h=>absurd rfl h
 |x::r,d,h=>by
  unfold Ya at h ⊢;by_cases e:«to».less x.k=true\/most<=d.length
  ·rw[AA e] at h;exact absurd rfl h
  ·rw[AB e] at h ⊢;by_cases h1:(f x.a d).2=0
   ·rw[AB (by simpa using h1)] at h ⊢;exact qd2 r _ h
   ·rw[AA h1]
theorem qmz {R:Int->Nd × Int}{fr «to»:Kd}{most:Nat}:∀(l:Nat) (M:Nd) (d:List Qb),(Ua R fr «to» most l M d).2≠0->(Ua R fr «to» most l M d).1=[]
 |0,_,_,h=>absurd rfl h
 |_+1,_,_,h=>qd2 _ _ h
def Zu (R:Int->Nd × Int):Nat->Int->Nat
 |0,a=>if (R a).2≠0 then 0 else (R a).1.items.length
 |l+1,a=>if (R a).2≠0 then 0 else ((R a).1.kids.map λx=>Zu R l x.a).sum
def U6 (R:Int->Nd × Int):Nat->Nd->Nat
 |0,M=>M.items.length
 |l+1,M=>(M.kids.map λx=>Zu R l x.a).sum
theorem q3s {R:Int->Nd × Int}{a:Int}{M:Nd}(h:R a=(M,0)):∀l,Zu R l a=U6 R l M
 |0=>by unfold Zu U6;rw[h];dsimp only;rw[AB (by simp)]
 |l+1=>by unfold Zu U6;rw[h];dsimp only;rw[AB (by simp)]
theorem ql0 (l:List Nat):∀n,(l.drop n).sum<=l.sum:=λn=>by
 conv=>rhs;rw[<-AV n l]
 rw[List.sum_append];omega
theorem qgr {f:Int->List Qb->List Qb × Int}{«to»:Kd}{most:Nat}{cnt:Int->Nat}(g:∀x d,d.length<=most->(f x d).2=0->(f x d).1.length<=most/\(f x d).1.length<=d.length+cnt x) :
  ∀(kids:List Qk) (d:List Qb),d.length<=most->(Ya f «to» most kids d).2=0->(Ya f «to» most kids d).1.length<=most/\(Ya f «to» most kids d).1.length<=d.length+(kids.map λx=>cnt x.a).sum
 |[],d,ha,_=>by
  unfold Ya;exact⟨ha,by simp⟩
 |x::r,d,ha,h0=>by
  unfold Ya at h0 ⊢;by_cases e:«to».less x.k=true\/most<=d.length
  ·rw[AA e];exact⟨ha,by simp⟩
  ·rw[AB e] at h0 ⊢;by_cases h1:(f x.a d).2=0
   ·rw[AB (by simpa using h1)] at h0 ⊢;obtain⟨m,u⟩:=g x.a d ha h1;obtain⟨p,y⟩:=qgr g r _ m h0;refine⟨p,?_⟩;rw[BJ,List.sum_cons];omega
   ·rw[AA h1] at h0;exact absurd h0 h1
theorem qgs {R:Int->Nd × Int}{fr «to»:Kd}{most:Nat}:∀(l:Nat) (a:Int) (d:List Qb),d.length<=most->(Jo R fr «to» most l a d).2=0->(Jo R fr «to» most l a d).1.length<=most/\(Jo R fr «to» most l a d).1.length<=d.length+Zu R l a
 |0,a,d,ha,h0=>by
  by_cases h1:(R a).2=0
  ·by_cases h2:(R a).1.lvl=0
   ·have e:R a=((R a).1,0):=Prod.ext rfl h1;rw[q9f e d (l:=0) (by simpa using h2),q3s e];unfold Ua U6;dsimp only;have:(within fr «to» (R a).1.items).length<=(R a).1.items.length:=List.length_filter_le ..;rw[AR,AD];omega
   ·rw[qb6 h1 d (l:=0) (by simpa using h2)] at h0
    cases h0
  ·rw[q72 h1] at h0;exact absurd h0 h1
 |l+1,a,d,ha,h0=>by
  by_cases h1:(R a).2=0
  ·by_cases h2:(R a).1.lvl=((l+1:Nat):Int)
   ·have e:R a=((R a).1,0):=Prod.ext rfl h1;rw[q9f e d h2] at h0 ⊢;rw[q3s e];unfold Ua at h0 ⊢;obtain⟨f,g⟩:=qgr (cnt:=Zu R l) (λx d m h=>qgs l x d m h) _ _ ha h0;refine⟨f,AZ g ?_⟩;show _<=d.length+((R a).1.kids.map λx=>Zu R l x.a).sum;rw[List.map_drop];have:=ql0 ((R a).1.kids.map λx=>Zu R l x.a) ((R a).1.Zo fr);omega
   ·rw[qb6 h1 d h2] at h0
    cases h0
  ·rw[q72 h1] at h0;exact absurd h0 h1
theorem qgt (f:Qk->Nat):∀(kids:List Qk) (parts:List (List Qb)),parts.length=kids.length->(∀j,j<kids.length->f (Qi kids j)<=(parts.getD j []).length)->(kids.map f).sum<=parts.flatten.length
 |[],parts,_,_=>by simp
 |x::r,[],h,_=>by simp at h
 |x::r,p::ps,h,hf=>by
  rw[BJ,List.sum_cons,List.flatten_cons,AD];have h0:=hf 0 (by simp);have h0:f x<=p.length:=h0;have:=qgt f r ps (by simpa using h) λj e=>by
   have:=hf (j+1) (by simpa using e);rw[getD_cons_succ] at this;have d:Qi (x::r) (j+1)=Qi r j:=by unfold Qi;rw[getD_cons_succ]
   rwa [d] at this
  omega
theorem qd3 {R R':Int->Nd × Int}(h:Rt R R'):∀{l:Nat} {a:Int} {its:List Qb},Qm R l a its->Zu R' l a<=its.length
 |0,a,its,hh=>by
  rcases h a (by rw[hh.1]) with e|e
  ·unfold Zu;rw[e,hh.1];simp
  ·unfold Zu;rw[AA (by rw[e];decide)];omega
 |l+1,a,its,hh=>by
  obtain⟨kids,parts,h1,h2,f,rfl,g⟩:=hh;rcases h a (by rw[h1]) with e|e
  ·have d:R' a=(⟨((l+1:Nat):Int),[],kids⟩,0):=e.trans h1;rw[q3s d];unfold U6;exact qgt _ kids parts f λj m=>qd3 h (g j m).1
  ·unfold Zu;rw[AA (by rw[e];decide)];omega
theorem qqv (R:Int->Nd × Int):Rt R R:=λ_ _=>.inl rfl
theorem qn0 {R R':Int->Nd × Int}(d:Rt R R'){root:Int}{its:List Qb}(h:Xk R root its)(h0:root≠0):Zu R' (Bh R' root) root<=its.length:=by
 rcases h with⟨rfl,rfl⟩|⟨l,_,h,h1,_⟩
 ·exact absurd rfl h0
 ·obtain⟨f,p,g⟩:=D7 h;rcases d root g with e|e
  ·have:Bh R' root=l:=by unfold Bh;rw[e];exact f
   rw[this];exact qd3 d h
  ·generalize Bh R' root=m
   cases m with
   |zero=>unfold Zu;rw[AA (by rw[e];decide)];omega
   |succ m=>unfold Zu;rw[AA (by rw[e];decide)];omega
theorem qun (R:Int->Nd × Int)(fr «to»:Kd)(most:Nat){l:Nat}{L:Int}(p:L=((l+1:Nat):Int))(x:Int)(d:List Qb) :
  (Ie R L x≠0/\Jo R fr «to» most l x d=([],Ie R L x))\/(Ie R L x=0/\R x=(Lu R L x,0)/\(Lu R L x).lvl=(l:Int)/\Jo R fr «to» most l x d=Ua R fr «to» most l (Lu R L x) d):=by
 by_cases h1:(R x).2=0
 ·have e:Ie R L x=if (R x).1.lvl≠L-1 then 5 else 0:=AB (by simpa using h1)
  have f:Lu R L x=if (R x).1.lvl≠L-1 then Zz else (R x).1:=AB (by simpa using h1)
  by_cases h2:(R x).1.lvl=L-1
  ·rw[AB (by simpa using h2)] at e f;have m:(R x).1.lvl=(l:Int):=by omega
   have g:R x=((R x).1,0):=Prod.ext rfl h1;rw[e,f];exact .inr ⟨rfl,g,m,q9f g d m⟩
  ·rw[AA h2] at e;rw[e];exact .inl ⟨by omega,qb6 h1 d (λh=>h2 (by omega))⟩
 ·have e:Ie R L x=(R x).2:=AA h1;rw[e];exact .inl ⟨h1,q72 h1 d l⟩
theorem quo {l:List Qk}{j:Nat}(h:j<l.length):l.drop j=Qi l j::l.drop (j+1):=by
 have d:=q16 h;rw[AC h] at d;rw[<-List.getElem_cons_drop (h:=h),OI d]
def Vu (vb:Nat)(A:OA):NP:=λk=>k=vb\/q01 A=some k
theorem qn1 {p:Nat}(fr «to»:Kd)(most:Int){lim base vb mb tb:Nat}(w:WD)(M:Nd)(lo hi:Nat)(J:OA)(B c1:Nat)(K:OA)(T P:Nat)(A:OA)(m:List Qb)
  (S:Le w lim base vb mb tb most «to» A m) (Hd:Held w lo hi J B c1 K T P M) (U:∀k,lo<=k->k<hi->¬Vu vb A k) (b9:lim<=lo) (W:M.may=true) (hl:M.lvl=0) (ha:m.length<=most.toNat) (hc:m.length+M.items.length<=100000) :
  Calls prog 52 #[.pointer (some ⟨p,0,none⟩),.agg #[.int .i64 M.lvl,.slice J B c1,.slice K T P],.agg #[.int .i64 fr.obj,.int .i64 fr.kind,.int .i64 fr.off],.func (.func 50) #[] #[.pointer (some ⟨vb,0,none⟩),.pointer (some ⟨mb,0,none⟩),.pointer (some ⟨tb,0,none⟩)],.func (.func 53) #[] #[.pointer (some ⟨vb,0,none⟩)]] w λe w'=>
   e=.returned (.int .i64 0)/\∃F,Le w' lim base vb mb tb most «to» F ((m++within fr «to» M.items).take most.toNat)/\Turn (Vu vb A) w w'/\∀k,q01 F=some k->q01 A=some k\/w.1.size<=k:=by
 obtain⟨hM,Y,b7,b8⟩:=q1c W hl;obtain⟨t,a0⟩:∃t,M.Zo fr=t:=⟨_,rfl⟩;obtain⟨r,hr⟩:∃r,Uf M.keys fr t=r:=⟨_,rfl⟩;have b0:t=lead (M.items.map (·.k)) fr:=by
  rw[<-a0,hM];unfold Nd.Zo;rw[AA rfl,q2p]
 have b3:t<=M.items.length:=by have:=qbl (M.items.map (·.k)) fr;rw[AF] at this;omega
 have hG:Gl «to» most.toNat (M.items.drop t) m=(m++within fr «to» M.items).take most.toNat:=by rw[b0];exact qpo Y fr «to» m ha
 obtain⟨G,a5⟩:∃G,(m++within fr «to» M.items).take most.toNat=G:=⟨_,rfl⟩;rw[a5] at hG ⊢;have N1:NB ((w.alloc (.cells #[.int .i64 M.lvl,.slice J B c1,.slice K T P] 108)).alloc (.cells #[.int .i64 fr.obj,.int .i64 fr.kind,.int .i64 fr.off] 81)) w.1.size M.lvl J B c1 K T P:=(NB.new w _ _ _ _ _ _ _ _).below (Ql) (by simp);have b1:Below w.1.size w ((w.alloc (.cells #[.int .i64 M.lvl,.slice J B c1,.slice K T P] 108)).alloc (.cells #[.int .i64 fr.obj,.int .i64 fr.kind,.int .i64 fr.off] 81)):=(Ql).alloc (by simp) _;have z1:((w.alloc (.cells #[.int .i64 M.lvl,.slice J B c1,.slice K T P] 108)).alloc (.cells #[.int .i64 fr.obj,.int .i64 fr.kind,.int .i64 fr.off] 81)).1.size=w.1.size+2:=by simp
 have K1:KB ((w.alloc (.cells #[.int .i64 M.lvl,.slice J B c1,.slice K T P] 108)).alloc (.cells #[.int .i64 fr.obj,.int .i64 fr.kind,.int .i64 fr.off] 81)) (w.1.size+1) fr:=KB.new2 w _ fr.obj fr.kind fr.off _;have I:M.items.length=B:=Hd.rows.1.Y6.len;have b6:∀k,Vu vb A k->k<w.1.size:=λk E=>by
  obtain⟨⟨_,_,hv,row,_⟩,_⟩:=S;rcases E with rfl|E
  ·exact Kw hv
  ·exact (row.Qc k E).2
 have S1:=S.below b1;have O:=Hd.below b1;obtain⟨r1,s1⟩:=O.rows;have a2:=HI (q3h M (Pe W) fr t a0 r hr J B c1 K T P _ r1.Y6 s1 (by have:=Hd.2.1;omega) (by have:=Hd.2.2.1;omega));have g1:(M.lvl==0)=true:=by rw[hl];rfl
 have g2:decide (M.lvl=0)=true:=AL hl;rw[I] at b3 hc;have HG:=HI hG;have I:=HI I;have p0:=N1.c0;have p1:=N1.c1;have p2:=N1.c2;have k0:=K1.c0;have k1:=K1.c1;have k2:=K1.c2;clear hM Y b7 b8 a0 hr b0 hG a5 r1 s1 hl K1 S Hd;go_enter func52,ntmps52
 go_wp2_with fail
 refine a2.out.mono ?_;generalize (w.alloc (.cells #[.int .i64 M.lvl,.slice J B c1,.slice K T P] 108)).alloc (.cells #[.int .i64 fr.obj,.int .i64 fr.kind,.int .i64 fr.off] 81)=w1 at N1 b1 z1 S1 O p0 p1 p2 k0 k1 k2 ⊢;rintro e w2 ⟨rfl,b2⟩;have N2:=N1.below b2 N1.lt;have S2:=S1.below b2;have a1:=O.below b2;have B2:=b1.trans (b2.mono b1.size);have z2:=b2.size;clear p0 p1 p2 k0 k1 k2 a2 N1 S1 O b1 b2;have p0:=N2.c0;go_wp2_with fail
 clear p0;go_loopw [11] (λiv wr=>∃(j:Nat) (F:OA) (d:List Qb),j<=B/\iv=.int .i64 (j:Int)/\Le wr lim base vb mb tb most «to» F d/\Gl «to» most.toNat (M.items.drop j) d=G/\d.length+(B-j)<=100000/\Turn (Vu vb A) w2 wr/\∀k,q01 F=some k->q01 A=some k\/w2.1.size<=k) (λiv _=>B-(intOf iv).toNat)
 case atStart=>exact⟨t,A,m,b3,rfl,S2,HG.out,by omega,Turn.refl _ _,λk E=>.inl E⟩
 case round=>
  obtain⟨j,F,d,d2,rfl,S',y,c9,X,Q⟩:=hrel;have Nr:=N2.turned X (λh=>by have:=b6 _ h;omega);have Hr:=a1.turn X U;have p1:=Nr.c1;have out:d=G->∃F,Le wr lim base vb mb tb most «to» F G/\Turn (Vu vb A) w wr/\∀k,q01 F=some k->q01 A=some k\/w.1.size<=k:=λe=>by
   refine⟨F,e▸S',(Zb (S:=Vu vb A) B2).trans X (λk h=>.inl h),λk E=>(Q k E).imp id λh=>by have:=B2.size;omega⟩
  have a3:=HI out;clear out;by_cases a9:j<B
  ·obtain⟨g,o,V,pp,qq,rfl,hg,c0,a4,c2,c3,hs,R⟩:=Hr.vals j a9;have a6:=qwh (l:=M.items) (j:=j) (by rw[I.out];exact a9);rw[a6] at y;clear a6;obtain⟨x,hx⟩:∃x,Qu M.items j=x:=⟨_,rfl⟩;rw[hx] at c0 a4 c2 hs R y;clear hx;have e0:(0:Int)<=(j:Int):=by omega
   have e1:(j:Int)<(B:Int):=by omega
   obtain⟨_,d0⟩:=Hr.rows.1.Y6.bounds;obtain⟨rr,u⟩:∃rr,(decide ((d.length:Int)<most)&&!(«to».less x.k))=rr:=⟨_,rfl⟩;have Hw:=HI (qai S' x.k rr u)
   cases rr with
   |false=>
    have f:d=G:=by
     rw[<-y];unfold Gl;rw[AA ?_];rw[Bool.and_eq_false_iff] at u;rcases u with h|h
     ·exact .inr (by have:=of_decide_eq_false h;omega)
     ·exact .inl (by simpa using h)
    have f:=HI f;clear y u hs R c3;go_wp2_with (first
     |(go_at_call 50;refine Hw.out.mono ?_;rintro e w4 ⟨rfl,D⟩)
     |fail)
    go_ret;obtain⟨A9,S9,X9,h9⟩:=a3.out f.out;exact⟨rfl,A9,S9.below D,X9.trans (Zb (S:=Vu vb A) D) (λk h=>.inl h),h9⟩
   |true=>
    have a7:Gl «to» most.toNat (M.items.drop (j+1)) (d++[x])=G:=by
     rw[<-y];conv=>rhs;unfold Gl
     rw[AB ?_];rw[BN] at u;rintro (h|h)
     ·rw[h] at u;simp at u
     ·have:=AK u.1;omega
    have H:x.v≠[]->∀g,q01 V=some g->lim<=g/\q01 F≠some g:=λhv b hb=>by
     obtain⟨h1,h2⟩:=R hv b hb;refine⟨AZ b9 h1,λh=>?_⟩;rcases Q b h with h3|h3
     ·exact U b h1 h2 (.inr h3)
     ·have:=a1.1;omega
    have b5:=HI a7;have Hs:=HI (λw4 (D:Below wr.1.size wr w4)=>qpt (S'.below D) x V pp qq (hs.below D) H (by omega));have Z:=HI (λw4 (D:Below wr.1.size wr w4)=>(⟨(D.cell (p:=⟨g,_,none⟩) hg).trans c0,(D.cell (p:=⟨g,_,none⟩) hg).trans a4,(D.cell (p:=⟨g,_,none⟩) hg).trans c2,(D.cell (p:=⟨g,_,none⟩) hg).trans c3⟩:_/\_/\_/\_));clear y u hs R a7 H;go_wp2_with (first
     |(go_at_call 50;refine Hw.out.mono ?_;rintro e w4 ⟨rfl,D⟩;obtain⟨y0,y1,y2,y3⟩:=Z.out w4 D;have q1:=(Nr.below D Nr.lt).c1)
     |(go_at_call 53;refine (Hs.out w4 D).mono ?_;rintro e w5 ⟨rfl,A5,S5,X5,h5⟩)
     |fail)
    refine⟨⟨j+1,A5,d++[x],by omega,by go_num,S5,b5.out,by simp;omega,(X.trans (Zb (S:=Vu vb A) D) (λk h=>.inl h)).trans X5 (λk E=>?_),λk E=>?_⟩,by simp[intOf];omega⟩
    ·rcases E with rfl|E
     ·exact .inl (.inl rfl)
     ·exact (Q k E).imp (λh=>.inr h) id
    ·rcases h5 k E with h|h
     ·exact Q k h
     ·exact .inr (by have:=X.size;have:=D.size;omega)
  ·have a8:j=B:=by omega
   have f:d=G:=by
    rw[<-y,List.drop_eq_nil_of_le (by rw[I.out];omega)];rfl
   have f:=HI f;have e1:¬(j:Int)<(B:Int):=by omega
   clear y a8;go_wp2_with fail
   go_ret;obtain⟨A9,S9,X9,h9⟩:=a3.out f.out;exact⟨rfl,A9,S9,X9,h9⟩
theorem qn2 (f:Int->List Qb->List Qb × Int)(«to»:Kd)(most:Nat)(x:Qk)(r:List Qk)(d:List Qb):Ya f «to» most (x::r) d=if «to».less x.k=true\/most<=d.length then (d,0) else if (f x.a d).2≠0 then ([],(f x.a d).2) else Ya f «to» most r (f x.a d).1:=rfl
def qeq (E:WD)(p:Nat)(R:Int->Nd × Int)(fr «to»:Kd)(most:Int)(lim base vb mb tb:Nat)(l:Nat):Prop:=
 ∀(w:WD) (M:Nd) (lo hi:Nat) (g:OA) (B c1:Nat) (m:OA) (y u:Nat) (A:OA) (d:List Qb),Below E.1.size E w->Le w lim base vb mb tb most «to» A d->Held w lo hi g B c1 m y u M->(∀k,lo<=k->k<hi->¬Vu vb A k)->lim<=lo->M.may=true->M.lvl=(l:Int)->d.length<=most.toNat->d.length+U6 R l M<=100000->
  Calls prog 52 #[.pointer (some ⟨p,0,none⟩),.agg #[.int .i64 M.lvl,.slice g B c1,.slice m y u],.agg #[.int .i64 fr.obj,.int .i64 fr.kind,.int .i64 fr.off],.func (.func 50) #[] #[.pointer (some ⟨vb,0,none⟩),.pointer (some ⟨mb,0,none⟩),.pointer (some ⟨tb,0,none⟩)],.func (.func 53) #[] #[.pointer (some ⟨vb,0,none⟩)]] w λe D=>
   e=.returned (.int .i64 (Ua R fr «to» most.toNat l M d).2)/\∃f,((Ua R fr «to» most.toNat l M d).2=0->Le D lim base vb mb tb most «to» f (Ua R fr «to» most.toNat l M d).1)/\Turn (Vu vb A) w D/\∀k,q01 f=some k->q01 A=some k\/w.1.size<=k
theorem qn3 {w0:WD}{p:Nat}{R:Int->Nd × Int}(H:Src w0 p R)(f7:Tab w0)(fr «to»:Kd)(most:Int){lim base vb mb tb:Nat}(i8:w0.1.size<=vb)(Z:w0.1.size=lim)(l:Nat)(e5:qeq w0 p R fr «to» most lim base vb mb tb l):qeq w0 p R fr «to» most lim base vb mb tb (l+1):=by
 intro w M lo hi A1 n1 c1 B1 J d1 A W B0 S Hd f2 j8 a6 hl ha hc;have IH:=HI e5;have e2:=HI Z;clear e5;obtain⟨-,i2,i4,i3,f4,f6⟩:=q0o a6 (by rw[hl];omega);obtain⟨t,a4⟩:∃t,M.Zo fr=t:=⟨_,rfl⟩;obtain⟨r,hr⟩:∃r,Uf M.keys fr t=r:=⟨_,rfl⟩;have f8:=f6 fr;rw[a4] at f8;obtain⟨G,c9⟩:∃G,Ua R fr «to» most.toNat (l+1) M W=G:=⟨_,rfl⟩;have hG:Ya (Jo R fr «to» most.toNat l) «to» most.toNat (M.kids.drop t) W=G:=by rw[<-c9,<-a4];rfl
 rw[c9];have f1:W.length+((M.kids.drop t).map λx=>Zu R l x.a).sum<=100000:=by
  have h1:=ql0 (M.kids.map λx=>Zu R l x.a) t;rw[<-List.map_drop] at h1;have h2:W.length+(M.kids.map λx=>Zu R l x.a).sum<=100000:=hc;omega
 have N1:NB ((w.alloc (.cells #[.int .i64 M.lvl,.slice A1 n1 c1,.slice B1 J d1] 108)).alloc (.cells #[.int .i64 fr.obj,.int .i64 fr.kind,.int .i64 fr.off] 81)) w.1.size M.lvl A1 n1 c1 B1 J d1:=(NB.new w _ _ _ _ _ _ _ _).below (Ql) (by simp);have b1:Below w.1.size w ((w.alloc (.cells #[.int .i64 M.lvl,.slice A1 n1 c1,.slice B1 J d1] 108)).alloc (.cells #[.int .i64 fr.obj,.int .i64 fr.kind,.int .i64 fr.off] 81)):=(Ql).alloc (by simp) _;have z1:((w.alloc (.cells #[.int .i64 M.lvl,.slice A1 n1 c1,.slice B1 J d1] 108)).alloc (.cells #[.int .i64 fr.obj,.int .i64 fr.kind,.int .i64 fr.off] 81)).1.size=w.1.size+2:=by simp
 have K1:KB ((w.alloc (.cells #[.int .i64 M.lvl,.slice A1 n1 c1,.slice B1 J d1] 108)).alloc (.cells #[.int .i64 fr.obj,.int .i64 fr.kind,.int .i64 fr.off] 81)) (w.1.size+1) fr:=KB.new2 w _ fr.obj fr.kind fr.off _;have i9:J<=20:=Hd.2.2.1;have a0:M.kids.length=J:=by
  have:=Jy.len Hd.rows.2;rwa [AF] at this
 have d3:∀k,Vu vb A k->w0.1.size<=k/\k<w.1.size:=λk I=>by
  obtain⟨⟨_,_,hv,row,_⟩,_⟩:=S;rcases I with rfl|I
  ·exact⟨i8,Kw hv⟩
  ·exact⟨by rw[Z];exact (row.Qc k I).1,(row.Qc k I).2⟩
 clear Z;have S1:=S.below b1;have a1:=Hd.below b1;obtain⟨r1,s1⟩:=a1.rows;have e3:=HI (q3h M (Pe a6) fr t a4 r hr A1 n1 c1 B1 J d1 _ r1.Y6 s1 (by have:=Hd.2.1;omega) (by have:=Hd.2.2.1;omega));have g1:(M.lvl==0)=false:=by rw[hl];simp;omega
 have g2:decide (M.lvl=0)=false:=AH (by rw[hl];omega);rw[a0] at f8;have HG:=HI hG;have a0:=HI a0;have Hl:=HI hl;have p0:=N1.c0;have p1:=N1.c1;have p2:=N1.c2;have k0:=K1.c0;have k1:=K1.c1;have k2:=K1.c2;have z0:=B0.size;clear a4 hr f6 hG c9 r1 s1 hl S Hd hc i3 f4;go_enter func52,ntmps52
 go_wp2_with fail
 refine e3.out.mono ?_;generalize (w.alloc (.cells #[.int .i64 M.lvl,.slice A1 n1 c1,.slice B1 J d1] 108)).alloc (.cells #[.int .i64 fr.obj,.int .i64 fr.kind,.int .i64 fr.off] 81)=w1 at N1 b1 z1 S1 a1 K1 p0 p1 p2 k0 k1 k2 ⊢;rintro e w2 ⟨rfl,b2⟩;have N2:=N1.below b2 N1.lt;have K2:=K1.below b2 K1.lt;have S2:=S1.below b2;have g0:=a1.below b2;have B2:=b1.trans (b2.mono b1.size);have z2:=b2.size;clear p0 p1 p2 k0 k1 k2 e3 N1 S1 a1 K1 b1 b2;have p0:=N2.c0;go_wp2_with fail
 clear p0;go_loopw [11,13,14] (λiv _ _ wr=>∃(j:Nat) (A':OA) (d:List Qb),j<=J/\iv=.int .i64 (j:Int)/\Le wr lim base vb mb tb most «to» A' d/\Ya (Jo R fr «to» most.toNat l) «to» most.toNat (M.kids.drop j) d=G/\d.length<=most.toNat/\d.length+((M.kids.drop j).map λx=>Zu R l x.a).sum<=100000/\Turn (Vu vb A) w2 wr/\∀k,q01 A'=some k->q01 A=some k\/w2.1.size<=k) (λiv _ _ _=>J-(intOf iv).toNat)
 case atStart=>exact⟨t,A,W,by omega,rfl,S2,HG.out,ha,f1,Turn.refl _ _,λk I=>.inl I⟩
 case round=>
  clear ha f1 HG S2;obtain⟨j,A',d,j7,rfl,S',E,ha,T,X,b8⟩:=hrel;have Nr:=N2.turned X (λh=>by have:=(d3 _ h).2;omega);have Kr:=K2.keep (X.block _ K2.lt (λh=>by have:=(d3 _ h).2;omega));have Hr:=g0.turn X f2;have XB:Turn (Vu vb A) w wr:=(Zb (S:=Vu vb A) B2).trans X (λk h=>.inl h);have u:Below w0.1.size w0 wr:=B0.trans (XB.below (λk I=>(d3 k I).1) z0);have p2:=Nr.c2;have d8:=HI T;clear T;have out:G=(d,0)->∃A',Le wr lim base vb mb tb most «to» A' G.1/\∀k,q01 A'=some k->q01 A=some k\/w.1.size<=k:=λe=>by
   refine⟨A',by rw[e];exact S',λk I=>(b8 k I).imp id λh=>by have:=B2.size;omega⟩
  have e6:=HI out;clear out;by_cases d7:j<J
  ·obtain⟨g,o,rfl,hg,c0,b3,c2,c3⟩:=Hr.rows.2.cell d7;obtain⟨_,j0⟩:=Zn.bounds Hr.rows.2;have d5:=quo (l:=M.kids) (j:=j) (by rw[a0.out];exact d7);rw[d5] at E;have d9:=HI d5;clear d5;have O:=HI (λw4 (F:Below wr.1.size wr w4)=>qtw H (u.trans (F.mono u.size)) (f7.below (u.trans (F.mono u.size)) f7.1) M.lvl i2 i4 M.kids A1 n1 c1 (some ⟨g,o,none⟩) J d1 (Hr.below F).rows.2 j d7 (Qi M.kids j).a rfl);obtain⟨y,hy⟩:∃y,Qi M.kids j=y:=⟨_,rfl⟩;rw[hy] at c0 b3 c2 E d9 O;clear hy c3;have e0:(0:Int)<=(j:Int):=by omega
   have e1:(j:Int)<(J:Int):=by omega
   obtain⟨rr,D⟩:∃rr,(decide ((d.length:Int)<most)&&!(«to».less y.k))=rr:=⟨_,rfl⟩;have Hw:=HI (qai S' y.k rr D)
   cases rr with
   |false=>
    as_aux_lemma=>
     have m:G=(d,0):=by
      rw[<-E];unfold Ya;rw[AA ?_];rw[Bool.and_eq_false_iff] at D;rcases D with h|h
      ·exact .inr (by have:=of_decide_eq_false h;omega)
      ·exact .inl (by simpa using h)
     replace m:=HI m;clear E D;go_wp2_with (first
      |(go_at_call 50;refine Hw.out.mono ?_;rintro e w4 ⟨rfl,F⟩)
      |fail)
     go_ret;obtain⟨A9,S9,h9⟩:=e6.out m.out;exact⟨by rw[m.out];rfl,A9,λ_=>S9.below F,XB.trans (Zb (S:=Vu vb A) F) (λk h=>.inl h),h9⟩
   |true=>
    as_aux_lemma=>
     have f:(if (Jo R fr «to» most.toNat l y.a d).2≠0 then ([],(Jo R fr «to» most.toNat l y.a d).2) else Ya (Jo R fr «to» most.toNat l) «to» most.toNat (M.kids.drop (j+1)) (Jo R fr «to» most.toNat l y.a d).1)=G:=by
      have i7:¬(«to».less y.k=true\/most.toNat<=d.length):=by
       rw[BN] at D;rintro (h|h)
       ·rw[h] at D;simp at D
       ·have:=AK D.1;omega
      rw[<-E,qn2,AB i7]
     have U:=HI (qgs (R:=R) (fr:=fr) («to»:=«to») l y.a d ha);have d6:=qun R fr «to» most.toNat Hl.out y.a d;obtain⟨M2,d0⟩:∃M2,Lu R M.lvl y.a=M2:=⟨_,rfl⟩;obtain⟨E2,b9⟩:∃E2,Ie R M.lvl y.a=E2:=⟨_,rfl⟩;rw[d0,b9] at O;rw[d0,b9] at d6;obtain⟨F2,i1⟩:∃F2,Jo R fr «to» most.toNat l y.a d=F2:=⟨_,rfl⟩;rw[i1] at d6 f U;clear d0 b9 E D;have a9:=HI (λw4 (F:Below wr.1.size wr w4)=>(⟨(F.cell (p:=⟨g,_,none⟩) hg).trans c0,(F.cell (p:=⟨g,_,none⟩) hg).trans b3,(F.cell (p:=⟨g,_,none⟩) hg).trans c2⟩:_/\_/\_));go_wp2_with (first
      |(go_at_call 50;refine Hw.out.mono ?_;rintro e w4 ⟨rfl,F⟩;have N4:=Nr.below F Nr.lt;have u0:=N4.c0;have u1:=N4.c1;have u2:=N4.c2)
      |fail)
     refine (O.out w4 F).mono ?_;rintro e Q ⟨A2,n2,b7,a8,m2,d2,rfl,i6,i5,e9,f0,b5⟩;have g5:=qpr i6 i5 e9 f0;have b6:Below Q.1.size Q (Q.alloc (.cells #[.int .i64 0,.slice none 0 0,.slice none 0 0] 108)):=Ql;have NZ:NB (Q.alloc (.cells #[.int .i64 0,.slice none 0 0,.slice none 0 0] 108)) Q.1.size 0 none 0 0 none 0 0:=NB.new Q _ _ _ _ _ _ _ _;have z4:=F.size;have z5:=b5.size;clear u0 u1 u2 e9 f0 O Hw a9 c0 b3 c2 p2;rcases d6 with⟨hE,hF⟩|⟨hE,hR,f5,hF⟩
     ·as_aux_lemma=>
       rw[hF] at f;rw[AA hE] at f;have f:=HI f;have i0:=HI hE;have g3:(E2==0)=false:=by simp[hE]
       have g4:(E2 != 0)=true:=by simp[hE]
       clear hE hF;go_wp2_with (first
        |(refine Ae rfl (.tmp 13) _ rfl Q.1.size rfl M2.lvl A2 n2 b7 a8 m2 d2 rfl NZ ?_;intro w6 N6 T6)
        |fail)
       go_ret;have a2:Turn (λ_=>False) Q w6:=(Zb (S:=λ_=>False) b6).trans T6 (λk h=>.inr (by have h:k=Q.1.size:=h;omega));have X6:Turn (λ_=>False) wr w6:=((Zb (S:=λ_=>False) F).trans (Zb (S:=λ_=>False) b5) (λ_ h=>.inl h)).trans a2 (λ_ h=>.inl h);exact⟨by rw[<-f.out];rfl,A,λh=>absurd (by rw[<-f.out] at h;exact h) i0.out,XB.trans X6 (λ_ h=>h.elim),λk h=>.inl h⟩
     ·as_aux_lemma=>
       subst hE;have a7:((M.kids.drop j).map λx=>Zu R l x.a).sum=U6 R l M2+((M.kids.drop (j+1)).map λx=>Zu R l x.a).sum:=by
        rw[d9.out,BJ,List.sum_cons,q3s hR]
       have T:=d8.out;rw[a7] at T;have Y:=U.out;rw[q3s hR] at Y;have B:=H.may y.a (by rw[hR]);rw[hR] at B;have B:M2.may=true:=B;have b0:=HI Y;have HR:=HI hR;have g7:=HI f5;have HF:=HI hF;have e4:=HI f;have a5:=HI T;clear a7 T Y hR f5 hF f U d8;go_wp2_with (first
        |(refine Ae rfl (.tmp 13) _ rfl Q.1.size rfl M2.lvl A2 n2 b7 a8 m2 d2 rfl NZ ?_;intro w6 N6 T6;have v0:=N6.c0;have v1:=N6.c1;have v2:=N6.c2;have a2:Turn (λ_=>False) Q w6:=(Zb (S:=λ_=>False) b6).trans T6 (λk h=>.inr (by have h:k=Q.1.size:=h;omega));have X6:Turn (λ_=>False) wr w6:=((Zb (S:=λ_=>False) F).trans (Zb (S:=λ_=>False) b5) (λ_ h=>.inl h)).trans a2 (λ_ h=>.inl h);have K6:=Kr.keep (X6.block _ Kr.lt (λh=>h));have k0:=K6.c0;have k1:=K6.c1;have k2:=K6.c2)
        |fail)
       have a3:Below wr.1.size wr w6:=X6.below (λ_ h=>h.elim) (AE _);have f9:=u.trans (a3.mono u.size);have S6:=S'.below a3;have g6:=g5.turn a2 (λ_ _ _ h=>h);have d4:∀k,w4.1.size<=k->k<Q.1.size->¬Vu vb A' k:=λk h1 h2 h=>by
        obtain⟨⟨_,_,hv,row,_⟩,_⟩:=S';rcases h with rfl|h
        ·have:=Kw hv;omega
        ·have:=(row.Qc k h).2;omega
       refine (IH.out w6 M2 w4.1.size Q.1.size A2 n2 b7 a8 m2 d2 A' d f9 S6 g6 d4 (by have:=u.size;have:=e2.out;omega) B g7.out ha (by have:=a5.out;omega)).mono ?_;rw[<-HF.out];rintro e w7 ⟨rfl,A7,h7,X7,g9⟩;have z6:=a3.size;have z7:=X7.size;have zr:=X.size;have e7:Turn (Vu vb A) w2 w7:=(X.trans (Zb (S:=Vu vb A) a3) (λ_ h=>.inl h)).trans X7 (λk I=>by
        rcases I with rfl|I
        ·exact .inl (.inl rfl)
        ·exact (b8 k I).imp (λh=>.inr h) id)
       have e8:∀k,q01 A7=some k->q01 A=some k\/w2.1.size<=k:=λk I=>by
        rcases g9 k I with h|h
        ·exact b8 k h
        ·exact .inr (by omega)
       clear v0 v1 v2 k0 k1 k2;by_cases h0:F2.2=0
       ·as_aux_lemma=>
         have g3:(F2.2==0)=true:=by simp[h0]
         have g4:(F2.2 != 0)=false:=by simp[h0]
         have K:=e4.out;rw[AB (by simpa using h0)] at K;have P:=HI K;have h7:=h7 h0;obtain⟨q1,q2⟩:=b0.out h0;clear K h0;go_wp2_with fail
         exact⟨⟨j+1,A7,F2.1,by omega,by go_num,h7,P.out,q1,by have:=a5.out;omega,e7,e8⟩,by simp[intOf];omega⟩
       ·as_aux_lemma=>
         have g3:(F2.2==0)=false:=by simp[h0]
         have g4:(F2.2 != 0)=true:=by simp[h0]
         have K:=e4.out;rw[AA h0] at K;have P:=HI K;have g8:=HI h0;clear K h0 h7;go_wp2_with fail
         go_ret;exact⟨by rw[<-P.out];rfl,A,λh=>absurd (by rw[<-P.out] at h;exact h) g8.out,(Zb (S:=Vu vb A) B2).trans e7 (λ_ h=>.inl h),λk h=>.inl h⟩
  ·as_aux_lemma=>
    have f3:j=J:=by omega
    have m:G=(d,0):=by
     rw[<-E,List.drop_eq_nil_of_le (by rw[a0.out];omega)];rfl
    replace m:=HI m;have e1:¬(j:Int)<(J:Int):=by omega
    clear E f3;go_wp2_with fail
    go_ret;obtain⟨A9,S9,h9⟩:=e6.out m.out;exact⟨by rw[m.out];rfl,A9,λ_=>S9,XB,h9⟩
theorem qgu {y:WD}{p:Nat}{R:Int->Nd × Int}(H:Src y p R)(m:Tab y)(fr «to»:Kd)(most:Int){lim base vb mb tb:Nat}(u:y.1.size<=vb)(d:y.1.size=lim):∀l,qeq y p R fr «to» most lim base vb mb tb l
 |0=>by
  intro w M lo hi F T c1 G Q I A B _ S Hd f D g P K O;refine (qn1 (p:=p) fr «to» most w M lo hi F T c1 G Q I A B S Hd f D g P K O).mono ?_;rintro e U ⟨rfl,E,h1,h2,J⟩;exact⟨rfl,E,λ_=>h1,h2,J⟩
 |l+1=>qn3 H m fr «to» most u d l (qgu H m fr «to» most u d l)
theorem qqw {w:WD}{p:Nat}{R:Int->Nd × Int}(H:Src w p R)(ht:Tab w)(root:Int)(fr «to»:Kd)(most:Int)(D:root≠0->Zu R (Bh R root) root<=100000) :
  Calls prog 29 #[.pointer (some ⟨p,0,none⟩),.int .i64 root,.agg #[.int .i64 fr.obj,.int .i64 fr.kind,.int .i64 fr.off],.agg #[.int .i64 «to».obj,.int .i64 «to».kind,.int .i64 «to».off],.int .i64 most] w λe w'=>∃A n c,e=.returned (.tuple #[.slice A n c,.int .i64 (D8 R fr «to» most root).2])/\J5 w' w.1.size A n c (D8 R fr «to» most root).1/\Below w.1.size w w':=by
 obtain⟨G,d⟩:∃G,D8 R fr «to» most root=G:=⟨_,rfl⟩;rw[d];unfold D8 at d;obtain⟨K1,K2,b2⟩:=Qa9 w fr «to»;have F:Below w.1.size w (((w.alloc (.cells #[.int .i64 fr.obj,.int .i64 fr.kind,.int .i64 fr.off] 81)).alloc (.cells #[.int .i64 «to».obj,.int .i64 «to».kind,.int .i64 «to».off] 81)).alloc (.cells #[.int .i64 most] 3)):=b2.alloc (by simp;omega) _;have Q:Below ((w.alloc (.cells #[.int .i64 fr.obj,.int .i64 fr.kind,.int .i64 fr.off] 81)).alloc (.cells #[.int .i64 «to».obj,.int .i64 «to».kind,.int .i64 «to».off] 81)).1.size _ (((w.alloc (.cells #[.int .i64 fr.obj,.int .i64 fr.kind,.int .i64 fr.off] 81)).alloc (.cells #[.int .i64 «to».obj,.int .i64 «to».kind,.int .i64 «to».off] 81)).alloc (.cells #[.int .i64 most] 3)):=Ql;have u:=K1.below Q K1.lt;have P:=K2.below Q K2.lt;have V3:(((w.alloc (.cells #[.int .i64 fr.obj,.int .i64 fr.kind,.int .i64 fr.off] 81)).alloc (.cells #[.int .i64 «to».obj,.int .i64 «to».kind,.int .i64 «to».off] 81)).alloc (.cells #[.int .i64 most] 3)).1[w.1.size+2]?=some (.cells #[.int .i64 most] 3 (0,0)):=by
  have:=BE ((w.alloc (.cells #[.int .i64 fr.obj,.int .i64 fr.kind,.int .i64 fr.off] 81)).alloc (.cells #[.int .i64 «to».obj,.int .i64 «to».kind,.int .i64 «to».off] 81)) (.cells #[.int .i64 most] 3);rwa [BH,BH] at this
 have z3:(((w.alloc (.cells #[.int .i64 fr.obj,.int .i64 fr.kind,.int .i64 fr.off] 81)).alloc (.cells #[.int .i64 «to».obj,.int .i64 «to».kind,.int .i64 «to».off] 81)).alloc (.cells #[.int .i64 most] 3)).1.size=w.1.size+3:=by simp
 have c3:=cell_of_one V3;clear K1 K2 b2 Q;by_cases h0:root=0
 ·rw[AA (.inl h0)] at d;subst h0;subst d;go_enter func29,ntmps29
  go_wp2_with fail
  go_ret2;exact⟨none,0,0,rfl,P6 _ _,F⟩
 ·have g1:(root==0)=false:=by simp[h0]
  have g2:decide (root=0)=false:=AH h0;by_cases hm:most<1
  ·rw[AA (.inr hm)] at d;subst d;clear h0 D;go_enter func29,ntmps29
   go_wp2_with fail
   go_ret2;exact⟨none,0,0,rfl,P6 _ _,F⟩
  ·rw[AB (by rintro (h|h);exact h0 h;exact hm h)] at d;have W:=D h0;have X:=HI (H.node _ F (ht.below F ht.1) root);have y:=H.may root;obtain⟨M,E,hR⟩:∃M E,R root=(M,E):=⟨_,_,rfl⟩;have HR:=HI hR;rw[hR] at X y;have y:E=0->M.may=true:=y;have hl:Bh R root=M.lvl.toNat:=by unfold Bh;rw[hR]
   rw[hl] at d W;clear hR hl h0 D;by_cases hE:E=0
   ·subst hE;have K:=y rfl;have b0:0<=M.lvl/\M.lvl<8:=by
     by_cases h1:M.lvl=0
     ·omega
     ·have:=q0o K h1;omega
    obtain⟨l,hl⟩:∃l,M.lvl.toNat=l:=⟨_,rfl⟩;have U:M.lvl=(l:Int):=by omega
    rw[hl] at d W;rw[q9f HR.out [] U] at d;rw[q3s HR.out] at W;have Hc:=HI W;have HG:=HI d;have a7:=HI U;have a2:=u.c0;have a3:=u.c1;have a4:=u.c2;clear W d U hl b0 y;go_enter func29,ntmps29
    go_wp2_with fail
    refine X.out.mono ?_;generalize ((w.alloc (.cells #[.int .i64 fr.obj,.int .i64 fr.kind,.int .i64 fr.off] 81)).alloc (.cells #[.int .i64 «to».obj,.int .i64 «to».kind,.int .i64 «to».off] 81)).alloc (.cells #[.int .i64 most] 3)=w3 at u P V3 z3 c3 F a2 a3 a4 ⊢;rintro e f ⟨A1,n1,c1,B1,m1,d1,rfl,a1,a0,hI,J,Z⟩;have Hd:=qpr a1 a0 hI J;have N4:NB (f.alloc (.cells #[.int .i64 0,.slice none 0 0,.slice none 0 0] 108)) f.1.size 0 none 0 0 none 0 0:=NB.new f _ _ _ _ _ _ _ _;have b5:Below f.1.size f (f.alloc (.cells #[.int .i64 0,.slice none 0 0,.slice none 0 0] 108)):=Ql;have z4:=Z.size;clear hI J X c3 a2 a3 a4;go_wp2_with (first
     |(refine Ae rfl (.tmp 12) _ rfl f.1.size rfl M.lvl A1 n1 c1 B1 m1 d1 rfl N4 ?_;intro m N6 T6;have B:Turn (λ_=>False) f m:=(Zb (S:=λ_=>False) b5).trans T6 (λk h=>.inr (by have h:k=f.1.size:=h;omega));have z6:=B.size;have b1:=N6.lt;have T:Below m.1.size m (m.alloc (.cells #[.slice none 0 0] 77)):=Ql;have I:Turn (λ_=>False) w3 (m.alloc (.cells #[.slice none 0 0] 77)):=((Zb (S:=λ_=>False) Z).trans B (λ_ h=>.inl h)).trans (Zb (S:=λ_=>False) T) (λ_ h=>.inl h);have K7:=u.keep (I.block _ u.lt (λh=>h));have k0:=K7.c0;have k1:=K7.c1;have k2:=K7.c2;have N7:=N6.below T N6.lt;have q0:=N7.c0;have q1:=N7.c1;have q2:=N7.c2)
     |fail)
    have a8:Turn (λ_=>False) f (m.alloc (.cells #[.slice none 0 0] 77)):=B.trans (Zb (S:=λ_=>False) T) (λ_ h=>.inl h);have a6:=Hd.turn a8 (λ_ _ _ h=>h);have V7:(m.alloc (.cells #[.slice none 0 0] 77)).1[m.1.size]?=some (.cells #[.slice none 0 0] 77 (0,0)):=BE m _;have z7:(m.alloc (.cells #[.slice none 0 0] 77)).1.size=m.1.size+1:=by simp
    have S7:Le (m.alloc (.cells #[.slice none 0 0] 77)) w.1.size (m.1.size+1) m.1.size (w.1.size+2) (w.1.size+1) most «to» none []:=by
     have a9:=P.lt;exact⟨⟨_,0,V7,P6 _ _,λk h=>(by cases h)⟩,⟨_,(I.block _ (by omega) (λh=>h)).trans V3⟩,P.keep (I.block _ a9 (λh=>h)),by omega,⟨by omega,by omega,by omega,by omega,by omega,by omega⟩⟩
    have B7:Below w.1.size w (m.alloc (.cells #[.slice none 0 0] 77)):=F.trans (I.below (λ_ h=>h.elim) F.size);clear k0 k1 k2 q0 q1 q2;refine (qgu H ht fr «to» most (lim:=w.1.size) (base:=m.1.size+1) (vb:=m.1.size) (mb:=w.1.size+2) (tb:=w.1.size+1) (by omega) rfl l _ M w3.1.size f.1.size A1 n1 c1 B1 m1 d1 none [] B7 S7 a6 (λk h1 h2 h=>by
     rcases h with h|h
     ·omega
     ·cases h) (by omega) K a7.out (AW _) (by have:=Hc.out;simpa using this)).mono ?_
    rw[HG.out];rintro e w8 ⟨rfl,A8,h8,X8,b6⟩;have B8:Below w.1.size w w8:=B7.trans (X8.below (λk hk=>by
     rcases hk with h|h
     ·omega
     ·cases h) B7.size)
    by_cases g:G.2=0
    ·have g3:(G.2==0)=true:=by simp[g]
     have g4:(G.2 != 0)=false:=by simp[g]
     obtain⟨⟨t,c,hv,row,-⟩,-⟩:=h8 g;have b7:=cell_of_one hv;have a5:=HI g;clear g;go_wp2_with fail
     go_ret2;exact⟨A8,_,c,by rw[a5.out];rfl,row,B8⟩
    ·have g3:(G.2==0)=false:=by simp[g]
     have g4:(G.2 != 0)=true:=by simp[g]
     have O:G.1=[]:=by
      have h:=g;rw[<-HG.out] at h ⊢;exact qmz _ _ _ h
     have Y:=HI O;clear g h8 O;go_wp2_with fail
     go_ret2;exact⟨none,0,0,rfl,by rw[Y.out];exact P6 _ _,B8⟩
   ·have g3:(E==0)=false:=by simp[hE]
    have g4:(E != 0)=true:=by simp[hE]
    rw[q72 (by rw[HR.out];exact hE)] at d;rw[HR.out] at d;subst d;clear hE y W;go_enter func29,ntmps29
    go_wp2_with fail
    refine X.out.mono ?_;rintro e f ⟨A1,n1,c1,B1,m1,d1,rfl,a1,a0,hI,J,Z⟩;have N4:NB (f.alloc (.cells #[.int .i64 0,.slice none 0 0,.slice none 0 0] 108)) f.1.size 0 none 0 0 none 0 0:=NB.new f _ _ _ _ _ _ _ _;have b5:Below f.1.size f (f.alloc (.cells #[.int .i64 0,.slice none 0 0,.slice none 0 0] 108)):=Ql;clear hI J X c3;go_wp2_with (first
     |(refine Ae rfl (.tmp 12) _ rfl f.1.size rfl M.lvl A1 n1 c1 B1 m1 d1 rfl N4 ?_;intro m N6 T6)
     |fail)
    go_ret2;have B:Turn (λ_=>False) f m:=(Zb (S:=λ_=>False) b5).trans T6 (λk h=>.inr (by have h:k=f.1.size:=h;omega));exact⟨none,0,0,rfl,P6 _ _,F.trans ((Z.mono F.size).trans (B.below (λ_ h=>h.elim) (by have:=Z.size;have:=F.size;omega)))⟩
