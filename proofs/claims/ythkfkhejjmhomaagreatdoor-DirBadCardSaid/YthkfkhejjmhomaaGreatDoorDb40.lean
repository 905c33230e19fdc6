/- What a scan tells from a node on; how many items there are below a node -/
import Derived.Test.YthkfkhejjmhomaaGreatDoorDb39
namespace Go.Proofs.YthkfkhejjmhomaaGreatDoor
open Go Go.RowKit Go.Proofs
set_option maxHeartbeats 16000000
set_option maxRecDepth 100000
def Vt (R:Int->Nd × Int)(fr «to»:Kd)(most:Nat):Nat->Nd->List Qb->List Qb × Int
 |0,M,acc=>((acc++within fr «to» M.items).take most,0)
 |l+1,M,acc=>Xx (Jl R fr «to» most l) «to» most (M.kids.drop (M.Zc fr)) acc
theorem q92 {R:Int->Nd × Int}{fr «to»:Kd}{most:Nat}{a:Int}{M:Nd}(h:R a=(M,0))(d:List Qb):∀{l:Nat},M.lvl=(l:Int)->Jl R fr «to» most l a d=Vt R fr «to» most l M d
 |0,hl=>by
  unfold Jl Vt;rw[h];dsimp only;rw[if_neg (by simp),if_neg (by simpa using hl)]
 |l+1,hl=>by
  unfold Jl Vt;rw[h];dsimp only;rw[if_neg (by simp),if_neg (by simpa using hl)]
theorem q6o {R:Int->Nd × Int}{fr «to»:Kd}{most:Nat}{a:Int}(h:(R a).2≠0)(d:List Qb):∀l:Nat,Jl R fr «to» most l a d=([],(R a).2)
 |0=>by unfold Jl;rw[if_pos h]
 |l+1=>by unfold Jl;rw[if_pos h]
theorem qas {R:Int->Nd × Int}{fr «to»:Kd}{most:Nat}{a:Int}(h:(R a).2=0)(d:List Qb):∀{l:Nat},(R a).1.lvl≠(l:Int)->Jl R fr «to» most l a d=([],5)
 |0,hl=>by unfold Jl;rw[if_neg (by simpa using h),if_pos (by simpa using hl)]
 |l+1,hl=>by unfold Jl;rw[if_neg (by simpa using h),if_pos hl]
theorem qcd {f:Int->List Qb->List Qb × Int}{«to»:Kd}{most:Nat}:∀(kids:List Qj) (d:List Qb),(Xx f «to» most kids d).2≠0->(Xx f «to» most kids d).1=[]
 |[],d,h=>absurd rfl h
 |x::r,d,h=>by
  unfold Xx at h ⊢;by_cases e:«to».less x.k=true\/most<=d.length
  ·rw[if_pos e] at h;exact absurd rfl h
  ·rw[if_neg e] at h ⊢;by_cases h1:(f x.a d).2=0
   ·rw[if_neg (by simpa using h1)] at h ⊢;exact qcd r _ h
   ·rw[if_pos h1]
theorem qmk {R:Int->Nd × Int}{fr «to»:Kd}{most:Nat}:∀(l:Nat) (M:Nd) (d:List Qb),(Vt R fr «to» most l M d).2≠0->(Vt R fr «to» most l M d).1=[]
 |0,_,_,h=>absurd rfl h
 |_+1,_,_,h=>qcd _ _ h
def Zt (R:Int->Nd × Int):Nat->Int->Nat
 |0,a=>if (R a).2≠0 then 0 else (R a).1.items.length
 |l+1,a=>if (R a).2≠0 then 0 else ((R a).1.kids.map λx=>Zt R l x.a).sum
def U6 (R:Int->Nd × Int):Nat->Nd->Nat
 |0,M=>M.items.length
 |l+1,M=>(M.kids.map λx=>Zt R l x.a).sum
theorem q3g {R:Int->Nd × Int}{a:Int}{M:Nd}(h:R a=(M,0)):∀l,Zt R l a=U6 R l M
 |0=>by unfold Zt U6;rw[h];dsimp only;rw[if_neg (by simp)]
 |l+1=>by unfold Zt U6;rw[h];dsimp only;rw[if_neg (by simp)]
theorem qkb (l:List Nat):∀n,(l.drop n).sum<=l.sum:=λn=>by
 conv=>rhs;rw[<-List.take_append_drop n l]
 rw[List.sum_append];omega
theorem qfw {f:Int->List Qb->List Qb × Int}{«to»:Kd}{most:Nat}{cnt:Int->Nat}(m:∀x d,d.length<=most->(f x d).2=0->(f x d).1.length<=most/\(f x d).1.length<=d.length+cnt x) :
  ∀(kids:List Qj) (d:List Qb),d.length<=most->(Xx f «to» most kids d).2=0->(Xx f «to» most kids d).1.length<=most/\(Xx f «to» most kids d).1.length<=d.length+(kids.map λx=>cnt x.a).sum
 |[],d,ha,_=>by
  unfold Xx;exact⟨ha,by simp⟩
 |x::r,d,ha,h0=>by
  unfold Xx at h0 ⊢;by_cases e:«to».less x.k=true\/most<=d.length
  ·rw[if_pos e];exact⟨ha,by simp⟩
  ·rw[if_neg e] at h0 ⊢;by_cases h1:(f x.a d).2=0
   ·rw[if_neg (by simpa using h1)] at h0 ⊢;obtain⟨p,y⟩:=m x.a d ha h1;obtain⟨u,A⟩:=qfw m r _ p h0;refine⟨u,?_⟩;rw[List.map_cons,List.sum_cons];omega
   ·rw[if_pos h1] at h0;exact absurd h0 h1
theorem qfx {R:Int->Nd × Int}{fr «to»:Kd}{most:Nat}:∀(l:Nat) (a:Int) (d:List Qb),d.length<=most->(Jl R fr «to» most l a d).2=0->(Jl R fr «to» most l a d).1.length<=most/\(Jl R fr «to» most l a d).1.length<=d.length+Zt R l a
 |0,a,d,ha,h0=>by
  by_cases h1:(R a).2=0
  ·by_cases h2:(R a).1.lvl=0
   ·have e:R a=((R a).1,0):=Prod.ext rfl h1;rw[q92 e d (l:=0) (by simpa using h2),q3g e];unfold Vt U6;dsimp only;have:(within fr «to» (R a).1.items).length<=(R a).1.items.length:=List.length_filter_le ..;rw[List.length_take,List.length_append];omega
   ·rw[qas h1 d (l:=0) (by simpa using h2)] at h0
    cases h0
  ·rw[q6o h1] at h0;exact absurd h0 h1
 |l+1,a,d,ha,h0=>by
  by_cases h1:(R a).2=0
  ·by_cases h2:(R a).1.lvl=((l+1:Nat):Int)
   ·have e:R a=((R a).1,0):=Prod.ext rfl h1;rw[q92 e d h2] at h0 ⊢;rw[q3g e];unfold Vt at h0 ⊢;obtain⟨f,m⟩:=qfw (cnt:=Zt R l) (λx d p h=>qfx l x d p h) _ _ ha h0;refine⟨f,Nat.le_trans m ?_⟩;show _<=d.length+((R a).1.kids.map λx=>Zt R l x.a).sum;rw[List.map_drop];have:=qkb ((R a).1.kids.map λx=>Zt R l x.a) ((R a).1.Zc fr);omega
   ·rw[qas h1 d h2] at h0
    cases h0
  ·rw[q6o h1] at h0;exact absurd h0 h1
theorem qfy (f:Qj->Nat):∀(kids:List Qj) (parts:List (List Qb)),parts.length=kids.length->(∀j,j<kids.length->f (Qe kids j)<=(parts.getD j []).length)->(kids.map f).sum<=parts.flatten.length
 |[],parts,_,_=>by simp
 |x::r,[],h,_=>by simp at h
 |x::r,p::ps,h,hf=>by
  rw[List.map_cons,List.sum_cons,List.flatten_cons,List.length_append];have h0:=hf 0 (by simp);have h0:f x<=p.length:=h0;have:=qfy f r ps (by simpa using h) λj e=>by
   have:=hf (j+1) (by simpa using e);rw[getD_cons_succ] at this;have d:Qe (x::r) (j+1)=Qe r j:=by unfold Qe;rw[getD_cons_succ]
   rwa [d] at this
  omega
theorem qce {R R':Int->Nd × Int}(h:P7 R R'):∀{l:Nat} {a:Int} {its:List Qb},Qm R l a its->Zt R' l a<=its.length
 |0,a,its,hh=>by
  rcases h a (by rw[hh.1]) with e|e
  ·unfold Zt;rw[e,hh.1];simp
  ·unfold Zt;rw[if_pos (by rw[e];decide)];omega
 |l+1,a,its,hh=>by
  obtain⟨kids,parts,h1,h2,f,rfl,m⟩:=hh;rcases h a (by rw[h1]) with e|e
  ·have d:R' a=(⟨((l+1:Nat):Int),[],kids⟩,0):=e.trans h1;rw[q3g d];unfold U6;exact qfy _ kids parts f λj p=>qce h (m j p).1
  ·unfold Zt;rw[if_pos (by rw[e];decide)];omega
theorem qqu (R:Int->Nd × Int):P7 R R:=λ_ _=>.inl rfl
theorem qml {R R':Int->Nd × Int}(d:P7 R R'){root:Int}{its:List Qb}(h:Ji R root its)(h0:root≠0):Zt R' (Ui R' root) root<=its.length:=by
 rcases h with⟨rfl,rfl⟩|⟨l,_,h,h1,_⟩
 ·exact absurd rfl h0
 ·obtain⟨f,u,p⟩:=D8 h;rcases d root p with e|e
  ·have:Ui R' root=l:=by unfold Ui;rw[e];exact f
   rw[this];exact qce d h
  ·generalize Ui R' root=m
   cases m with
   |zero=>unfold Zt;rw[if_pos (by rw[e];decide)];omega
   |succ m=>unfold Zt;rw[if_pos (by rw[e];decide)];omega
theorem qur (R:Int->Nd × Int)(fr «to»:Kd)(most:Nat){l:Nat}{L:Int}(u:L=((l+1:Nat):Int))(x:Int)(d:List Qb) :
  (Aq R L x≠0/\Jl R fr «to» most l x d=([],Aq R L x))\/(Aq R L x=0/\R x=(Dp R L x,0)/\(Dp R L x).lvl=(l:Int)/\Jl R fr «to» most l x d=Vt R fr «to» most l (Dp R L x) d):=by
 by_cases h1:(R x).2=0
 ·have e:Aq R L x=if (R x).1.lvl≠L-1 then 5 else 0:=if_neg (by simpa using h1)
  have f:Dp R L x=if (R x).1.lvl≠L-1 then Zp else (R x).1:=if_neg (by simpa using h1)
  by_cases h2:(R x).1.lvl=L-1
  ·rw[if_neg (by simpa using h2)] at e f;have p:(R x).1.lvl=(l:Int):=by omega
   have m:R x=((R x).1,0):=Prod.ext rfl h1;rw[e,f];exact .inr ⟨rfl,m,p,q92 m d p⟩
  ·rw[if_pos h2] at e;rw[e];exact .inl ⟨by omega,qas h1 d (λh=>h2 (by omega))⟩
 ·have e:Aq R L x=(R x).2:=if_pos h1;rw[e];exact .inl ⟨h1,q6o h1 d l⟩
theorem qus {l:List Qj}{j:Nat}(h:j<l.length):l.drop j=Qe l j::l.drop (j+1):=by
 have d:=q12 h;rw[List.getElem?_eq_getElem h] at d;rw[<-List.getElem_cons_drop (h:=h),Option.some.inj d]
def Vo (vb:Nat)(A:Option Addr):Nat->Prop:=λk=>k=vb\/q01 A=some k
theorem qmm {p:Nat}(fr «to»:Kd)(most:Int){lim base vb mb tb:Nat}(w:World)(M:Nd)(lo hi:Nat)(J:Option Addr)(B c1:Nat)(K:Option Addr)(T P:Nat)(A:Option Addr)(m:List Qb)
  (S:Ip w lim base vb mb tb most «to» A m) (Hd:Held w lo hi J B c1 K T P M) (U:∀k,lo<=k->k<hi->¬Vo vb A k) (d0:lim<=lo) (W:M.may=true) (hl:M.lvl=0) (ha:m.length<=most.toNat) (hc:m.length+M.items.length<=100000) :
  Calls Tryz.prog 56 #[.pointer (some ⟨p,0,none⟩),.agg #[.int .i64 M.lvl,.slice J B c1,.slice K T P],.agg #[.int .i64 fr.obj,.int .i64 fr.kind,.int .i64 fr.off],.func (.func 54) #[] #[.pointer (some ⟨vb,0,none⟩),.pointer (some ⟨mb,0,none⟩),.pointer (some ⟨tb,0,none⟩)],.func (.func 57) #[] #[.pointer (some ⟨vb,0,none⟩)]] w λe w'=>
   e=.returned (.int .i64 0)/\∃F,Ip w' lim base vb mb tb most «to» F ((m++within fr «to» M.items).take most.toNat)/\Turn (Vo vb A) w w'/\∀k,q01 F=some k->q01 A=some k\/w.1.size<=k:=by
 obtain⟨hM,Y,c8,c9⟩:=q19 W hl;obtain⟨t,a1⟩:∃t,M.Zc fr=t:=⟨_,rfl⟩;obtain⟨r,hr⟩:∃r,Vd M.keys fr t=r:=⟨_,rfl⟩;have b8:t=lead (M.items.map (·.k)) fr:=by
  rw[<-a1,hM];unfold Nd.Zc;rw[if_pos rfl,q1m]
 have b9:t<=M.items.length:=by have:=qb2 (M.items.map (·.k)) fr;rw[List.length_map] at this;omega
 have hG:Gt «to» most.toNat (M.items.drop t) m=(m++within fr «to» M.items).take most.toNat:=by rw[b8];exact qpg Y fr «to» m ha
 obtain⟨G,b0⟩:∃G,(m++within fr «to» M.items).take most.toNat=G:=⟨_,rfl⟩;rw[b0] at hG ⊢;have N1:NB ((w.alloc (.cells #[.int .i64 M.lvl,.slice J B c1,.slice K T P] 77)).alloc (.cells #[.int .i64 fr.obj,.int .i64 fr.kind,.int .i64 fr.off] 45)) w.1.size M.lvl J B c1 K T P:=(NB.new w _ _ _ _ _ _ _ _).below (Qk) (by simp);have b1:Below w.1.size w ((w.alloc (.cells #[.int .i64 M.lvl,.slice J B c1,.slice K T P] 77)).alloc (.cells #[.int .i64 fr.obj,.int .i64 fr.kind,.int .i64 fr.off] 45)):=(Qk).alloc (by simp) _;have z1:((w.alloc (.cells #[.int .i64 M.lvl,.slice J B c1,.slice K T P] 77)).alloc (.cells #[.int .i64 fr.obj,.int .i64 fr.kind,.int .i64 fr.off] 45)).1.size=w.1.size+2:=by simp
 have K1:KB ((w.alloc (.cells #[.int .i64 M.lvl,.slice J B c1,.slice K T P] 77)).alloc (.cells #[.int .i64 fr.obj,.int .i64 fr.kind,.int .i64 fr.off] 45)) (w.1.size+1) fr:=KB.new2 w _ fr.obj fr.kind fr.off _;have I:M.items.length=B:=Hd.rows.1.Yc.len;have c7:∀k,Vo vb A k->k<w.1.size:=λk E=>by
  obtain⟨⟨_,_,hv,row,_⟩,_⟩:=S;rcases E with rfl|E
  ·exact Kw hv
  ·exact (row.Qc k E).2
 have S1:=S.below b1;have O:=Hd.below b1;obtain⟨r1,s1⟩:=O.rows;have a6:=Lib.hid (q2i M (Me W) fr t a1 r hr J B c1 K T P _ r1.Yc s1 (by have:=Hd.2.1;omega) (by have:=Hd.2.2.1;omega));have g1:(M.lvl==0)=true:=by rw[hl];rfl
 have g2:decide (M.lvl=0)=true:=decide_eq_true hl;rw[I] at b9 hc;have HG:=Lib.hid hG;have I:=Lib.hid I;have p0:=N1.c0;have p1:=N1.c1;have p2:=N1.c2;have k0:=K1.c0;have k1:=K1.c1;have k2:=K1.c2;clear hM Y c8 c9 a1 hr b8 hG b0 r1 s1 hl K1 S Hd;go_enter Tryz.func56,Tryz.ntmps56
 go_wp2_with fail
 refine a6.out.mono ?_;generalize (w.alloc (.cells #[.int .i64 M.lvl,.slice J B c1,.slice K T P] 77)).alloc (.cells #[.int .i64 fr.obj,.int .i64 fr.kind,.int .i64 fr.off] 45)=w1 at N1 b1 z1 S1 O p0 p1 p2 k0 k1 k2 ⊢;rintro e w2 ⟨rfl,b2⟩;have N2:=N1.below b2 N1.lt;have S2:=S1.below b2;have a2:=O.below b2;have B2:=b1.trans (b2.mono b1.size);have z2:=b2.size;clear p0 p1 p2 k0 k1 k2 a6 N1 S1 O b1 b2;have p0:=N2.c0;go_wp2_with fail
 clear p0;go_loopw [11] (λiv wr=>∃(j:Nat) (F:Option Addr) (d:List Qb),j<=B/\iv=.int .i64 (j:Int)/\Ip wr lim base vb mb tb most «to» F d/\Gt «to» most.toNat (M.items.drop j) d=G/\d.length+(B-j)<=100000/\Turn (Vo vb A) w2 wr/\∀k,q01 F=some k->q01 A=some k\/w2.1.size<=k) (λiv _=>B-(intOf iv).toNat)
 case atStart=>exact⟨t,A,m,b9,rfl,S2,HG.out,by omega,Turn.refl _ _,λk E=>.inl E⟩
 case round=>
  obtain⟨j,F,d,d4,rfl,S',y,d2,X,Q⟩:=hrel;have Nr:=N2.turned X (λh=>by have:=c7 _ h;omega);have Hr:=a2.turn X U;have p1:=Nr.c1;have out:d=G->∃F,Ip wr lim base vb mb tb most «to» F G/\Turn (Vo vb A) w wr/\∀k,q01 F=some k->q01 A=some k\/w.1.size<=k:=λe=>by
   refine⟨F,e▸S',(Qx (S:=Vo vb A) B2).trans X (λk h=>.inl h),λk E=>(Q k E).imp id λh=>by have:=B2.size;omega⟩
  have a7:=Lib.hid out;clear out;by_cases b7:j<B
  ·obtain⟨g,o,V,pp,qq,rfl,hg,c0,a8,c2,c3,hs,R⟩:=Hr.vals j b7;have b3:=qwl (l:=M.items) (j:=j) (by rw[I.out];exact b7);rw[b3] at y;clear b3;obtain⟨x,hx⟩:∃x,Zb M.items j=x:=⟨_,rfl⟩;rw[hx] at c0 a8 c2 hs R y;clear hx;have e0:(0:Int)<=(j:Int):=by omega
   have e1:(j:Int)<(B:Int):=by omega
   obtain⟨_,d3⟩:=Hr.rows.1.Yc.bounds;obtain⟨rr,u⟩:∃rr,(decide ((d.length:Int)<most)&&!(«to».less x.k))=rr:=⟨_,rfl⟩;have Hw:=Lib.hid (qar S' x.k rr u)
   cases rr with
   |false=>
    have f:d=G:=by
     rw[<-y];unfold Gt;rw[if_pos ?_];rw[Bool.and_eq_false_iff] at u;rcases u with h|h
     ·exact .inr (by have:=of_decide_eq_false h;omega)
     ·exact .inl (by simpa using h)
    have f:=Lib.hid f;clear y u hs R c3;go_wp2_with (first
     |(go_at_call 54;refine Hw.out.mono ?_;rintro e w4 ⟨rfl,D⟩)
     |fail)
    go_ret;obtain⟨A9,S9,X9,h9⟩:=a7.out f.out;exact⟨rfl,A9,S9.below D,X9.trans (Qx (S:=Vo vb A) D) (λk h=>.inl h),h9⟩
   |true=>
    have b5:Gt «to» most.toNat (M.items.drop (j+1)) (d++[x])=G:=by
     rw[<-y];conv=>rhs;unfold Gt
     rw[if_neg ?_];rw[Bool.and_eq_true] at u;rintro (h|h)
     ·rw[h] at u;simp at u
     ·have:=of_decide_eq_true u.1;omega
    have H:x.v≠[]->∀g,q01 V=some g->lim<=g/\q01 F≠some g:=λhv b hb=>by
     obtain⟨h1,h2⟩:=R hv b hb;refine⟨Nat.le_trans d0 h1,λh=>?_⟩;rcases Q b h with h3|h3
     ·exact U b h1 h2 (.inr h3)
     ·have:=a2.1;omega
    have c6:=Lib.hid b5;have Hs:=Lib.hid (λw4 (D:Below wr.1.size wr w4)=>qqn (S'.below D) x V pp qq (hs.below D) H (by omega));have Z:=Lib.hid (λw4 (D:Below wr.1.size wr w4)=>(⟨(D.cell (p:=⟨g,_,none⟩) hg).trans c0,(D.cell (p:=⟨g,_,none⟩) hg).trans a8,(D.cell (p:=⟨g,_,none⟩) hg).trans c2,(D.cell (p:=⟨g,_,none⟩) hg).trans c3⟩:_/\_/\_/\_));clear y u hs R b5 H;go_wp2_with (first
     |(go_at_call 54;refine Hw.out.mono ?_;rintro e w4 ⟨rfl,D⟩;obtain⟨y0,y1,y2,y3⟩:=Z.out w4 D;have q1:=(Nr.below D Nr.lt).c1)
     |(go_at_call 57;refine (Hs.out w4 D).mono ?_;rintro e w5 ⟨rfl,A5,S5,X5,h5⟩)
     |fail)
    refine⟨⟨j+1,A5,d++[x],by omega,by go_num,S5,c6.out,by simp;omega,(X.trans (Qx (S:=Vo vb A) D) (λk h=>.inl h)).trans X5 (λk E=>?_),λk E=>?_⟩,by simp[intOf];omega⟩
    ·rcases E with rfl|E
     ·exact .inl (.inl rfl)
     ·exact (Q k E).imp (λh=>.inr h) id
    ·rcases h5 k E with h|h
     ·exact Q k h
     ·exact .inr (by have:=X.size;have:=D.size;omega)
  ·have b6:j=B:=by omega
   have f:d=G:=by
    rw[<-y,List.drop_eq_nil_of_le (by rw[I.out];omega)];rfl
   have f:=Lib.hid f;have e1:¬(j:Int)<(B:Int):=by omega
   clear y b6;go_wp2_with fail
   go_ret;obtain⟨A9,S9,X9,h9⟩:=a7.out f.out;exact⟨rfl,A9,S9,X9,h9⟩
theorem qmn (f:Int->List Qb->List Qb × Int)(«to»:Kd)(most:Nat)(x:Qj)(r:List Qj)(d:List Qb):Xx f «to» most (x::r) d=if «to».less x.k=true\/most<=d.length then (d,0) else if (f x.a d).2≠0 then ([],(f x.a d).2) else Xx f «to» most r (f x.a d).1:=rfl
def qe2 (F:World)(p:Nat)(R:Int->Nd × Int)(fr «to»:Kd)(most:Int)(lim base vb mb tb:Nat)(l:Nat):Prop:=
 ∀(w:World) (M:Nd) (lo hi:Nat) (m:Option Addr) (D c1:Nat) (u:Option Addr) (B y:Nat) (A:Option Addr) (d:List Qb),Below F.1.size F w->Ip w lim base vb mb tb most «to» A d->Held w lo hi m D c1 u B y M->(∀k,lo<=k->k<hi->¬Vo vb A k)->lim<=lo->M.may=true->M.lvl=(l:Int)->d.length<=most.toNat->d.length+U6 R l M<=100000->
  Calls Tryz.prog 56 #[.pointer (some ⟨p,0,none⟩),.agg #[.int .i64 M.lvl,.slice m D c1,.slice u B y],.agg #[.int .i64 fr.obj,.int .i64 fr.kind,.int .i64 fr.off],.func (.func 54) #[] #[.pointer (some ⟨vb,0,none⟩),.pointer (some ⟨mb,0,none⟩),.pointer (some ⟨tb,0,none⟩)],.func (.func 57) #[] #[.pointer (some ⟨vb,0,none⟩)]] w λe E=>
   e=.returned (.int .i64 (Vt R fr «to» most.toNat l M d).2)/\∃f,((Vt R fr «to» most.toNat l M d).2=0->Ip E lim base vb mb tb most «to» f (Vt R fr «to» most.toNat l M d).1)/\Turn (Vo vb A) w E/\∀k,q01 f=some k->q01 A=some k\/w.1.size<=k
theorem qmo {w0:World}{p:Nat}{R:Int->Nd × Int}(H:Src w0 p R)(g6:Tab w0)(fr «to»:Kd)(most:Int){lim base vb mb tb:Nat}(j9:w0.1.size<=vb)(Z:w0.1.size=lim)(l:Nat)(e7:qe2 w0 p R fr «to» most lim base vb mb tb l):qe2 w0 p R fr «to» most lim base vb mb tb (l+1):=by
 intro w M lo hi A1 n1 c1 B1 J d1 A W B0 S Hd f4 k6 b3 hl ha hc;have IH:=Lib.hid e7;have e4:=Lib.hid Z;clear e7;obtain⟨-,i7,i9,i8,f9,g5⟩:=Pe b3 (by rw[hl];omega);obtain⟨t,a8⟩:∃t,M.Zc fr=t:=⟨_,rfl⟩;obtain⟨r,hr⟩:∃r,Vd M.keys fr t=r:=⟨_,rfl⟩;have g7:=g5 fr;rw[a8] at g7;obtain⟨G,d3⟩:∃G,Vt R fr «to» most.toNat (l+1) M W=G:=⟨_,rfl⟩;have hG:Xx (Jl R fr «to» most.toNat l) «to» most.toNat (M.kids.drop t) W=G:=by rw[<-d3,<-a8];rfl
 rw[d3];have f3:W.length+((M.kids.drop t).map λx=>Zt R l x.a).sum<=100000:=by
  have h1:=qkb (M.kids.map λx=>Zt R l x.a) t;rw[<-List.map_drop] at h1;have h2:W.length+(M.kids.map λx=>Zt R l x.a).sum<=100000:=hc;omega
 have N1:NB ((w.alloc (.cells #[.int .i64 M.lvl,.slice A1 n1 c1,.slice B1 J d1] 77)).alloc (.cells #[.int .i64 fr.obj,.int .i64 fr.kind,.int .i64 fr.off] 45)) w.1.size M.lvl A1 n1 c1 B1 J d1:=(NB.new w _ _ _ _ _ _ _ _).below (Qk) (by simp);have b1:Below w.1.size w ((w.alloc (.cells #[.int .i64 M.lvl,.slice A1 n1 c1,.slice B1 J d1] 77)).alloc (.cells #[.int .i64 fr.obj,.int .i64 fr.kind,.int .i64 fr.off] 45)):=(Qk).alloc (by simp) _;have z1:((w.alloc (.cells #[.int .i64 M.lvl,.slice A1 n1 c1,.slice B1 J d1] 77)).alloc (.cells #[.int .i64 fr.obj,.int .i64 fr.kind,.int .i64 fr.off] 45)).1.size=w.1.size+2:=by simp
 have K1:KB ((w.alloc (.cells #[.int .i64 M.lvl,.slice A1 n1 c1,.slice B1 J d1] 77)).alloc (.cells #[.int .i64 fr.obj,.int .i64 fr.kind,.int .i64 fr.off] 45)) (w.1.size+1) fr:=KB.new2 w _ fr.obj fr.kind fr.off _;have k3:J<=20:=Hd.2.2.1;have a1:M.kids.length=J:=by
  have:=Jq.len Hd.rows.2;rwa [List.length_map] at this
 have d5:∀k,Vo vb A k->w0.1.size<=k/\k<w.1.size:=λk I=>by
  obtain⟨⟨_,_,hv,row,_⟩,_⟩:=S;rcases I with rfl|I
  ·exact⟨j9,Kw hv⟩
  ·exact⟨by rw[Z];exact (row.Qc k I).1,(row.Qc k I).2⟩
 clear Z;have S1:=S.below b1;have a2:=Hd.below b1;obtain⟨r1,s1⟩:=a2.rows;have e5:=Lib.hid (q2i M (Me b3) fr t a8 r hr A1 n1 c1 B1 J d1 _ r1.Yc s1 (by have:=Hd.2.1;omega) (by have:=Hd.2.2.1;omega));have g1:(M.lvl==0)=false:=by rw[hl];simp;omega
 have g2:decide (M.lvl=0)=false:=decide_eq_false (by rw[hl];omega);rw[a1] at g7;have HG:=Lib.hid hG;have a1:=Lib.hid a1;have Hl:=Lib.hid hl;have p0:=N1.c0;have p1:=N1.c1;have p2:=N1.c2;have k0:=K1.c0;have k1:=K1.c1;have k2:=K1.c2;have z0:=B0.size;clear a8 hr g5 hG d3 r1 s1 hl S Hd hc i8 f9;go_enter Tryz.func56,Tryz.ntmps56
 go_wp2_with fail
 refine e5.out.mono ?_;generalize (w.alloc (.cells #[.int .i64 M.lvl,.slice A1 n1 c1,.slice B1 J d1] 77)).alloc (.cells #[.int .i64 fr.obj,.int .i64 fr.kind,.int .i64 fr.off] 45)=w1 at N1 b1 z1 S1 a2 K1 p0 p1 p2 k0 k1 k2 ⊢;rintro e w2 ⟨rfl,b2⟩;have N2:=N1.below b2 N1.lt;have K2:=K1.below b2 K1.lt;have S2:=S1.below b2;have g9:=a2.below b2;have B2:=b1.trans (b2.mono b1.size);have z2:=b2.size;clear p0 p1 p2 k0 k1 k2 e5 N1 S1 a2 K1 b1 b2;have p0:=N2.c0;go_wp2_with fail
 clear p0;go_loopw [11,13,14] (λiv _ _ wr=>∃(j:Nat) (A':Option Addr) (d:List Qb),j<=J/\iv=.int .i64 (j:Int)/\Ip wr lim base vb mb tb most «to» A' d/\Xx (Jl R fr «to» most.toNat l) «to» most.toNat (M.kids.drop j) d=G/\d.length<=most.toNat/\d.length+((M.kids.drop j).map λx=>Zt R l x.a).sum<=100000/\Turn (Vo vb A) w2 wr/\∀k,q01 A'=some k->q01 A=some k\/w2.1.size<=k) (λiv _ _ _=>J-(intOf iv).toNat)
 case atStart=>exact⟨t,A,W,by omega,rfl,S2,HG.out,ha,f3,Turn.refl _ _,λk I=>.inl I⟩
 case round=>
  clear ha f3 HG S2;obtain⟨j,A',d,k5,rfl,S',E,ha,T,X,c9⟩:=hrel;have Nr:=N2.turned X (λh=>by have:=(d5 _ h).2;omega);have Kr:=K2.keep (X.block _ K2.lt (λh=>by have:=(d5 _ h).2;omega));have Hr:=g9.turn X f4;have XB:Turn (Vo vb A) w wr:=(Qx (S:=Vo vb A) B2).trans X (λk h=>.inl h);have u:Below w0.1.size w0 wr:=B0.trans (XB.below (λk I=>(d5 k I).1) z0);have p2:=Nr.c2;have e2:=Lib.hid T;clear T;have out:G=(d,0)->∃A',Ip wr lim base vb mb tb most «to» A' G.1/\∀k,q01 A'=some k->q01 A=some k\/w.1.size<=k:=λe=>by
   refine⟨A',by rw[e];exact S',λk I=>(c9 k I).imp id λh=>by have:=B2.size;omega⟩
  have e8:=Lib.hid out;clear out;by_cases d9:j<J
  ·obtain⟨g,o,rfl,hg,c0,c7,c2,c3⟩:=Hr.rows.2.cell d9;obtain⟨_,k4⟩:=Zk.bounds Hr.rows.2;have d7:=qus (l:=M.kids) (j:=j) (by rw[a1.out];exact d9);rw[d7] at E;have e3:=Lib.hid d7;clear d7;have O:=Lib.hid (λw4 (F:Below wr.1.size wr w4)=>qjk H (u.trans (F.mono u.size)) (g6.below (u.trans (F.mono u.size)) g6.1) M.lvl i7 i9 M.kids A1 n1 c1 (some ⟨g,o,none⟩) J d1 (Hr.below F).rows.2 j d9 (Qe M.kids j).a rfl);obtain⟨y,hy⟩:∃y,Qe M.kids j=y:=⟨_,rfl⟩;rw[hy] at c0 c7 c2 E e3 O;clear hy c3;have e0:(0:Int)<=(j:Int):=by omega
   have e1:(j:Int)<(J:Int):=by omega
   obtain⟨rr,D⟩:∃rr,(decide ((d.length:Int)<most)&&!(«to».less y.k))=rr:=⟨_,rfl⟩;have Hw:=Lib.hid (qar S' y.k rr D)
   cases rr with
   |false=>
    as_aux_lemma=>
     have m:G=(d,0):=by
      rw[<-E];unfold Xx;rw[if_pos ?_];rw[Bool.and_eq_false_iff] at D;rcases D with h|h
      ·exact .inr (by have:=of_decide_eq_false h;omega)
      ·exact .inl (by simpa using h)
     replace m:=Lib.hid m;clear E D;go_wp2_with (first
      |(go_at_call 54;refine Hw.out.mono ?_;rintro e w4 ⟨rfl,F⟩)
      |fail)
     go_ret;obtain⟨A9,S9,h9⟩:=e8.out m.out;exact⟨by rw[m.out];rfl,A9,λ_=>S9.below F,XB.trans (Qx (S:=Vo vb A) F) (λk h=>.inl h),h9⟩
   |true=>
    as_aux_lemma=>
     have f:(if (Jl R fr «to» most.toNat l y.a d).2≠0 then ([],(Jl R fr «to» most.toNat l y.a d).2) else Xx (Jl R fr «to» most.toNat l) «to» most.toNat (M.kids.drop (j+1)) (Jl R fr «to» most.toNat l y.a d).1)=G:=by
      have j8:¬(«to».less y.k=true\/most.toNat<=d.length):=by
       rw[Bool.and_eq_true] at D;rintro (h|h)
       ·rw[h] at D;simp at D
       ·have:=of_decide_eq_true D.1;omega
      rw[<-E,qmn,if_neg j8]
     have U:=Lib.hid (qfx (R:=R) (fr:=fr) («to»:=«to») l y.a d ha);have d8:=qur R fr «to» most.toNat Hl.out y.a d;obtain⟨M2,d4⟩:∃M2,Dp R M.lvl y.a=M2:=⟨_,rfl⟩;obtain⟨E2,d0⟩:∃E2,Aq R M.lvl y.a=E2:=⟨_,rfl⟩;rw[d4,d0] at O;rw[d4,d0] at d8;obtain⟨F2,i6⟩:∃F2,Jl R fr «to» most.toNat l y.a d=F2:=⟨_,rfl⟩;rw[i6] at d8 f U;clear d4 d0 E D;have b9:=Lib.hid (λw4 (F:Below wr.1.size wr w4)=>(⟨(F.cell (p:=⟨g,_,none⟩) hg).trans c0,(F.cell (p:=⟨g,_,none⟩) hg).trans c7,(F.cell (p:=⟨g,_,none⟩) hg).trans c2⟩:_/\_/\_));go_wp2_with (first
      |(go_at_call 54;refine Hw.out.mono ?_;rintro e w4 ⟨rfl,F⟩;have N4:=Nr.below F Nr.lt;have u0:=N4.c0;have u1:=N4.c1;have u2:=N4.c2)
      |fail)
     refine (O.out w4 F).mono ?_;rintro e Q ⟨A2,n2,c8,b8,m2,d2,rfl,j7,j0,f1,f2,b5⟩;have i0:=qdp j7 j0 f1 f2;have b6:Below Q.1.size Q (Q.alloc (.cells #[.int .i64 0,.slice none 0 0,.slice none 0 0] 77)):=Qk;have NZ:NB (Q.alloc (.cells #[.int .i64 0,.slice none 0 0,.slice none 0 0] 77)) Q.1.size 0 none 0 0 none 0 0:=NB.new Q _ _ _ _ _ _ _ _;have z4:=F.size;have z5:=b5.size;clear u0 u1 u2 f1 f2 O Hw b9 c0 c7 c2 p2;rcases d8 with⟨hE,hF⟩|⟨hE,hR,g0,hF⟩
     ·as_aux_lemma=>
       rw[hF] at f;rw[if_pos hE] at f;have f:=Lib.hid f;have i5:=Lib.hid hE;have g3:(E2==0)=false:=by simp[hE]
       have g4:(E2 != 0)=true:=by simp[hE]
       clear hE hF;go_wp2_with (first
        |(refine Gp rfl (.tmp 13) _ rfl Q.1.size rfl M2.lvl A2 n2 c8 b8 m2 d2 rfl NZ ?_;intro w6 N6 T6)
        |fail)
       go_ret;have a6:Turn (λ_=>False) Q w6:=(Qx (S:=λ_=>False) b6).trans T6 (λk h=>.inr (by have h:k=Q.1.size:=h;omega));have X6:Turn (λ_=>False) wr w6:=((Qx (S:=λ_=>False) F).trans (Qx (S:=λ_=>False) b5) (λ_ h=>.inl h)).trans a6 (λ_ h=>.inl h);exact⟨by rw[<-f.out];rfl,A,λh=>absurd (by rw[<-f.out] at h;exact h) i5.out,XB.trans X6 (λ_ h=>h.elim),λk h=>.inl h⟩
     ·as_aux_lemma=>
       subst hE;have b7:((M.kids.drop j).map λx=>Zt R l x.a).sum=U6 R l M2+((M.kids.drop (j+1)).map λx=>Zt R l x.a).sum:=by
        rw[e3.out,List.map_cons,List.sum_cons,q3g hR]
       have T:=e2.out;rw[b7] at T;have Y:=U.out;rw[q3g hR] at Y;have B:=H.may y.a (by rw[hR]);rw[hR] at B;have B:M2.may=true:=B;have c6:=Lib.hid Y;have HR:=Lib.hid hR;have i2:=Lib.hid g0;have HF:=Lib.hid hF;have e6:=Lib.hid f;have b0:=Lib.hid T;clear b7 T Y hR g0 hF f U e2;go_wp2_with (first
        |(refine Gp rfl (.tmp 13) _ rfl Q.1.size rfl M2.lvl A2 n2 c8 b8 m2 d2 rfl NZ ?_;intro w6 N6 T6;have v0:=N6.c0;have v1:=N6.c1;have v2:=N6.c2;have a6:Turn (λ_=>False) Q w6:=(Qx (S:=λ_=>False) b6).trans T6 (λk h=>.inr (by have h:k=Q.1.size:=h;omega));have X6:Turn (λ_=>False) wr w6:=((Qx (S:=λ_=>False) F).trans (Qx (S:=λ_=>False) b5) (λ_ h=>.inl h)).trans a6 (λ_ h=>.inl h);have K6:=Kr.keep (X6.block _ Kr.lt (λh=>h));have k0:=K6.c0;have k1:=K6.c1;have k2:=K6.c2)
        |fail)
       have a7:Below wr.1.size wr w6:=X6.below (λ_ h=>h.elim) (Nat.le_refl _);have g8:=u.trans (a7.mono u.size);have S6:=S'.below a7;have i1:=i0.turn a6 (λ_ _ _ h=>h);have d6:∀k,w4.1.size<=k->k<Q.1.size->¬Vo vb A' k:=λk h1 h2 h=>by
        obtain⟨⟨_,_,hv,row,_⟩,_⟩:=S';rcases h with rfl|h
        ·have:=Kw hv;omega
        ·have:=(row.Qc k h).2;omega
       refine (IH.out w6 M2 w4.1.size Q.1.size A2 n2 c8 b8 m2 d2 A' d g8 S6 i1 d6 (by have:=u.size;have:=e4.out;omega) B i2.out ha (by have:=b0.out;omega)).mono ?_;rw[<-HF.out];rintro e w7 ⟨rfl,A7,h7,X7,i4⟩;have z6:=a7.size;have z7:=X7.size;have zr:=X.size;have e9:Turn (Vo vb A) w2 w7:=(X.trans (Qx (S:=Vo vb A) a7) (λ_ h=>.inl h)).trans X7 (λk I=>by
        rcases I with rfl|I
        ·exact .inl (.inl rfl)
        ·exact (c9 k I).imp (λh=>.inr h) id)
       have f0:∀k,q01 A7=some k->q01 A=some k\/w2.1.size<=k:=λk I=>by
        rcases i4 k I with h|h
        ·exact c9 k h
        ·exact .inr (by omega)
       clear v0 v1 v2 k0 k1 k2;by_cases h0:F2.2=0
       ·as_aux_lemma=>
         have g3:(F2.2==0)=true:=by simp[h0]
         have g4:(F2.2 != 0)=false:=by simp[h0]
         have K:=e6.out;rw[if_neg (by simpa using h0)] at K;have P:=Lib.hid K;have h7:=h7 h0;obtain⟨q1,q2⟩:=c6.out h0;clear K h0;go_wp2_with fail
         exact⟨⟨j+1,A7,F2.1,by omega,by go_num,h7,P.out,q1,by have:=b0.out;omega,e9,f0⟩,by simp[intOf];omega⟩
       ·as_aux_lemma=>
         have g3:(F2.2==0)=false:=by simp[h0]
         have g4:(F2.2 != 0)=true:=by simp[h0]
         have K:=e6.out;rw[if_pos h0] at K;have P:=Lib.hid K;have i3:=Lib.hid h0;clear K h0 h7;go_wp2_with fail
         go_ret;exact⟨by rw[<-P.out];rfl,A,λh=>absurd (by rw[<-P.out] at h;exact h) i3.out,(Qx (S:=Vo vb A) B2).trans e9 (λ_ h=>.inl h),λk h=>.inl h⟩
  ·as_aux_lemma=>
    have f8:j=J:=by omega
    have m:G=(d,0):=by
     rw[<-E,List.drop_eq_nil_of_le (by rw[a1.out];omega)];rfl
    replace m:=Lib.hid m;have e1:¬(j:Int)<(J:Int):=by omega
    clear E f8;go_wp2_with fail
    go_ret;obtain⟨A9,S9,h9⟩:=e8.out m.out;exact⟨by rw[m.out];rfl,A9,λ_=>S9,XB,h9⟩
theorem qfz {B:World}{p:Nat}{R:Int->Nd × Int}(H:Src B p R)(u:Tab B)(fr «to»:Kd)(most:Int){lim base vb mb tb:Nat}(y:B.1.size<=vb)(d:B.1.size=lim):∀l,qe2 B p R fr «to» most lim base vb mb tb l
 |0=>by
  intro w M lo hi G U c1 I T J A D _ S Hd f E m Q O P;refine (qmm (p:=p) fr «to» most w M lo hi G U c1 I T J A D S Hd f E m Q O P).mono ?_;rintro e W ⟨rfl,F,h1,h2,K⟩;exact⟨rfl,F,λ_=>h1,h2,K⟩
 |l+1=>qmo H u fr «to» most y d l (qfz H u fr «to» most y d l)
