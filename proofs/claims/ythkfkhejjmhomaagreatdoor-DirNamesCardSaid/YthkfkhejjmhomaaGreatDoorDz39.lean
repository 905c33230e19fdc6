/- The code's find: each, of a node of any level -/
import Derived.Test.YthkfkhejjmhomaaGreatDoorDz28
namespace Go.Proofs.YthkfkhejjmhomaaGreatDoor
open Go Go.RowKit Go.Proofs
set_option maxHeartbeats 16000000
set_option maxRecDepth 100000
theorem Qso (f:Int->List Qq->List Qq × Int)(«to»:Kd)(most:Nat)(x:Qk)(r:List Qk)(d:List Qq):P5 f «to» most (x::r) d=if «to».less x.k=true\/most<=d.length then (d,0) else if (f x.a d).2≠0 then ([],(f x.a d).2) else P5 f «to» most r (f x.a d).1:=rfl
def Qh4 (B:World)(p:Nat)(R:Int->Nd × Int)(fr «to»:Kd)(most:Int)(lim base vb mb tb:Nat)(l:Nat):Prop:=
 ∀(w:World) (M:Nd) (lo hi:Nat) (g:Option Addr) (y c1:Nat) (m:Option Addr) (u q:Nat) (A:Option Addr) (d:List Qq),Below B.1.size B w->SAt w lim base vb mb tb most «to» A d->Held w lo hi g y c1 m u q M->(∀k,lo<=k->k<hi->¬Qcg vb A k)->lim<=lo->M.may=true->M.lvl=(l:Int)->d.length<=most.toNat->d.length+Qef R l M<=100000->
  Calls Tryz.prog 56 #[.pointer (some ⟨p,0,none⟩),.agg #[.int .i64 M.lvl,.slice g y c1,.slice m u q],.agg #[.int .i64 fr.obj,.int .i64 fr.kind,.int .i64 fr.off],.func (.func 54) #[] #[.pointer (some ⟨vb,0,none⟩),.pointer (some ⟨mb,0,none⟩),.pointer (some ⟨tb,0,none⟩)],.func (.func 57) #[] #[.pointer (some ⟨vb,0,none⟩)]] w λe z=>
   e=.returned (.int .i64 (Qcr R fr «to» most.toNat l M d).2)/\∃f,((Qcr R fr «to» most.toNat l M d).2=0->SAt z lim base vb mb tb most «to» f (Qcr R fr «to» most.toNat l M d).1)/\Turn (Qcg vb A) w z/\∀k,Xq f=some k->Xq A=some k\/w.1.size<=k
theorem Qq6 {w0:World}{p:Nat}{R:Int->Nd × Int}(H:Src w0 p R)(f8:Tab w0)(fr «to»:Kd)(most:Int){lim base vb mb tb:Nat}(i9:w0.1.size<=vb)(V:w0.1.size=lim)(l:Nat)(e5:Qh4 w0 p R fr «to» most lim base vb mb tb l):Qh4 w0 p R fr «to» most lim base vb mb tb (l+1):=by
 intro w M lo hi A1 n1 c1 B1 F d1 A T B0 S Hd f2 j9 a8 hl ha hc;have IH:=Lib.hid e5;have e2:=Lib.hid V;clear e5;obtain⟨-,i3,i5,i4,f4,f7⟩:=q13 a8 (by rw[hl];omega);obtain⟨t,a6⟩:∃t,M.Xv fr=t:=⟨_,rfl⟩;obtain⟨r,hr⟩:∃r,foundAt M.keys fr t=r:=⟨_,rfl⟩;have f9:=f7 fr;rw[a6] at f9;obtain⟨G,c9⟩:∃G,Qcr R fr «to» most.toNat (l+1) M T=G:=⟨_,rfl⟩;have hG:P5 (Ny R fr «to» most.toNat l) «to» most.toNat (M.kids.drop t) T=G:=by rw[<-c9,<-a6];rfl
 rw[c9];have f1:T.length+((M.kids.drop t).map λx=>Nc R l x.a).sum<=100000:=by
  have h1:=Qqf (M.kids.map λx=>Nc R l x.a) t;rw[<-List.map_drop] at h1;have h2:T.length+(M.kids.map λx=>Nc R l x.a).sum<=100000:=hc;omega
 have N1:NB ((w.alloc (.cells #[.int .i64 M.lvl,.slice A1 n1 c1,.slice B1 F d1] 77)).alloc (.cells #[.int .i64 fr.obj,.int .i64 fr.kind,.int .i64 fr.off] 45)) w.1.size M.lvl A1 n1 c1 B1 F d1:=(NB.new w _ _ _ _ _ _ _ _).below (Ib) (by simp);have b1:Below w.1.size w ((w.alloc (.cells #[.int .i64 M.lvl,.slice A1 n1 c1,.slice B1 F d1] 77)).alloc (.cells #[.int .i64 fr.obj,.int .i64 fr.kind,.int .i64 fr.off] 45)):=(Ib).alloc (by simp) _;have z1:((w.alloc (.cells #[.int .i64 M.lvl,.slice A1 n1 c1,.slice B1 F d1] 77)).alloc (.cells #[.int .i64 fr.obj,.int .i64 fr.kind,.int .i64 fr.off] 45)).1.size=w.1.size+2:=by simp
 have K1:KB ((w.alloc (.cells #[.int .i64 M.lvl,.slice A1 n1 c1,.slice B1 F d1] 77)).alloc (.cells #[.int .i64 fr.obj,.int .i64 fr.kind,.int .i64 fr.off] 45)) (w.1.size+1) fr:=KB.new2 w _ fr.obj fr.kind fr.off _;have j0:F<=20:=Hd.2.2.1;have W:M.kids.length=F:=by
  have:=Zg.len Hd.rows.2;rwa [List.length_map] at this
 have d3:∀k,Qcg vb A k->w0.1.size<=k/\k<w.1.size:=λk E=>by
  obtain⟨⟨_,_,hv,row,_⟩,_⟩:=S;rcases E with rfl|E
  ·exact⟨i9,Jq hv⟩
  ·exact⟨by rw[V];exact (row.Zx k E).1,(row.Zx k E).2⟩
 clear V;have S1:=S.below b1;have Z:=Hd.below b1;obtain⟨r1,s1⟩:=Z.rows;have e3:=Lib.hid (Qbn M (U0 a8) fr t a6 r hr A1 n1 c1 B1 F d1 _ r1.Qaf s1 (by have:=Hd.2.1;omega) (by have:=Hd.2.2.1;omega));have g1:(M.lvl==0)=false:=by rw[hl];simp;omega
 have g2:decide (M.lvl=0)=false:=decide_eq_false (by rw[hl];omega);rw[W] at f9;have HG:=Lib.hid hG;have W:=Lib.hid W;have Hl:=Lib.hid hl;have p0:=N1.c0;have p1:=N1.c1;have p2:=N1.c2;have k0:=K1.c0;have k1:=K1.c1;have k2:=K1.c2;have z0:=B0.size;clear a6 hr f7 hG c9 r1 s1 hl S Hd hc i4 f4;go_enter Tryz.func56,Tryz.ntmps56
 go_wp2_with fail
 refine e3.out.mono ?_;generalize (w.alloc (.cells #[.int .i64 M.lvl,.slice A1 n1 c1,.slice B1 F d1] 77)).alloc (.cells #[.int .i64 fr.obj,.int .i64 fr.kind,.int .i64 fr.off] 45)=w1 at N1 b1 z1 S1 Z K1 p0 p1 p2 k0 k1 k2 ⊢;rintro e w2 ⟨rfl,b2⟩;have N2:=N1.below b2 N1.lt;have K2:=K1.below b2 K1.lt;have S2:=S1.below b2;have g5:=Z.below b2;have B2:=b1.trans (b2.mono b1.size);have z2:=b2.size;clear p0 p1 p2 k0 k1 k2 e3 N1 S1 Z K1 b1 b2;have p0:=N2.c0;go_wp2_with fail
 clear p0;go_loopw [11,13,14] (λiv _ _ wr=>∃(j:Nat) (Y:Option Addr) (d:List Qq),j<=F/\iv=.int .i64 (j:Int)/\SAt wr lim base vb mb tb most «to» Y d/\P5 (Ny R fr «to» most.toNat l) «to» most.toNat (M.kids.drop j) d=G/\d.length<=most.toNat/\d.length+((M.kids.drop j).map λx=>Nc R l x.a).sum<=100000/\Turn (Qcg vb A) w2 wr/\∀k,Xq Y=some k->Xq A=some k\/w2.1.size<=k) (λiv _ _ _=>F-(intOf iv).toNat)
 case atStart=>exact⟨t,A,T,by omega,rfl,S2,HG.out,ha,f1,Turn.refl _ _,λk E=>.inl E⟩
 case round=>
  clear ha f1 HG S2;obtain⟨j,Y,d,j8,rfl,S',B,ha,P,X,c7⟩:=hrel;have Nr:=N2.turned X (λh=>by have:=(d3 _ h).2;omega);have Kr:=K2.keep (X.block _ K2.lt (λh=>by have:=(d3 _ h).2;omega));have Hr:=g5.turn X f2;have XB:Turn (Qcg vb A) w wr:=(Uk (S:=Qcg vb A) B2).trans X (λk h=>.inl h);have q:Below w0.1.size w0 wr:=B0.trans (XB.below (λk E=>(d3 k E).1) z0);have p2:=Nr.c2;have d8:=Lib.hid P;clear P;have out:G=(d,0)->∃Y,SAt wr lim base vb mb tb most «to» Y G.1/\∀k,Xq Y=some k->Xq A=some k\/w.1.size<=k:=λe=>by
   refine⟨Y,by rw[e];exact S',λk E=>(c7 k E).imp id λh=>by have:=B2.size;omega⟩
  have e6:=Lib.hid out;clear out;by_cases d7:j<F
  ·obtain⟨g,o,rfl,hg,c0,b9,c2,c3⟩:=Hr.rows.2.cell d7;obtain⟨_,j7⟩:=Q7.bounds Hr.rows.2;have d5:=Qya (l:=M.kids) (j:=j) (by rw[W.out];exact d7);rw[d5] at B;have d9:=Lib.hid d5;clear d5;have J:=Lib.hid (λw4 (D:Below wr.1.size wr w4)=>Qxz H (q.trans (D.mono q.size)) (f8.below (q.trans (D.mono q.size)) f8.1) M.lvl i3 i5 M.kids A1 n1 c1 (some ⟨g,o,none⟩) F d1 (Hr.below D).rows.2 j d7 (Ql M.kids j).a rfl);obtain⟨y,hy⟩:∃y,Ql M.kids j=y:=⟨_,rfl⟩;rw[hy] at c0 b9 c2 B d9 J;clear hy c3;have e0:(0:Int)<=(j:Int):=by omega
   have e1:(j:Int)<(F:Int):=by omega
   obtain⟨rr,z⟩:∃rr,(decide ((d.length:Int)<most)&&!(«to».less y.k))=rr:=⟨_,rfl⟩;have Hw:=Lib.hid (Qg6 S' y.k rr z)
   cases rr with
   |false=>
    as_aux_lemma=>
     have m:G=(d,0):=by
      rw[<-B];unfold P5;rw[if_pos ?_];rw[Bool.and_eq_false_iff] at z;rcases z with h|h
      ·exact .inr (by have:=of_decide_eq_false h;omega)
      ·exact .inl (by simpa using h)
     replace m:=Lib.hid m;clear B z;go_wp2_with (first
      |(go_at_call 54;refine Hw.out.mono ?_;rintro e w4 ⟨rfl,D⟩)
      |fail)
     go_ret;obtain⟨A9,S9,h9⟩:=e6.out m.out;exact⟨by rw[m.out];rfl,A9,λ_=>S9.below D,XB.trans (Uk (S:=Qcg vb A) D) (λk h=>.inl h),h9⟩
   |true=>
    as_aux_lemma=>
     have f:(if (Ny R fr «to» most.toNat l y.a d).2≠0 then ([],(Ny R fr «to» most.toNat l y.a d).2) else P5 (Ny R fr «to» most.toNat l) «to» most.toNat (M.kids.drop (j+1)) (Ny R fr «to» most.toNat l y.a d).1)=G:=by
      have i8:¬(«to».less y.k=true\/most.toNat<=d.length):=by
       rw[Bool.and_eq_true] at z;rintro (h|h)
       ·rw[h] at z;simp at z
       ·have:=of_decide_eq_true z.1;omega
      rw[<-B,Qso,if_neg i8]
     have Q:=Lib.hid (Ql2 (R:=R) (fr:=fr) («to»:=«to») l y.a d ha);have d6:=Qy6 R fr «to» most.toNat Hl.out y.a d;obtain⟨M2,d0⟩:∃M2,Qrw R M.lvl y.a=M2:=⟨_,rfl⟩;obtain⟨E2,c8⟩:∃E2,Qo4 R M.lvl y.a=E2:=⟨_,rfl⟩;rw[d0,c8] at J;rw[d0,c8] at d6;obtain⟨F2,i2⟩:∃F2,Ny R fr «to» most.toNat l y.a d=F2:=⟨_,rfl⟩;rw[i2] at d6 f Q;clear d0 c8 B z;have b7:=Lib.hid (λw4 (D:Below wr.1.size wr w4)=>(⟨(D.cell (p:=⟨g,_,none⟩) hg).trans c0,(D.cell (p:=⟨g,_,none⟩) hg).trans b9,(D.cell (p:=⟨g,_,none⟩) hg).trans c2⟩:_/\_/\_));go_wp2_with (first
      |(go_at_call 54;refine Hw.out.mono ?_;rintro e w4 ⟨rfl,D⟩;have N4:=Nr.below D Nr.lt;have u0:=N4.c0;have u1:=N4.c1;have u2:=N4.c2)
      |fail)
     refine (J.out w4 D).mono ?_;rintro e O ⟨A2,n2,c6,b3,m2,d2,rfl,i7,i6,e9,f0,b5⟩;have g6:=Qtx i7 i6 e9 f0;have b6:Below O.1.size O (O.alloc (.cells #[.int .i64 0,.slice none 0 0,.slice none 0 0] 77)):=Ib;have NZ:NB (O.alloc (.cells #[.int .i64 0,.slice none 0 0,.slice none 0 0] 77)) O.1.size 0 none 0 0 none 0 0:=NB.new O _ _ _ _ _ _ _ _;have z4:=D.size;have z5:=b5.size;clear u0 u1 u2 e9 f0 J Hw b7 c0 b9 c2 p2;rcases d6 with⟨hE,hF⟩|⟨hE,hR,f5,hF⟩
     ·as_aux_lemma=>
       rw[hF] at f;rw[if_pos hE] at f;have f:=Lib.hid f;have i1:=Lib.hid hE;have g3:(E2==0)=false:=by simp[hE]
       have g4:(E2 != 0)=true:=by simp[hE]
       clear hE hF;go_wp2_with (first
        |(refine Ir rfl (.tmp 13) _ rfl O.1.size rfl M2.lvl A2 n2 c6 b3 m2 d2 rfl NZ ?_;intro w6 N6 T6)
        |fail)
       go_ret;have a1:Turn (λ_=>False) O w6:=(Uk (S:=λ_=>False) b6).trans T6 (λk h=>.inr (by have h:k=O.1.size:=h;omega));have X6:Turn (λ_=>False) wr w6:=((Uk (S:=λ_=>False) D).trans (Uk (S:=λ_=>False) b5) (λ_ h=>.inl h)).trans a1 (λ_ h=>.inl h);exact⟨by rw[<-f.out];rfl,A,λh=>absurd (by rw[<-f.out] at h;exact h) i1.out,XB.trans X6 (λ_ h=>h.elim),λk h=>.inl h⟩
     ·as_aux_lemma=>
       subst hE;have b0:((M.kids.drop j).map λx=>Nc R l x.a).sum=Qef R l M2+((M.kids.drop (j+1)).map λx=>Nc R l x.a).sum:=by
        rw[d9.out,List.map_cons,List.sum_cons,Qaj hR]
       have P:=d8.out;rw[b0] at P;have U:=Q.out;rw[Qaj hR] at U;have u:=H.may y.a (by rw[hR]);rw[hR] at u;have u:M2.may=true:=u;have b8:=Lib.hid U;have HR:=Lib.hid hR;have g8:=Lib.hid f5;have HF:=Lib.hid hF;have e4:=Lib.hid f;have a7:=Lib.hid P;clear b0 P U hR f5 hF f Q d8;go_wp2_with (first
        |(refine Ir rfl (.tmp 13) _ rfl O.1.size rfl M2.lvl A2 n2 c6 b3 m2 d2 rfl NZ ?_;intro w6 N6 T6;have v0:=N6.c0;have v1:=N6.c1;have v2:=N6.c2;have a1:Turn (λ_=>False) O w6:=(Uk (S:=λ_=>False) b6).trans T6 (λk h=>.inr (by have h:k=O.1.size:=h;omega));have X6:Turn (λ_=>False) wr w6:=((Uk (S:=λ_=>False) D).trans (Uk (S:=λ_=>False) b5) (λ_ h=>.inl h)).trans a1 (λ_ h=>.inl h);have K6:=Kr.keep (X6.block _ Kr.lt (λh=>h));have k0:=K6.c0;have k1:=K6.c1;have k2:=K6.c2)
        |fail)
       have a2:Below wr.1.size wr w6:=X6.below (λ_ h=>h.elim) (Nat.le_refl _);have g0:=q.trans (a2.mono q.size);have S6:=S'.below a2;have g7:=g6.turn a1 (λ_ _ _ h=>h);have d4:∀k,w4.1.size<=k->k<O.1.size->¬Qcg vb Y k:=λk h1 h2 h=>by
        obtain⟨⟨_,_,hv,row,_⟩,_⟩:=S';rcases h with rfl|h
        ·have:=Jq hv;omega
        ·have:=(row.Zx k h).2;omega
       refine (IH.out w6 M2 w4.1.size O.1.size A2 n2 c6 b3 m2 d2 Y d g0 S6 g7 d4 (by have:=q.size;have:=e2.out;omega) u g8.out ha (by have:=a7.out;omega)).mono ?_;rw[<-HF.out];rintro e w7 ⟨rfl,A7,h7,X7,i0⟩;have z6:=a2.size;have z7:=X7.size;have zr:=X.size;have e7:Turn (Qcg vb A) w2 w7:=(X.trans (Uk (S:=Qcg vb A) a2) (λ_ h=>.inl h)).trans X7 (λk E=>by
        rcases E with rfl|E
        ·exact .inl (.inl rfl)
        ·exact (c7 k E).imp (λh=>.inr h) id)
       have e8:∀k,Xq A7=some k->Xq A=some k\/w2.1.size<=k:=λk E=>by
        rcases i0 k E with h|h
        ·exact c7 k h
        ·exact .inr (by omega)
       clear v0 v1 v2 k0 k1 k2;by_cases h0:F2.2=0
       ·as_aux_lemma=>
         have g3:(F2.2==0)=true:=by simp[h0]
         have g4:(F2.2 != 0)=false:=by simp[h0]
         have I:=e4.out;rw[if_neg (by simpa using h0)] at I;have K:=Lib.hid I;have h7:=h7 h0;obtain⟨q1,q2⟩:=b8.out h0;clear I h0;go_wp2_with fail
         exact⟨⟨j+1,A7,F2.1,by omega,by go_num,h7,K.out,q1,by have:=a7.out;omega,e7,e8⟩,by simp[intOf];omega⟩
       ·as_aux_lemma=>
         have g3:(F2.2==0)=false:=by simp[h0]
         have g4:(F2.2 != 0)=true:=by simp[h0]
         have I:=e4.out;rw[if_pos h0] at I;have K:=Lib.hid I;have g9:=Lib.hid h0;clear I h0 h7;go_wp2_with fail
         go_ret;exact⟨by rw[<-K.out];rfl,A,λh=>absurd (by rw[<-K.out] at h;exact h) g9.out,(Uk (S:=Qcg vb A) B2).trans e7 (λ_ h=>.inl h),λk h=>.inl h⟩
  ·as_aux_lemma=>
    have f3:j=F:=by omega
    have m:G=(d,0):=by
     rw[<-B,List.drop_eq_nil_of_le (by rw[W.out];omega)];rfl
    replace m:=Lib.hid m;have e1:¬(j:Int)<(F:Int):=by omega
    clear B f3;go_wp2_with fail
    go_ret;obtain⟨A9,S9,h9⟩:=e6.out m.out;exact⟨by rw[m.out];rfl,A9,λ_=>S9,XB,h9⟩
theorem Qkz {u:World}{p:Nat}{R:Int->Nd × Int}(H:Src u p R)(m:Tab u)(fr «to»:Kd)(most:Int){lim base vb mb tb:Nat}(q:u.1.size<=vb)(d:u.1.size=lim):∀l,Qh4 u p R fr «to» most lim base vb mb tb l
 |0=>by
  intro w M lo hi D P c1 E O F A y _ S Hd f z g K I J;refine (Qq5 (p:=p) fr «to» most w M lo hi D P c1 E O F A y S Hd f z g K I J).mono ?_;rintro e Q ⟨rfl,B,h1,h2,G⟩;exact⟨rfl,B,λ_=>h1,h2,G⟩
 |l+1=>Qq6 H m fr «to» most q d l (Qkz H m fr «to» most q d l)
theorem Qvn {w:World}{p:Nat}{R:Int->Nd × Int}(H:Src w p R)(ht:Tab w)(root:Int)(fr «to»:Kd)(most:Int)(z:root≠0->Nc R (Yq R root) root<=100000) :
  Calls Tryz.prog 18 #[.pointer (some ⟨p,0,none⟩),.int .i64 root,.agg #[.int .i64 fr.obj,.int .i64 fr.kind,.int .i64 fr.off],.agg #[.int .i64 «to».obj,.int .i64 «to».kind,.int .i64 «to».off],.int .i64 most] w λe w'=>∃A n c,e=.returned (.tuple #[.slice A n c,.int .i64 (Ql3 R fr «to» most root).2])/\Zn w' w.1.size A n c (Ql3 R fr «to» most root).1/\Below w.1.size w w':=by
 obtain⟨G,d⟩:∃G,Ql3 R fr «to» most root=G:=⟨_,rfl⟩;rw[d];unfold Ql3 at d;obtain⟨K1,K2,b2⟩:=Zd7 w fr «to»;have B:Below w.1.size w (((w.alloc (.cells #[.int .i64 fr.obj,.int .i64 fr.kind,.int .i64 fr.off] 45)).alloc (.cells #[.int .i64 «to».obj,.int .i64 «to».kind,.int .i64 «to».off] 45)).alloc (.cells #[.int .i64 most] 3)):=b2.alloc (by simp;omega) _;have O:Below ((w.alloc (.cells #[.int .i64 fr.obj,.int .i64 fr.kind,.int .i64 fr.off] 45)).alloc (.cells #[.int .i64 «to».obj,.int .i64 «to».kind,.int .i64 «to».off] 45)).1.size _ (((w.alloc (.cells #[.int .i64 fr.obj,.int .i64 fr.kind,.int .i64 fr.off] 45)).alloc (.cells #[.int .i64 «to».obj,.int .i64 «to».kind,.int .i64 «to».off] 45)).alloc (.cells #[.int .i64 most] 3)):=Ib;have q:=K1.below O K1.lt;have K:=K2.below O K2.lt;have V3:(((w.alloc (.cells #[.int .i64 fr.obj,.int .i64 fr.kind,.int .i64 fr.off] 45)).alloc (.cells #[.int .i64 «to».obj,.int .i64 «to».kind,.int .i64 «to».off] 45)).alloc (.cells #[.int .i64 most] 3)).1[w.1.size+2]?=some (.cells #[.int .i64 most] 3 (0,0)):=by
  have:=heap_alloc_new ((w.alloc (.cells #[.int .i64 fr.obj,.int .i64 fr.kind,.int .i64 fr.off] 45)).alloc (.cells #[.int .i64 «to».obj,.int .i64 «to».kind,.int .i64 «to».off] 45)) (.cells #[.int .i64 most] 3);rwa [World.size_alloc,World.size_alloc] at this
 have z3:(((w.alloc (.cells #[.int .i64 fr.obj,.int .i64 fr.kind,.int .i64 fr.off] 45)).alloc (.cells #[.int .i64 «to».obj,.int .i64 «to».kind,.int .i64 «to».off] 45)).alloc (.cells #[.int .i64 most] 3)).1.size=w.1.size+3:=by simp
 have c3:=cell_of_one V3;clear K1 K2 b2 O;by_cases h0:root=0
 ·rw[if_pos (.inl h0)] at d;subst h0;subst d;go_enter Tryz.func18,Tryz.ntmps18
  go_wp2_with fail
  go_ret2;exact⟨none,0,0,rfl,Ob _ _,B⟩
 ·have g1:(root==0)=false:=by simp[h0]
  have g2:decide (root=0)=false:=decide_eq_false h0;by_cases hm:most<1
  ·rw[if_pos (.inr hm)] at d;subst d;clear h0 z;go_enter Tryz.func18,Tryz.ntmps18
   go_wp2_with fail
   go_ret2;exact⟨none,0,0,rfl,Ob _ _,B⟩
  ·rw[if_neg (by rintro (h|h);exact h0 h;exact hm h)] at d;have T:=z h0;have U:=Lib.hid (H.node _ B (ht.below B ht.1) root);have u:=H.may root;obtain⟨M,E,hR⟩:∃M E,R root=(M,E):=⟨_,_,rfl⟩;have HR:=Lib.hid hR;rw[hR] at U u;have u:E=0->M.may=true:=u;have Y:Yq R root=M.lvl.toNat:=by unfold Yq;rw[hR]
   rw[Y] at d T;clear hR Y h0 z;by_cases X:E=0
   ·subst X;have I:=u rfl;have b8:0<=M.lvl/\M.lvl<8:=by
     by_cases h1:M.lvl=0
     ·omega
     ·have:=q13 I h1;omega
    obtain⟨l,Y⟩:∃l,M.lvl.toNat=l:=⟨_,rfl⟩;have Q:M.lvl=(l:Int):=by omega
    rw[Y] at d T;rw[Qfy HR.out [] Q] at d;rw[Qaj HR.out] at T;have Hc:=Lib.hid T;have HG:=Lib.hid d;have b1:=Lib.hid Q;have a2:=q.c0;have a6:=q.c1;have a7:=q.c2;clear T d Q Y b8 u;go_enter Tryz.func18,Tryz.ntmps18
    go_wp2_with fail
    refine U.out.mono ?_;generalize ((w.alloc (.cells #[.int .i64 fr.obj,.int .i64 fr.kind,.int .i64 fr.off] 45)).alloc (.cells #[.int .i64 «to».obj,.int .i64 «to».kind,.int .i64 «to».off] 45)).alloc (.cells #[.int .i64 most] 3)=w3 at q K V3 z3 c3 B a2 a6 a7 ⊢;rintro e f ⟨A1,n1,c1,B1,m1,d1,rfl,a1,Z,hI,F,W⟩;have Hd:=Qtx a1 Z hI F;have N4:NB (f.alloc (.cells #[.int .i64 0,.slice none 0 0,.slice none 0 0] 77)) f.1.size 0 none 0 0 none 0 0:=NB.new f _ _ _ _ _ _ _ _;have b5:Below f.1.size f (f.alloc (.cells #[.int .i64 0,.slice none 0 0,.slice none 0 0] 77)):=Ib;have z4:=W.size;clear hI F U c3 a2 a6 a7;go_wp2_with (first
     |(refine Ir rfl (.tmp 12) _ rfl f.1.size rfl M.lvl A1 n1 c1 B1 m1 d1 rfl N4 ?_;intro m N6 T6;have y:Turn (λ_=>False) f m:=(Uk (S:=λ_=>False) b5).trans T6 (λk h=>.inr (by have h:k=f.1.size:=h;omega));have z6:=y.size;have b9:=N6.lt;have P:Below m.1.size m (m.alloc (.cells #[.slice none 0 0] 41)):=Ib;have D:Turn (λ_=>False) w3 (m.alloc (.cells #[.slice none 0 0] 41)):=((Uk (S:=λ_=>False) W).trans y (λ_ h=>.inl h)).trans (Uk (S:=λ_=>False) P) (λ_ h=>.inl h);have K7:=q.keep (D.block _ q.lt (λh=>h));have k0:=K7.c0;have k1:=K7.c1;have k2:=K7.c2;have N7:=N6.below P N6.lt;have q0:=N7.c0;have q1:=N7.c1;have q2:=N7.c2)
     |fail)
    have b6:Turn (λ_=>False) f (m.alloc (.cells #[.slice none 0 0] 41)):=y.trans (Uk (S:=λ_=>False) P) (λ_ h=>.inl h);have b0:=Hd.turn b6 (λ_ _ _ h=>h);have V7:(m.alloc (.cells #[.slice none 0 0] 41)).1[m.1.size]?=some (.cells #[.slice none 0 0] 41 (0,0)):=heap_alloc_new m _;have z7:(m.alloc (.cells #[.slice none 0 0] 41)).1.size=m.1.size+1:=by simp
    have S7:SAt (m.alloc (.cells #[.slice none 0 0] 41)) w.1.size (m.1.size+1) m.1.size (w.1.size+2) (w.1.size+1) most «to» none []:=by
     have b7:=K.lt;exact⟨⟨_,0,V7,Ob _ _,λk h=>(by cases h)⟩,⟨_,(D.block _ (by omega) (λh=>h)).trans V3⟩,K.keep (D.block _ b7 (λh=>h)),by omega,⟨by omega,by omega,by omega,by omega,by omega,by omega⟩⟩
    have B7:Below w.1.size w (m.alloc (.cells #[.slice none 0 0] 41)):=B.trans (D.below (λ_ h=>h.elim) B.size);clear k0 k1 k2 q0 q1 q2;refine (Qkz H ht fr «to» most (lim:=w.1.size) (base:=m.1.size+1) (vb:=m.1.size) (mb:=w.1.size+2) (tb:=w.1.size+1) (by omega) rfl l _ M w3.1.size f.1.size A1 n1 c1 B1 m1 d1 none [] B7 S7 b0 (λk h1 h2 h=>by
     rcases h with h|h
     ·omega
     ·cases h) (by omega) I b1.out (Nat.zero_le _) (by have:=Hc.out;simpa using this)).mono ?_
    rw[HG.out];rintro e w8 ⟨rfl,A8,h8,X8,c6⟩;have B8:Below w.1.size w w8:=B7.trans (X8.below (λk hk=>by
     rcases hk with h|h
     ·omega
     ·cases h) B7.size)
    by_cases g:G.2=0
    ·have g3:(G.2==0)=true:=by simp[g]
     have g4:(G.2 != 0)=false:=by simp[g]
     obtain⟨⟨t,c,hv,row,-⟩,-⟩:=h8 g;have c7:=cell_of_one hv;have a8:=Lib.hid g;clear g;go_wp2_with fail
     go_ret2;exact⟨A8,_,c,by rw[a8.out];rfl,row,B8⟩
    ·have g3:(G.2==0)=false:=by simp[g]
     have g4:(G.2 != 0)=true:=by simp[g]
     have J:G.1=[]:=by
      have h:=g;rw[<-HG.out] at h ⊢;exact Qsp _ _ _ h
     have V:=Lib.hid J;clear g h8 J;go_wp2_with fail
     go_ret2;exact⟨none,0,0,rfl,by rw[V.out];exact Ob _ _,B8⟩
   ·have g3:(E==0)=false:=by simp[X]
    have g4:(E != 0)=true:=by simp[X]
    rw[Qdx (by rw[HR.out];exact X)] at d;rw[HR.out] at d;subst d;clear X u T;go_enter Tryz.func18,Tryz.ntmps18
    go_wp2_with fail
    refine U.out.mono ?_;rintro e f ⟨A1,n1,c1,B1,m1,d1,rfl,a1,Z,hI,F,W⟩;have N4:NB (f.alloc (.cells #[.int .i64 0,.slice none 0 0,.slice none 0 0] 77)) f.1.size 0 none 0 0 none 0 0:=NB.new f _ _ _ _ _ _ _ _;have b5:Below f.1.size f (f.alloc (.cells #[.int .i64 0,.slice none 0 0,.slice none 0 0] 77)):=Ib;clear hI F U c3;go_wp2_with (first
     |(refine Ir rfl (.tmp 12) _ rfl f.1.size rfl M.lvl A1 n1 c1 B1 m1 d1 rfl N4 ?_;intro m N6 T6)
     |fail)
    go_ret2;have y:Turn (λ_=>False) f m:=(Uk (S:=λ_=>False) b5).trans T6 (λk h=>.inr (by have h:k=f.1.size:=h;omega));exact⟨none,0,0,rfl,Ob _ _,B.trans ((W.mono B.size).trans (y.below (λ_ h=>h.elim) (by have:=W.size;have:=B.size;omega)))⟩
