/- The code's find: each, of a node of any level -/
import Derived.Test.YthkfkhejjmhomaaGreatDoorEs39
import Derived.Test.YthkfkhejjmhomaaGreatDoorEs44
namespace Go.Proofs.YthkfkhejjmhomaaGreatDoor
open Go Go.RowKit Go.Proofs
set_option maxHeartbeats 16000000
set_option maxRecDepth 100000
theorem qns (f:Int->List Qg->List Qg × Int)(«to»:Kd)(most:Nat)(x:Qm)(r:List Qm)(e:List Qg):Xv f «to» most (x::r) e=if «to».less x.k=true\/most<=e.length then (e,0) else if (f x.a e).2≠0 then ([],(f x.a e).2) else Xv f «to» most r (f x.a e).1:=rfl
def qev (J:World)(p:Nat)(R:Int->Nd × Int)(fr «to»:Kd)(most:Int)(lim base vb mb tb:Nat)(l:Nat):Prop:=
 ∀(w:World) (M:Nd) (lo F:Nat) (y:Option Addr) (I c1:Nat) (B:Option Addr) (G E:Nat) (A:Option Addr) (f:List Qg),Below J.1.size J w->Lj w lim base vb mb tb most «to» A f->Held w lo F y I c1 B G E M->(∀k,lo<=k->k<F->¬Vk vb A k)->lim<=lo->M.may=true->M.lvl=(l:Int)->f.length<=most.toNat->f.length+U5 R l M<=100000->
  Calls Tryz.prog 56 #[.pointer (some ⟨p,0,none⟩),.agg #[.int .i64 M.lvl,.slice y I c1,.slice B G E],.agg #[.int .i64 fr.obj,.int .i64 fr.kind,.int .i64 fr.off],.func (.func 54) #[] #[.pointer (some ⟨vb,0,none⟩),.pointer (some ⟨mb,0,none⟩),.pointer (some ⟨tb,0,none⟩)],.func (.func 57) #[] #[.pointer (some ⟨vb,0,none⟩)]] w λe w'=>
   e=.returned (.int .i64 (Vt R fr «to» most.toNat l M f).2)/\∃u,((Vt R fr «to» most.toNat l M f).2=0->Lj w' lim base vb mb tb most «to» u (Vt R fr «to» most.toNat l M f).1)/\Turn (Vk vb A) w w'/\∀k,q01 u=some k->q01 A=some k\/w.1.size<=k
theorem qnt {w0:World}{p:Nat}{R:Int->Nd × Int}(H:Src w0 p R)(f9:Tab w0)(fr «to»:Kd)(most:Int){lim base vb mb tb:Nat}(j0:w0.1.size<=vb)(a4:w0.1.size=lim)(l:Nat)(e7:qev w0 p R fr «to» most lim base vb mb tb l):qev w0 p R fr «to» most lim base vb mb tb (l+1):=by
 intro w M lo hi A1 n1 c1 B1 Q d1 A a2 B0 S Hd f4 k3 b3 hl ha hc;have IH:=Lib.hid e7;have e4:=Lib.hid a4;clear e7;obtain⟨-,i4,i6,i5,f6,f8⟩:=Fe b3 (by rw[hl];omega);obtain⟨t,a9⟩:∃t,M.Zb fr=t:=⟨_,rfl⟩;obtain⟨r,hr⟩:∃r,Kz M.keys fr t=r:=⟨_,rfl⟩;have g0:=f8 fr;rw[a9] at g0;obtain⟨G,d3⟩:∃G,Vt R fr «to» most.toNat (l+1) M a2=G:=⟨_,rfl⟩;have hG:Xv (Jp R fr «to» most.toNat l) «to» most.toNat (M.kids.drop t) a2=G:=by rw[<-d3,<-a9];rfl
 rw[d3];have f3:a2.length+((M.kids.drop t).map λx=>Zx R l x.a).sum<=100000:=by
  have h1:=ql4 (M.kids.map λx=>Zx R l x.a) t;rw[<-List.map_drop] at h1;have h2:a2.length+(M.kids.map λx=>Zx R l x.a).sum<=100000:=hc;omega
 have N1:NB ((w.alloc (.cells #[.int .i64 M.lvl,.slice A1 n1 c1,.slice B1 Q d1] 77)).alloc (.cells #[.int .i64 fr.obj,.int .i64 fr.kind,.int .i64 fr.off] 45)) w.1.size M.lvl A1 n1 c1 B1 Q d1:=(NB.new w _ _ _ _ _ _ _ _).below (Qn) (by simp);have b1:Below w.1.size w ((w.alloc (.cells #[.int .i64 M.lvl,.slice A1 n1 c1,.slice B1 Q d1] 77)).alloc (.cells #[.int .i64 fr.obj,.int .i64 fr.kind,.int .i64 fr.off] 45)):=(Qn).alloc (by simp) _;have z1:((w.alloc (.cells #[.int .i64 M.lvl,.slice A1 n1 c1,.slice B1 Q d1] 77)).alloc (.cells #[.int .i64 fr.obj,.int .i64 fr.kind,.int .i64 fr.off] 45)).1.size=w.1.size+2:=by simp
 have K1:KB ((w.alloc (.cells #[.int .i64 M.lvl,.slice A1 n1 c1,.slice B1 Q d1] 77)).alloc (.cells #[.int .i64 fr.obj,.int .i64 fr.kind,.int .i64 fr.off] 45)) (w.1.size+1) fr:=KB.new2 w _ fr.obj fr.kind fr.off _;have j7:Q<=20:=Hd.2.2.1;have a5:M.kids.length=Q:=by
  have:=Js.len Hd.rows.2;rwa [List.length_map] at this
 have d5:∀k,Vk vb A k->w0.1.size<=k/\k<w.1.size:=λk O=>by
  obtain⟨⟨_,_,hv,row,_⟩,_⟩:=S;rcases O with rfl|O
  ·exact⟨j0,Wx hv⟩
  ·exact⟨by rw[a4];exact (row.Qc k O).1,(row.Qc k O).2⟩
 clear a4;have S1:=S.below b1;have a6:=Hd.below b1;obtain⟨r1,s1⟩:=a6.rows;have e5:=Lib.hid (q28 M (q1n b3) fr t a9 r hr A1 n1 c1 B1 Q d1 _ r1.J5 s1 (by have:=Hd.2.1;omega) (by have:=Hd.2.2.1;omega));have g1:(M.lvl==0)=false:=by rw[hl];simp;omega
 have g2:decide (M.lvl=0)=false:=decide_eq_false (by rw[hl];omega);rw[a5] at g0;have HG:=Lib.hid hG;have a5:=Lib.hid a5;have Hl:=Lib.hid hl;have p0:=N1.c0;have p1:=N1.c1;have p2:=N1.c2;have k0:=K1.c0;have k1:=K1.c1;have k2:=K1.c2;have z0:=B0.size;clear a9 hr f8 hG d3 r1 s1 hl S Hd hc i5 f6;go_enter Tryz.func56,Tryz.ntmps56
 go_wp2_with fail
 refine e5.out.mono ?_;generalize (w.alloc (.cells #[.int .i64 M.lvl,.slice A1 n1 c1,.slice B1 Q d1] 77)).alloc (.cells #[.int .i64 fr.obj,.int .i64 fr.kind,.int .i64 fr.off] 45)=w1 at N1 b1 z1 S1 a6 K1 p0 p1 p2 k0 k1 k2 ⊢;rintro e w2 ⟨rfl,b2⟩;have N2:=N1.below b2 N1.lt;have K2:=K1.below b2 K1.lt;have S2:=S1.below b2;have g6:=a6.below b2;have B2:=b1.trans (b2.mono b1.size);have z2:=b2.size;clear p0 p1 p2 k0 k1 k2 e5 N1 S1 a6 K1 b1 b2;have p0:=N2.c0;go_wp2_with fail
 clear p0;go_loopw [11,13,14] (λiv _ _ wr=>∃(j:Nat) (A':Option Addr) (f:List Qg),j<=Q/\iv=.int .i64 (j:Int)/\Lj wr lim base vb mb tb most «to» A' f/\Xv (Jp R fr «to» most.toNat l) «to» most.toNat (M.kids.drop j) f=G/\f.length<=most.toNat/\f.length+((M.kids.drop j).map λx=>Zx R l x.a).sum<=100000/\Turn (Vk vb A) w2 wr/\∀k,q01 A'=some k->q01 A=some k\/w2.1.size<=k) (λiv _ _ _=>Q-(intOf iv).toNat)
 case atStart=>exact⟨t,A,a2,by omega,rfl,S2,HG.out,ha,f3,Turn.refl _ _,λk O=>.inl O⟩
 case round=>
  clear ha f3 HG S2;obtain⟨j,A',f,j9,rfl,S',J,ha,a0,X,c9⟩:=hrel;have Nr:=N2.turned X (λh=>by have:=(d5 _ h).2;omega);have Kr:=K2.keep (X.block _ K2.lt (λh=>by have:=(d5 _ h).2;omega));have Hr:=g6.turn X f4;have XB:Turn (Vk vb A) w wr:=(Qu (S:=Vk vb A) B2).trans X (λk h=>.inl h);have E:Below w0.1.size w0 wr:=B0.trans (XB.below (λk O=>(d5 k O).1) z0);have p2:=Nr.c2;have e2:=Lib.hid a0;clear a0;have out:G=(f,0)->∃A',Lj wr lim base vb mb tb most «to» A' G.1/\∀k,q01 A'=some k->q01 A=some k\/w.1.size<=k:=λe=>by
   refine⟨A',by rw[e];exact S',λk O=>(c9 k O).imp id λh=>by have:=B2.size;omega⟩
  have e8:=Lib.hid out;clear out;by_cases d9:j<Q
  ·obtain⟨g,o,rfl,hg,c0,c7,c2,c3⟩:=Hr.rows.2.cell d9;obtain⟨_,j8⟩:=Zp.bounds Hr.rows.2;have d7:=quv (l:=M.kids) (j:=j) (by rw[a5.out];exact d9);rw[d7] at J;have e3:=Lib.hid d7;clear d7;have Y:=Lib.hid (λw4 (K:Below wr.1.size wr w4)=>qkh H (E.trans (K.mono E.size)) (f9.below (E.trans (K.mono E.size)) f9.1) M.lvl i4 i6 M.kids A1 n1 c1 (some ⟨g,o,none⟩) Q d1 (Hr.below K).rows.2 j d9 (Qh M.kids j).a rfl);obtain⟨y,hy⟩:∃y,Qh M.kids j=y:=⟨_,rfl⟩;rw[hy] at c0 c7 c2 J e3 Y;clear hy c3;have e0:(0:Int)<=(j:Int):=by omega
   have e1:(j:Int)<(Q:Int):=by omega
   obtain⟨rr,I⟩:∃rr,(decide ((f.length:Int)<most)&&!(«to».less y.k))=rr:=⟨_,rfl⟩;have Hw:=Lib.hid (qb2 S' y.k rr I)
   cases rr with
   |false=>
    as_aux_lemma=>
     have B:G=(f,0):=by
      rw[<-J];unfold Xv;rw[if_pos ?_];rw[Bool.and_eq_false_iff] at I;rcases I with h|h
      ·exact .inr (by have:=of_decide_eq_false h;omega)
      ·exact .inl (by simpa using h)
     replace B:=Lib.hid B;clear J I;go_wp2_with (first
      |(go_at_call 54;refine Hw.out.mono ?_;rintro e w4 ⟨rfl,K⟩)
      |fail)
     go_ret;obtain⟨A9,S9,h9⟩:=e8.out B.out;exact⟨by rw[B.out];rfl,A9,λ_=>S9.below K,XB.trans (Qu (S:=Vk vb A) K) (λk h=>.inl h),h9⟩
   |true=>
    as_aux_lemma=>
     have u:(if (Jp R fr «to» most.toNat l y.a f).2≠0 then ([],(Jp R fr «to» most.toNat l y.a f).2) else Xv (Jp R fr «to» most.toNat l) «to» most.toNat (M.kids.drop (j+1)) (Jp R fr «to» most.toNat l y.a f).1)=G:=by
      have i9:¬(«to».less y.k=true\/most.toNat<=f.length):=by
       rw[Bool.and_eq_true] at I;rintro (h|h)
       ·rw[h] at I;simp at I
       ·have:=of_decide_eq_true I.1;omega
      rw[<-J,qns,if_neg i9]
     have a1:=Lib.hid (qgp (R:=R) (fr:=fr) («to»:=«to») l y.a f ha);have d8:=quu R fr «to» most.toNat Hl.out y.a f;obtain⟨M2,d4⟩:∃M2,Df R M.lvl y.a=M2:=⟨_,rfl⟩;obtain⟨E2,d0⟩:∃E2,Ad R M.lvl y.a=E2:=⟨_,rfl⟩;rw[d4,d0] at Y;rw[d4,d0] at d8;obtain⟨F2,i3⟩:∃F2,Jp R fr «to» most.toNat l y.a f=F2:=⟨_,rfl⟩;rw[i3] at d8 u a1;clear d4 d0 J I;have b9:=Lib.hid (λw4 (K:Below wr.1.size wr w4)=>(⟨(K.cell (p:=⟨g,_,none⟩) hg).trans c0,(K.cell (p:=⟨g,_,none⟩) hg).trans c7,(K.cell (p:=⟨g,_,none⟩) hg).trans c2⟩:_/\_/\_));go_wp2_with (first
      |(go_at_call 54;refine Hw.out.mono ?_;rintro e w4 ⟨rfl,K⟩;have N4:=Nr.below K Nr.lt;have u0:=N4.c0;have u1:=N4.c1;have u2:=N4.c2)
      |fail)
     refine (Y.out w4 K).mono ?_;rintro e w5 ⟨A2,n2,c8,b8,m2,d2,rfl,i8,i7,f1,f2,b5⟩;have g7:=qe3 i8 i7 f1 f2;have b6:Below w5.1.size w5 (w5.alloc (.cells #[.int .i64 0,.slice none 0 0,.slice none 0 0] 77)):=Qn;have NZ:NB (w5.alloc (.cells #[.int .i64 0,.slice none 0 0,.slice none 0 0] 77)) w5.1.size 0 none 0 0 none 0 0:=NB.new w5 _ _ _ _ _ _ _ _;have z4:=K.size;have z5:=b5.size;clear u0 u1 u2 f1 f2 Y Hw b9 c0 c7 c2 p2;rcases d8 with⟨hE,hF⟩|⟨hE,hR,f7,hF⟩
     ·as_aux_lemma=>
       rw[hF] at u;rw[if_pos hE] at u;have u:=Lib.hid u;have i2:=Lib.hid hE;have g3:(E2==0)=false:=by simp[hE]
       have g4:(E2 != 0)=true:=by simp[hE]
       clear hE hF;go_wp2_with (first
        |(refine Ub rfl (.tmp 13) _ rfl w5.1.size rfl M2.lvl A2 n2 c8 b8 m2 d2 rfl NZ ?_;intro w6 N6 T6)
        |fail)
       go_ret;have a7:Turn (λ_=>False) w5 w6:=(Qu (S:=λ_=>False) b6).trans T6 (λk h=>.inr (by have h:k=w5.1.size:=h;omega));have X6:Turn (λ_=>False) wr w6:=((Qu (S:=λ_=>False) K).trans (Qu (S:=λ_=>False) b5) (λ_ h=>.inl h)).trans a7 (λ_ h=>.inl h);exact⟨by rw[<-u.out];rfl,A,λh=>absurd (by rw[<-u.out] at h;exact h) i2.out,XB.trans X6 (λ_ h=>h.elim),λk h=>.inl h⟩
     ·as_aux_lemma=>
       subst hE;have b7:((M.kids.drop j).map λx=>Zx R l x.a).sum=U5 R l M2+((M.kids.drop (j+1)).map λx=>Zx R l x.a).sum:=by
        rw[e3.out,List.map_cons,List.sum_cons,q3q hR]
       have a0:=e2.out;rw[b7] at a0;have a3:=a1.out;rw[q3q hR] at a3;have F:=H.may y.a (by rw[hR]);rw[hR] at F;have F:M2.may=true:=F;have c6:=Lib.hid a3;have HR:=Lib.hid hR;have g9:=Lib.hid f7;have HF:=Lib.hid hF;have e6:=Lib.hid u;have b0:=Lib.hid a0;clear b7 a0 a3 hR f7 hF u a1 e2;go_wp2_with (first
        |(refine Ub rfl (.tmp 13) _ rfl w5.1.size rfl M2.lvl A2 n2 c8 b8 m2 d2 rfl NZ ?_;intro w6 N6 T6;have v0:=N6.c0;have v1:=N6.c1;have v2:=N6.c2;have a7:Turn (λ_=>False) w5 w6:=(Qu (S:=λ_=>False) b6).trans T6 (λk h=>.inr (by have h:k=w5.1.size:=h;omega));have X6:Turn (λ_=>False) wr w6:=((Qu (S:=λ_=>False) K).trans (Qu (S:=λ_=>False) b5) (λ_ h=>.inl h)).trans a7 (λ_ h=>.inl h);have K6:=Kr.keep (X6.block _ Kr.lt (λh=>h));have k0:=K6.c0;have k1:=K6.c1;have k2:=K6.c2)
        |fail)
       have a8:Below wr.1.size wr w6:=X6.below (λ_ h=>h.elim) (Nat.le_refl _);have g5:=E.trans (a8.mono E.size);have S6:=S'.below a8;have g8:=g7.turn a7 (λ_ _ _ h=>h);have d6:∀k,w4.1.size<=k->k<w5.1.size->¬Vk vb A' k:=λk h1 h2 h=>by
        obtain⟨⟨_,_,hv,row,_⟩,_⟩:=S';rcases h with rfl|h
        ·have:=Wx hv;omega
        ·have:=(row.Qc k h).2;omega
       refine (IH.out w6 M2 w4.1.size w5.1.size A2 n2 c8 b8 m2 d2 A' f g5 S6 g8 d6 (by have:=E.size;have:=e4.out;omega) F g9.out ha (by have:=b0.out;omega)).mono ?_;rw[<-HF.out];rintro e w7 ⟨rfl,A7,h7,X7,i1⟩;have z6:=a8.size;have z7:=X7.size;have zr:=X.size;have e9:Turn (Vk vb A) w2 w7:=(X.trans (Qu (S:=Vk vb A) a8) (λ_ h=>.inl h)).trans X7 (λk O=>by
        rcases O with rfl|O
        ·exact .inl (.inl rfl)
        ·exact (c9 k O).imp (λh=>.inr h) id)
       have f0:∀k,q01 A7=some k->q01 A=some k\/w2.1.size<=k:=λk O=>by
        rcases i1 k O with h|h
        ·exact c9 k h
        ·exact .inr (by omega)
       clear v0 v1 v2 k0 k1 k2;by_cases h0:F2.2=0
       ·as_aux_lemma=>
         have g3:(F2.2==0)=true:=by simp[h0]
         have g4:(F2.2 != 0)=false:=by simp[h0]
         have W:=e6.out;rw[if_neg (by simpa using h0)] at W;have Z:=Lib.hid W;have h7:=h7 h0;obtain⟨q1,q2⟩:=c6.out h0;clear W h0;go_wp2_with fail
         exact⟨⟨j+1,A7,F2.1,by omega,by go_num,h7,Z.out,q1,by have:=b0.out;omega,e9,f0⟩,by simp[intOf];omega⟩
       ·as_aux_lemma=>
         have g3:(F2.2==0)=false:=by simp[h0]
         have g4:(F2.2 != 0)=true:=by simp[h0]
         have W:=e6.out;rw[if_pos h0] at W;have Z:=Lib.hid W;have i0:=Lib.hid h0;clear W h0 h7;go_wp2_with fail
         go_ret;exact⟨by rw[<-Z.out];rfl,A,λh=>absurd (by rw[<-Z.out] at h;exact h) i0.out,(Qu (S:=Vk vb A) B2).trans e9 (λ_ h=>.inl h),λk h=>.inl h⟩
  ·as_aux_lemma=>
    have f5:j=Q:=by omega
    have B:G=(f,0):=by
     rw[<-J,List.drop_eq_nil_of_le (by rw[a5.out];omega)];rfl
    replace B:=Lib.hid B;have e1:¬(j:Int)<(Q:Int):=by omega
    clear J f5;go_wp2_with fail
    go_ret;obtain⟨A9,S9,h9⟩:=e8.out B.out;exact⟨by rw[B.out];rfl,A9,λ_=>S9,XB,h9⟩
theorem qh2 {F:World}{p:Nat}{R:Int->Nd × Int}(H:Src F p R)(B:Tab F)(fr «to»:Kd)(most:Int){lim base vb mb tb:Nat}(E:F.1.size<=vb)(f:F.1.size=lim):∀l,qev F p R fr «to» most lim base vb mb tb l
 |0=>by
  intro w M lo Z K n1 c1 O m1 Q A G _ S Hd u I y hl X Y;refine (qnc (p:=p) fr «to» most w M lo Z K n1 c1 O m1 Q A G S Hd u I y hl X Y).mono ?_;rintro e w' ⟨rfl,J,h1,h2,W⟩;exact⟨rfl,J,λ_=>h1,h2,W⟩
 |l+1=>qnt H B fr «to» most E f l (qh2 H B fr «to» most E f l)
theorem qs1 {w:World}{p:Nat}{R:Int->Nd × Int}(H:Src w p R)(ht:Tab w)(root:Int)(fr «to»:Kd)(most:Int)(K:root≠0->Zx R (Ug R root) root<=100000) :
  Calls Tryz.prog 18 #[.pointer (some ⟨p,0,none⟩),.int .i64 root,.agg #[.int .i64 fr.obj,.int .i64 fr.kind,.int .i64 fr.off],.agg #[.int .i64 «to».obj,.int .i64 «to».kind,.int .i64 «to».off],.int .i64 most] w λe w'=>∃A n c,e=.returned (.tuple #[.slice A n c,.int .i64 (D7 R fr «to» most root).2])/\Jt w' w.1.size A n c (D7 R fr «to» most root).1/\Below w.1.size w w':=by
 obtain⟨G,f⟩:∃G,D7 R fr «to» most root=G:=⟨_,rfl⟩;rw[f];unfold D7 at f;obtain⟨K1,K2,b2⟩:=Qbk w fr «to»;have O:Below w.1.size w (((w.alloc (.cells #[.int .i64 fr.obj,.int .i64 fr.kind,.int .i64 fr.off] 45)).alloc (.cells #[.int .i64 «to».obj,.int .i64 «to».kind,.int .i64 «to».off] 45)).alloc (.cells #[.int .i64 most] 3)):=b2.alloc (by simp;omega) _;have a0:Below ((w.alloc (.cells #[.int .i64 fr.obj,.int .i64 fr.kind,.int .i64 fr.off] 45)).alloc (.cells #[.int .i64 «to».obj,.int .i64 «to».kind,.int .i64 «to».off] 45)).1.size _ (((w.alloc (.cells #[.int .i64 fr.obj,.int .i64 fr.kind,.int .i64 fr.off] 45)).alloc (.cells #[.int .i64 «to».obj,.int .i64 «to».kind,.int .i64 «to».off] 45)).alloc (.cells #[.int .i64 most] 3)):=Qn;have F:=K1.below a0 K1.lt;have Z:=K2.below a0 K2.lt;have V3:(((w.alloc (.cells #[.int .i64 fr.obj,.int .i64 fr.kind,.int .i64 fr.off] 45)).alloc (.cells #[.int .i64 «to».obj,.int .i64 «to».kind,.int .i64 «to».off] 45)).alloc (.cells #[.int .i64 most] 3)).1[w.1.size+2]?=some (.cells #[.int .i64 most] 3 (0,0)):=by
  have:=heap_alloc_new ((w.alloc (.cells #[.int .i64 fr.obj,.int .i64 fr.kind,.int .i64 fr.off] 45)).alloc (.cells #[.int .i64 «to».obj,.int .i64 «to».kind,.int .i64 «to».off] 45)) (.cells #[.int .i64 most] 3);rwa [World.size_alloc,World.size_alloc] at this
 have z3:(((w.alloc (.cells #[.int .i64 fr.obj,.int .i64 fr.kind,.int .i64 fr.off] 45)).alloc (.cells #[.int .i64 «to».obj,.int .i64 «to».kind,.int .i64 «to».off] 45)).alloc (.cells #[.int .i64 most] 3)).1.size=w.1.size+3:=by simp
 have c3:=cell_of_one V3;clear K1 K2 b2 a0;by_cases h0:root=0
 ·rw[if_pos (.inl h0)] at f;subst h0;subst f;go_enter Tryz.func18,Tryz.ntmps18
  go_wp2_with fail
  go_ret2;exact⟨none,0,0,rfl,Pq _ _,O⟩
 ·have g1:(root==0)=false:=by simp[h0]
  have g2:decide (root=0)=false:=decide_eq_false h0;by_cases hm:most<1
  ·rw[if_pos (.inr hm)] at f;subst f;clear h0 K;go_enter Tryz.func18,Tryz.ntmps18
   go_wp2_with fail
   go_ret2;exact⟨none,0,0,rfl,Pq _ _,O⟩
  ·rw[if_neg (by rintro (h|h);exact h0 h;exact hm h)] at f;have hc:=K h0;have Hn:=Lib.hid (H.node _ O (ht.below O ht.1) root);have I:=H.may root;obtain⟨M,E,hR⟩:∃M E,R root=(M,E):=⟨_,_,rfl⟩;have HR:=Lib.hid hR;rw[hR] at Hn I;have I:E=0->M.may=true:=I;have hl:Ug R root=M.lvl.toNat:=by unfold Ug;rw[hR]
   rw[hl] at f hc;clear hR hl h0 K;by_cases hE:E=0
   ·subst hE;have X:=I rfl;have b8:0<=M.lvl/\M.lvl<8:=by
     by_cases h1:M.lvl=0
     ·omega
     ·have:=Fe X h1;omega
    obtain⟨l,hl⟩:∃l,M.lvl.toNat=l:=⟨_,rfl⟩;have a2:M.lvl=(l:Int):=by omega
    rw[hl] at f hc;rw[q9r HR.out [] a2] at f;rw[q3q HR.out] at hc;have Hc:=Lib.hid hc;have HG:=Lib.hid f;have b1:=Lib.hid a2;have a6:=F.c0;have a7:=F.c1;have a8:=F.c2;clear hc f a2 hl b8 I;go_enter Tryz.func18,Tryz.ntmps18
    go_wp2_with fail
    refine Hn.out.mono ?_;generalize ((w.alloc (.cells #[.int .i64 fr.obj,.int .i64 fr.kind,.int .i64 fr.off] 45)).alloc (.cells #[.int .i64 «to».obj,.int .i64 «to».kind,.int .i64 «to».off] 45)).alloc (.cells #[.int .i64 most] 3)=w3 at F Z V3 z3 c3 O a6 a7 a8 ⊢;rintro e u ⟨A1,n1,c1,B1,m1,d1,rfl,a5,a4,hI,W,b4⟩;have Hd:=qe3 a5 a4 hI W;have N4:NB (u.alloc (.cells #[.int .i64 0,.slice none 0 0,.slice none 0 0] 77)) u.1.size 0 none 0 0 none 0 0:=NB.new u _ _ _ _ _ _ _ _;have b5:Below u.1.size u (u.alloc (.cells #[.int .i64 0,.slice none 0 0,.slice none 0 0] 77)):=Qn;have z4:=b4.size;clear hI W Hn c3 a6 a7 a8;go_wp2_with (first
     |(refine Ub rfl (.tmp 12) _ rfl u.1.size rfl M.lvl A1 n1 c1 B1 m1 d1 rfl N4 ?_;intro B N6 T6;have J:Turn (λ_=>False) u B:=(Qu (S:=λ_=>False) b5).trans T6 (λk h=>.inr (by have h:k=u.1.size:=h;omega));have z6:=J.size;have b9:=N6.lt;have a1:Below B.1.size B (B.alloc (.cells #[.slice none 0 0] 41)):=Qn;have Q:Turn (λ_=>False) w3 (B.alloc (.cells #[.slice none 0 0] 41)):=((Qu (S:=λ_=>False) b4).trans J (λ_ h=>.inl h)).trans (Qu (S:=λ_=>False) a1) (λ_ h=>.inl h);have K7:=F.keep (Q.block _ F.lt (λh=>h));have k0:=K7.c0;have k1:=K7.c1;have k2:=K7.c2;have N7:=N6.below a1 N6.lt;have q0:=N7.c0;have q1:=N7.c1;have q2:=N7.c2)
     |fail)
    have b6:Turn (λ_=>False) u (B.alloc (.cells #[.slice none 0 0] 41)):=J.trans (Qu (S:=λ_=>False) a1) (λ_ h=>.inl h);have b0:=Hd.turn b6 (λ_ _ _ h=>h);have V7:(B.alloc (.cells #[.slice none 0 0] 41)).1[B.1.size]?=some (.cells #[.slice none 0 0] 41 (0,0)):=heap_alloc_new B _;have z7:(B.alloc (.cells #[.slice none 0 0] 41)).1.size=B.1.size+1:=by simp
    have S7:Lj (B.alloc (.cells #[.slice none 0 0] 41)) w.1.size (B.1.size+1) B.1.size (w.1.size+2) (w.1.size+1) most «to» none []:=by
     have b7:=Z.lt;exact⟨⟨_,0,V7,Pq _ _,λk h=>(by cases h)⟩,⟨_,(Q.block _ (by omega) (λh=>h)).trans V3⟩,Z.keep (Q.block _ b7 (λh=>h)),by omega,⟨by omega,by omega,by omega,by omega,by omega,by omega⟩⟩
    have B7:Below w.1.size w (B.alloc (.cells #[.slice none 0 0] 41)):=O.trans (Q.below (λ_ h=>h.elim) O.size);clear k0 k1 k2 q0 q1 q2;refine (qh2 H ht fr «to» most (lim:=w.1.size) (base:=B.1.size+1) (vb:=B.1.size) (mb:=w.1.size+2) (tb:=w.1.size+1) (by omega) rfl l _ M w3.1.size u.1.size A1 n1 c1 B1 m1 d1 none [] B7 S7 b0 (λk h1 h2 h=>by
     rcases h with h|h
     ·omega
     ·cases h) (by omega) X b1.out (Nat.zero_le _) (by have:=Hc.out;simpa using this)).mono ?_
    rw[HG.out];rintro e w8 ⟨rfl,A8,h8,X8,c6⟩;have B8:Below w.1.size w w8:=B7.trans (X8.below (λk hk=>by
     rcases hk with h|h
     ·omega
     ·cases h) B7.size)
    by_cases y:G.2=0
    ·have g3:(G.2==0)=true:=by simp[y]
     have g4:(G.2 != 0)=false:=by simp[y]
     obtain⟨⟨t,c,hv,row,-⟩,-⟩:=h8 y;have c7:=cell_of_one hv;have a9:=Lib.hid y;clear y;go_wp2_with fail
     go_ret2;exact⟨A8,_,c,by rw[a9.out];rfl,row,B8⟩
    ·have g3:(G.2==0)=false:=by simp[y]
     have g4:(G.2 != 0)=true:=by simp[y]
     have Y:G.1=[]:=by
      have h:=y;rw[<-HG.out] at h ⊢;exact qna _ _ _ h
     have a3:=Lib.hid Y;clear y h8 Y;go_wp2_with fail
     go_ret2;exact⟨none,0,0,rfl,by rw[a3.out];exact Pq _ _,B8⟩
   ·have g3:(E==0)=false:=by simp[hE]
    have g4:(E != 0)=true:=by simp[hE]
    rw[q7a (by rw[HR.out];exact hE)] at f;rw[HR.out] at f;subst f;clear hE I hc;go_enter Tryz.func18,Tryz.ntmps18
    go_wp2_with fail
    refine Hn.out.mono ?_;rintro e u ⟨A1,n1,c1,B1,m1,d1,rfl,a5,a4,hI,W,b4⟩;have N4:NB (u.alloc (.cells #[.int .i64 0,.slice none 0 0,.slice none 0 0] 77)) u.1.size 0 none 0 0 none 0 0:=NB.new u _ _ _ _ _ _ _ _;have b5:Below u.1.size u (u.alloc (.cells #[.int .i64 0,.slice none 0 0,.slice none 0 0] 77)):=Qn;clear hI W Hn c3;go_wp2_with (first
     |(refine Ub rfl (.tmp 12) _ rfl u.1.size rfl M.lvl A1 n1 c1 B1 m1 d1 rfl N4 ?_;intro B N6 T6)
     |fail)
    go_ret2;have J:Turn (λ_=>False) u B:=(Qu (S:=λ_=>False) b5).trans T6 (λk h=>.inr (by have h:k=u.1.size:=h;omega));exact⟨none,0,0,rfl,Pq _ _,O.trans ((b4.mono O.size).trans (J.below (λ_ h=>h.elim) (by have:=b4.size;have:=O.size;omega)))⟩
section
variable {w:World}{p:Nat}{R:Int->Nd × Int}{root:Int}{its:List Qg}
theorem Told.Qa0 (h:Told w p R root its)(ht:Tab w)(fr «to»:Kd)(most:Int)(L:List Qg)(hL:(within fr «to» its).take most.toNat=L) :
  Calls Tryz.prog 18 #[.pointer (some ⟨p,0,none⟩),.int .i64 root,.agg #[.int .i64 fr.obj,.int .i64 fr.kind,.int .i64 fr.off],.agg #[.int .i64 «to».obj,.int .i64 «to».kind,.int .i64 «to».off],.int .i64 most] w λe w'=>∃A n c,e=.returned (.tuple #[.slice A n c,.int .i64 0])/\Jt w' w.1.size A n c L/\Below w.1.size w w':=by
 have:=qs1 h.src ht root fr «to» most (λh0=>by have:=qnb (qr6 R) h.tree h0;have:=h.len;omega);rw[qr2 h.tree h.Qk,hL] at this;exact this
end
theorem qy1 {l:List Qg}(h:∀x∈l,Zr x)(f:l.length<=150):(within ⟨0,0,0⟩ ⟨2147483647,255,2147483647⟩ l).take (1000:Int).toNat=l:=by
 rw[qn9 λx e=>(h x e).1,List.take_of_length_le];show l.length<=1000;omega
section
variable {b:Nat}{w w':World}{d p:Nat}{U:Nat->Prop}{D:DM}{P P':Pl}{H H0:List Int}{m:Nat}{g:Int}{root:Int}{its:List Qg}{S0:Sp}{C0:Ct}
theorem Ed.Qa6 (E:Ed b w d p U D P H m g)(hT:Zl (P.store D) root its)(hr:Qk its)(hf:∀x∈its,Zr x)(hl:its.length<=150) :
  Calls Tryz.prog 33 #[.pointer (some ⟨p,0,none⟩),.int .i64 root] w λe w'=>∃A n c,e=.returned (.slice A n c)/\Jt w' w.1.size A n c its/\Below w.1.size w w':=by
 have f:=Lib.hid ((E.told hT hr hl).Qa0 E.tab ⟨0,0,0⟩ ⟨2147483647,255,2147483647⟩ 1000 its (qy1 hf hl));go_enter Tryz.func33,Tryz.ntmps33
 go_wp2_with fail
 refine f.out.mono ?_;rintro e B ⟨A,n,c,rfl,y,u⟩;go_wp2;go_ret;exact⟨A,n,c,rfl,y,u⟩
theorem qh3 {R:Int->Nd × Int}:∀{l:Nat} {r b:Int} {its:List Qg},Qi R l r its->b∈Jl R l r->(R b).1.lvl<=(l:Int)
 |0,r,b,its,h,f=>by
  obtain rfl:b=r:=List.mem_singleton.1 f;rw[h.1];exact Int.le_refl _
 |l+1,r,b,its,h,f=>by
  obtain⟨kids,parts,e,G,I,J,F⟩:=h;rcases List.mem_cons.1 f with rfl|f
  ·rw[e];exact Int.le_refl _
  ·obtain⟨k,A,f⟩:=List.mem_flatMap.1 f;rw[e] at A;obtain⟨j,u,E⟩:=List.getElem_of_mem A;have B:Qh kids j=k:=by
    have:=q11 u;rw[List.getElem?_eq_getElem u,E] at this;exact (Option.some.inj this).symm
   have y:=(F j u).1;rw[B] at y;have:=qh3 y f;omega
theorem Keep.Ey (K:Keep D S0 C0 [] [root] P){l:Nat}(h:Qi (P.store D) l root its):P.C.get root=1:=by
 have B:=q7d h;obtain⟨c,rfl,c0,Z⟩:=q4j K B;have X:=q2g.2 h;have J:=(Ce h).2.1;have A:=K.Vz.eq c c0 Z;rw[List.count_singleton_self] at A;have hz:refs (λb=>(P.hide D [] (b:Int)).1.named) P.C.n P.cnt c=0:=by
  refine q5v λb hb=>?_
  by_cases G:1<=P.cnt b
  ·rw[if_pos G];refine List.count_eq_zero_of_not_mem λhm=>?_
   have hm:(c:Int)∈(P.hide D [] (b:Int)).1.named:=hm;have h0:P.C.get (b:Int)≠0:=(q84 K.c).1 G;have F:(P.hide D [] (c:Int))=P.store D (c:Int):=by rw[Et (by simp)];exact D5 B
   rcases K.told h0 (by simp) with hd|L
   ·rw[q3w hd] at hm;cases hm
   ·have M:∀y∈(P.hide D [] (b:Int)).1.kids,y.a=(c:Int)->False:=λy f u=>by
     obtain⟨q1,Y,_,_⟩:=L.kids y f;rw[u,F] at Y;have q3:(P.store D (c:Int)).1.lvl=(l:Int):=J;rw[q3] at Y;have E:0<=(P.hide D [] (b:Int)).1.lvl:=by omega
     obtain⟨s1,s2⟩:=qbo L.err E;have I:(b:Int)∈Jl (P.hide D []) l (c:Int):=q3e (H:=[(c:Int)]) K.Ii K.Yp K.c K.Ze.ok.res (S:=λa:Nat=>(a:Int)∈Jl (P.hide D []) l (c:Int)) (λx _ _ hx _=>by
      rw[List.mem_singleton.1 hx];exact q8h _ _ _) (λx z _ _ _ _ O Q ⟨y,f,e⟩=>by
      rw[<-e];refine q53 X Q y ?_;rw[Et (by simp),D5 O];exact f) b hb s2
     have:=qh3 X I;omega
    unfold Nd.named at hm;rcases List.mem_append.1 hm with hm|hm
    ·obtain⟨y,f,u⟩:=List.mem_map.1 hm;exact M y f u
    ·obtain⟨y,f,u⟩:=List.mem_filterMap.1 hm;have W:=L.data y f _ u;rw[Et (by simp)] at W;exact (q7q K.Ze W).2 B
  ·rw[if_neg G]
 unfold Pl.cnt at A hz;have:=(Ct.Zd K.c (c:Int)).1;omega
theorem Ed.Ey (E:Ed b w d p U D P (Jy root++[]) m g)(hT:Zl (P.store D) root its)(h0:root≠0):P.C.get root=1:=by
 obtain⟨S0,C0,K⟩:=E.Qag.keep;rw[show Jy root=[root] from if_neg h0] at K;rcases hT with⟨_,h⟩|⟨l,_,e,_⟩
 ·exact absurd h h0
 ·exact K.Ey e
def Uz (r:Int)(k:Nat):List Int:=if r=0 then [] else List.replicate k r
end
section
variable {b:Nat}{w:World}{d p:Nat}{S0 S T:Nat->Prop}{D:DM}{P:Pl}
theorem qh4 (H:Qe b w d p S0 S T D P)(Y:1<b)(E:Tab w)(x:Int)(h2:2<=P.C.get x) :
  Calls Tryz.prog 39 #[.pointer (some ⟨p,0,none⟩),.int .i64 x] w λe w'=>e=.returned (.tuple #[.slice none 0 0,.int .i64 0])/\Qe b w' d p S0 S T D ⟨P.S,P.C.Qj x,P.L⟩/\Turn S w w'/\Tab w':=by
 have X:=H.low;obtain⟨G,B⟩:∃G,P.C.get x=G:=⟨_,rfl⟩;have J:=Lib.hid (q1l H.pool x _ B);have f:U9 P [x]:=λz hz=>by
  rw[List.mem_singleton.1 hz,List.count_singleton_self];omega
 have F:G8 [x] P=some ⟨P.S,P.C.Qj x,P.L⟩:=by
  have W:P.C.Zh x=0:=by unfold Ct.Zh;rw[if_neg (by omega)]
  show (if P.C.Zh x=0 then _ else none)=_;rw[if_pos W];rfl
 have Z:¬G=1:=by omega
 have l1:=Oi w x;have u:Below w.1.size w (w.alloc (.cells #[.int .i64 x] 3)):=Qn;have K:=Lib.hid (q3s (H.below u) Y (E.below u E.1) [x] (some ⟨w.1.size,0,none⟩) 1 1 l1 (by omega) (λk y hs=>by
  have:w.1.size=k:=Option.some.inj y;have:=X k hs;omega) λ_=>F)
 have M:Turn S w (w.alloc (.cells #[.int .i64 x] 3)):=Qu u;clear F B;go_enter Tryz.func39,Tryz.ntmps39
 go_wp2_with fail
 refine J.out.mono ?_;rintro e w1 ⟨rfl,rfl⟩;go_wp2_with fail
 refine K.out.mono ?_;rintro e w9 (⟨_,rfl,I,O,t9⟩|⟨A,_⟩)
 ·have Q:=M.trans O λk y=>.inl y
  go_wp2;go_ret2;exact⟨rfl,I,Q,t9⟩
 ·exact absurd f A
theorem qs2 (w:World)(p:Option Addr) :
  Calls Tryz.prog 82 #[.pointer p,.slice none 0 0] w λe w'=>e=.returned (.int .i64 0)/\w=w':=by
 go_enter Tryz.func82,Tryz.ntmps82
 go_wp2_with fail
 go_loopw [11] (λi wr=>i=.int .i64 0/\wr=w) (λ_ _=>0)
 case atStart=>exact⟨rfl,rfl⟩
 case round=>
  obtain⟨rfl,rfl⟩:=hrel;go_wp2_with fail
  go_ret;exact⟨rfl,rfl⟩
theorem qh5 (H:Qe b w d p S0 S T D P)(J:1<b)(M:Tab w)(x:Int)(h2:2<=P.C.get x)(A:Option Addr)(c:Nat)(K:Vw w A 1 c [x]) :
  Calls Tryz.prog 82 #[.pointer (some ⟨p,0,none⟩),.slice A 1 c] w λe w'=>e=.returned (.int .i64 0)/\Qe b w' d p S0 S T D ⟨P.S,P.C.Qj x,P.L⟩/\Turn S w w'/\Tab w':=by
 have F:=Lib.hid (qh4 H J M x h2);obtain⟨g,o,u,f,X⟩:=q55 K (j:=0) (by omega);subst u;have f:w.cell? ⟨g,o+0,none⟩=some (.int .i64 x):=f;rw[Nat.add_zero] at f;go_enter Tryz.func82,Tryz.ntmps82
 go_wp2_with fail
 go_loopw [11] (λi wr=>(i=.int .i64 0/\wr=w)\/(i=.int .i64 1/\Qe b wr d p S0 S T D ⟨P.S,P.C.Qj x,P.L⟩/\Turn S w wr/\Tab wr)) (λi _=>1-(intOf i).toNat)
 case atStart=>exact .inl ⟨rfl,rfl⟩
 case round=>
  rcases hrel with⟨rfl,rfl⟩|⟨rfl,B,I,Q⟩
  ·go_wp2_with fail
   refine F.out.mono ?_;rintro e W ⟨rfl,y,G,O⟩;have E:=Lib.hid (qs2 W (some ⟨p,0,none⟩));go_wp2_with fail
   refine E.out.mono ?_;rintro e Y ⟨rfl,rfl⟩;go_wp2;exact⟨.inr ⟨rfl,y,G,O⟩,by simp[intOf]⟩
  ·clear f;go_wp2;go_ret;exact⟨rfl,B,I,Q⟩
theorem qh6 (H:Qe b w d p S0 S T D P)(F:1<b)(u:Tab w)(x:Int)(J:x≠0)(h2:2<=P.C.get x) :
  Calls Tryz.prog 35 #[.pointer (some ⟨p,0,none⟩),.int .i64 x] w λe w'=>e=.returned (.int .i64 0)/\Qe b w' d p S0 S T D ⟨P.S,P.C.Qj x,P.L⟩/\Turn S w w'/\Tab w':=by
 have f:Below w.1.size w (w.alloc (.cells #[.int .i64 x] 3)):=Qn;have A:Turn S w (w.alloc (.cells #[.int .i64 x] 3)):=Qu f;have Hd:=Lib.hid (qh5 (H.below f) F (u.below f u.1) x h2 _ 1 (Oi w x));go_enter Tryz.func35,Tryz.ntmps35
 go_wp2_with fail
 refine Hd.out.mono ?_;rintro e K ⟨rfl,y,B,I⟩;have E:=A.trans B λk G=>.inl G
 go_wp2;go_ret;exact⟨rfl,y,E,I⟩
end
section
variable {b:Nat}{w w':World}{d p:Nat}{U:Nat->Prop}{D:DM}{P P' P3:Pl}{H H0:List Int}{m:Nat}{g:Int}{root:Int}{row:List Qg}
theorem Ed.Nb (E:Ed b w d p U D P (root::H) m g)(hb:1<b)(h0:root≠0)(hE:P.Qd D root=0)(h2:2<=P.C.get root) :
  Calls Tryz.prog 35 #[.pointer (some ⟨p,0,none⟩),.int .i64 root] w λe w'=>e=.returned (.int .i64 0)/\Fj b w w' d p U D P ⟨P.S,P.C.Qj root,P.L⟩ H m g/\(P.C.Qj root).free=P.C.free/\∀a,(P.C.Qj root).get a=P.C.get a-(if root=a then 1 else 0):=by
 obtain⟨I,J,M,O,Q,G⟩:=E.sys;obtain⟨S0,C0,K⟩:=E.keep;obtain⟨c,rfl,c0,Y⟩:=q4j K hE;have f:P.C.get (c:Int)≠0:=by omega
 obtain⟨_,A,_⟩:=K.Qj (H0:=H) h2 λ_ _ _=>rfl
 have B:=q3t (D:=D) f;have u:(P.C.Qj (c:Int)).free=P.C.free:=by
  rw[(q2q f).2];exact qgy f (by omega)
 refine (qh6 O hb E.tab (c:Int) h0 h2).mono ?_;rintro e w' ⟨rfl,y,X,W⟩;exact⟨rfl,⟨⟨⟨I,J,M,y,Q,G⟩,λk F=>⟨(E.low k F).1,by have:=(E.low k F).2;have:=X.size;omega⟩,W,⟨S0,C0,A⟩,E.Xw,E.gen⟩,B,ql9 K A B,X.mono G⟩,u,λa=>q56 f a⟩
structure Vq (b:Nat)(w:World)(d p:Nat)(U:Nat->Prop)(D:DM)(P3 P:Pl)(r:Int)(k:Nat)(row:List Qg)(m:Nat)(g:Int):Prop where
 ed:Ed b w d p U D P (Uz r k) m g
 tree:1<=k->Zl (P.store D) r row
 free:1<=k->P.C.free=P3.C.free
 get:1<=k->r≠0->P.C.get r=k
 like:P3.like P
 n:P.C.n=P3.C.n
theorem qnu (r:Int):Uz r 0=[]:=by unfold Uz;split<;>rfl
theorem q8p {r:Int}(h:r≠0)(k:Nat):Uz r (k+1)=r::Uz r k:=by
 unfold Uz;rw[if_neg h,if_neg h,List.replicate_succ]
theorem Vq.below {r:Int}{k:Nat}(h:Vq b w d p U D P3 P r k row m g)(hb:Below w.1.size w w'):Vq b w' d p U D P3 P r k row m g:=⟨h.ed.below hb,h.tree,h.free,h.get,h.like,h.n⟩
theorem Vq.hold {r:Int}{k:Nat}(h:Vq b w d p U D P3 P r k row m g)(hb:1<b)(hk1:1<=k)(hk:k<=30) :
  Calls Tryz.prog 29 #[.pointer (some ⟨p,0,none⟩),.int .i64 r] w λe w'=>∃P',e=.returned (.int .i64 0)/\Vq b w' d p U D P3 P' r (k+1) row m g/\Turn U w w':=by
 by_cases h0:r=0
 ·subst h0;refine (qd3 w _).mono ?_;rintro e w' ⟨rfl,rfl⟩;exact⟨P,rfl,⟨h.ed,λ_=>h.tree hk1,λ_=>h.free hk1,λ_ B=>absurd rfl B,h.like,h.n⟩,Turn.refl _ _⟩
 ·have f:=h.tree hk1;have A:=h.get hk1 h0;refine (h.ed.hold hb h0 (h.ed.Bh f h0) (by omega)).mono ?_;rintro e w' ⟨rfl,L,u,y⟩;have hm:r∈r::Uz r k:=List.mem_cons_self ..;exact⟨_,rfl,⟨by rw[q8p h0];exact L.ed,λ_=>L.tree f λ_=>hm,λ_=>u.trans (h.free hk1),λ_ _=>(by show (P.C.ref r).get r=_;rw[y,if_pos rfl,A];omega),h.like.trans L.only.like,L.only.n.trans h.n⟩,L.turn⟩
theorem Vq.drop {r:Int}{k:Nat}(h:Vq b w d p U D P3 P r (k+1) row m g)(hb:1<b) :
  Calls Tryz.prog 35 #[.pointer (some ⟨p,0,none⟩),.int .i64 r] w λe w'=>∃P',e=.returned (.int .i64 0)/\Vq b w' d p U D P3 P' r k row m g/\Turn U w w':=by
 by_cases h0:r=0
 ·subst h0;refine (qd7 w _).mono ?_;rintro e w' ⟨rfl,rfl⟩;exact⟨P,rfl,⟨h.ed,λ_=>h.tree (by omega),λ_=>h.free (by omega),λ_ G=>absurd rfl G,h.like,h.n⟩,Turn.refl _ _⟩
 ·have y:=h.tree (by omega);have F:=h.get (by omega) h0;have u:=h.ed.Bh y h0;have E:=h.ed;rw[q8p h0] at E;by_cases f:1<=k
  ·refine (E.Nb hb h0 u (by omega)).mono ?_;rintro e w' ⟨rfl,L,A,B⟩;have hm:r∈Uz r k:=by
    obtain⟨j,rfl⟩:∃j,k=j+1:=⟨k-1,by omega⟩;rw[q8p h0];exact List.mem_cons_self ..
   exact⟨_,rfl,⟨L.ed,λ_=>L.tree y λ_=>hm,λ_=>A.trans (h.free (by omega)),λ_ _=>(by show (P.C.Qj r).get r=_;rw[B,if_pos rfl,F];omega),h.like.trans L.only.like,L.only.n.trans h.n⟩,L.turn⟩
  ·refine ((E.Qbd h0).drop hb λ_=>u).mono ?_;rintro e w' ⟨P',rfl,L⟩;exact⟨P',rfl,⟨L.ed,λh=>absurd h f,λh=>absurd h f,λh=>absurd h f,h.like.trans L.only.like,L.only.n.trans h.n⟩,L.turn⟩
end
