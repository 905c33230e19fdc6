/- The code's counts: Commit, Clone, New -/
import Derived.Test.YtloolbmdiimanaaGreatDoorGv16
import Derived.Laws.CopyOwn
namespace Go.Proofs.YtloolbmdiimanaaGreatDoor
open Go Go.RowKit Go.Proofs Tryz
set_option maxHeartbeats 4000000
set_option maxRecDepth 10000
theorem Xc.whole {w:WD}{g n c:Nat}{l:LI}(h:Xc w g n c l):∃d:Array Value,w.1[g]?=some (.cells d 3 (0,0))/\d.size=c/\d.toList.take n=l.map cv/\n<=c/\c<=maxLen:=by
 rcases h.2 with⟨f,_⟩|⟨B,cap,d,f,D,y,h1,h2,m,p⟩
 ·injection f with e;cases e
 ·injection f with e A u;injection e with e;injection e with e;subst e;subst u;rw[Nat.mul_one] at m p;exact⟨d,y,m,p,h1,h2⟩
theorem Xc.of_whole {w:WD}{g n c:Nat}{l:LI}(cur:Array Value)(hg:w.1[g]?=some (.cells cur 3 (0,0)))(h3:cur.size=c)(h4:cur.toList.take n=l.map cv)(hl:l.length=n)(h1:n<=c)(h2:c<=maxLen):Xc w g n c l:=
 ⟨by rw[AF,hl,Nat.mul_one],.inr ⟨g,c,cur,rfl,AW _,hg,h1,h2,by rw[h3,Nat.mul_one],by rw[Nat.mul_one];exact h4⟩⟩
theorem qhy {w:WD}{G:Array Oper}{o:Oper}{a:Act}{K:Act->WD->Prop}{Q:Exit->Act->WD->Prop}{E:Prop}(D:o.guard=none)(d s:Operand)
  (T:o.op=.call { callee:=.builtin .copy,args:=#[d,s],argTypes:=#[30,30] }) (g n c:Nat) (l:LI) (U:Xc w g n c l) (hd:a.eval d=.slice (some ⟨g,0,none⟩) n c)
  (B c2:Nat) (u:LI) (y:Xc w B n c2 u) (W:a.eval s=.slice (some ⟨B,0,none⟩) n c2)
  (J:∀A,Xc A g n c u->(∀k,k≠g->A.1[k]?=w.1[k]?)->(∀S:NP,S g->Turn S w A)->K (a.put o.dst (goInt n)) A):if Region.wanted o (yielded G a.tmps)=true then Oper.wp prog o a w K Q else E:=by
 rw[AA (by simp[Region.wanted,D])];obtain⟨i,hi,X,F,Y⟩:=info_parts TN.info;obtain⟨m,I,H,Z,h1,h2⟩:=U.whole;have f:=y.len;have p:=run_copy_row (P:=prog) w 30 30 o.type 3 g 0 n c ⟨B,0,none⟩ n c2 m 3 (u.map cv) TN.sl (by rw[hi];simp[F]) I (by rw[AF,f];exact (Nat.min_self n).symm) y.cells (by rw[AF,f,H];omega) (qyg _);rw[AF,f] at p;unfold Oper.wp;simp[execOp,T,resolve,invoke,builtin,hd,W,p,Result.andThen];have O:(w.setRow g (u.map cv++m.toList.drop n).toArray).1[g]?=some (.cells (u.map cv++m.toList.drop n).toArray 3 (0,0)):=setRow_heap w g _ _ 3 _ I;have e:∀k,k≠g->(w.setRow g (u.map cv++m.toList.drop n).toArray).1[k]?=w.1[k]?:=λk R=>setRow_other w g k _ R
 have key:=J (w.setRow g (u.map cv++m.toList.drop n).toArray) (Xc.of_whole _ O (by rw[List.size_toArray,AD,AF,AS,f,Array.length_toList,H];omega) (by rw[List.take_left' (by rw[AF,f])]) f h1 h2) e (λS M=>⟨rfl,rfl,rfl,by simp[World.setRow],λk _ hn=>e k λh=>hn (h▸M)⟩);exact key
theorem qhz {w:WD}{p o:Nat}{S:NP}{C:Ct}(H:Yu w p o S C) :
  Calls prog 103 #[.pointer (some ⟨p,o,none⟩)] w λe u=>e=.returned (.tuple #[])/\Yu u p o S C.commit/\Turn S w u:=by
 obtain⟨g,f,b,d,t,A,h1,⟨G,I,P,Q⟩,h2,M,m,F,O⟩:=H;have c0:w.drew.cell? ⟨p,o,none⟩=some (.slice (some ⟨g,0,none⟩) C.n f):=q39 (w:=w.drew) h1 G;have c1:w.drew.cell? ⟨p,o+1,none⟩=some (.slice (some ⟨b,0,none⟩) C.n d):=q39 (w:=w.drew) h1 I;have D:Xc w.drew g C.n f C.now:=h2;have E:Xc w.drew b C.n d C.done:=M;go_enter func103,ntmps103
 go_wp2_with fail
 go_region_held3 (λu=>u.cell? ⟨p,o,none⟩=some (.slice (some ⟨g,0,none⟩) C.n f)/\u.cell? ⟨p,o+1,none⟩=some (.slice (some ⟨b,0,none⟩) C.n d))
  (first|assumption|exact⟨c0,c1⟩|exact B)
  (first
   |(refine qhy rfl (.tmp 5) (.tmp 9) rfl b C.n d C.done E rfl g f C.now D rfl ?_;intro J R y K;have B:J.cell? ⟨p,o,none⟩=some (.slice (some ⟨g,0,none⟩) C.n f)/\J.cell? ⟨p,o+1,none⟩=some (.slice (some ⟨b,0,none⟩) C.n d):=⟨(AY (a:=⟨p,o,none⟩) (y p m.2.2)).trans c0,(AY (a:=⟨p,o+1,none⟩) (y p m.2.2)).trans c1⟩)
   |fail)
 all_goals (
  go_end0
  refine⟨rfl,⟨g,f,b,d,t,A,(y p m.2.2).trans h1,⟨G,I,P,Q⟩,h2.keep (y g m.1),R,m,F,Ct.Oo O⟩,?_⟩;have T:=K S F.2;exact (Turn.refl S w).drew.then T)
theorem qt5 (n:Int)(h:n<32\/2048<n)(w:WD) :
  Calls prog 22 #[.int .i64 n] w λe d=>e=.returned (.tuple #[.pointer none,.int .i64 1])/\w=d:=by
 by_cases h1:n<32
 ·go_enter func22,ntmps22
  go_wp2;go_ret2;exact⟨rfl,rfl⟩
 ·have h2:2048<n:=by omega
  go_enter func22,ntmps22
  go_wp2;go_ret2;exact⟨rfl,rfl⟩
section
attribute [local go_sem ↓] qjo
theorem qe5 (n:Nat)(h1:32<=n)(h2:n<=2048)(w:WD) :
  Calls prog 22 #[.int .i64 (n:Int)] w λe G=>∃p,e=.returned (.tuple #[.pointer (some ⟨p,0,none⟩),.int .i64 0])/\Yu G p 0 (λk=>w.1.size<=k) (Ct.zero n)/\w.1.size<=p/\Below w.1.size w G:=by
 have H:¬(n:Int)<32:=by omega
 have I:¬(2048:Int)<(n:Int):=by omega
 have hn:n<=1000000:=by omega
 obtain⟨m,hm⟩:∃m,Qj n=m:=⟨_,rfl⟩;have D:=HI hm;have d:=HI (show ((Ct.zero n).first:Int)=2+2*(m:Int) by unfold Ct.first;rw[Ct.Zc,hm];omega);clear hm;have F:=qog n hn w.drew;have B:=qog n hn (Ue n w.drew);rw[q3k] at B;have f:w.drew.1.size=w.1.size:=rfl;rw[f] at F B;go_enter func22,ntmps22
 go_wp2_with fail
 refine (qd4 (n:Int) n rfl (by omega) m D.out w).mono ?_;rintro e K ⟨rfl,rfl⟩;go_wp2_with fail
 go_region
 all_goals (
  have u:Xc (Ue n (Ue n w.drew)) (w.1.size+1) n n (List.replicate n 0):=by
   have:=qjp n hn (Ue n w.drew);rw[q3k,f] at this;exact this
  have g:Xc (Ue n (Ue n w.drew)) w.1.size n n (List.replicate n 0):=by
   have h:=qjp n hn w.drew;rw[f] at h;exact h.keep (heap_alloc_old (Ue n w.drew) _ (by rw[q3k,f];omega))
  have A:Below w.1.size w (Ue n (Ue n w.drew)):=((AI _ _).drew.trans (qc9 n _ _ (AE _))).trans (qc9 n _ _ (by rw[q3k,f];omega));have y:(Ue n (Ue n w.drew)).1.size=w.1.size+2:=by rw[q3k,q3k,f]
  clear F B;generalize Ue n (Ue n w.drew)=W at g u A y ⊢;go_wp2_with fail
  go_ret2;rw[y];refine⟨w.1.size+2,rfl,?_,by omega,A.alloc A.size _⟩;have J:=(Ct.Zc n).symm;have hF:=d.out;have E:=D.out;first
   |exact⟨w.1.size,n,w.1.size+1,n,_,_,by rw[<-y];exact BE W _,⟨by rw[Ct.Zc];rfl,by rw[Ct.Zc];rfl,by rw[Ct.Zc,E];rfl,by rw[hF];rfl⟩,by rw[Ct.Zc];exact g.keep (heap_alloc_old W _ g.lt),by rw[Ct.Zc];exact u.keep (heap_alloc_old W _ u.lt),⟨by omega,by omega,by omega⟩,⟨by dsimp only;omega,by dsimp only;omega⟩,Ct.Aq h1 h2⟩
   |exact⟨w.1.size+1,n,w.1.size,n,_,_,by rw[<-y];exact BE W _,⟨by rw[Ct.Zc];rfl,by rw[Ct.Zc];rfl,by rw[Ct.Zc,E];rfl,by rw[hF];rfl⟩,by rw[Ct.Zc];exact u.keep (heap_alloc_old W _ u.lt),by rw[Ct.Zc];exact g.keep (heap_alloc_old W _ g.lt),⟨by omega,by omega,by omega⟩,⟨by dsimp only;omega,by dsimp only;omega⟩,Ct.Aq h1 h2⟩
   |fail)
end
theorem Qbd (A:OA)(m k c:Nat)(l:LU)(w:WD)(h:Sl w A m c l)(E:m=k+2)(hm:m<=100000)(y:Nat)(B:Qq (l.take 2)=y) :
  Calls prog 54 #[.slice A m c,.int .i64 2] w λe g=>∃d f,e=.returned (.tuple #[.int .i64 (y:Int),.slice d k f,.int .i64 0])/\Below w.1.size w g:=by
 subst B;refine (q4a A m c l 2 w h (by omega) (by omega) (by omega) (by omega)).mono ?_;rintro e g ⟨d,D,f,rfl,own,u⟩;have p:=own.len;rw[AS,h.len] at p;have:D=k:=by have:(2:Int).toNat=2:=rfl;omega
 subst this;exact⟨d,f,rfl,u⟩
theorem q6q {w w':WD}{A:OA}{n c:Nat}{l:LU}(h:Sl w A n c l){S:NP}(T:Turn S w w')(g:∀d,A=some d->¬S d.block):Sl w' A n c l:=
 ⟨h.1,h.2.1,h.2.2.1,λj u p=>by
  obtain⟨d,e,f,m⟩:=h.2.2.2 j u p;exact⟨d,e,Nat.lt_of_lt_of_le f T.size,(AY (a:=d.add j) (by rw[Oa];exact T.block _ f (g d e))).trans m⟩⟩
theorem qm1 (C:Ct)(k:Nat)(d:k<C.n)(h:nm C.now k=0):C.put k 0=C:=by
 have e:C.now.set k 0=C.now:=by
  have h1:C.now[k]'d=0:=by
   unfold nm at h;rw[AG,AC d] at h;exact h
  rw[<-h1];exact List.set_getElem_self d
 unfold Ct.put;simp only[e]
theorem qoi {w:WD}{p:Nat}{S:NP}{C:Ct}(H:Yu w p 0 S C)(i:Nat)(hi:i<=1000)(A:OA)(c:Nat)(l:LU)(hs:Sl w A 236 c l)(hA:∀ad,A=some ad->¬S ad.block)(hz:∀a,i*118<=a->a<C.n->nm C.now a=0) :
  Calls prog 102 #[.pointer (some ⟨p,0,none⟩),.int .i64 (i:Int),.slice A 236 c] w λe w'=>((e=.returned (.bool true)/\(∀k,k<118->Yq C.n C.first i l k=false)/\Yu w' p 0 S (Yj C.n i l C 118))\/(e=.returned (.bool false)/\∃k,k<118/\Yq C.n C.first i l k=true))/\Turn S w w':=by
 have Hs:=HI hs;have HA:=HI hA;have Hz:=HI hz;have b3:=hs.cap;have a2:=hs.max;unfold maxLen at a2;have c9:=H.ok.1;clear hs hA hz;go_enter func102,ntmps102
 go_wp2_with fail
 go_loopw [7,8,9,10,11,12] (λ_ _ _ _ _ k wr=>∃t:Nat,t<=118/\k=.int .i64 (t:Int)/\Yu wr p 0 S (Yj C.n i l C t)/\(∀q,q<t->Yq C.n C.first i l q=false)/\Turn S w wr) (λ_ _ _ _ _ k _=>118-(intOf k).toNat)
 case atStart=>exact⟨0,AW _,rfl,H,λq hq=>absurd hq (Nat.not_lt_zero _),Turn.refl _ _⟩
 case round=>
  clear H;obtain⟨t,ht,rfl,R,f,T⟩:=hrel;by_cases a9:t<118
  ·have e3:(t:Int)<118:=by omega
   have e0:(0:Int)<=(t:Int):=by omega
   obtain⟨b,hb⟩:∃b,2*t=b:=⟨_,rfl⟩;have b7:(t:Int)*2=(b:Int):=by omega
   have b8:b<=234:=by omega
   have a3:=q6q Hs.out T HA.out;have Q:=a3.drop (k:=b) (by omega);obtain⟨A2,a8⟩:∃A2,(if c=b then A else Option.map (λx=>x.add b) A)=A2:=⟨_,rfl⟩;rw[a8] at Q;have U:=Q.take (k:=2) (by omega);obtain⟨y,hy⟩:∃y,Qq (((l.drop b).take 2).take 2)=y:=⟨_,rfl⟩;have hX:=HI (show Fq l t=(y:Int) by unfold Fq;rw[hb,<-hy,List.take_take];rfl);have d2:y<65536:=by
    have h1:=q7p (((l.drop b).take 2).take 2);have h2:(((l.drop b).take 2).take 2).length=2:=by rw[AR,U.len];rfl
    rw[h2,hy] at h1;exact h1
   have Hy:=HI hy;have a6:=HI U;have Hb:=HI hb;have K:=HI f;have E:(Yj C.n i l C t).n=C.n:=qhw _ _ _ _ _;have F:(Yj C.n i l C t).first=C.first:=by unfold Ct.first;rw[E]
   obtain⟨a,ha⟩:∃a,i*118+t=a:=⟨_,rfl⟩;have b6:(i:Int)*118+(t:Int)=(a:Int):=by omega
   have b5:a<=200000:=by omega
   have W:a<C.n->nm (Yj C.n i l C t).now a=0:=λh=>by
    rw[qfm i l C t a h,AB (by omega)];exact Hz.out a (by omega) h
   have B:=HI (show Yq C.n C.first i l t=decide ((y:Int)≠0/\(a<C.first\/C.n<=a)) by unfold Yq;rw[hX.out,ha]);have d:=HI (show Yj C.n i l C (t+1)=if a<C.n then (Yj C.n i l C t).put a (y:Int) else Yj C.n i l C t by rw[<-hX.out,<-ha];rfl);have X:=HI (show (Yq C.n C.first i l t=false)->∀q,q<t+1->Yq C.n C.first i l q=false from λh q hq=>by
    by_cases e:q=t
    ·rw[e];exact h
    ·exact K.out q (by omega))
   obtain⟨u,Z⟩:∃u,Yj C.n i l C t=u:=⟨_,rfl⟩;rw[Z] at R E F W d;have a1:=HI (show u.counted a=decide (C.first<=a/\a<C.n) by unfold Ct.counted;rw[E,F]);have Y:=HI E;have b4:=HI F;have a7:=HI W;have Ha:=HI ha;have i1:2<=c-b:=by omega
   have i2:b<=236:=by omega
   have i3:b<=c:=by omega
   clear a3 Q U hy f Z E F W ha hb;go_wp2_with fail
   refine (Qbd A2 2 0 (c-b) _ wr a6.out rfl (by omega) y Hy.out).mono ?_;rintro e w4 ⟨A4,c4,rfl,a0⟩;have R4:=R.below a0;have T4:=T.then (Zb a0 |>.mono (S':=S) λk hk=>hk);clear R T;by_cases a5:y=0
   ·subst a5;have D:=HI (show Yq C.n C.first i l t=false by rw[B.out];simp);have P:=HI (show Yj C.n i l C (t+1)=u by
     rw[d.out];split
     ·rename_i h;exact qm1 u a (by rw[Y.out];exact h) (a7.out h)
     ·rfl)
    go_wp2;exact⟨⟨t+1,by omega,by go_num,by rw[P.out];exact R4,X.out D.out,T4⟩,by simp[intOf];omega⟩
   ·have d3:((y:Int)==0)=false:=by simpa using a5
    have b2:¬(y:Int)=0:=by omega
    by_cases m:C.first<=a/\a<C.n
    ·have M:=HI (show u.counted a=true by rw[a1.out];exact AL m);have D:=HI (show Yq C.n C.first i l t=false by rw[B.out];exact AH (by omega));have P:=HI (show Yj C.n i l C (t+1)=u.put a (y:Int) by rw[d.out,AA m.2]);have G:a<u.n:=by rw[Y.out];exact m.2
     obtain⟨g,cg,b0,cb,c0,c1,c2,c3,k1,k2,I,O,J⟩:=R4.open_;obtain⟨hc,b9⟩:=I a G;obtain⟨R5,T5,d0,d1⟩:=J a ((y:Nat):Int) G (by omega) (by omega);rw[<-P.out] at R5;have T6:=T4.then T5;have e8:(a:Int)<(u.n:Int):=by omega
     have e9:(0:Int)<=(a:Int):=by omega
     obtain⟨x0,a4⟩:∃x,nm u.now a=x:=⟨_,rfl⟩;rw[a4] at hc;clear a4 I O J c1 c2 c3 m;go_wp2_with fail
     refine (q29 R4 a true M.out).mono ?_;rintro e w5 ⟨rfl,rfl⟩;go_wp2;exact⟨⟨t+1,by omega,by go_num,R5,X.out D.out,T6⟩,by simp[intOf];omega⟩
    ·have M:=HI (show u.counted a=false by rw[a1.out];exact AH m);have D:=HI (show Yq C.n C.first i l t=true by rw[B.out];exact AL ⟨b2,by omega⟩);clear m;go_wp2_with fail
     refine (q29 R4 a false M.out).mono ?_;rintro e w5 ⟨rfl,rfl⟩;go_wp2;go_ret;exact⟨.inr ⟨rfl,t,a9,D.out⟩,T4⟩
  ·have b1:t=118:=by omega
   subst b1;go_wp2;go_ret;exact⟨.inl ⟨rfl,f,R⟩,T⟩
theorem qt6 (n:Nat)(d:List (LU))(h1:32<=n)(h2:n<=2048)(A:OA)(m c:Nat){w:WD}(H:Parts w A m c d)(hm:m=Qj n) :
  Calls prog 73 #[.int .i64 (n:Int),.slice A m c] w λe w'=>(((∀i,i<Qj n->q4o n (2+2*Qj n) i (nth d i))/\∃p,e=.returned (.tuple #[.pointer (some ⟨p,0,none⟩),.int .i64 0])/\Yu w' p 0 (λk=>w.1.size<=k) (Vy n d)/\w.1.size<=p)\/
   ((¬∀i,i<Qj n->q4o n (2+2*Qj n) i (nth d i))/\e=.returned (.tuple #[.pointer none,.int .i64 3])))/\Below w.1.size w w':=by
 obtain⟨many,F⟩:∃k,Qj n=k:=⟨_,rfl⟩;have b4:many<=1000:=by rw[<-F];unfold Qj;omega
 have J:=HI F;have a7:m=many:=by omega
 subst a7;rw[F];clear hm F;have b3:m<=c:=H.2.1;have a8:c<=maxLen:=H.2.2.1;unfold maxLen at a8;go_enter func73,ntmps73
 go_wp2_with fail
 refine (qe5 n h1 h2 w).mono ?_;rintro e w1 ⟨p,rfl,R,a9,B⟩;have c2:w1.cell? ⟨p,2,none⟩=some (.int .i64 (m:Int)):=by
  obtain⟨_,_,_,_,_,_,c2,_⟩:=R.open_;rw[Ct.Zc,J.out] at c2;exact c2
 have R:=R.shrink;obtain⟨S,hS⟩:∃S:NP,(λk=>w.1.size<=k/\k<w1.1.size)=S:=⟨_,rfl⟩;rw[hS] at R;have U:∀k,S k->w.1.size<=k:=λk g=>by rw[<-hS] at g;exact g.1
 clear hS;have u:=HI U;clear U;go_wp2_with fail
 clear c2;go_loopw [8,9,27] (λ_ _ i wr=>∃j:Nat,j<=m/\i=.int .i64 (j:Int)/\Yu wr p 0 S (Yx n d j)/\(∀q,q<j->q4o n (2+2*m) q (nth d q))/\Below w.1.size w wr) (λ_ _ i _=>m-(intOf i).toNat)
 case atStart=>exact⟨0,AW _,rfl,R,λq hq=>absurd hq (Nat.not_lt_zero _),B⟩
 case round=>
  clear R B;obtain⟨j,hj,rfl,R,f,B⟩:=hrel;by_cases M:j<m
  ·obtain⟨Q,A1,n1,c1,eA,a5,Y,D⟩:=H.cell M;subst eA;have b2:=(B.cell (p:=Q.add j) (by rw[Oa];exact a5)).trans Y;have O:=D.below B;have e3:(j:Int)<(m:Int):=by omega
   have e0:(0:Int)<=(j:Int):=by omega
   have K:=D.len;obtain⟨l,hl⟩:∃l,nth d j=l:=⟨_,rfl⟩;rw[hl] at D O K;have Hl:=HI hl;have y:=HI f;have P:=HI K;clear hl f Y K;by_cases I:n1=236
   ·subst I;have T:∀Q,A1=some Q->¬S Q.block:=λQ e=>by
     obtain⟨b0,e',hb,_⟩:=D.cell (k:=0) (by omega);rw[e] at e';injection e' with e';subst e';exact λh=>absurd (u.out _ h) (by omega)
    have a3:=HI T;have a1:=HI O;clear T O D;have G:(Yx n d j).n=n:=qa7 _ _ _;have Z:(Yx n d j).first=2+2*m:=by unfold Ct.first;rw[G,J.out]
    have a2:∀a,j*118<=a->a<(Yx n d j).n->nm (Yx n d j).now a=0:=λa b1 W=>by
     rw[G] at W;rw[qa8 n d j a W,AB (by omega)]
    have E:Yj n j l (Yx n d j) 118=Yx n d (j+1):=by rw[<-Hl.out];rfl
    have g:=qoi R j (by omega) A1 c1 l a1.out a3.out a2;rw[G,Z,E] at g;have Hk:=HI g;clear g G Z a2 E;go_wp2_with fail
    refine Hk.out.mono ?_;rintro e w4 ⟨⟨rfl,hg,R4⟩|⟨rfl,q,hq,hg⟩,T4⟩
    ·have B4:=B.trans (T4.below (λ_ g=>u.out _ g) B.size);have Hg:=HI hg;clear hg R;go_wp2;refine⟨⟨j+1,by omega,by go_num,R4,λq hq=>?_,B4⟩,by simp[intOf];omega⟩;by_cases e:q=j
     ·rw[e,Hl.out];exact⟨P.out,Hg.out⟩
     ·exact y.out q (by omega)
    ·have B4:=B.trans (T4.below (λ_ g=>u.out _ g) B.size);have a0:¬∀i,i<m->q4o n (2+2*m) i (nth d i):=λhh=>by
      have h3:=(hh j M).2 q hq;rw[Hl.out,hg] at h3
      cases h3
     have a4:=HI a0;clear a0 hg;go_wp2;go_ret2;exact⟨.inr ⟨a4.out,rfl⟩,B4⟩
   ·have e4:¬(n1:Int)=236:=by omega
    have X:=HI (show ¬∀i,i<m->q4o n (2+2*m) i (nth d i) from λhh=>I (by have:=(hh j M).1;rw[Hl.out] at this;exact P.out.symm.trans this));have hb:((n1:Int)==236)=false:=by simpa using e4
    go_wp2;go_ret2;exact⟨.inr ⟨X.out,rfl⟩,B⟩
  ·have a6:j=m:=by omega
   subst a6;have y:=HI f;clear f;go_wp2_with fail
   refine (qhz R).mono ?_;rintro e w5 ⟨rfl,R5,T5⟩;go_wp2;go_ret2;refine⟨.inl ⟨y.out,p,rfl,?_,a9⟩,B.trans (T5.below (λ_ g=>u.out _ g) B.size)⟩;exact (show Vy n d=(Yx n d j).commit by unfold Vy;rw[J.out])▸R5.mono λk g=>u.out k g
theorem qoj (n:Int)(h:n<32\/2048<n)(A:OA)(m c:Nat)(w:WD) :
  Calls prog 73 #[.int .i64 n,.slice A m c] w λe d=>e=.returned (.tuple #[.pointer none,.int .i64 1])/\w=d:=by
 have H:=HI h;clear h;go_enter func73,ntmps73
 go_wp2_with fail
 refine (qt5 n H.out w).mono ?_;rintro e f ⟨rfl,rfl⟩;go_wp2;go_ret2;exact⟨rfl,rfl⟩
theorem qm2 (n:Nat)(h1:32<=n)(h2:n<=2048)(A:OA)(m c:Nat)(w:WD)(hm:m≠Qj n) :
  Calls prog 73 #[.int .i64 (n:Int),.slice A m c] w λe u=>e=.returned (.tuple #[.pointer none,.int .i64 3])/\Below w.1.size w u:=by
 obtain⟨k,d⟩:∃k,Qj n=k:=⟨_,rfl⟩;rw[d] at hm;have f:=HI d;have g:¬(m:Int)=(k:Int):=by omega
 have D:((m:Int)==(k:Int))=false:=by simpa using g
 clear d;go_enter func73,ntmps73
 go_wp2_with fail
 refine (qe5 n h1 h2 w).mono ?_;rintro e y ⟨p,rfl,R,_,B⟩;have c2:y.cell? ⟨p,2,none⟩=some (.int .i64 (k:Int)):=by
  obtain⟨_,_,_,_,_,_,c2,_⟩:=R.open_;rw[Ct.Zc,f.out] at c2;exact c2
 go_wp2;go_ret2;exact⟨rfl,B⟩
theorem qok (n:Int)(d:List (LU))(A:OA)(m c:Nat){w:WD}(H:Parts w A m c d) :
  Calls prog 73 #[.int .i64 n,.slice A m c] w λe g=>((J8 n d=0/\∃p,e=.returned (.tuple #[.pointer (some ⟨p,0,none⟩),.int .i64 0])/\Yu g p 0 (λk=>w.1.size<=k) (Vy n.toNat d)/\w.1.size<=p)\/
   (J8 n d≠0/\e=.returned (.tuple #[.pointer none,.int .i64 (J8 n d)])))/\Below w.1.size w g:=by
 by_cases hn:32<=n/\n<=2048
 ·obtain⟨k,rfl⟩:=Int.eq_ofNat_of_zero_le (show 0<=n by omega);by_cases hm:m=Qj k
  ·refine (qt6 k d (by omega) (by omega) A m c H hm).mono ?_;have D:d.length=Qj k:=H.len.trans hm;rintro e g ⟨⟨u,p,rfl,R,y⟩|⟨u,rfl⟩,B⟩
   ·have f:J8 (k:Int) d=0:=by unfold J8;rw[AJ,AB (λh=>h hn),AB (λh=>h.elim (λh=>h D) (λh=>h u))]
    exact⟨.inl ⟨f,p,rfl,R,y⟩,B⟩
   ·have f:J8 (k:Int) d=3:=by unfold J8;rw[AJ,AB (λh=>h hn),AA (.inr u)]
    rw[f];exact⟨.inr ⟨by omega,rfl⟩,B⟩
  ·refine (qm2 k (by omega) (by omega) A m c w hm).mono ?_;rintro e g ⟨rfl,B⟩;have f:J8 (k:Int) d=3:=by unfold J8;rw[AJ,AB (λh=>h hn),AA (.inl (by rw[H.len];exact hm))]
   rw[f];exact⟨.inr ⟨by omega,rfl⟩,B⟩
 ·refine (qoj n (by omega) A m c w).mono ?_;rintro e g ⟨rfl,rfl⟩;have f:J8 n d=1:=by unfold J8;rw[AA hn]
  rw[f];exact⟨.inr ⟨by omega,rfl⟩,AI _ _⟩
