/- The code's counts: Commit, Clone, New -/
import Derived.Test.YtnjacafcocnicaaGreatDoorDv16
import Derived.Laws.CopyOwn
namespace Go.Proofs.YtnjacafcocnicaaGreatDoor
open Go Go.RowKit Go.Proofs Tryz
set_option maxHeartbeats 4000000
set_option maxRecDepth 10000
theorem Xf.whole {w:WD}{g n c:Nat}{l:LI}(h:Xf w g n c l):∃e:Array Value,w.1[g]?=some (.cells e 3 (0,0))/\e.size=c/\e.toList.take n=l.map cv/\n<=c/\c<=maxLen:=by
 rcases h.2 with⟨m,_⟩|⟨B,cap,e,m,D,y,h1,h2,p,q⟩
 ·injection m with f;cases f
 ·injection m with f A u;injection f with f;injection f with f;subst f;subst u;rw[Nat.mul_one] at p q;exact⟨e,y,p,q,h1,h2⟩
theorem Xf.of_whole {w:WD}{g n c:Nat}{l:LI}(cur:Array Value)(hg:w.1[g]?=some (.cells cur 3 (0,0)))(h3:cur.size=c)(h4:cur.toList.take n=l.map cv)(hl:l.length=n)(h1:n<=c)(h2:c<=maxLen):Xf w g n c l:=
 ⟨by rw[AF,hl,Nat.mul_one],.inr ⟨g,c,cur,rfl,AW _,hg,h1,h2,by rw[h3,Nat.mul_one],by rw[Nat.mul_one];exact h4⟩⟩
theorem qja {w:WD}{F:Array Oper}{o:Oper}{a:Act}{K:Act->WD->Prop}{Q:Exit->Act->WD->Prop}{E:Prop}(B:o.guard=none)(d s:Operand)
  (R:o.op=.call { callee:=.builtin .copy,args:=#[d,s],argTypes:=#[108,108] }) (g n c:Nat) (l:LI) (T:Xf w g n c l) (hd:a.eval d=.slice (some ⟨g,0,none⟩) n c)
  (A c2:Nat) (q:LI) (u:Xf w A n c2 q) (U:a.eval s=.slice (some ⟨A,0,none⟩) n c2)
  (I:∀y,Xf y g n c q->(∀k,k≠g->y.1[k]?=w.1[k]?)->(∀S:NP,S g->Turn S w y)->K (a.put o.dst (goInt n)) y):if Region.wanted o (yielded F a.tmps)=true then Oper.wp prog o a w K Q else E:=by
 rw[AA (by simp[Region.wanted,B])];obtain⟨i,hi,V,D,W⟩:=info_parts TN.info;obtain⟨m,H,G,X,h1,h2⟩:=T.whole;have f:=u.len;have p:=run_copy_row (P:=prog) w 108 108 o.type 3 g 0 n c ⟨A,0,none⟩ n c2 m 3 (q.map cv) TN.sl (by rw[hi];simp[D]) H (by rw[AF,f];exact (Nat.min_self n).symm) u.cells (by rw[AF,f,G];omega) (qBx _);rw[AF,f] at p;unfold Oper.wp;simp[execOp,R,resolve,invoke,builtin,hd,U,p,Result.andThen];have M:(w.setRow g (q.map cv++m.toList.drop n).toArray).1[g]?=some (.cells (q.map cv++m.toList.drop n).toArray 3 (0,0)):=setRow_heap w g _ _ 3 _ H;have e:∀k,k≠g->(w.setRow g (q.map cv++m.toList.drop n).toArray).1[k]?=w.1[k]?:=λk O=>setRow_other w g k _ O
 have key:=I (w.setRow g (q.map cv++m.toList.drop n).toArray) (Xf.of_whole _ M (by rw[List.size_toArray,AD,AF,AS,f,Array.length_toList,G];omega) (by rw[List.take_left' (by rw[AF,f])]) f h1 h2) e (λS J=>⟨rfl,rfl,rfl,by simp[World.setRow],λk _ hn=>e k λh=>hn (h▸J)⟩);exact key
theorem qal {w:WD}{p o:Nat}{S:NP}{C:Ct}(H:Y1 w p o S C) :
  Calls prog 53 #[.pointer (some ⟨p,o,none⟩)] w λe u=>e=.returned (.tuple #[])/\Y1 u p o S C.commit/\Turn S w u:=by
 obtain⟨g,m,b,f,t,A,h1,⟨G,I,P,Q⟩,h2,M,q,F,O⟩:=H;have c0:w.drew.cell? ⟨p,o,none⟩=some (.slice (some ⟨g,0,none⟩) C.n m):=q2r (w:=w.drew) h1 G;have c1:w.drew.cell? ⟨p,o+1,none⟩=some (.slice (some ⟨b,0,none⟩) C.n f):=q2r (w:=w.drew) h1 I;have D:Xf w.drew g C.n m C.now:=h2;have E:Xf w.drew b C.n f C.done:=M;go_enter func53,ntmps53
 go_wp2_with fail
 go_region_held3 (λu=>u.cell? ⟨p,o,none⟩=some (.slice (some ⟨g,0,none⟩) C.n m)/\u.cell? ⟨p,o+1,none⟩=some (.slice (some ⟨b,0,none⟩) C.n f))
  (first|assumption|exact⟨c0,c1⟩|exact B)
  (first
   |(refine qja rfl (.tmp 5) (.tmp 9) rfl b C.n f C.done E rfl g m C.now D rfl ?_;intro J R y K;have B:J.cell? ⟨p,o,none⟩=some (.slice (some ⟨g,0,none⟩) C.n m)/\J.cell? ⟨p,o+1,none⟩=some (.slice (some ⟨b,0,none⟩) C.n f):=⟨(AY (a:=⟨p,o,none⟩) (y p q.2.2)).trans c0,(AY (a:=⟨p,o+1,none⟩) (y p q.2.2)).trans c1⟩)
   |fail)
 all_goals (
  go_end0
  refine⟨rfl,⟨g,m,b,f,t,A,(y p q.2.2).trans h1,⟨G,I,P,Q⟩,h2.keep (y g q.1),R,q,F,Ct.Fa O⟩,?_⟩;have T:=K S F.2;exact (Turn.refl S w).drew.then T)
theorem qvg (n:Int)(h:n<32\/2048<n)(w:WD) :
  Calls prog 44 #[.int .i64 n] w λe f=>e=.returned (.tuple #[.pointer none,.int .i64 1])/\w=f:=by
 by_cases h1:n<32
 ·go_enter func44,ntmps44
  go_wp2;go_ret2;exact⟨rfl,rfl⟩
 ·have h2:2048<n:=by omega
  go_enter func44,ntmps44
  go_wp2;go_ret2;exact⟨rfl,rfl⟩
section
attribute [local go_sem ↓] qle
theorem qel (n:Nat)(h1:32<=n)(h2:n<=2048)(w:WD) :
  Calls prog 44 #[.int .i64 (n:Int)] w λe G=>∃p,e=.returned (.tuple #[.pointer (some ⟨p,0,none⟩),.int .i64 0])/\Y1 G p 0 (λk=>w.1.size<=k) (Ct.zero n)/\w.1.size<=p/\Below w.1.size w G:=by
 have H:¬(n:Int)<32:=by omega
 have I:¬(2048:Int)<(n:Int):=by omega
 have hn:n<=1000000:=by omega
 obtain⟨m,hm⟩:∃m,Qg n=m:=⟨_,rfl⟩;have D:=HI hm;have f:=HI (show ((Ct.zero n).first:Int)=2+2*(m:Int) by unfold Ct.first;rw[Ct.Zd,hm];omega);clear hm;have F:=qqa n hn w.drew;have B:=qqa n hn (Ut n w.drew);rw[q3q] at B;have z0:w.drew.1.size=w.1.size:=rfl;rw[z0] at F B;go_enter func44,ntmps44
 go_wp2_with fail
 refine (qdg (n:Int) n rfl (by omega) m D.out w).mono ?_;rintro e K ⟨rfl,rfl⟩;go_wp2_with fail
 go_region
 all_goals (
  have u:Xf (Ut n (Ut n w.drew)) (w.1.size+1) n n (List.replicate n 0):=by
   have:=qlf n hn (Ut n w.drew);rw[q3q,z0] at this;exact this
  have q:Xf (Ut n (Ut n w.drew)) w.1.size n n (List.replicate n 0):=by
   have h:=qlf n hn w.drew;rw[z0] at h;exact h.keep (heap_alloc_old (Ut n w.drew) _ (by rw[q3q,z0];omega))
  have A:Below w.1.size w (Ut n (Ut n w.drew)):=((AI _ _).drew.trans (qcv n _ _ (AE _))).trans (qcv n _ _ (by rw[q3q,z0];omega));have y:(Ut n (Ut n w.drew)).1.size=w.1.size+2:=by rw[q3q,q3q,z0]
  clear F B;generalize Ut n (Ut n w.drew)=W at q u A y ⊢;go_wp2_with fail
  go_ret2;rw[y];refine⟨w.1.size+2,rfl,?_,by omega,A.alloc A.size _⟩;have J:=(Ct.Zd n).symm;have hF:=f.out;have E:=D.out;first
   |exact⟨w.1.size,n,w.1.size+1,n,_,_,by rw[<-y];exact BE W _,⟨by rw[Ct.Zd];rfl,by rw[Ct.Zd];rfl,by rw[Ct.Zd,E];rfl,by rw[hF];rfl⟩,by rw[Ct.Zd];exact q.keep (heap_alloc_old W _ q.lt),by rw[Ct.Zd];exact u.keep (heap_alloc_old W _ u.lt),⟨by omega,by omega,by omega⟩,⟨by dsimp only;omega,by dsimp only;omega⟩,Ct.Cm h1 h2⟩
   |exact⟨w.1.size+1,n,w.1.size,n,_,_,by rw[<-y];exact BE W _,⟨by rw[Ct.Zd];rfl,by rw[Ct.Zd];rfl,by rw[Ct.Zd,E];rfl,by rw[hF];rfl⟩,by rw[Ct.Zd];exact u.keep (heap_alloc_old W _ u.lt),by rw[Ct.Zd];exact q.keep (heap_alloc_old W _ q.lt),⟨by omega,by omega,by omega⟩,⟨by dsimp only;omega,by dsimp only;omega⟩,Ct.Cm h1 h2⟩
   |fail)
end
theorem Qbw (A:OA)(m k c:Nat)(l:LU)(w:WD)(h:Sl w A m c l)(F:m=k+2)(hm:m<=100000)(y:Nat)(D:Qq (l.take 2)=y) :
  Calls prog 154 #[.slice A m c,.int .i64 2] w λe q=>∃f p,e=.returned (.tuple #[.int .i64 (y:Int),.slice f k p,.int .i64 0])/\Below w.1.size w q:=by
 subst D;refine (q5n A m c l 2 w h (by omega) (by omega) (by omega) (by omega)).mono ?_;rintro e q ⟨f,E,p,rfl,own,B⟩;have u:=own.len;rw[AS,h.len] at u;have:E=k:=by have:(2:Int).toNat=2:=rfl;omega
 subst this;exact⟨f,p,rfl,B⟩
theorem qam {w w':WD}{A:OA}{n c:Nat}{l:LU}(h:Sl w A n c l){S:NP}(T:Turn S w w')(p:∀f,A=some f->¬S f.block):Sl w' A n c l:=
 ⟨h.1,h.2.1,h.2.2.1,λj u y=>by
  obtain⟨f,e,m,q⟩:=h.2.2.2 j u y;exact⟨f,e,Nat.lt_of_lt_of_le m T.size,(AY (a:=f.add j) (by rw[q14];exact T.block _ m (p f e))).trans q⟩⟩
theorem qny (C:Ct)(k:Nat)(f:k<C.n)(h:nm C.now k=0):C.put k 0=C:=by
 have e:C.now.set k 0=C.now:=by
  have h1:C.now[k]'f=0:=by
   unfold nm at h;rw[AG,AC f] at h;exact h
  rw[<-h1];exact List.set_getElem_self f
 unfold Ct.put;simp only[e]
theorem qqc {w:WD}{p:Nat}{S:NP}{C:Ct}(H:Y1 w p 0 S C)(i:Nat)(hi:i<=1000)(A:OA)(c:Nat)(l:LU)(hs:Sl w A 236 c l)(hA:∀ad,A=some ad->¬S ad.block)(hz:∀a,i*118<=a->a<C.n->nm C.now a=0) :
  Calls prog 183 #[.pointer (some ⟨p,0,none⟩),.int .i64 (i:Int),.slice A 236 c] w λe w'=>((e=.returned (.bool true)/\(∀k,k<118->Y5 C.n C.first i l k=false)/\Y1 w' p 0 S (Yy C.n i l C 118))\/(e=.returned (.bool false)/\∃k,k<118/\Y5 C.n C.first i l k=true))/\Turn S w w':=by
 have Hs:=HI hs;have HA:=HI hA;have Hz:=HI hz;have b8:=hs.cap;have a6:=hs.max;unfold maxLen at a6;have d3:=H.ok.1;clear hs hA hz;go_enter func183,ntmps183
 go_wp2_with fail
 go_loopw [7,8,9,10,11,12] (λ_ _ _ _ _ k wr=>∃t:Nat,t<=118/\k=.int .i64 (t:Int)/\Y1 wr p 0 S (Yy C.n i l C t)/\(∀q,q<t->Y5 C.n C.first i l q=false)/\Turn S w wr) (λ_ _ _ _ _ k _=>118-(intOf k).toNat)
 case atStart=>exact⟨0,AW _,rfl,H,λq hq=>absurd hq (Nat.not_lt_zero _),Turn.refl _ _⟩
 case round=>
  clear H;obtain⟨t,ht,rfl,R,m,T⟩:=hrel;by_cases b5:t<118
  ·have e3:(t:Int)<118:=by omega
   have e0:(0:Int)<=(t:Int):=by omega
   obtain⟨b,hb⟩:∃b,2*t=b:=⟨_,rfl⟩;have c8:(t:Int)*2=(b:Int):=by omega
   have c9:b<=234:=by omega
   have a7:=qam Hs.out T HA.out;have U:=a7.drop (k:=b) (by omega);obtain⟨A2,b4⟩:∃A2,(if c=b then A else Option.map (λx=>x.add b) A)=A2:=⟨_,rfl⟩;rw[b4] at U;have V:=U.take (k:=2) (by omega);obtain⟨y,hy⟩:∃y,Qq (((l.drop b).take 2).take 2)=y:=⟨_,rfl⟩;have hX:=HI (show Le l t=(y:Int) by unfold Le;rw[hb,<-hy,List.take_take];rfl);have d4:y<65536:=by
    have h1:=q3m (((l.drop b).take 2).take 2);have h2:(((l.drop b).take 2).take 2).length=2:=by rw[AR,V.len];rfl
    rw[h2,hy] at h1;exact h1
   have Hy:=HI hy;have b2:=HI V;have Hb:=HI hb;have M:=HI m;have F:(Yy C.n i l C t).n=C.n:=qj8 _ _ _ _ _;have G:(Yy C.n i l C t).first=C.first:=by unfold Ct.first;rw[F]
   obtain⟨a,ha⟩:∃a,i*118+t=a:=⟨_,rfl⟩;have c7:(i:Int)*118+(t:Int)=(a:Int):=by omega
   have c6:a<=200000:=by omega
   have W:a<C.n->nm (Yy C.n i l C t).now a=0:=λh=>by
    rw[qgg i l C t a h,AB (by omega)];exact Hz.out a (by omega) h
   have D:=HI (show Y5 C.n C.first i l t=decide ((y:Int)≠0/\(a<C.first\/C.n<=a)) by unfold Y5;rw[hX.out,ha]);have f:=HI (show Yy C.n i l C (t+1)=if a<C.n then (Yy C.n i l C t).put a (y:Int) else Yy C.n i l C t by rw[<-hX.out,<-ha];rfl);have X:=HI (show (Y5 C.n C.first i l t=false)->∀q,q<t+1->Y5 C.n C.first i l q=false from λh q hq=>by
    by_cases e:q=t
    ·rw[e];exact h
    ·exact M.out q (by omega))
   obtain⟨B,Z⟩:∃B,Yy C.n i l C t=B:=⟨_,rfl⟩;rw[Z] at R F G W f;have a2:=HI (show B.counted a=decide (C.first<=a/\a<C.n) by unfold Ct.counted;rw[F,G]);have Y:=HI F;have b9:=HI G;have b3:=HI W;have Ha:=HI ha;have i1:2<=c-b:=by omega
   have i2:b<=236:=by omega
   have i3:b<=c:=by omega
   clear a7 U V hy m Z F G W ha hb;go_wp2_with fail
   refine (Qbw A2 2 0 (c-b) _ wr b2.out rfl (by omega) y Hy.out).mono ?_;rintro e w4 ⟨A4,c4,rfl,a1⟩;have R4:=R.below a1;have T4:=T.then (Qz a1 |>.mono (S':=S) λk hk=>hk);clear R T;by_cases b1:y=0
   ·subst b1;have E:=HI (show Y5 C.n C.first i l t=false by rw[D.out];simp);have Q:=HI (show Yy C.n i l C (t+1)=B by
     rw[f.out];split
     ·rename_i h;exact qny B a (by rw[Y.out];exact h) (b3.out h)
     ·rfl)
    go_wp2;exact⟨⟨t+1,by omega,by go_num,by rw[Q.out];exact R4,X.out E.out,T4⟩,by simp[intOf];omega⟩
   ·have d5:((y:Int)==0)=false:=by simpa using b1
    have b7:¬(y:Int)=0:=by omega
    by_cases u:C.first<=a/\a<C.n
    ·have O:=HI (show B.counted a=true by rw[a2.out];exact AL u);have E:=HI (show Y5 C.n C.first i l t=false by rw[D.out];exact AH (by omega));have Q:=HI (show Yy C.n i l C (t+1)=B.put a (y:Int) by rw[f.out,AA u.2]);have I:a<B.n:=by rw[Y.out];exact u.2
     obtain⟨g,cg,b0,cb,c0,c1,c2,c3,k1,k2,J,P,K⟩:=R4.open_;obtain⟨hc,d2⟩:=J a I;obtain⟨R5,T5,d0,d1⟩:=K a ((y:Nat):Int) I (by omega) (by omega);rw[<-Q.out] at R5;have T6:=T4.then T5;have e8:(a:Int)<(B.n:Int):=by omega
     have e9:(0:Int)<=(a:Int):=by omega
     obtain⟨x0,a8⟩:∃x,nm B.now a=x:=⟨_,rfl⟩;rw[a8] at hc;clear a8 J P K c1 c2 c3 u;go_wp2_with fail
     refine (q2f R4 a true O.out).mono ?_;rintro e w5 ⟨rfl,rfl⟩;go_wp2;exact⟨⟨t+1,by omega,by go_num,R5,X.out E.out,T6⟩,by simp[intOf];omega⟩
    ·have O:=HI (show B.counted a=false by rw[a2.out];exact AH u);have E:=HI (show Y5 C.n C.first i l t=true by rw[D.out];exact AL ⟨b7,by omega⟩);clear u;go_wp2_with fail
     refine (q2f R4 a false O.out).mono ?_;rintro e w5 ⟨rfl,rfl⟩;go_wp2;go_ret;exact⟨.inr ⟨rfl,t,b5,E.out⟩,T4⟩
  ·have b6:t=118:=by omega
   subst b6;go_wp2;go_ret;exact⟨.inl ⟨rfl,m,R⟩,T⟩
theorem qvh (n:Nat)(f:List (LU))(h1:32<=n)(h2:n<=2048)(A:OA)(m c:Nat){w:WD}(H:Parts w A m c f)(hm:m=Qg n) :
  Calls prog 148 #[.int .i64 (n:Int),.slice A m c] w λe w'=>(((∀i,i<Qg n->q4q n (2+2*Qg n) i (nth f i))/\∃p,e=.returned (.tuple #[.pointer (some ⟨p,0,none⟩),.int .i64 0])/\Y1 w' p 0 (λk=>w.1.size<=k) (Ui n f)/\w.1.size<=p)\/
   ((¬∀i,i<Qg n->q4q n (2+2*Qg n) i (nth f i))/\e=.returned (.tuple #[.pointer none,.int .i64 3])))/\Below w.1.size w w':=by
 obtain⟨many,I⟩:∃k,Qg n=k:=⟨_,rfl⟩;have c6:many<=1000:=by rw[<-I];unfold Qg;omega
 have M:=HI I;have b3:m=many:=by omega
 subst b3;rw[I];clear hm I;have b9:m<=c:=H.2.1;have b4:c<=maxLen:=H.2.2.1;unfold maxLen at b4;go_enter func148,ntmps148
 go_wp2_with fail
 refine (qel n h1 h2 w).mono ?_;rintro e w1 ⟨p,rfl,R,b5,B⟩;have c2:w1.cell? ⟨p,2,none⟩=some (.int .i64 (m:Int)):=by
  obtain⟨_,_,_,_,_,_,c2,_⟩:=R.open_;rw[Ct.Zd,M.out] at c2;exact c2
 have R:=R.shrink;obtain⟨S,hS⟩:∃S:NP,(λk=>w.1.size<=k/\k<w1.1.size)=S:=⟨_,rfl⟩;rw[hS] at R;have W:∀k,S k->w.1.size<=k:=λk y=>by rw[<-hS] at y;exact y.1
 clear hS;have D:=HI W;clear W;go_wp2_with fail
 clear c2;go_loopw [8,9,27] (λ_ _ i wr=>∃j:Nat,j<=m/\i=.int .i64 (j:Int)/\Y1 wr p 0 S (Y8 n f j)/\(∀q,q<j->q4q n (2+2*m) q (nth f q))/\Below w.1.size w wr) (λ_ _ i _=>m-(intOf i).toNat)
 case atStart=>exact⟨0,AW _,rfl,R,λq hq=>absurd hq (Nat.not_lt_zero _),B⟩
 case round=>
  clear R B;obtain⟨j,hj,rfl,R,u,B⟩:=hrel;by_cases P:j<m
  ·obtain⟨U,A1,n1,c1,eA,b1,Z,F⟩:=H.cell P;subst eA;have b8:=(B.cell (p:=U.add j) (by rw[q14];exact b1)).trans Z;have Q:=F.below B;have e3:(j:Int)<(m:Int):=by omega
   have e0:(0:Int)<=(j:Int):=by omega
   have O:=F.len;obtain⟨l,hl⟩:∃l,nth f j=l:=⟨_,rfl⟩;rw[hl] at F Q O;have Hl:=HI hl;have E:=HI u;have T:=HI O;clear hl u Z O;by_cases K:n1=236
   ·subst K;have V:∀U,A1=some U->¬S U.block:=λU e=>by
     obtain⟨b6,e',hb,_⟩:=F.cell (k:=0) (by omega);rw[e] at e';injection e' with e';subst e';exact λh=>absurd (D.out _ h) (by omega)
    have a8:=HI V;have a6:=HI Q;clear V Q F;have J:(Y8 n f j).n=n:=qaj _ _ _;have a1:(Y8 n f j).first=2+2*m:=by unfold Ct.first;rw[J,M.out]
    have a7:∀a,j*118<=a->a<(Y8 n f j).n->nm (Y8 n f j).now a=0:=λa b7 X=>by
     rw[J] at X;rw[qak n f j a X,AB (by omega)]
    have G:Yy n j l (Y8 n f j) 118=Y8 n f (j+1):=by rw[<-Hl.out];rfl
    have y:=qqc R j (by omega) A1 c1 l a6.out a8.out a7;rw[J,a1,G] at y;have Hk:=HI y;clear y J a1 a7 G;go_wp2_with fail
    refine Hk.out.mono ?_;rintro e w4 ⟨⟨rfl,hg,R4⟩|⟨rfl,q,hq,hg⟩,T4⟩
    ·have B4:=B.trans (T4.below (λ_ y=>D.out _ y) B.size);have Hg:=HI hg;clear hg R;go_wp2;refine⟨⟨j+1,by omega,by go_num,R4,λq hq=>?_,B4⟩,by simp[intOf];omega⟩;by_cases e:q=j
     ·rw[e,Hl.out];exact⟨T.out,Hg.out⟩
     ·exact E.out q (by omega)
    ·have B4:=B.trans (T4.below (λ_ y=>D.out _ y) B.size);have a2:¬∀i,i<m->q4q n (2+2*m) i (nth f i):=λhh=>by
      have h3:=(hh j P).2 q hq;rw[Hl.out,hg] at h3
      cases h3
     have b0:=HI a2;clear a2 hg;go_wp2;go_ret2;exact⟨.inr ⟨b0.out,rfl⟩,B4⟩
   ·have e4:¬(n1:Int)=236:=by omega
    have Y:=HI (show ¬∀i,i<m->q4q n (2+2*m) i (nth f i) from λhh=>K (by have:=(hh j P).1;rw[Hl.out] at this;exact T.out.symm.trans this));have hb:((n1:Int)==236)=false:=by simpa using e4
    go_wp2;go_ret2;exact⟨.inr ⟨Y.out,rfl⟩,B⟩
  ·have b2:j=m:=by omega
   subst b2;have E:=HI u;clear u;go_wp2_with fail
   refine (qal R).mono ?_;rintro e w5 ⟨rfl,R5,T5⟩;go_wp2;go_ret2;refine⟨.inl ⟨E.out,p,rfl,?_,b5⟩,B.trans (T5.below (λ_ y=>D.out _ y) B.size)⟩;exact (show Ui n f=(Y8 n f j).commit by unfold Ui;rw[M.out])▸R5.mono λk y=>D.out k y
theorem qqd (n:Int)(h:n<32\/2048<n)(A:OA)(m c:Nat)(w:WD) :
  Calls prog 148 #[.int .i64 n,.slice A m c] w λe f=>e=.returned (.tuple #[.pointer none,.int .i64 1])/\w=f:=by
 have H:=HI h;clear h;go_enter func148,ntmps148
 go_wp2_with fail
 refine (qvg n H.out w).mono ?_;rintro e p ⟨rfl,rfl⟩;go_wp2;go_ret2;exact⟨rfl,rfl⟩
theorem qnz (n:Nat)(h1:32<=n)(h2:n<=2048)(A:OA)(m c:Nat)(w:WD)(hm:m≠Qg n) :
  Calls prog 148 #[.int .i64 (n:Int),.slice A m c] w λe y=>e=.returned (.tuple #[.pointer none,.int .i64 3])/\Below w.1.size w y:=by
 obtain⟨k,f⟩:∃k,Qg n=k:=⟨_,rfl⟩;rw[f] at hm;have q:=HI f;have u:¬(m:Int)=(k:Int):=by omega
 have E:((m:Int)==(k:Int))=false:=by simpa using u
 clear f;go_enter func148,ntmps148
 go_wp2_with fail
 refine (qel n h1 h2 w).mono ?_;rintro e D ⟨p,rfl,R,_,B⟩;have c2:D.cell? ⟨p,2,none⟩=some (.int .i64 (k:Int)):=by
  obtain⟨_,_,_,_,_,_,c2,_⟩:=R.open_;rw[Ct.Zd,q.out] at c2;exact c2
 go_wp2;go_ret2;exact⟨rfl,B⟩
theorem qqe (n:Int)(f:List (LU))(A:OA)(m c:Nat){w:WD}(H:Parts w A m c f) :
  Calls prog 148 #[.int .i64 n,.slice A m c] w λe u=>((Xm n f=0/\∃p,e=.returned (.tuple #[.pointer (some ⟨p,0,none⟩),.int .i64 0])/\Y1 u p 0 (λk=>w.1.size<=k) (Ui n.toNat f)/\w.1.size<=p)\/
   (Xm n f≠0/\e=.returned (.tuple #[.pointer none,.int .i64 (Xm n f)])))/\Below w.1.size w u:=by
 by_cases hn:32<=n/\n<=2048
 ·obtain⟨k,rfl⟩:=Int.eq_ofNat_of_zero_le (show 0<=n by omega);by_cases hm:m=Qg k
  ·refine (qvh k f (by omega) (by omega) A m c H hm).mono ?_;have E:f.length=Qg k:=H.len.trans hm;rintro e u ⟨⟨y,p,rfl,R,D⟩|⟨y,rfl⟩,B⟩
   ·have q:Xm (k:Int) f=0:=by unfold Xm;rw[AJ,AB (λh=>h hn),AB (λh=>h.elim (λh=>h E) (λh=>h y))]
    exact⟨.inl ⟨q,p,rfl,R,D⟩,B⟩
   ·have q:Xm (k:Int) f=3:=by unfold Xm;rw[AJ,AB (λh=>h hn),AA (.inr y)]
    rw[q];exact⟨.inr ⟨by omega,rfl⟩,B⟩
  ·refine (qnz k (by omega) (by omega) A m c w hm).mono ?_;rintro e u ⟨rfl,B⟩;have q:Xm (k:Int) f=3:=by unfold Xm;rw[AJ,AB (λh=>h hn),AA (.inl (by rw[H.len];exact hm))]
   rw[q];exact⟨.inr ⟨by omega,rfl⟩,B⟩
 ·refine (qqd n (by omega) A m c w).mono ?_;rintro e u ⟨rfl,rfl⟩;have q:Xm n f=1:=by unfold Xm;rw[AA hn]
  rw[q];exact⟨.inr ⟨by omega,rfl⟩,AI _ _⟩
