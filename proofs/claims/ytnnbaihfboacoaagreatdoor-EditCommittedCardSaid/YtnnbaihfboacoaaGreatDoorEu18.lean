/- The code's counts: Commit, Clone, New -/
import Derived.Test.YtnnbaihfboacoaaGreatDoorEu17
import Derived.Laws.CopyOwn
namespace Go.Proofs.YtnnbaihfboacoaaGreatDoor
open Go Go.RowKit Go.Proofs
set_option maxHeartbeats 4000000
set_option maxRecDepth 10000
theorem J6.whole {w:World}{g n c:Nat}{l:List Int}(h:J6 w g n c l):∃b:Array Value,w.1[g]?=some (.cells b 3 (0,0))/\b.size=c/\b.toList.take n=l.map cv/\n<=c/\c<=maxLen:=by
 rcases h.2 with⟨e,_⟩|⟨A,cap,b,e,B,u,h1,h2,f,m⟩
 ·injection e with d;cases d
 ·injection e with d y p;injection d with d;injection d with d;subst d;subst p;rw[Nat.mul_one] at f m;exact⟨b,u,f,m,h1,h2⟩
theorem J6.of_whole {w:World}{g n c:Nat}{l:List Int}(cur:Array Value)(hg:w.1[g]?=some (.cells cur 3 (0,0)))(h3:cur.size=c)(h4:cur.toList.take n=l.map cv)(hl:l.length=n)(h1:n<=c)(h2:c<=maxLen):J6 w g n c l:=
 ⟨by rw[List.length_map,hl,Nat.mul_one],.inr ⟨g,c,cur,rfl,Nat.zero_le _,hg,h1,h2,by rw[h3,Nat.mul_one],by rw[Nat.mul_one];exact h4⟩⟩
theorem qhq {w:World}{ops:Array Oper}{o:Oper}{a:Act}{K:Act->World->Prop}{Q:Exit->Act->World->Prop}{E:Prop}(B:o.guard=none)(d s:Operand)
  (R:o.op=.call { callee:=.builtin .copy,args:=#[d,s],argTypes:=#[36,36] }) (g n c:Nat) (l:List Int) (T:J6 w g n c l) (hd:a.eval d=.slice (some ⟨g,0,none⟩) n c)
  (A c2:Nat) (p:List Int) (u:J6 w A n c2 p) (U:a.eval s=.slice (some ⟨A,0,none⟩) n c2)
  (H:∀y,J6 y g n c p->(∀k,k≠g->y.1[k]?=w.1[k]?)->(∀S:Nat->Prop,S g->Turn S w y)->K (a.put o.dst (goInt n)) y):if Region.wanted o (yielded ops a.tmps)=true then Oper.wp Tryz.prog o a w K Q else E:=by
 rw[if_pos (by simp[Region.wanted,B])];obtain⟨i,M,W,D,X⟩:=info_parts TN.info;obtain⟨f,G,F,Y,h1,h2⟩:=T.whole;have b:=u.len;have m:=run_copy_row (P:=Tryz.prog) w 36 36 o.type 3 g 0 n c ⟨A,0,none⟩ n c2 f 3 (p.map cv) TN.sl (by rw[M];simp[D]) G (by rw[List.length_map,b];exact (Nat.min_self n).symm) u.cells (by rw[List.length_map,b,F];omega) (qy6 _);rw[List.length_map,b] at m;unfold Oper.wp;simp[execOp,R,resolve,invoke,builtin,hd,U,m,Result.andThen];have J:(w.setRow g (p.map cv++f.toList.drop n).toArray).1[g]?=some (.cells (p.map cv++f.toList.drop n).toArray 3 (0,0)):=setRow_heap w g _ _ 3 _ G;have e:∀k,k≠g->(w.setRow g (p.map cv++f.toList.drop n).toArray).1[k]?=w.1[k]?:=λk O=>setRow_other w g k _ O
 have key:=H (w.setRow g (p.map cv++f.toList.drop n).toArray) (J6.of_whole _ J (by rw[List.size_toArray,List.length_append,List.length_map,List.length_drop,b,Array.length_toList,F];omega) (by rw[List.take_left' (by rw[List.length_map,b])]) b h1 h2) e (λS I=>⟨rfl,rfl,rfl,by simp[World.setRow],λk _ hn=>e k λh=>hn (h▸I)⟩);exact key
theorem q9y {w:World}{p o:Nat}{S:Nat->Prop}{C:Ct}(H:Yt w p o S C) :
  Calls Tryz.prog 54 #[.pointer (some ⟨p,o,none⟩)] w λe u=>e=.returned (.tuple #[])/\Yt u p o S C.commit/\Turn S w u:=by
 obtain⟨g,f,b,d,t,A,h1,⟨G,I,P,Q⟩,h2,M,m,F,O⟩:=H;have c0:w.drew.cell? ⟨p,o,none⟩=some (.slice (some ⟨g,0,none⟩) C.n f):=Rj (w:=w.drew) h1 G;have c1:w.drew.cell? ⟨p,o+1,none⟩=some (.slice (some ⟨b,0,none⟩) C.n d):=Rj (w:=w.drew) h1 I;have D:J6 w.drew g C.n f C.now:=h2;have E:J6 w.drew b C.n d C.done:=M;go_enter Tryz.func54,Tryz.ntmps54
 go_wp2_with fail
 go_region_held3 (λu=>u.cell? ⟨p,o,none⟩=some (.slice (some ⟨g,0,none⟩) C.n f)/\u.cell? ⟨p,o+1,none⟩=some (.slice (some ⟨b,0,none⟩) C.n d))
  (first|assumption|exact⟨c0,c1⟩|exact B)
  (first
   |(refine qhq rfl (.tmp 5) (.tmp 9) rfl b C.n d C.done E rfl g f C.now D rfl ?_;intro J R y K;have B:J.cell? ⟨p,o,none⟩=some (.slice (some ⟨g,0,none⟩) C.n f)/\J.cell? ⟨p,o+1,none⟩=some (.slice (some ⟨b,0,none⟩) C.n d):=⟨(World.cell?_of_block (a:=⟨p,o,none⟩) (y p m.2.2)).trans c0,(World.cell?_of_block (a:=⟨p,o+1,none⟩) (y p m.2.2)).trans c1⟩)
   |fail)
 all_goals (
  go_end0
  refine⟨rfl,⟨g,f,b,d,t,A,(y p m.2.2).trans h1,⟨G,I,P,Q⟩,h2.keep (y g m.1),R,m,F,Ct.D5 O⟩,?_⟩;have T:=K S F.2;exact (Turn.refl S w).drew.then T)
theorem qsq (n:Int)(h:n<32\/2048<n)(w:World) :
  Calls Tryz.prog 49 #[.int .i64 n] w λe b=>e=.returned (.tuple #[.pointer none,.int .i64 1])/\w=b:=by
 by_cases h1:n<32
 ·go_enter Tryz.func49,Tryz.ntmps49
  go_wp2;go_ret2;exact⟨rfl,rfl⟩
 ·have h2:2048<n:=by omega
  go_enter Tryz.func49,Tryz.ntmps49
  go_wp2;go_ret2;exact⟨rfl,rfl⟩
section
attribute [local go_sem ↓] qky
theorem qdu (n:Nat)(h1:32<=n)(h2:n<=2048)(w:World) :
  Calls Tryz.prog 49 #[.int .i64 (n:Int)] w λe F=>∃p,e=.returned (.tuple #[.pointer (some ⟨p,0,none⟩),.int .i64 0])/\Yt F p 0 (λk=>w.1.size<=k) (Ct.zero n)/\w.1.size<=p/\Below w.1.size w F:=by
 have G:¬(n:Int)<32:=by omega
 have H:¬(2048:Int)<(n:Int):=by omega
 have hn:n<=1000000:=by omega
 obtain⟨m,hm⟩:∃m,Qe n=m:=⟨_,rfl⟩;have B:=Lib.hid hm;have b:=Lib.hid (show ((Ct.zero n).first:Int)=2+2*(m:Int) by unfold Ct.first;rw[Ct.Q9,hm];omega);clear hm;have E:=qrc n hn w.drew;have A:=qrc n hn (Ua n w.drew);rw[q3w] at A;have z0:w.drew.1.size=w.1.size:=rfl;rw[z0] at E A;go_enter Tryz.func49,Tryz.ntmps49
 go_wp2_with fail
 refine (qcn (n:Int) n rfl (by omega) m B.out w).mono ?_;rintro e J ⟨rfl,rfl⟩;go_wp2_with fail
 go_region
 all_goals (
  have f:J6 (Ua n (Ua n w.drew)) (w.1.size+1) n n (List.replicate n 0):=by
   have:=qkz n hn (Ua n w.drew);rw[q3w,z0] at this;exact this
  have d:J6 (Ua n (Ua n w.drew)) w.1.size n n (List.replicate n 0):=by
   have h:=qkz n hn w.drew;rw[z0] at h;exact h.keep (heap_alloc_old (Ua n w.drew) _ (by rw[q3w,z0];omega))
  have y:Below w.1.size w (Ua n (Ua n w.drew)):=((Below.refl _ _).drew.trans (qd8 n _ _ (Nat.le_refl _))).trans (qd8 n _ _ (by rw[q3w,z0];omega));have u:(Ua n (Ua n w.drew)).1.size=w.1.size+2:=by rw[q3w,q3w,z0]
  clear E A;generalize Ua n (Ua n w.drew)=W at d f y u ⊢;go_wp2_with fail
  go_ret2;rw[u];refine⟨w.1.size+2,rfl,?_,by omega,y.alloc y.size _⟩;have I:=(Ct.Q9 n).symm;have hF:=b.out;have D:=B.out;first
   |exact⟨w.1.size,n,w.1.size+1,n,_,_,by rw[<-u];exact heap_alloc_new W _,⟨by rw[Ct.Q9];rfl,by rw[Ct.Q9];rfl,by rw[Ct.Q9,D];rfl,by rw[hF];rfl⟩,by rw[Ct.Q9];exact d.keep (heap_alloc_old W _ d.lt),by rw[Ct.Q9];exact f.keep (heap_alloc_old W _ f.lt),⟨by omega,by omega,by omega⟩,⟨by dsimp only;omega,by dsimp only;omega⟩,Ct.Ba h1 h2⟩
   |exact⟨w.1.size+1,n,w.1.size,n,_,_,by rw[<-u];exact heap_alloc_new W _,⟨by rw[Ct.Q9];rfl,by rw[Ct.Q9];rfl,by rw[Ct.Q9,D];rfl,by rw[hF];rfl⟩,by rw[Ct.Q9];exact f.keep (heap_alloc_old W _ f.lt),by rw[Ct.Q9];exact d.keep (heap_alloc_old W _ d.lt),⟨by omega,by omega,by omega⟩,⟨by dsimp only;omega,by dsimp only;omega⟩,Ct.Ba h1 h2⟩
   |fail)
end
theorem Qbd (A:Option Addr)(m k c:Nat)(l:List UInt8)(w:World)(h:Sl w A m c l)(E:m=k+2)(hm:m<=100000)(y:Nat)(B:Q8 (l.take 2)=y) :
  Calls Tryz.prog 149 #[.slice A m c,.int .i64 2] w λe f=>∃b d,e=.returned (.tuple #[.int .i64 (y:Int),.slice b k d,.int .i64 0])/\Below w.1.size w f:=by
 subst B;refine (q6w A m c l 2 w h (by omega) (by omega) (by omega) (by omega)).mono ?_;rintro e f ⟨b,D,d,rfl,own,u⟩;have p:=own.len;rw[List.length_drop,h.len] at p;have:D=k:=by have:(2:Int).toNat=2:=rfl;omega
 subst this;exact⟨b,d,rfl,u⟩
theorem q9z {w w':World}{A:Option Addr}{n c:Nat}{l:List UInt8}(h:Sl w A n c l){S:Nat->Prop}(T:Turn S w w')(f:∀b,A=some b->¬S b.block):Sl w' A n c l:=
 ⟨h.1,h.2.1,h.2.2.1,λj u p=>by
  obtain⟨b,e,d,m⟩:=h.2.2.2 j u p;exact⟨b,e,Nat.lt_of_lt_of_le d T.size,(World.cell?_of_block (a:=b.add j) (by rw[q0n];exact T.block _ d (f b e))).trans m⟩⟩
theorem qlt (C:Ct)(k:Nat)(b:k<C.n)(h:nm C.now k=0):C.put k 0=C:=by
 have e:C.now.set k 0=C.now:=by
  have h1:C.now[k]'b=0:=by
   unfold nm at h;rw[List.getD_eq_getElem?_getD,List.getElem?_eq_getElem b] at h;exact h
  rw[<-h1];exact List.set_getElem_self b
 unfold Ct.put;simp only[e]
theorem qog {w:World}{p:Nat}{S:Nat->Prop}{C:Ct}(H:Yt w p 0 S C)(i:Nat)(hi:i<=1000)(A:Option Addr)(c:Nat)(l:List UInt8)(hs:Sl w A 236 c l)(hA:∀ad,A=some ad->¬S ad.block)(hz:∀a,i*118<=a->a<C.n->nm C.now a=0) :
  Calls Tryz.prog 135 #[.pointer (some ⟨p,0,none⟩),.int .i64 (i:Int),.slice A 236 c] w λe w'=>((e=.returned (.bool true)/\(∀k,k<118->Yy C.n C.first i l k=false)/\Yt w' p 0 S (Yo C.n i l C 118))\/(e=.returned (.bool false)/\∃k,k<118/\Yy C.n C.first i l k=true))/\Turn S w w':=by
 have Hs:=Lib.hid hs;have HA:=Lib.hid hA;have Hz:=Lib.hid hz;have b8:=hs.cap;have a6:=hs.max;unfold maxLen at a6;have d3:=H.ok.1;clear hs hA hz;go_enter Tryz.func135,Tryz.ntmps135
 go_wp2_with fail
 go_loopw [7,8,9,10,11,12] (λ_ _ _ _ _ k wr=>∃t:Nat,t<=118/\k=.int .i64 (t:Int)/\Yt wr p 0 S (Yo C.n i l C t)/\(∀q,q<t->Yy C.n C.first i l q=false)/\Turn S w wr) (λ_ _ _ _ _ k _=>118-(intOf k).toNat)
 case atStart=>exact⟨0,Nat.zero_le _,rfl,H,λq hq=>absurd hq (Nat.not_lt_zero _),Turn.refl _ _⟩
 case round=>
  clear H;obtain⟨t,ht,rfl,R,f,T⟩:=hrel;by_cases b5:t<118
  ·have e3:(t:Int)<118:=by omega
   have e0:(0:Int)<=(t:Int):=by omega
   obtain⟨b,hb⟩:∃b,2*t=b:=⟨_,rfl⟩;have c8:(t:Int)*2=(b:Int):=by omega
   have c9:b<=234:=by omega
   have a7:=q9z Hs.out T HA.out;have Q:=a7.drop (k:=b) (by omega);obtain⟨A2,b4⟩:∃A2,(if c=b then A else Option.map (λx=>x.add b) A)=A2:=⟨_,rfl⟩;rw[b4] at Q;have U:=Q.take (k:=2) (by omega);obtain⟨y,hy⟩:∃y,Q8 (((l.drop b).take 2).take 2)=y:=⟨_,rfl⟩;have hX:=Lib.hid (show F7 l t=(y:Int) by unfold F7;rw[hb,<-hy,List.take_take];rfl);have d4:y<65536:=by
    have h1:=q7g (((l.drop b).take 2).take 2);have h2:(((l.drop b).take 2).take 2).length=2:=by rw[List.length_take,U.len];rfl
    rw[h2,hy] at h1;exact h1
   have Hy:=Lib.hid hy;have b2:=Lib.hid U;have Hb:=Lib.hid hb;have K:=Lib.hid f;have E:(Yo C.n i l C t).n=C.n:=qil _ _ _ _ _;have F:(Yo C.n i l C t).first=C.first:=by unfold Ct.first;rw[E]
   obtain⟨a,ha⟩:∃a,i*118+t=a:=⟨_,rfl⟩;have c7:(i:Int)*118+(t:Int)=(a:Int):=by omega
   have c6:a<=200000:=by omega
   have W:a<C.n->nm (Yo C.n i l C t).now a=0:=λh=>by
    rw[qh3 i l C t a h,if_neg (by omega)];exact Hz.out a (by omega) h
   have B:=Lib.hid (show Yy C.n C.first i l t=decide ((y:Int)≠0/\(a<C.first\/C.n<=a)) by unfold Yy;rw[hX.out,ha]);have d:=Lib.hid (show Yo C.n i l C (t+1)=if a<C.n then (Yo C.n i l C t).put a (y:Int) else Yo C.n i l C t by rw[<-hX.out,<-ha];rfl);have X:=Lib.hid (show (Yy C.n C.first i l t=false)->∀q,q<t+1->Yy C.n C.first i l q=false from λh q hq=>by
    by_cases e:q=t
    ·rw[e];exact h
    ·exact K.out q (by omega))
   obtain⟨u,Z⟩:∃u,Yo C.n i l C t=u:=⟨_,rfl⟩;rw[Z] at R E F W d;have a2:=Lib.hid (show u.counted a=decide (C.first<=a/\a<C.n) by unfold Ct.counted;rw[E,F]);have Y:=Lib.hid E;have b9:=Lib.hid F;have b3:=Lib.hid W;have Ha:=Lib.hid ha;have i1:2<=c-b:=by omega
   have i2:b<=236:=by omega
   have i3:b<=c:=by omega
   clear a7 Q U hy f Z E F W ha hb;go_wp2_with fail
   refine (Qbd A2 2 0 (c-b) _ wr b2.out rfl (by omega) y Hy.out).mono ?_;rintro e w4 ⟨A4,c4,rfl,a1⟩;have R4:=R.below a1;have T4:=T.then (Qv a1 |>.mono (S':=S) λk hk=>hk);clear R T;by_cases b1:y=0
   ·subst b1;have D:=Lib.hid (show Yy C.n C.first i l t=false by rw[B.out];simp);have P:=Lib.hid (show Yo C.n i l C (t+1)=u by
     rw[d.out];split
     ·rename_i h;exact qlt u a (by rw[Y.out];exact h) (b3.out h)
     ·rfl)
    go_wp2;exact⟨⟨t+1,by omega,by go_num,by rw[P.out];exact R4,X.out D.out,T4⟩,by simp[intOf];omega⟩
   ·have d5:((y:Int)==0)=false:=by simpa using b1
    have b7:¬(y:Int)=0:=by omega
    by_cases m:C.first<=a/\a<C.n
    ·have M:=Lib.hid (show u.counted a=true by rw[a2.out];exact decide_eq_true m);have D:=Lib.hid (show Yy C.n C.first i l t=false by rw[B.out];exact decide_eq_false (by omega));have P:=Lib.hid (show Yo C.n i l C (t+1)=u.put a (y:Int) by rw[d.out,if_pos m.2]);have G:a<u.n:=by rw[Y.out];exact m.2
     obtain⟨g,cg,b0,cb,c0,c1,c2,c3,k1,k2,I,O,J⟩:=R4.open_;obtain⟨hc,d2⟩:=I a G;obtain⟨R5,T5,d0,d1⟩:=J a ((y:Nat):Int) G (by omega) (by omega);rw[<-P.out] at R5;have T6:=T4.then T5;have e8:(a:Int)<(u.n:Int):=by omega
     have e9:(0:Int)<=(a:Int):=by omega
     obtain⟨x0,a8⟩:∃x,nm u.now a=x:=⟨_,rfl⟩;rw[a8] at hc;clear a8 I O J c1 c2 c3 m;go_wp2_with fail
     refine (q2e R4 a true M.out).mono ?_;rintro e w5 ⟨rfl,rfl⟩;go_wp2;exact⟨⟨t+1,by omega,by go_num,R5,X.out D.out,T6⟩,by simp[intOf];omega⟩
    ·have M:=Lib.hid (show u.counted a=false by rw[a2.out];exact decide_eq_false m);have D:=Lib.hid (show Yy C.n C.first i l t=true by rw[B.out];exact decide_eq_true ⟨b7,by omega⟩);clear m;go_wp2_with fail
     refine (q2e R4 a false M.out).mono ?_;rintro e w5 ⟨rfl,rfl⟩;go_wp2;go_ret;exact⟨.inr ⟨rfl,t,b5,D.out⟩,T4⟩
  ·have b6:t=118:=by omega
   subst b6;go_wp2;go_ret;exact⟨.inl ⟨rfl,f,R⟩,T⟩
theorem qsr (n:Nat)(b:List (List UInt8))(h1:32<=n)(h2:n<=2048)(A:Option Addr)(m c:Nat){w:World}(H:Parts w A m c b)(hm:m=Qe n) :
  Calls Tryz.prog 98 #[.int .i64 (n:Int),.slice A m c] w λe w'=>(((∀i,i<Qe n->q57 n (2+2*Qe n) i (nth b i))/\∃p,e=.returned (.tuple #[.pointer (some ⟨p,0,none⟩),.int .i64 0])/\Yt w' p 0 (λk=>w.1.size<=k) (Vu n b)/\w.1.size<=p)\/
   ((¬∀i,i<Qe n->q57 n (2+2*Qe n) i (nth b i))/\e=.returned (.tuple #[.pointer none,.int .i64 3])))/\Below w.1.size w w':=by
 obtain⟨J,F⟩:∃k,Qe n=k:=⟨_,rfl⟩;have c6:J<=1000:=by rw[<-F];unfold Qe;omega
 have K:=Lib.hid F;have b3:m=J:=by omega
 subst b3;rw[F];clear hm F;have b9:m<=c:=H.2.1;have b4:c<=maxLen:=H.2.2.1;unfold maxLen at b4;go_enter Tryz.func98,Tryz.ntmps98
 go_wp2_with fail
 refine (qdu n h1 h2 w).mono ?_;rintro e w1 ⟨p,rfl,R,b5,B⟩;have c2:w1.cell? ⟨p,2,none⟩=some (.int .i64 (m:Int)):=by
  obtain⟨_,_,_,_,_,_,c2,_⟩:=R.open_;rw[Ct.Q9,K.out] at c2;exact c2
 have R:=R.shrink;obtain⟨S,hS⟩:∃S:Nat->Prop,(λk=>w.1.size<=k/\k<w1.1.size)=S:=⟨_,rfl⟩;rw[hS] at R;have W:∀k,S k->w.1.size<=k:=λk f=>by rw[<-hS] at f;exact f.1
 clear hS;have u:=Lib.hid W;clear W;go_wp2_with fail
 clear c2;go_loopw [8,9,27] (λ_ _ i wr=>∃j:Nat,j<=m/\i=.int .i64 (j:Int)/\Yt wr p 0 S (Y2 n b j)/\(∀q,q<j->q57 n (2+2*m) q (nth b q))/\Below w.1.size w wr) (λ_ _ i _=>m-(intOf i).toNat)
 case atStart=>exact⟨0,Nat.zero_le _,rfl,R,λq hq=>absurd hq (Nat.not_lt_zero _),B⟩
 case round=>
  clear R B;obtain⟨j,hj,rfl,R,d,B⟩:=hrel;by_cases O:j<m
  ·obtain⟨T,A1,n1,c1,eA,b1,Z,D⟩:=H.cell O;subst eA;have b8:=(B.cell (p:=T.add j) (by rw[q0n];exact b1)).trans Z;have P:=D.below B;have e3:(j:Int)<(m:Int):=by omega
   have e0:(0:Int)<=(j:Int):=by omega
   have M:=D.len;obtain⟨l,hl⟩:∃l,nth b j=l:=⟨_,rfl⟩;rw[hl] at D P M;have Hl:=Lib.hid hl;have y:=Lib.hid d;have Q:=Lib.hid M;clear hl d Z M;by_cases I:n1=236
   ·subst I;have U:∀T,A1=some T->¬S T.block:=λT e=>by
     obtain⟨b6,e',hb,_⟩:=D.cell (k:=0) (by omega);rw[e] at e';injection e' with e';subst e';exact λh=>absurd (u.out _ h) (by omega)
    have a8:=Lib.hid U;have a6:=Lib.hid P;clear U P D;have G:(Y2 n b j).n=n:=qb8 _ _ _;have a1:(Y2 n b j).first=2+2*m:=by unfold Ct.first;rw[G,K.out]
    have a7:∀a,j*118<=a->a<(Y2 n b j).n->nm (Y2 n b j).now a=0:=λa b7 X=>by
     rw[G] at X;rw[qb9 n b j a X,if_neg (by omega)]
    have E:Yo n j l (Y2 n b j) 118=Y2 n b (j+1):=by rw[<-Hl.out];rfl
    have f:=qog R j (by omega) A1 c1 l a6.out a8.out a7;rw[G,a1,E] at f;have Hk:=Lib.hid f;clear f G a1 a7 E;go_wp2_with fail
    refine Hk.out.mono ?_;rintro e w4 ⟨⟨rfl,hg,R4⟩|⟨rfl,q,hq,hg⟩,T4⟩
    ·have B4:=B.trans (T4.below (λ_ f=>u.out _ f) B.size);have Hg:=Lib.hid hg;clear hg R;go_wp2;refine⟨⟨j+1,by omega,by go_num,R4,λq hq=>?_,B4⟩,by simp[intOf];omega⟩;by_cases e:q=j
     ·rw[e,Hl.out];exact⟨Q.out,Hg.out⟩
     ·exact y.out q (by omega)
    ·have B4:=B.trans (T4.below (λ_ f=>u.out _ f) B.size);have a2:¬∀i,i<m->q57 n (2+2*m) i (nth b i):=λhh=>by
      have h3:=(hh j O).2 q hq;rw[Hl.out,hg] at h3
      cases h3
     have b0:=Lib.hid a2;clear a2 hg;go_wp2;go_ret2;exact⟨.inr ⟨b0.out,rfl⟩,B4⟩
   ·have e4:¬(n1:Int)=236:=by omega
    have Y:=Lib.hid (show ¬∀i,i<m->q57 n (2+2*m) i (nth b i) from λhh=>I (by have:=(hh j O).1;rw[Hl.out] at this;exact Q.out.symm.trans this));have hb:((n1:Int)==236)=false:=by simpa using e4
    go_wp2;go_ret2;exact⟨.inr ⟨Y.out,rfl⟩,B⟩
  ·have b2:j=m:=by omega
   subst b2;have y:=Lib.hid d;clear d;go_wp2_with fail
   refine (q9y R).mono ?_;rintro e w5 ⟨rfl,R5,T5⟩;go_wp2;go_ret2;refine⟨.inl ⟨y.out,p,rfl,?_,b5⟩,B.trans (T5.below (λ_ f=>u.out _ f) B.size)⟩;exact (show Vu n b=(Y2 n b j).commit by unfold Vu;rw[K.out])▸R5.mono λk f=>u.out k f
theorem qoh (n:Int)(h:n<32\/2048<n)(A:Option Addr)(m c:Nat)(w:World) :
  Calls Tryz.prog 98 #[.int .i64 n,.slice A m c] w λe b=>e=.returned (.tuple #[.pointer none,.int .i64 1])/\w=b:=by
 have H:=Lib.hid h;clear h;go_enter Tryz.func98,Tryz.ntmps98
 go_wp2_with fail
 refine (qsq n H.out w).mono ?_;rintro e d ⟨rfl,rfl⟩;go_wp2;go_ret2;exact⟨rfl,rfl⟩
theorem qlu (n:Nat)(h1:32<=n)(h2:n<=2048)(A:Option Addr)(m c:Nat)(w:World)(hm:m≠Qe n) :
  Calls Tryz.prog 98 #[.int .i64 (n:Int),.slice A m c] w λe u=>e=.returned (.tuple #[.pointer none,.int .i64 3])/\Below w.1.size w u:=by
 obtain⟨k,b⟩:∃k,Qe n=k:=⟨_,rfl⟩;rw[b] at hm;have d:=Lib.hid b;have f:¬(m:Int)=(k:Int):=by omega
 have D:((m:Int)==(k:Int))=false:=by simpa using f
 clear b;go_enter Tryz.func98,Tryz.ntmps98
 go_wp2_with fail
 refine (qdu n h1 h2 w).mono ?_;rintro e y ⟨p,rfl,R,_,B⟩;have c2:y.cell? ⟨p,2,none⟩=some (.int .i64 (k:Int)):=by
  obtain⟨_,_,_,_,_,_,c2,_⟩:=R.open_;rw[Ct.Q9,d.out] at c2;exact c2
 go_wp2;go_ret2;exact⟨rfl,B⟩
theorem qoi (n:Int)(b:List (List UInt8))(A:Option Addr)(m c:Nat){w:World}(H:Parts w A m c b) :
  Calls Tryz.prog 98 #[.int .i64 n,.slice A m c] w λe f=>((Xf n b=0/\∃p,e=.returned (.tuple #[.pointer (some ⟨p,0,none⟩),.int .i64 0])/\Yt f p 0 (λk=>w.1.size<=k) (Vu n.toNat b)/\w.1.size<=p)\/
   (Xf n b≠0/\e=.returned (.tuple #[.pointer none,.int .i64 (Xf n b)])))/\Below w.1.size w f:=by
 by_cases hn:32<=n/\n<=2048
 ·obtain⟨k,rfl⟩:=Int.eq_ofNat_of_zero_le (show 0<=n by omega);by_cases hm:m=Qe k
  ·refine (qsr k b (by omega) (by omega) A m c H hm).mono ?_;have D:b.length=Qe k:=H.len.trans hm;rintro e f ⟨⟨u,p,rfl,R,y⟩|⟨u,rfl⟩,B⟩
   ·have d:Xf (k:Int) b=0:=by unfold Xf;rw[Int.toNat_natCast,if_neg (λh=>h hn),if_neg (λh=>h.elim (λh=>h D) (λh=>h u))]
    exact⟨.inl ⟨d,p,rfl,R,y⟩,B⟩
   ·have d:Xf (k:Int) b=3:=by unfold Xf;rw[Int.toNat_natCast,if_neg (λh=>h hn),if_pos (.inr u)]
    rw[d];exact⟨.inr ⟨by omega,rfl⟩,B⟩
  ·refine (qlu k (by omega) (by omega) A m c w hm).mono ?_;rintro e f ⟨rfl,B⟩;have d:Xf (k:Int) b=3:=by unfold Xf;rw[Int.toNat_natCast,if_neg (λh=>h hn),if_pos (.inl (by rw[H.len];exact hm))]
   rw[d];exact⟨.inr ⟨by omega,rfl⟩,B⟩
 ·refine (qoh n (by omega) A m c w).mono ?_;rintro e f ⟨rfl,rfl⟩;have d:Xf n b=1:=by unfold Xf;rw[if_pos hn]
  rw[d];exact⟨.inr ⟨by omega,rfl⟩,Below.refl _ _⟩
