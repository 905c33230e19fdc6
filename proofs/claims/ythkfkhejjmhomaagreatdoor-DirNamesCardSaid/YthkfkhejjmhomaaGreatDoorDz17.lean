/- The code's counts: Commit, Clone, New -/
import Derived.Test.YthkfkhejjmhomaaGreatDoorDz16
import Derived.Laws.CopyOwn
namespace Go.Proofs.YthkfkhejjmhomaaGreatDoor
open Go Go.RowKit Go.Proofs
set_option maxHeartbeats 4000000
set_option maxRecDepth 10000
theorem Qz.whole {w:World}{g n c:Nat}{l:List Int}(h:Qz w g n c l):∃d:Array Value,w.1[g]?=some (.cells d 3 (0,0))/\d.size=c/\d.toList.take n=l.map cv/\n<=c/\c<=maxLen:=by
 rcases h.2 with⟨f,_⟩|⟨z,cap,d,f,A,u,h1,h2,m,p⟩
 ·injection f with e;cases e
 ·injection f with e y q;injection e with e;injection e with e;subst e;subst q;rw[Nat.mul_one] at m p;exact⟨d,u,m,p,h1,h2⟩
theorem Qz.of_whole {w:World}{g n c:Nat}{l:List Int}(cur:Array Value)(hg:w.1[g]?=some (.cells cur 3 (0,0)))(h3:cur.size=c)(h4:cur.toList.take n=l.map cv)(hl:l.length=n)(h1:n<=c)(h2:c<=maxLen):Qz w g n c l:=
 ⟨by rw[List.length_map,hl,Nat.mul_one],.inr ⟨g,c,cur,rfl,Nat.zero_le _,hg,h1,h2,by rw[h3,Nat.mul_one],by rw[Nat.mul_one];exact h4⟩⟩
theorem Qqc {w:World}{D:Array Oper}{o:Oper}{a:Act}{K:Act->World->Prop}{Q:Exit->Act->World->Prop}{E:Prop}(A:o.guard=none)(d s:Operand)
  (O:o.op=.call { callee:=.builtin .copy,args:=#[d,s],argTypes:=#[67,67] }) (g n c:Nat) (l:List Int) (R:Qz w g n c l) (hd:a.eval d=.slice (some ⟨g,0,none⟩) n c)
  (z c2:Nat) (q:List Int) (u:Qz w z n c2 q) (T:a.eval s=.slice (some ⟨z,0,none⟩) n c2)
  (H:∀y,Qz y g n c q->(∀k,k≠g->y.1[k]?=w.1[k]?)->(∀S:Nat->Prop,S g->Turn S w y)->K (a.put o.dst (goInt n)) y):if Region.wanted o (yielded D a.tmps)=true then Oper.wp Tryz.prog o a w K Q else E:=by
 rw[if_pos (by simp[Region.wanted,A])];obtain⟨i,hi,U,B,V⟩:=info_parts TN.info;obtain⟨m,G,F,W,h1,h2⟩:=R.whole;have f:=u.len;have p:=run_copy_row (P:=Tryz.prog) w 67 67 o.type 3 g 0 n c ⟨z,0,none⟩ n c2 m 3 (q.map cv) TN.sl (by rw[hi];simp[B]) G (by rw[List.length_map,f];exact (Nat.min_self n).symm) u.cells (by rw[List.length_map,f,F];omega) (Zed _);rw[List.length_map,f] at p;unfold Oper.wp;simp[execOp,O,resolve,invoke,builtin,hd,T,p,Result.andThen];have J:(w.setRow g (q.map cv++m.toList.drop n).toArray).1[g]?=some (.cells (q.map cv++m.toList.drop n).toArray 3 (0,0)):=setRow_heap w g _ _ 3 _ G;have e:∀k,k≠g->(w.setRow g (q.map cv++m.toList.drop n).toArray).1[k]?=w.1[k]?:=λk M=>setRow_other w g k _ M
 have key:=H (w.setRow g (q.map cv++m.toList.drop n).toArray) (Qz.of_whole _ J (by rw[List.size_toArray,List.length_append,List.length_map,List.length_drop,f,Array.length_toList,F];omega) (by rw[List.take_left' (by rw[List.length_map,f])]) f h1 h2) e (λS I=>⟨rfl,rfl,rfl,by simp[World.setRow],λk _ hn=>e k λh=>hn (h▸I)⟩);exact key
theorem Qnw {w:World}{p o:Nat}{S:Nat->Prop}{C:Ct}(H:Jg w p o S C) :
  Calls Tryz.prog 79 #[.pointer (some ⟨p,o,none⟩)] w λe q=>e=.returned (.tuple #[])/\Jg q p o S C.commit/\Turn S w q:=by
 obtain⟨g,f,b,d,t,y,h1,⟨E,F,M,O⟩,h2,J,m,D,K⟩:=H;have c0:w.drew.cell? ⟨p,o,none⟩=some (.slice (some ⟨g,0,none⟩) C.n f):=Fa (w:=w.drew) h1 E;have c1:w.drew.cell? ⟨p,o+1,none⟩=some (.slice (some ⟨b,0,none⟩) C.n d):=Fa (w:=w.drew) h1 F;have A:Qz w.drew g C.n f C.now:=h2;have B:Qz w.drew b C.n d C.done:=J;go_enter Tryz.func79,Tryz.ntmps79
 go_wp2_with fail
 go_region_held3 (λq=>q.cell? ⟨p,o,none⟩=some (.slice (some ⟨g,0,none⟩) C.n f)/\q.cell? ⟨p,o+1,none⟩=some (.slice (some ⟨b,0,none⟩) C.n d))
  (first|assumption|exact⟨c0,c1⟩|exact z)
  (first
   |(refine Qqc rfl (.tmp 5) (.tmp 9) rfl b C.n d C.done B rfl g f C.now A rfl ?_;intro G P u I;have z:G.cell? ⟨p,o,none⟩=some (.slice (some ⟨g,0,none⟩) C.n f)/\G.cell? ⟨p,o+1,none⟩=some (.slice (some ⟨b,0,none⟩) C.n d):=⟨(World.cell?_of_block (a:=⟨p,o,none⟩) (u p m.2.2)).trans c0,(World.cell?_of_block (a:=⟨p,o+1,none⟩) (u p m.2.2)).trans c1⟩)
   |fail)
 all_goals (
  go_end0
  refine⟨rfl,⟨g,f,b,d,t,y,(u p m.2.2).trans h1,⟨E,F,M,O⟩,h2.keep (u g m.1),P,m,D,Ct.Quw K⟩,?_⟩;have T:=I S D.2;exact (Turn.refl S w).drew.then T)
theorem Qx2 (n:Int)(h:n<32\/2048<n)(w:World) :
  Calls Tryz.prog 89 #[.int .i64 n] w λe d=>e=.returned (.tuple #[.pointer none,.int .i64 1])/\w=d:=by
 by_cases h1:n<32
 ·go_enter Tryz.func89,Tryz.ntmps89
  go_wp2;go_ret2;exact⟨rfl,rfl⟩
 ·have h2:2048<n:=by omega
  go_enter Tryz.func89,Tryz.ntmps89
  go_wp2;go_ret2;exact⟨rfl,rfl⟩
section
attribute [local go_sem ↓] Qpj
theorem Qh9 (n:Nat)(h1:32<=n)(h2:n<=2048)(w:World) :
  Calls Tryz.prog 89 #[.int .i64 (n:Int)] w λe D=>∃p,e=.returned (.tuple #[.pointer (some ⟨p,0,none⟩),.int .i64 0])/\Jg D p 0 (λk=>w.1.size<=k) (Ct.zero n)/\w.1.size<=p/\Below w.1.size w D:=by
 have E:¬(n:Int)<32:=by omega
 have F:¬(2048:Int)<(n:Int):=by omega
 have hn:n<=1000000:=by omega
 obtain⟨m,hm⟩:∃m,Qi n=m:=⟨_,rfl⟩;have z:=Lib.hid hm;have d:=Lib.hid (show ((Ct.zero n).first:Int)=2+2*(m:Int) by unfold Ct.first;rw[Ct.Qg,hm];omega);clear hm;have B:=Qud n hn w.drew;have y:=Qud n hn (Qcv n w.drew);rw[Qal] at y;have z0:w.drew.1.size=w.1.size:=rfl;rw[z0] at B y;go_enter Tryz.func89,Tryz.ntmps89
 go_wp2_with fail
 refine (Qkd (n:Int) n rfl (by omega) m z.out w).mono ?_;rintro e H ⟨rfl,rfl⟩;go_wp2_with fail
 go_region
 all_goals (
  have g:Qz (Qcv n (Qcv n w.drew)) (w.1.size+1) n n (List.replicate n 0):=by
   have:=Qpd n hn (Qcv n w.drew);rw[Qal,z0] at this;exact this
  have f:Qz (Qcv n (Qcv n w.drew)) w.1.size n n (List.replicate n 0):=by
   have h:=Qpd n hn w.drew;rw[z0] at h;exact h.keep (heap_alloc_old (Qcv n w.drew) _ (by rw[Qal,z0];omega))
  have u:Below w.1.size w (Qcv n (Qcv n w.drew)):=((Below.refl _ _).drew.trans (Qi3 n _ _ (Nat.le_refl _))).trans (Qi3 n _ _ (by rw[Qal,z0];omega));have q:(Qcv n (Qcv n w.drew)).1.size=w.1.size+2:=by rw[Qal,Qal,z0]
  clear B y;generalize Qcv n (Qcv n w.drew)=W at f g u q ⊢;go_wp2_with fail
  go_ret2;rw[q];refine⟨w.1.size+2,rfl,?_,by omega,u.alloc u.size _⟩;have G:=(Ct.Qg n).symm;have hF:=d.out;have A:=z.out;first
   |exact⟨w.1.size,n,w.1.size+1,n,_,_,by rw[<-q];exact heap_alloc_new W _,⟨by rw[Ct.Qg];rfl,by rw[Ct.Qg];rfl,by rw[Ct.Qg,A];rfl,by rw[hF];rfl⟩,by rw[Ct.Qg];exact f.keep (heap_alloc_old W _ f.lt),by rw[Ct.Qg];exact g.keep (heap_alloc_old W _ g.lt),⟨by omega,by omega,by omega⟩,⟨by dsimp only;omega,by dsimp only;omega⟩,Ct.J7 h1 h2⟩
   |exact⟨w.1.size+1,n,w.1.size,n,_,_,by rw[<-q];exact heap_alloc_new W _,⟨by rw[Ct.Qg];rfl,by rw[Ct.Qg];rfl,by rw[Ct.Qg,A];rfl,by rw[hF];rfl⟩,by rw[Ct.Qg];exact g.keep (heap_alloc_old W _ g.lt),by rw[Ct.Qg];exact f.keep (heap_alloc_old W _ f.lt),⟨by omega,by omega,by omega⟩,⟨by dsimp only;omega,by dsimp only;omega⟩,Ct.J7 h1 h2⟩
   |fail)
end
theorem Zec (A:Option Addr)(m k c:Nat)(l:List UInt8)(w:World)(h:Sl w A m c l)(B:m=k+2)(hm:m<=100000)(y:Nat)(u:Zo (l.take 2)=y) :
  Calls Tryz.prog 151 #[.slice A m c,.int .i64 2] w λe g=>∃d f,e=.returned (.tuple #[.int .i64 (y:Int),.slice d k f,.int .i64 0])/\Below w.1.size w g:=by
 subst u;refine (Qby A m c l 2 w h (by omega) (by omega) (by omega) (by omega)).mono ?_;rintro e g ⟨d,z,f,rfl,own,q⟩;have p:=own.len;rw[List.length_drop,h.len] at p;have:z=k:=by have:(2:Int).toNat=2:=rfl;omega
 subst this;exact⟨d,f,rfl,q⟩
theorem Gt {w w':World}{A:Option Addr}{n c:Nat}{l:List UInt8}(h:Sl w A n c l){S:Nat->Prop}(T:Turn S w w')(g:∀d,A=some d->¬S d.block):Sl w' A n c l:=
 ⟨h.1,h.2.1,h.2.2.1,λj u p=>by
  obtain⟨d,e,f,m⟩:=h.2.2.2 j u p;exact⟨d,e,Nat.lt_of_lt_of_le f T.size,(World.cell?_of_block (a:=d.add j) (by rw[Y7];exact T.block _ f (g d e))).trans m⟩⟩
theorem Qsh (C:Ct)(k:Nat)(d:k<C.n)(h:nm C.now k=0):C.put k 0=C:=by
 have e:C.now.set k 0=C.now:=by
  have h1:C.now[k]'d=0:=by
   unfold nm at h;rw[List.getD_eq_getElem?_getD,List.getElem?_eq_getElem d] at h;exact h
  rw[<-h1];exact List.set_getElem_self d
 unfold Ct.put;simp only[e]
theorem Qu1 {w:World}{p:Nat}{S:Nat->Prop}{C:Ct}(H:Jg w p 0 S C)(i:Nat)(hi:i<=1000)(A:Option Addr)(c:Nat)(l:List UInt8)(hs:Sl w A 236 c l)(hA:∀ad,A=some ad->¬S ad.block)(hz:∀a,i*118<=a->a<C.n->nm C.now a=0) :
  Calls Tryz.prog 249 #[.pointer (some ⟨p,0,none⟩),.int .i64 (i:Int),.slice A 236 c] w λe w'=>((e=.returned (.bool true)/\(∀k,k<118->Sj C.n C.first i l k=false)/\Jg w' p 0 S (Rn C.n i l C 118))\/(e=.returned (.bool false)/\∃k,k<118/\Sj C.n C.first i l k=true))/\Turn S w w':=by
 have Hs:=Lib.hid hs;have HA:=Lib.hid hA;have Hz:=Lib.hid hz;have b6:=hs.cap;have a1:=hs.max;unfold maxLen at a1;have c9:=H.ok.1;clear hs hA hz;go_enter Tryz.func249,Tryz.ntmps249
 go_wp2_with fail
 go_loopw [7,8,9,10,11,12] (λ_ _ _ _ _ k wr=>∃t:Nat,t<=118/\k=.int .i64 (t:Int)/\Jg wr p 0 S (Rn C.n i l C t)/\(∀q,q<t->Sj C.n C.first i l q=false)/\Turn S w wr) (λ_ _ _ _ _ k _=>118-(intOf k).toNat)
 case atStart=>exact⟨0,Nat.zero_le _,rfl,H,λq hq=>absurd hq (Nat.not_lt_zero _),Turn.refl _ _⟩
 case round=>
  clear H;obtain⟨t,ht,rfl,R,f,T⟩:=hrel;by_cases b3:t<118
  ·have e3:(t:Int)<118:=by omega
   have e0:(0:Int)<=(t:Int):=by omega
   obtain⟨b,hb⟩:∃b,2*t=b:=⟨_,rfl⟩;have c6:(t:Int)*2=(b:Int):=by omega
   have c7:b<=234:=by omega
   have a2:=Gt Hs.out T HA.out;have P:=a2.drop (k:=b) (by omega);obtain⟨A2,b2⟩:∃A2,(if c=b then A else Option.map (λx=>x.add b) A)=A2:=⟨_,rfl⟩;rw[b2] at P;have Q:=P.take (k:=2) (by omega);obtain⟨y,hy⟩:∃y,Zo (((l.drop b).take 2).take 2)=y:=⟨_,rfl⟩;have hX:=Lib.hid (show Qn1 l t=(y:Int) by unfold Qn1;rw[hb,<-hy,List.take_take];rfl);have d2:y<65536:=by
    have h1:=Qdr (((l.drop b).take 2).take 2);have h2:(((l.drop b).take 2).take 2).length=2:=by rw[List.length_take,Q.len];rfl
    rw[h2,hy] at h1;exact h1
   have Hy:=Lib.hid hy;have a8:=Lib.hid Q;have Hb:=Lib.hid hb;have J:=Lib.hid f;have D:(Rn C.n i l C t).n=C.n:=Qm2 _ _ _ _ _;have E:(Rn C.n i l C t).first=C.first:=by unfold Ct.first;rw[D]
   obtain⟨a,ha⟩:∃a,i*118+t=a:=⟨_,rfl⟩;have b9:(i:Int)*118+(t:Int)=(a:Int):=by omega
   have b8:a<=200000:=by omega
   have U:a<C.n->nm (Rn C.n i l C t).now a=0:=λh=>by
    rw[Ql0 i l C t a h,if_neg (by omega)];exact Hz.out a (by omega) h
   have z:=Lib.hid (show Sj C.n C.first i l t=decide ((y:Int)≠0/\(a<C.first\/C.n<=a)) by unfold Sj;rw[hX.out,ha]);have d:=Lib.hid (show Rn C.n i l C (t+1)=if a<C.n then (Rn C.n i l C t).put a (y:Int) else Rn C.n i l C t by rw[<-hX.out,<-ha];rfl);have V:=Lib.hid (show (Sj C.n C.first i l t=false)->∀q,q<t+1->Sj C.n C.first i l q=false from λh q hq=>by
    by_cases e:q=t
    ·rw[e];exact h
    ·exact J.out q (by omega))
   obtain⟨u,X⟩:∃u,Rn C.n i l C t=u:=⟨_,rfl⟩;rw[X] at R D E U d;have Z:=Lib.hid (show u.counted a=decide (C.first<=a/\a<C.n) by unfold Ct.counted;rw[D,E]);have W:=Lib.hid D;have b7:=Lib.hid E;have b1:=Lib.hid U;have Ha:=Lib.hid ha;have i1:2<=c-b:=by omega
   have i2:b<=236:=by omega
   have i3:b<=c:=by omega
   clear a2 P Q hy f X D E U ha hb;go_wp2_with fail
   refine (Zec A2 2 0 (c-b) _ wr a8.out rfl (by omega) y Hy.out).mono ?_;rintro e w4 ⟨A4,c4,rfl,Y⟩;have R4:=R.below Y;have T4:=T.then (Uk Y |>.mono (S':=S) λk hk=>hk);clear R T;by_cases a7:y=0
   ·subst a7;have B:=Lib.hid (show Sj C.n C.first i l t=false by rw[z.out];simp);have O:=Lib.hid (show Rn C.n i l C (t+1)=u by
     rw[d.out];split
     ·rename_i h;exact Qsh u a (by rw[W.out];exact h) (b1.out h)
     ·rfl)
    go_wp2;exact⟨⟨t+1,by omega,by go_num,by rw[O.out];exact R4,V.out B.out,T4⟩,by simp[intOf];omega⟩
   ·have d3:((y:Int)==0)=false:=by simpa using a7
    have b5:¬(y:Int)=0:=by omega
    by_cases m:C.first<=a/\a<C.n
    ·have K:=Lib.hid (show u.counted a=true by rw[Z.out];exact decide_eq_true m);have B:=Lib.hid (show Sj C.n C.first i l t=false by rw[z.out];exact decide_eq_false (by omega));have O:=Lib.hid (show Rn C.n i l C (t+1)=u.put a (y:Int) by rw[d.out,if_pos m.2]);have F:a<u.n:=by rw[W.out];exact m.2
     obtain⟨g,cg,b0,cb,c0,c1,c2,c3,k1,k2,G,M,I⟩:=R4.open_;obtain⟨hc,c8⟩:=G a F;obtain⟨R5,T5,d0,d1⟩:=I a ((y:Nat):Int) F (by omega) (by omega);rw[<-O.out] at R5;have T6:=T4.then T5;have e8:(a:Int)<(u.n:Int):=by omega
     have e9:(0:Int)<=(a:Int):=by omega
     obtain⟨x0,a6⟩:∃x,nm u.now a=x:=⟨_,rfl⟩;rw[a6] at hc;clear a6 G M I c1 c2 c3 m;go_wp2_with fail
     refine (Rf R4 a true K.out).mono ?_;rintro e w5 ⟨rfl,rfl⟩;go_wp2;exact⟨⟨t+1,by omega,by go_num,R5,V.out B.out,T6⟩,by simp[intOf];omega⟩
    ·have K:=Lib.hid (show u.counted a=false by rw[Z.out];exact decide_eq_false m);have B:=Lib.hid (show Sj C.n C.first i l t=true by rw[z.out];exact decide_eq_true ⟨b5,by omega⟩);clear m;go_wp2_with fail
     refine (Rf R4 a false K.out).mono ?_;rintro e w5 ⟨rfl,rfl⟩;go_wp2;go_ret;exact⟨.inr ⟨rfl,t,b3,B.out⟩,T4⟩
  ·have b4:t=118:=by omega
   subst b4;go_wp2;go_ret;exact⟨.inl ⟨rfl,f,R⟩,T⟩
theorem Qx0 (n:Nat)(d:List (List UInt8))(h1:32<=n)(h2:n<=2048)(A:Option Addr)(m c:Nat){w:World}(H:Parts w A m c d)(hm:m=Qi n) :
  Calls Tryz.prog 222 #[.int .i64 (n:Int),.slice A m c] w λe w'=>(((∀i,i<Qi n->Qbb n (2+2*Qi n) i (nth d i))/\∃p,e=.returned (.tuple #[.pointer (some ⟨p,0,none⟩),.int .i64 0])/\Jg w' p 0 (λk=>w.1.size<=k) (Qcp n d)/\w.1.size<=p)\/
   ((¬∀i,i<Qi n->Qbb n (2+2*Qi n) i (nth d i))/\e=.returned (.tuple #[.pointer none,.int .i64 3])))/\Below w.1.size w w':=by
 obtain⟨many,E⟩:∃k,Qi n=k:=⟨_,rfl⟩;have b8:many<=1000:=by rw[<-E];unfold Qi;omega
 have I:=Lib.hid E;have b1:m=many:=by omega
 subst b1;rw[E];clear hm E;have b7:m<=c:=H.2.1;have b2:c<=maxLen:=H.2.2.1;unfold maxLen at b2;go_enter Tryz.func222,Tryz.ntmps222
 go_wp2_with fail
 refine (Qh9 n h1 h2 w).mono ?_;rintro e w1 ⟨p,rfl,R,b3,B⟩;have c2:w1.cell? ⟨p,2,none⟩=some (.int .i64 (m:Int)):=by
  obtain⟨_,_,_,_,_,_,c2,_⟩:=R.open_;rw[Ct.Qg,I.out] at c2;exact c2
 have R:=R.shrink;obtain⟨S,hS⟩:∃S:Nat->Prop,(λk=>w.1.size<=k/\k<w1.1.size)=S:=⟨_,rfl⟩;rw[hS] at R;have T:∀k,S k->w.1.size<=k:=λk g=>by rw[<-hS] at g;exact g.1
 clear hS;have u:=Lib.hid T;clear T;go_wp2_with fail
 clear c2;go_loopw [8,9,27] (λ_ _ i wr=>∃j:Nat,j<=m/\i=.int .i64 (j:Int)/\Jg wr p 0 S (Sz n d j)/\(∀q,q<j->Qbb n (2+2*m) q (nth d q))/\Below w.1.size w wr) (λ_ _ i _=>m-(intOf i).toNat)
 case atStart=>exact⟨0,Nat.zero_le _,rfl,R,λq hq=>absurd hq (Nat.not_lt_zero _),B⟩
 case round=>
  clear R B;obtain⟨j,hj,rfl,R,f,B⟩:=hrel;by_cases K:j<m
  ·obtain⟨P,A1,n1,c1,eA,a8,W,z⟩:=H.cell K;subst eA;have b6:=(B.cell (p:=P.add j) (by rw[Y7];exact a8)).trans W;have M:=z.below B;have e3:(j:Int)<(m:Int):=by omega
   have e0:(0:Int)<=(j:Int):=by omega
   have J:=z.len;obtain⟨l,hl⟩:∃l,nth d j=l:=⟨_,rfl⟩;rw[hl] at z M J;have Hl:=Lib.hid hl;have y:=Lib.hid f;have O:=Lib.hid J;clear hl f W J;by_cases G:n1=236
   ·subst G;have Q:∀P,A1=some P->¬S P.block:=λP e=>by
     obtain⟨b4,e',hb,_⟩:=z.cell (k:=0) (by omega);rw[e] at e';injection e' with e';subst e';exact λh=>absurd (u.out _ h) (by omega)
    have a6:=Lib.hid Q;have a1:=Lib.hid M;clear Q M z;have F:(Sz n d j).n=n:=Qe3 _ _ _;have X:(Sz n d j).first=2+2*m:=by unfold Ct.first;rw[F,I.out]
    have a2:∀a,j*118<=a->a<(Sz n d j).n->nm (Sz n d j).now a=0:=λa b5 U=>by
     rw[F] at U;rw[Qga n d j a U,if_neg (by omega)]
    have D:Rn n j l (Sz n d j) 118=Sz n d (j+1):=by rw[<-Hl.out];rfl
    have g:=Qu1 R j (by omega) A1 c1 l a1.out a6.out a2;rw[F,X,D] at g;have Hk:=Lib.hid g;clear g F X a2 D;go_wp2_with fail
    refine Hk.out.mono ?_;rintro e w4 ⟨⟨rfl,Y,R4⟩|⟨rfl,q,hq,Y⟩,T4⟩
    ·have B4:=B.trans (T4.below (λ_ g=>u.out _ g) B.size);have Hg:=Lib.hid Y;clear Y R;go_wp2;refine⟨⟨j+1,by omega,by go_num,R4,λq hq=>?_,B4⟩,by simp[intOf];omega⟩;by_cases e:q=j
     ·rw[e,Hl.out];exact⟨O.out,Hg.out⟩
     ·exact y.out q (by omega)
    ·have B4:=B.trans (T4.below (λ_ g=>u.out _ g) B.size);have Z:¬∀i,i<m->Qbb n (2+2*m) i (nth d i):=λhh=>by
      have h3:=(hh j K).2 q hq;rw[Hl.out,Y] at h3
      cases h3
     have a7:=Lib.hid Z;clear Z Y;go_wp2;go_ret2;exact⟨.inr ⟨a7.out,rfl⟩,B4⟩
   ·have e4:¬(n1:Int)=236:=by omega
    have V:=Lib.hid (show ¬∀i,i<m->Qbb n (2+2*m) i (nth d i) from λhh=>G (by have:=(hh j K).1;rw[Hl.out] at this;exact O.out.symm.trans this));have hb:((n1:Int)==236)=false:=by simpa using e4
    go_wp2;go_ret2;exact⟨.inr ⟨V.out,rfl⟩,B⟩
  ·have b0:j=m:=by omega
   subst b0;have y:=Lib.hid f;clear f;go_wp2_with fail
   refine (Qnw R).mono ?_;rintro e w5 ⟨rfl,R5,T5⟩;go_wp2;go_ret2;refine⟨.inl ⟨y.out,p,rfl,?_,b3⟩,B.trans (T5.below (λ_ g=>u.out _ g) B.size)⟩;exact (show Qcp n d=(Sz n d j).commit by unfold Qcp;rw[I.out])▸R5.mono λk g=>u.out k g
theorem Qut (n:Int)(h:n<32\/2048<n)(A:Option Addr)(m c:Nat)(w:World) :
  Calls Tryz.prog 222 #[.int .i64 n,.slice A m c] w λe d=>e=.returned (.tuple #[.pointer none,.int .i64 1])/\w=d:=by
 have H:=Lib.hid h;clear h;go_enter Tryz.func222,Tryz.ntmps222
 go_wp2_with fail
 refine (Qx2 n H.out w).mono ?_;rintro e f ⟨rfl,rfl⟩;go_wp2;go_ret2;exact⟨rfl,rfl⟩
theorem Qq8 (n:Nat)(h1:32<=n)(h2:n<=2048)(A:Option Addr)(m c:Nat)(w:World)(hm:m≠Qi n) :
  Calls Tryz.prog 222 #[.int .i64 (n:Int),.slice A m c] w λe q=>e=.returned (.tuple #[.pointer none,.int .i64 3])/\Below w.1.size w q:=by
 obtain⟨k,d⟩:∃k,Qi n=k:=⟨_,rfl⟩;rw[d] at hm;have f:=Lib.hid d;have g:¬(m:Int)=(k:Int):=by omega
 have y:((m:Int)==(k:Int))=false:=by simpa using g
 clear d;go_enter Tryz.func222,Tryz.ntmps222
 go_wp2_with fail
 refine (Qh9 n h1 h2 w).mono ?_;rintro e u ⟨p,rfl,R,_,B⟩;have c2:u.cell? ⟨p,2,none⟩=some (.int .i64 (k:Int)):=by
  obtain⟨_,_,_,_,_,_,c2,_⟩:=R.open_;rw[Ct.Qg,f.out] at c2;exact c2
 go_wp2;go_ret2;exact⟨rfl,B⟩
theorem Qus (n:Int)(d:List (List UInt8))(A:Option Addr)(m c:Nat){w:World}(H:Parts w A m c d) :
  Calls Tryz.prog 222 #[.int .i64 n,.slice A m c] w λe g=>((Oj n d=0/\∃p,e=.returned (.tuple #[.pointer (some ⟨p,0,none⟩),.int .i64 0])/\Jg g p 0 (λk=>w.1.size<=k) (Qcp n.toNat d)/\w.1.size<=p)\/
   (Oj n d≠0/\e=.returned (.tuple #[.pointer none,.int .i64 (Oj n d)])))/\Below w.1.size w g:=by
 by_cases hn:32<=n/\n<=2048
 ·obtain⟨k,rfl⟩:=Int.eq_ofNat_of_zero_le (show 0<=n by omega);by_cases hm:m=Qi k
  ·refine (Qx0 k d (by omega) (by omega) A m c H hm).mono ?_;have y:d.length=Qi k:=H.len.trans hm;rintro e g ⟨⟨q,p,rfl,R,u⟩|⟨q,rfl⟩,B⟩
   ·have f:Oj (k:Int) d=0:=by unfold Oj;rw[Int.toNat_natCast,if_neg (λh=>h hn),if_neg (λh=>h.elim (λh=>h y) (λh=>h q))]
    exact⟨.inl ⟨f,p,rfl,R,u⟩,B⟩
   ·have f:Oj (k:Int) d=3:=by unfold Oj;rw[Int.toNat_natCast,if_neg (λh=>h hn),if_pos (.inr q)]
    rw[f];exact⟨.inr ⟨by omega,rfl⟩,B⟩
  ·refine (Qq8 k (by omega) (by omega) A m c w hm).mono ?_;rintro e g ⟨rfl,B⟩;have f:Oj (k:Int) d=3:=by unfold Oj;rw[Int.toNat_natCast,if_neg (λh=>h hn),if_pos (.inl (by rw[H.len];exact hm))]
   rw[f];exact⟨.inr ⟨by omega,rfl⟩,B⟩
 ·refine (Qut n (by omega) A m c w).mono ?_;rintro e g ⟨rfl,rfl⟩;have f:Oj n d=1:=by unfold Oj;rw[if_pos hn]
  rw[f];exact⟨.inr ⟨by omega,rfl⟩,Below.refl _ _⟩
