/- EditCommitted's walk. -/
import Derived.Test.YtnnbaihfboacoaaGreatDoorHcT
import Derived.Test.YtnnbaihfboacoaaGreatDoorHcU
namespace Go.Proofs.YtnnbaihfboacoaaGreatDoor
open Go Go.RowKit Go.Proofs
set_option maxHeartbeats 16000000
set_option maxRecDepth 100000
theorem editCommitted_walk (A:Option Addr)(n c:Nat)(os:List Ai)(A2:Option Addr)(n2 c2:Nat)(i1:List Ai)(w:World)(hO:Nv w A n c os)(b3:Nv w A2 n2 c2 i1)(ht:Tab w) :
  Calls Tryz.prog 6 #[.slice A n c,.slice A2 n2 c2] w λe w'=>e=.returned (.bool true)/\Below w.1.size w w':=by
 have hG:=ht.1;go_enter Tryz.func6,Tryz.ntmps6
 go_wp2_with fail
 refine (q83 w ht).mono ?_;rintro e X ⟨rfl,b1⟩;have t1:=ht.below b1 hG;have a7:=Lib.hid (qxa 1024 ⟨by omega,by omega⟩ X);go_wp2_with fail
 refine a7.out.mono ?_;rintro e wd ⟨d,rfl,L1,B1⟩;have td:=t1.below B1 t1.1;have g4:=Lib.hid (qhs L1 ⟨rfl,rfl⟩ (Nat.not_le.2 t1.1) td (qjk 1024) (by omega));clear a7;go_wp2_with fail
 refine g4.out.mono ?_;rintro e Y ⟨p,q,rfl,X2⟩;have g9:(DM.mk0 1024).n=1024:=rfl;rw[g9] at X2;have e3:=(q3c (Xt 1024) (qjk 1024)).mono (m':=100) (by have:=qxz (n:=1024) (by omega);omega);have hK:=qml (n:=1024) (by omega) (by omega);obtain⟨D0,e8⟩:∃D,(DM.mk0 1024).Qk (Xt 1024)=D:=⟨_,rfl⟩;rw[e8] at X2 e3 hK;have R:=qep 1024;have c7:(Pl.fresh 1024).C.first=20:=by unfold Ct.first;rw[R];rfl
 have i9:(Pl.fresh 1024).C.kept=0:=q6z 1024;have a6:(Pl.fresh 1024).S.gen=1:=rfl;obtain⟨P0,hP⟩:∃P,Pl.fresh 1024=P:=⟨_,rfl⟩;rw[hP] at X2 hK R c7 i9 a6;clear hP g4;have H2:=qxy (b:=X.1.size) X2 (λk F=>F) B1.size;have t2:=td.turned X2.turn (by have:=t1.1;omega);have z1:=B1.size;have b2:Below X.1.size X Y:=B1.trans (X2.turn.below (λk F=>F) z1);obtain⟨S0,S,H2⟩:=H2;obtain⟨U0,b4⟩:∃T:Nat->Prop,(λk=>X.1.size<=k/\k<Y.1.size)=T:=⟨_,rfl⟩;have g0:∀k,U0 k->X.1.size<=k/\k<Y.1.size:=λk F=>by rw[<-b4] at F;exact F
 rw[b4] at H2;have E2:Ed X.1.size Y d p U0 D0 P0 [] 100 2:=⟨⟨S0,S,U0,H2,H2.sub,H2.Cj⟩,g0,t2,⟨_,_,hK⟩,e3,by omega⟩;clear X2 L1 b4 e8 hK e3 g9 H2 g0 a6 B1 td t2;have e5:=b1.trans (b2.mono b1.size);have hb:1<X.1.size:=t1.1;have e9:Zb (P0.store D0) 0 []:=.inl ⟨rfl,rfl⟩;have bA:Below Y.1.size Y (Y.alloc (.cells #[] 68)):=Qm;have S3:J8 U0 (Y.alloc (.cells #[] 68)) (some ⟨Y.1.size,0,none⟩) 0 0 []:=⟨(q26 Y).Gn,λh=>absurd rfl h⟩;have H:=E2.below bA;have e4:=e5.trans (bA.mono e5.size);clear bA;go_wp2_with fail
 go_loopw [10,11,12,13,14,15] (λrv sv iv _ _ _ wr=>∃(i:Nat) (root:Int) (A':Option Addr) (n' c':Nat) (row:List Qc) (U:Nat->Prop) (D:DM) (P:Pl),i<=n/\i<=80/\iv=.int .i64 (i:Int)/\rv=.int .i64 root/\sv=.slice A' n' c'/\Ed X.1.size wr d p U D P (Jr root++[]) (100+2100*i) (2+(i:Int))/\Zb (P.store D) root row/\J8 U wr A' n' c' row/\Qd row/\(∀x∈row,Ze x)/\row.length<=i/\P.C.n=1024/\P.C.kept<=80/\Below w.1.size w wr) (λ_ _ iv _ _ _ _=>80-(intOf iv).toNat)
 case atStart=>exact⟨0,0,_,0,0,[],U0,D0,P0,Nat.zero_le _,Nat.zero_le _,rfl,rfl,rfl,H,e9,S3,List.Pairwise.nil,λx hx=>(by cases hx),Nat.le_refl _,R,by omega,e4⟩
 case round=>
  clear H E2 e9 S3 e4;obtain⟨i,root,A',n',c',row,U,D,P,k6,k1,rfl,rfl,rfl,I,hT,S,d5,g3,k9,hn,j7,Br⟩:=hrel;by_cases E:i<n/\i<80
  ·as_aux_lemma=>
   obtain⟨c8,g8⟩:=E;obtain⟨g,o,rfl,hg,G,hc⟩:=hO.cell c8;obtain⟨x,hx⟩:∃x,opAt os i=x:=⟨_,rfl⟩;rw[hx] at G hc;have f:=(I.nil.Vd hT).1;rw[qaw (hn.trans R.symm),c7,hn] at f;have HD:=Lib.hid (quc (H0:=[]) I hb hT d5 g3 (by omega) (by simp) (by omega) (by omega) (by omega) A' n' c' S x.z G.z x.k G.off x.V x.q x.c x.v (G.sl.below Br) (λhv g hg b5=>by have h1:=G.sl.Qa hv g hg;have h2:=(I.low g b5).1;have:=b1.size;omega) G.few);obtain⟨c0,c1,c2,c3,c4⟩:=hc wr Br;have e0:(0:Int)<=(i:Int):=by omega
   have e1:(i:Int)<(n:Int):=by omega
   have e2:(i:Int)<80:=by omega
   have k0:=hO.1.2.1;have c9:=hO.1.2.2.1;unfold maxLen at c9;have Hc:=Lib.hid hc;have Hg:=Lib.hid hg;have J:=Lib.hid (I.nil.Vd hT).2;have b6:∀k,U k->w.1.size<=k:=λk F=>by have:=(I.low k F).1;have:=b1.size;omega
   replace hx:=Lib.hid hx;replace f:=Lib.hid f;replace hn:=Lib.hid hn;clear hc hg;go_wp2_with fail
   refine HD.out.mono ?_;rintro e w6 ⟨r,A6,n6,c6,u,U6,D6,P6,rfl,N⟩;have B6:Below w.1.size w w6:=Br.trans (N.turn.below b6 Br.size);obtain⟨d0,d1,d2,d3,d4⟩:=Hc.out w6 B6;have k8:u.length<=150:=by have:=N.len;omega
   have t6:=N.ed.tab;have E6:=N.ed.weak (m':=100+2100*(i+1)) (g':=2+((i+1:Nat):Int)) (by omega) (by omega);have l6:u.length<=i+1:=by have:=N.len;omega
   have d8:=N.n.trans hn.out;have d7:P6.C.kept<=80:=by
    rcases N.kept with h|h
    ·omega
    ·have:=J.out;omega
   clear c0 c1 c2 c3 c4 HD;go_wp2_with fail
   exact⟨⟨i+1,r,A6,n6,c6,u,U6,D6,P6,by omega,by omega,by go_num,rfl,rfl,E6,N.tree,N.stay,N.Qd,N.fine,l6,d8,d7,B6⟩,by simp[intOf];omega⟩
  ·have Q:¬((i:Int)<(n:Int)/\(i:Int)<80):=λh=>E ⟨by omega,by omega⟩
   have HC:=Lib.hid (I.commit hb (by omega) (by omega));have d6:=(I.nil.Vd hT).2;have g6:=I.gen;obtain⟨_,_,K⟩:=I.keep;obtain⟨_,_,_,c4,c5,c6⟩:=qrw K.Zt.ok K.Zt.sound;have g5:(Gq (D.Qk P.steps).newest).gen<1099511627775:=by rw[c6];show P.S.gen+1<_;omega
   have f9:(∀l a t,Qp (P.store D) l a t->Qp (P.done.store (D.Qk P.steps)) l a t)->Zb (P.done.store (D.Qk P.steps)) root row:=λh=>by
    rcases hT with h1|⟨l,h0,h1,h2⟩
    ·exact .inl h1
    ·exact .inr ⟨l,h0,h _ _ _ h1,h2⟩
   have nf:P.done.C.n=1024:=hn;have kf:P.done.C.kept<=80:=by rw[show P.done.C.kept=P.C.used from rfl];omega
   clear E K c6 hT hn j7;by_cases h1:(i:Int)<(n:Int);all_goals (
    have h2:¬((i:Int)<(n:Int)/\(i:Int)<80):=Q;first
     |(have h3:¬(i:Int)<80:=λh=>h2 ⟨h1,h⟩
       clear h2 Q;go_wp2_with fail)
     |(clear h2 Q
       go_wp2_with fail)
    clear h1;refine HC.out.mono ?_;rintro e wf ⟨rfl,Ef,Xf,Tf⟩;have TM:=f9 Tf;have Sf:=S.commit Xf;have Bf:Below w.1.size w wf:=Br.trans (Xf.below (λk F=>by have:=(I.low k F).1;have:=b1.size;omega) Br.size);clear HC f9 Tf Xf S I d6 g6;generalize P.done=M at Ef TM c5 nf kf;generalize D.Qk P.steps=D1 at Ef TM c4 c5 g5;generalize grow U wr wf=U1 at Ef Sf;obtain⟨k4,C1,KM⟩:=Ef.keep;have k5:=b1.size;go_wp2_with fail
    go_loopw [10,11,19,20,21,22,23] (λrv sv iv _ _ _ _ wq=>∃(j:Nat) (y:Int) (A3:Option Addr) (n3 c3:Nat) (m:List Qc) (P3:Pl),j<=n2/\j<=60/\iv=.int .i64 (j:Int)/\rv=.int .i64 y/\sv=.slice A3 n3 c3/\Ed X.1.size wq d p U1 D1 P3 (Jr y++[]) (200000+2100*j) (200+(j:Int))/\Zb (P3.store D1) y m/\J8 U1 wq A3 n3 c3 m/\J8 U1 wq A' n' c' row/\Qd m/\(∀x∈m,Ze x)/\m.length<=80+j/\P3.C.n=1024/\P3.C.kept<=140/\Below w.1.size w wq) (λ_ _ iv _ _ _ _ _=>60-(intOf iv).toNat)
    case atStart=>exact⟨0,root,A',n',c',row,M,Nat.zero_le _,Nat.zero_le _,rfl,rfl,rfl,Ef.weak (by omega) (by omega),TM,Sf,Sf,d5,g3,by omega,nf,by omega,Bf⟩
    case round=>
     clear Ef Sf Bf kf;obtain⟨j,y,A3,n3,c3,m,P3,k7,k2,rfl,rfl,rfl,H,T3,S3,a8,i0,g2,j8,a2,j0,B3⟩:=hrel;by_cases E:j<n2/\j<60
     ·obtain⟨c8,g8⟩:=E;obtain⟨g,o,rfl,hg,G,hc⟩:=b3.cell c8;obtain⟨x,hx⟩:∃x,opAt i1 j=x:=⟨_,rfl⟩;rw[hx] at G hc;obtain⟨c0,c1,c2,i5,i6⟩:=hc wr B3;have e0:(0:Int)<=(j:Int):=by omega
      have e1:(j:Int)<(n2:Int):=by omega
      have e2:(j:Int)<60:=by omega
      have k0:=b3.1.2.1;have c9:=b3.1.2.2.1;unfold maxLen at c9;replace hx:=Lib.hid hx;clear hc hg;go_wp2_with (first
       |(refine Qe8 rfl _ _ rfl wr.1.size rfl x.z x.k x.V x.q x.c rfl (RB.new wr [.int .i64 0,.int .i64 0,.int .i64 0,.int .i64 0,.slice none 0 0] 33) rfl ?_;intro w4 R4 T4
         have y0:=R4.cell 0 rfl)
       |fail)
      have e7:Below wr.1.size wr w4:=(Qm).trans (T4.below (λk F=>by have:k=wr.1.size:=F;omega) (by simp));have l0:=quq x.z (show 0<7 by omega);have R5:=Qf7 R4 (md x.z 7:Int);have a1:Below wr.1.size wr (w4.setCell ⟨wr.1.size,0,none⟩ (.int .i64 (md x.z 7:Int))):=e7.setCell (Nat.le_refl _) _;have i8:=(R4.there 0 (show 0<5 by omega)).2;have f0:=R5.cell 0 rfl;have f1:=R5.cell 1 rfl;have f2:=R5.cell 2 rfl;have f3:=R5.cell 3 rfl;have f4:=R5.cell 4 rfl;have g7:=Lib.hid (q5x x.z 7 G.z (by omega) (by omega) w4);have E5:=H.below a1;have S5:=S3.below a1;have i2:=a8.below a1;have B5:=B3.trans (a1.mono B3.size);have f:=(H.nil.Vd T3).1;rw[qaw (a2.trans R.symm),c7,a2] at f;have HD:=Lib.hid (quc (H0:=[]) E5 hb T3 i0 g2 (by omega) (by simp) (by omega) (by omega) (by omega) A3 n3 c3 S5 (md x.z 7:Int) (by omega) x.k G.off x.V x.q x.c x.v (G.sl.below B5) (λhv g hg b5=>by have h1:=G.sl.Qa hv g hg;have h2:=(H.low g b5).1;omega) G.few);have b6:∀k,U1 k->w.1.size<=k:=λk F=>by have:=(H.low k F).1;omega
      have J:=Lib.hid (H.nil.Vd T3).2;replace f:=Lib.hid f;replace hn:=Lib.hid a2;clear R5 R4 T4 e7 c0 c1 c2 i5 i6;refine g7.out.mono ?_;rintro e w5 ⟨rfl,rfl⟩;go_wp2_with fail
      refine HD.out.mono ?_;rintro e w6 ⟨r,A6,n6,c6,u,U6,D6,P6,rfl,N⟩;obtain⟨hD,hU,hL⟩:=N.same Qfx;subst hD hU;have B6:Below w.1.size w w6:=B5.trans (N.turn.below b6 B5.size);have E6:=N.ed.weak (m':=200000+2100*(j+1)) (g':=200+((j+1:Nat):Int)) (by omega) (by omega);have l6:u.length<=80+(j+1):=by have:=N.len;omega
      have d8:=N.n.trans hn.out;have d7:P6.C.kept<=140:=by
       rcases N.kept with h|h
       ·omega
       ·have:=J.out;omega
      have i3:=i2.went N;clear f0 f1 f2 f3 f4 y0 HD g7 i8;go_wp2_with fail
      exact⟨⟨j+1,r,A6,n6,c6,u,P6,by omega,by omega,by go_num,rfl,rfl,E6,N.tree,N.stay,i3,N.Qd,N.fine,l6,d8,d7,B6⟩,by simp[intOf];omega⟩
     ·have B:¬((j:Int)<(n2:Int)/\(j:Int)<60):=λh=>E ⟨by omega,by omega⟩
      obtain⟨Sx,Sy,Tx,hs,_,_⟩:=H.sys;have L0:=hs.U8;have HM:=Lib.hid (qm2 L0 H.tab g5);have tr:=H.tab;clear E hs H T3 S3 i0 g2 j8 a2 j0;by_cases h4:(j:Int)<(n2:Int);all_goals (
       have h5:¬((j:Int)<(n2:Int)/\(j:Int)<60):=B;first
        |(have h6:¬(j:Int)<60:=λh=>h5 ⟨h4,h⟩
          clear h5 B;go_wp2_with fail)
        |(clear h5 B
          go_wp2_with fail)
       clear h4;refine HM.out.mono ?_;rintro e w7 ⟨hq,b7⟩;rcases hq with⟨_,pq,rfl,W,_⟩|⟨j9,_⟩
       ·rw[c5] at W;have bl:Below w7.1.size w7 (w7.alloc (.cells #[.int .i64 root] 3)):=Qm;have Z:=b7.trans (bl.mono b7.size);have t7:=tr.below Z tr.1;have Sr:=qvb (L0.below Z) ((W _ (λ_ h=>h)).below bl) KM.Zt.kind KM.Zt.good;have HN:=Lib.hid (Qdy Sr t7 (some ⟨w7.1.size,0,none⟩) 1 1 [root] (qjf w7 root) (by omega));clear HM;go_wp2_with fail
        refine HN.out.mono ?_;rintro e w8 ⟨O,on,oc,Ns,k3,rfl,l1,hI,i7,b8⟩;have e6:=Z.trans (b8.mono Z.size);have g1:∀a:Nat,0<a->a<M.C.n->([root]:List Int).count (a:Int)=(Jr root++[]).count (a:Int):=λa h _=>by rw[List.append_nil];exact Qds a h
        have hF:=Qd4 KM i7 (Qd3 g1);have HO:=Lib.hid (Qdk (wl:=w8) (λ_ h=>h) O on oc Ns hI (by omega) hF root row TM d5 (by omega) w8 (Below.refl _ _));clear HN;go_wp2_with fail
        refine HO.out.mono ?_;rintro e w9 ⟨B9,m9,d9,rfl,I9,b9⟩;have h9:m9=n':=I9.Zq.len.symm.trans a8.Zq.len;subst h9;have b0:=e6.trans (b9.mono e6.size);have G2:=a8.Zq.below b0;clear HO;go_wp2_with fail
        refine (q61 row B9 _ d9 A' c' w9 I9.Zq G2).mono ?_;rintro e l2 ⟨rfl,i4⟩;go_wp2_with fail
        go_ret;exact⟨rfl,B3.trans ((b0.trans (i4.mono b0.size)).mono B3.size)⟩
       ·exact absurd c4 j9))
