/- EditShared's walk. -/
import Derived.Test.YtnnbaihfboacoaaGreatDoorEu43
namespace Go.Proofs.YtnnbaihfboacoaaGreatDoor
open Go Go.RowKit Go.Proofs
set_option maxHeartbeats 16000000
set_option maxRecDepth 100000
theorem editShared_walk (A:Option Addr)(n c:Nat)(os:List Ai)(A2:Option Addr)(n2 c2:Nat)(e9:List Ai)(w:World)(hO:Nv w A n c os)(a7:Nv w A2 n2 c2 e9)(ht:Tab w) :
  Calls Tryz.prog 5 #[.slice A n c,.slice A2 n2 c2] w λe w'=>e=.returned (.bool true)/\Below w.1.size w w':=by
 have hG:=ht.1;go_enter Tryz.func5,Tryz.ntmps5
 go_wp2_with fail
 refine (q83 w ht).mono ?_;rintro e w1 ⟨rfl,b1⟩;have t1:=ht.below b1 hG;have hM:=Lib.hid (q9a 1024 ⟨by omega,by omega⟩ w1 t1);have K:=qep 1024;have b0:(Pl.fresh 1024).C.first=20:=by unfold Ct.first;rw[K];rfl
 have f9:(Pl.fresh 1024).C.kept=0:=q6z 1024;obtain⟨P0,hP⟩:∃P,Pl.fresh 1024=P:=⟨_,rfl⟩;rw[hP] at hM K b0 f9;clear hP;go_wp2_with fail
 refine hM.out.mono ?_;rintro e w2 ⟨p,d,U0,D0,rfl,E2,b2,hU⟩;have W:=b1.trans (b2.mono b1.size);have hb:1<w1.1.size:=t1.1;have e3:Zb (P0.store D0) 0 []:=.inl ⟨rfl,rfl⟩;have bA:Below w2.1.size w2 (w2.alloc (.cells #[] 68)):=Qm;have S3:J8 U0 (w2.alloc (.cells #[] 68)) (some ⟨w2.1.size,0,none⟩) 0 0 []:=⟨(q26 w2).Gn,λh=>absurd rfl h⟩;have M:=E2.below bA;have d5:=W.trans (bA.mono W.size);clear hM hU bA;go_wp2_with fail
 go_loopw [7,8,9,10,11,12] (λrv sv iv _ _ _ wr=>∃(i:Nat) (root:Int) (A':Option Addr) (n' c':Nat) (row:List Qc) (U:Nat->Prop) (D:DM) (P:Pl),i<=n/\i<=80/\iv=.int .i64 (i:Int)/\rv=.int .i64 root/\sv=.slice A' n' c'/\Ed w1.1.size wr d p U D P (Jr root++[]) (100+2100*i) (2+(i:Int))/\Zb (P.store D) root row/\J8 U wr A' n' c' row/\Qd row/\(∀x∈row,Ze x)/\row.length<=i/\P.C.n=1024/\P.C.kept<=80/\Below w.1.size w wr) (λ_ _ iv _ _ _ _=>80-(intOf iv).toNat)
 case atStart=>exact⟨0,0,_,0,0,[],U0,D0,P0,Nat.zero_le _,Nat.zero_le _,rfl,rfl,rfl,M,e3,S3,List.Pairwise.nil,λx Y=>(by cases Y),Nat.le_refl _,K,by omega,d5⟩
 case round=>
  clear M E2 e3 S3 d5;obtain⟨i,root,A',n',c',row,U,D,P,g8,g4,rfl,rfl,rfl,Q,hT,S,b5,e4,i3,hn,e5,Br⟩:=hrel;by_cases y:i<n/\i<80
  ·as_aux_lemma=>
   obtain⟨b3,e6⟩:=y;obtain⟨g,o,rfl,hg,F,hc⟩:=hO.cell b3;obtain⟨x,Y⟩:∃x,opAt os i=x:=⟨_,rfl⟩;rw[Y] at F hc;have b:=(Q.nil.Vd hT).1;rw[qaw (hn.trans K.symm),b0,hn] at b;have HD:=Lib.hid (quc (H0:=[]) Q hb hT b5 e4 (by omega) (by simp) (by omega) (by omega) (by omega) A' n' c' S x.z F.z x.k F.off x.V x.q x.c x.v (F.sl.below Br) (λhv g hg a8=>by have h1:=F.sl.Qa hv g hg;have h2:=(Q.low g a8).1;have:=b1.size;omega) F.few);obtain⟨c0,c1,c2,c3,c4⟩:=hc wr Br;have e0:(0:Int)<=(i:Int):=by omega
   have e1:(i:Int)<(n:Int):=by omega
   have e2:(i:Int)<80:=by omega
   have g0:=hO.1.2.1;have b4:=hO.1.2.2.1;unfold maxLen at b4;have Hc:=Lib.hid hc;have Hg:=Lib.hid hg;have G:=Lib.hid (Q.nil.Vd hT).2;have E:∀k,U k->w.1.size<=k:=λk hk=>by have:=(Q.low k hk).1;have:=b1.size;omega
   replace Y:=Lib.hid Y;replace b:=Lib.hid b;replace hn:=Lib.hid hn;clear hc hg;go_wp2_with fail
   refine HD.out.mono ?_;rintro e w6 ⟨r,A6,n6,c6,m,U6,D6,P6,rfl,N⟩;have B6:Below w.1.size w w6:=Br.trans (N.turn.below E Br.size);obtain⟨d0,d1,d2,d3,d4⟩:=Hc.out w6 B6;have i2:m.length<=150:=by have:=N.len;omega
   have t6:=N.ed.tab;have E6:=N.ed.weak (m':=100+2100*(i+1)) (g':=2+((i+1:Nat):Int)) (by omega) (by omega);have l6:m.length<=i+1:=by have:=N.len;omega
   have c7:=N.n.trans hn.out;have b6:P6.C.kept<=80:=by
    rcases N.kept with h|h
    ·omega
    ·have:=G.out;omega
   clear c0 c1 c2 c3 c4 HD;go_wp2_with fail
   exact⟨⟨i+1,r,A6,n6,c6,m,U6,D6,P6,by omega,by omega,by go_num,rfl,rfl,E6,N.tree,N.stay,N.Qd,N.fine,l6,c7,b6,B6⟩,by simp[intOf];omega⟩
  ·have J:¬((i:Int)<(n:Int)/\(i:Int)<80):=λh=>y ⟨by omega,by omega⟩
   clear y;have E:∀k,U k->w.1.size<=k:=λk hk=>by have:=(Q.low k hk).1;have:=b1.size;omega
   by_cases h1:(i:Int)<(n:Int);all_goals (
    have h2:¬((i:Int)<(n:Int)/\(i:Int)<80):=J
    cases h0:(root != 0);all_goals (
     first
      |(have h3:¬(i:Int)<80:=λh=>h2 ⟨h1,h⟩
        clear h2 J;go_wp2_with fail)
      |(clear h2 J
        go_wp2_with fail))
    all_goals first
     |(have e0:root=0:=by simpa using h0
       have er:Jr root=[]:=if_pos e0;have Ef:Ed w1.1.size wr d p U D P (Jr root++Jr root) (100+2100*i) (2+(i:Int)):=by rw[er] at Q ⊢;exact Q
       have Tf:=hT;have nf:=hn;have kf:=e5;have Sf:=S;have Bf:=Br;clear e0 er)
     |(refine (Q.Qgc hb hT (by simpa using h0)).mono ?_
       rintro e wf ⟨Pf,rfl,Ef,Tf,e8,g2,Xf⟩;have nf:=e8.trans hn;have kf:Pf.C.kept<=80:=by omega
       have Sf:=S.turned Xf;have Bf:Below w.1.size w wf:=Br.trans (Xf.below E Br.size);clear Xf e8 g2;go_wp2_with fail)
    all_goals (
    clear E Q hT hn e5 S h0;have g7:=b1.size;have g1:(Jr root).length<=10000:=by unfold Jr;split<;>simp
    clear hO;go_loopw [8,13,15,16,17,18] (λsv rv iv _ _ _ wq=>∃(j:Nat) (other:Int) (A3:Option Addr) (n3 c3:Nat) (f:List Qc) (U3:Nat->Prop) (D3:DM) (P3:Pl),j<=n2/\j<=60/\iv=.int .i64 (j:Int)/\rv=.int .i64 other/\sv=.slice A3 n3 c3/\Ed w1.1.size wq d p U3 D3 P3 (Jr other++Jr root) (200000+2100*j) (200+(j:Int))/\Zb (P3.store D3) other f/\Zb (P3.store D3) root row/\J8 U3 wq A3 n3 c3 f/\J8 U3 wq A' n' c' row/\Qd f/\(∀x∈f,Ze x)/\f.length<=80+j/\P3.C.n=1024/\P3.C.kept<=220/\Below w.1.size w wq) (λ_ _ iv _ _ _ _=>60-(intOf iv).toNat)
    case atStart=>exact⟨0,root,A',n',c',row,U,D,_,Nat.zero_le _,Nat.zero_le _,rfl,rfl,rfl,Ef.weak (by omega) (by omega),Tf,Tf,Sf,Sf,b5,e4,by omega,nf,by omega,Bf⟩
    case round=>
     clear Ef Tf nf kf Sf Bf;obtain⟨j,other,A3,n3,c3,f,U3,D3,P3,g9,g5,rfl,rfl,rfl,M,T3,R,S3,a6,e7,f4,i1,X,i0,B3⟩:=hrel;by_cases y:j<n2/\j<60
     ·obtain⟨b3,e6⟩:=y;obtain⟨g,o,rfl,hg,F,hc⟩:=a7.cell b3;obtain⟨x,Y⟩:∃x,opAt e9 j=x:=⟨_,rfl⟩;rw[Y] at F hc;have b:=M.Qau T3 R;rw[qaw (X.trans K.symm),b0,X] at b;have HD:=Lib.hid (quc (H0:=Jr root) M hb T3 e7 f4 (by omega) g1 (by omega) (by omega) (by omega) A3 n3 c3 S3 x.z F.z x.k F.off x.V x.q x.c x.v (F.sl.below B3) (λhv g hg a8=>by have h1:=F.sl.Qa hv g hg;have h2:=(M.low g a8).1;omega) F.few);obtain⟨c0,c1,c2,c3,c4⟩:=hc wr B3;have e0:(0:Int)<=(j:Int):=by omega
      have e1:(j:Int)<(n2:Int):=by omega
      have e2:(j:Int)<60:=by omega
      have g0:=a7.1.2.1;have b4:=a7.1.2.2.1;unfold maxLen at b4;have G:=Lib.hid (M.Qfl T3 R);have E:∀k,U3 k->w.1.size<=k:=λk hk=>by have:=(M.low k hk).1;omega
      replace Y:=Lib.hid Y;replace b:=Lib.hid b;replace hn:=Lib.hid X;clear hc hg;go_wp2_with fail
      refine HD.out.mono ?_;rintro e w6 ⟨r,A6,n6,c6,m,U6,D6,P6,rfl,N⟩;have B6:Below w.1.size w w6:=B3.trans (N.turn.below E B3.size);have E6:=N.ed.weak (m':=200000+2100*(j+1)) (g':=200+((j+1:Nat):Int)) (by omega) (by omega);have l6:m.length<=80+(j+1):=by have:=N.len;omega
      have c7:=N.n.trans hn.out;have b6:P6.C.kept<=220:=by
       rcases N.kept with h|h
       ·omega
       ·have:=G.out;omega
      have f1:=N.other R;have f0:=a6.went N;clear c0 c1 c2 c3 c4 HD;go_wp2_with fail
      exact⟨⟨j+1,r,A6,n6,c6,m,U6,D6,P6,by omega,by omega,by go_num,rfl,rfl,E6,N.tree,f1,N.stay,f0,N.Qd,N.fine,l6,c7,b6,B6⟩,by simp[intOf];omega⟩
     ·have u:¬((j:Int)<(n2:Int)/\(j:Int)<60):=λh=>y ⟨by omega,by omega⟩
      have bl:Below wr.1.size wr (wr.alloc (.cells #[.int .i64 root,.int .i64 other] 3)):=Qm;have El:=M.below bl;have HN:=Lib.hid (Qdy El.src El.tab (some ⟨wr.1.size,0,none⟩) 2 2 [root,other] (Qd1 wr root other) (by omega));clear y El;by_cases h4:(j:Int)<(n2:Int);all_goals (
       have h5:¬((j:Int)<(n2:Int)/\(j:Int)<60):=u;first
        |(have h6:¬(j:Int)<60:=λh=>h5 ⟨h4,h⟩
          clear h5 u;go_wp2_with fail)
        |(clear h5 u
          go_wp2_with fail)
       clear h4;refine HN.out.mono ?_;rintro e w7 ⟨O,on,oc,Ns,g6,rfl,i4,hI,d7,b7⟩;have H:=bl.trans (b7.mono bl.size);have E7:=M.below H;have a2:∀a:Nat,0<a->a<P3.C.n->([root,other]:List Int).count (a:Int)=(Jr other++Jr root).count (a:Int):=λa h _=>Qen a h
       have hF:=E7.foundAt a2 d7;have c8:=Lib.hid (Qdk (wl:=w7) (λ_ h=>h) O on oc Ns hI (by omega) hF root row R b5 (by omega) w7 (Below.refl _ _));have c9:=Lib.hid (λv hv=>Qdk (wl:=w7) (λ_ h=>h) O on oc Ns hI (by omega) hF other f T3 e7 (by omega) v hv);clear HN;go_wp2_with fail
       refine c8.out.mono ?_;rintro e w8 ⟨B8,m8,d8,rfl,I8,b8⟩;have h8:m8=n':=I8.Zq.len.symm.trans a6.Zq.len;subst h8;clear c8;go_wp2_with fail
       refine (c9.out w8 b8).mono ?_;rintro e w9 ⟨B9,m9,d9,rfl,I9,b9⟩;have h9:m9=n3:=I9.Zq.len.symm.trans S3.Zq.len;subst h9;have I:=b8.trans (b9.mono b8.size);have d6:=H.trans (I.mono H.size);have G1:=I8.Zq.below b9;have G2:=a6.Zq.below d6;have G3:=I9.Zq;have G4:=S3.Zq.below d6;clear c9;go_wp2_with fail
       refine (q61 row B8 _ d8 A' c' w9 G1 G2).mono ?_;rintro e g3 ⟨rfl,T⟩;go_wp2_with fail
       refine (q61 f B9 _ d9 A3 c3 g3 (G3.below T) (G4.below T)).mono ?_;rintro e Z ⟨rfl,f2⟩;have a1:=T.trans (f2.mono T.size);have f3:Below Z.1.size Z (Z.alloc (.cells #[.int .i64 root,.int .i64 other] 3)):=Qm;have B:=(I.trans (a1.mono I.size)).trans (f3.mono (I.trans (a1.mono I.size)).size);have HH:=Lib.hid ((E7.below B).Qfa a2 d7 (hI.below B) (λw' h=>B.trans (h.mono B.size)) (by omega) (Qd1 Z root other) (by omega) X (by omega) (by omega));go_wp2_with fail
       refine HH.out.mono ?_;rintro e i5 ⟨rfl,W⟩;go_wp2_with fail
       go_ret;exact⟨rfl,B3.trans ((H.trans ((B.trans (W.mono B.size)).mono H.size)).mono B3.size)⟩)))
