/- EditGets' walk. -/
import Derived.Test.YtnnbaihfboacoaaGreatDoorEt43
import Derived.Test.YtnnbaihfboacoaaGreatDoorEt44
namespace Go.Proofs.YtnnbaihfboacoaaGreatDoor
open Go Go.RowKit Go.Proofs
set_option maxHeartbeats 16000000
set_option maxRecDepth 100000
theorem editGets_walk (A:Option Addr)(n c:Nat)(os:List Ai)(Ak:Option Addr)(R ck:Nat)(ks:List Kd)(w:World)(hO:Nv w A n c os)(hK:Ah w Ak R ck ks)(ht:Tab w) :
  Calls Tryz.prog 4 #[.slice A n c,.slice Ak R ck] w λe w'=>e=.returned (.bool true)/\Below w.1.size w w':=by
 have hG:=ht.1;go_enter Tryz.func4,Tryz.ntmps4
 go_wp2_with fail
 refine (q83 w ht).mono ?_;rintro e w1 ⟨rfl,b1⟩;have t1:=ht.below b1 hG;have hM:=Lib.hid (q9a 512 ⟨by omega,by omega⟩ w1 t1);have I:=qep 512;have b5:(Pl.fresh 512).C.first=12:=by unfold Ct.first;rw[I];rfl
 have e5:(Pl.fresh 512).C.kept=0:=q6z 512;obtain⟨P0,hP⟩:∃P,Pl.fresh 512=P:=⟨_,rfl⟩;rw[hP] at hM I b5 e5;clear hP;go_wp2_with fail
 refine hM.out.mono ?_;rintro e w2 ⟨p,d,U0,D0,rfl,E2,b2,hU⟩;have b3:=b1.trans (b2.mono b1.size);have hb:1<w1.1.size:=t1.1;have b4:Zb (P0.store D0) 0 []:=.inl ⟨rfl,rfl⟩;have bA:Below w2.1.size w2 (w2.alloc (.cells #[] 68)):=Qm;have S3:J8 U0 (w2.alloc (.cells #[] 68)) (some ⟨w2.1.size,0,none⟩) 0 0 []:=⟨(q26 w2).Gn,λh=>absurd rfl h⟩;have E3:=E2.below bA;have b0:=b3.trans (bA.mono b3.size);clear hM hU bA;go_wp2_with fail
 go_loopw [7,8,9,10,11,12,13,14,15,16] (λrv sv iv _ _ _ _ _ _ _ wr=>∃(i:Nat) (root:Int) (Z:Option Addr) (Y c':Nat) (row:List Qc) (U:Nat->Prop) (D:DM) (P:Pl),i<=n/\i<=120/\iv=.int .i64 (i:Int)/\rv=.int .i64 root/\sv=.slice Z Y c'/\Ed w1.1.size wr d p U D P (Jr root++[]) (100+2100*i) (2+(i:Int))/\Zb (P.store D) root row/\J8 U wr Z Y c' row/\Qd row/\(∀x∈row,Ze x)/\row.length<=i/\P.C.n=512/\P.C.kept<=120/\Below w.1.size w wr) (λ_ _ iv _ _ _ _ _ _ _ _=>120-(intOf iv).toNat)
 case atStart=>exact⟨0,0,_,0,0,[],U0,D0,P0,Nat.zero_le _,Nat.zero_le _,rfl,rfl,rfl,E3,b4,S3,List.Pairwise.nil,λx Q=>(by cases Q),Nat.le_refl _,I,by omega,b0⟩
 case round=>
  clear E3 E2 b4 S3 b0;obtain⟨i,root,Z,Y,c',row,U,D,P,g7,e4,rfl,rfl,rfl,M,hT,S,J,H,e9,hn,e7,Br⟩:=hrel;by_cases B:i<n/\i<120
  ·as_aux_lemma=>
   obtain⟨f9,g5⟩:=B;obtain⟨g,o,rfl,O,hh,hc⟩:=hO.cell f9;obtain⟨x,Q⟩:∃x,opAt os i=x:=⟨_,rfl⟩;rw[Q] at hh hc;have E:=(M.nil.Vd hT).1;rw[qaw (hn.trans I.symm),b5,hn] at E;have HD:=Lib.hid (quc (H0:=[]) M hb hT J H (by omega) (by simp) (by omega) (by omega) (by omega) Z Y c' S x.z hh.z x.k hh.off x.V x.q x.c x.v (hh.sl.below Br) (λhv g O d8=>by have h1:=hh.sl.Qa hv g O;have h2:=(M.low g d8).1;have:=b1.size;omega) hh.few);obtain⟨c0,c1,c2,c3,c4⟩:=hc wr Br;have e0:(0:Int)<=(i:Int):=by omega
   have e1:(i:Int)<(n:Int):=by omega
   have e2:(i:Int)<120:=by omega
   have g9:=hO.1.2.1;have g1:=hO.1.2.2.1;unfold maxLen at g1;have Hc:=Lib.hid hc;have Hg:=Lib.hid O;have a7:=Lib.hid (M.nil.Vd hT).2;have d9:∀k,U k->w.1.size<=k:=λk hk=>by have:=(M.low k hk).1;have:=b1.size;omega
   replace Q:=Lib.hid Q;replace E:=Lib.hid E;replace hn:=Lib.hid hn;clear hc O;go_wp2_with fail
   refine HD.out.mono ?_;rintro e w6 ⟨r,A6,n6,c6,f,U6,D6,P6,rfl,N⟩;have B6:Below w.1.size w w6:=Br.trans (N.turn.below d9 Br.size);obtain⟨d0,d1,d2,d3,d4⟩:=Hc.out w6 B6;have e8:f.length<=150:=by have:=N.len;omega
   have TD:=N.ed.told N.tree N.Qd e8;have t6:=N.ed.tab;obtain⟨G,m⟩:∃G,Gl (valOf f x.k)=G:=⟨_,rfl⟩;have a6:=Lib.hid (TD.get t6 x.k G m);clear c0 c1 c2 c3 c4 HD;go_wp2_with fail
   refine a6.out.mono ?_;rintro e w7 ⟨A7,n7,c7,rfl,s7,W⟩;have B7:=B6.trans (W.mono B6.size);obtain⟨f0,f1,f2,f3,f4⟩:=Hc.out w7 B7;have g0:n6<=1000:=by have:=N.stay.len;omega
   have HR:=qkx A6 n6 c6 f x.k w7 (N.stay.Zq.below W) g0;rw[m] at HR;replace HR:=Lib.hid HR;clear d0 d1 d2 d3 d4 a6;go_wp2_with fail
   refine HR.out.mono ?_;rintro e w8 ⟨A8,n8,c8,rfl,s8,b8⟩;have k1:=Pg (s7.below b8);have k2:=Pg s8;obtain⟨X,hX⟩:∃X,(⟨G.1.toArray⟩:ByteArray)=X:=⟨_,rfl⟩;rw[hX] at k1 k2;have T:=W.trans (b8.mono W.size);have B8:=B6.trans (T.mono B6.size);have E8:=(N.ed.below T).weak (m':=100+2100*(i+1)) (g':=2+((i+1:Nat):Int)) (by omega) (by omega);have S8:=N.stay.below T;have l8:f.length<=i+1:=by have:=N.len;omega
   have g3:=N.n.trans hn.out;have g2:P6.C.kept<=120:=by
    rcases N.kept with h|h
    ·omega
    ·have:=a7.out;omega
   clear f0 f1 f2 f3 f4 s7 s8 HR hX m TD;go_wp2_with fail
   exact⟨⟨i+1,r,A6,n6,c6,f,U6,D6,P6,by omega,by omega,by go_num,rfl,rfl,E8,N.tree,S8,N.Qd,N.fine,l8,g3,g2,B8⟩,by simp[intOf];omega⟩
  ·as_aux_lemma=>
   generalize wr=w4 at *;have F:¬((i:Int)<(n:Int)/\(i:Int)<120):=λh=>B ⟨by omega,by omega⟩
   have TD:=M.told hT J (by omega);have tr:=M.tab;have c9:Ky row 150:=⟨J,λx Q=>⟨(H x Q).1,(H x Q).2.1⟩,by omega⟩;have hw:=qd4 c9 (by omega);have IS:=S.Zq;have b:Y<=1000:=by have:=S.len;omega
   replace b:=Lib.hid b;clear B hT J H e9 hn e7 S c9 M;by_cases h1:(i:Int)<(n:Int);all_goals (
    have h2:¬((i:Int)<(n:Int)/\(i:Int)<120):=F;first
     |(have h3:¬(i:Int)<120:=λh=>h2 ⟨h1,h⟩
       clear h2 F;go_wp2_with fail)
     |(clear h2 F
       go_wp2_with fail)
    clear h1;go_loopw [17,18,19,20,21] (λiv _ _ _ _ wq=>∃j:Nat,j<=R/\j<=10/\iv=.int .i64 (j:Int)/\Below w4.1.size w4 wq) (λiv _ _ _ _ _=>10-(intOf iv).toNat)
    case atStart=>exact⟨0,Nat.zero_le _,Nat.zero_le _,rfl,Below.refl _ _⟩
    case round=>
     obtain⟨j,hj,g4,rfl,K⟩:=hrel;have tq:=tr.below K tr.1;have zq:=K.size;have BQ:Below w.1.size w wr:=Br.trans (K.mono Br.size);by_cases B:j<R/\j<10
     ·obtain⟨e3,g6⟩:=B;obtain⟨g,o,rfl,O,a0,a1,a2⟩:=Ah.cell (Jf.below hK BQ) e3;obtain⟨y,hy⟩:∃y,keyAt ks j=y:=⟨_,rfl⟩;rw[hy] at a0 a1 a2;obtain⟨G,m⟩:∃G,Gl (valOf row y)=G:=⟨_,rfl⟩;have Hg:=Lib.hid ((TD.below K).get tq y G m);have e0:(0:Int)<=(j:Int):=by omega
      have e1:(j:Int)<(R:Int):=by omega
      have e2:(j:Int)<10:=by omega
      have g8:=(Jf.below hK BQ).cap;have e6:=(Jf.below hK BQ).max;unfold maxLen at e6;clear hy;go_wp2_with fail
      refine Hg.out.mono ?_;rintro e w6 ⟨A6,n6,c6,rfl,s6,b6⟩;have d5:=(b6.cell (p:=⟨g,_,none⟩) O).trans a0;have d6:=(b6.cell (p:=⟨g,_,none⟩) O).trans a1;have d7:=(b6.cell (p:=⟨g,_,none⟩) O).trans a2;have Hr:=Lib.hid (qkx Z Y c' row y w6 (IS.below (K.trans (b6.mono zq))) b.out);rw[m] at Hr;clear a0 a1 a2 Hg;go_wp2_with fail
      refine Hr.out.mono ?_;rintro e w7 ⟨A7,n7,c7,rfl,s7,W⟩;have k1:=Pg (s6.below W);have k2:=Pg s7;obtain⟨X,hX⟩:∃X,(⟨G.1.toArray⟩:ByteArray)=X:=⟨_,rfl⟩;rw[hX] at k1 k2;have B7:=K.trans ((b6.trans (W.mono b6.size)).mono zq);clear d5 d6 d7 s6 s7 Hr hX m;go_wp2_with fail
      exact⟨⟨j+1,by omega,by omega,by go_num,B7⟩,by simp[intOf];omega⟩
     ·have u:¬((j:Int)<(R:Int)/\(j:Int)<10):=λh=>B ⟨by omega,by omega⟩
      have Hs:=Lib.hid ((TD.below K).scan tq ⟨0,0,0⟩ ⟨2147483647,255,2147483647⟩ 1000 row hw);have a8:=IS.below K;clear B;by_cases h4:(j:Int)<(R:Int);all_goals (
       have h5:¬((j:Int)<(R:Int)/\(j:Int)<10):=u;first
        |(have h6:¬(j:Int)<10:=λh=>h5 ⟨h4,h⟩
          clear h5 u;go_wp2_with fail)
        |(clear h5 u
          go_wp2_with fail)
       refine Hs.out.mono ?_;rintro e w8 ⟨A8,n8,c8,rfl,I8,b8⟩;have h8:n8=Y:=I8.len.symm.trans a8.len;subst h8;clear h4;go_wp2_with fail
       refine (q61 row A8 n8 c8 Z c' w8 I8 (a8.below b8)).mono ?_;rintro e w9 ⟨rfl,b9⟩;go_wp2_with fail
       go_ret;exact⟨rfl,(BQ.trans (b8.mono BQ.size)).trans (b9.mono (by have:=BQ.size;have:=b8.size;omega))⟩))
