/- EditPlays' walk. -/
import Derived.Test.YtnnbaihfboacoaaGreatDoorEu42
namespace Go.Proofs.YtnnbaihfboacoaaGreatDoor
open Go Go.RowKit Go.Proofs
set_option maxHeartbeats 16000000
set_option maxRecDepth 100000
theorem editPlays_walk (A:Option Addr)(n c:Nat)(os:List Ai)(w:World)(hO:Nv w A n c os)(ht:Tab w) :
  Calls Tryz.prog 3 #[.slice A n c] w λe w'=>e=.returned (.bool true)/\Below w.1.size w w':=by
 have hG:=ht.1;go_enter Tryz.func3,Tryz.ntmps3
 go_wp2_with fail
 refine (q83 w ht).mono ?_;rintro e w1 ⟨rfl,W⟩;have t1:=ht.below W hG;have hM:=Lib.hid (q9a 512 ⟨by omega,by omega⟩ w1 t1);have E:=qep 512;have a1:(Pl.fresh 512).C.first=12:=by unfold Ct.first;rw[E];rfl
 have c7:(Pl.fresh 512).C.kept=0:=q6z 512;obtain⟨P0,hP⟩:∃P,Pl.fresh 512=P:=⟨_,rfl⟩;rw[hP] at hM E a1 c7;clear hP;go_wp2_with fail
 refine hM.out.mono ?_;rintro e M ⟨p,d,U0,D0,rfl,E2,b2,hU⟩;have X:=W.trans (b2.mono W.size);have hb:1<w1.1.size:=t1.1;have Z:Zb (P0.store D0) 0 []:=.inl ⟨rfl,rfl⟩;have bA:Below M.1.size M (M.alloc (.cells #[] 68)):=Qm;have S3:J8 U0 (M.alloc (.cells #[] 68)) (some ⟨M.1.size,0,none⟩) 0 0 []:=⟨(q26 M).Gn,λh=>absurd rfl h⟩;have E3:=E2.below bA;have T:=X.trans (bA.mono X.size);clear hM hU bA;go_wp2_with fail
 go_loopw [5,6,7,8,9,10,11,12,13,14,15] (λrv sv iv _ _ _ _ _ _ _ _ wr=>∃(i:Nat) (root:Int) (A':Option Addr) (n' c':Nat) (row:List Qc) (U:Nat->Prop) (D:DM) (P:Pl),i<=n/\i<=120/\iv=.int .i64 (i:Int)/\rv=.int .i64 root/\sv=.slice A' n' c'/\Ed w1.1.size wr d p U D P (Jr root++[]) (100+2100*i) (2+(i:Int))/\Zb (P.store D) root row/\J8 U wr A' n' c' row/\Qd row/\(∀x∈row,Ze x)/\row.length<=i/\P.C.n=512/\P.C.kept<=120/\Below w.1.size w wr) (λ_ _ iv _ _ _ _ _ _ _ _ _=>120-(intOf iv).toNat)
 case atStart=>exact⟨0,0,_,0,0,[],U0,D0,P0,Nat.zero_le _,Nat.zero_le _,rfl,rfl,rfl,E3,Z,S3,List.Pairwise.nil,λx hx=>(by cases hx),Nat.le_refl _,E,by omega,T⟩
 case round=>
  clear E3 E2 Z S3 T;obtain⟨i,root,A',n',c',row,U,D,P,d9,b6,rfl,rfl,rfl,Q,hT,S,d5,b5,e5,hn,e3,J⟩:=hrel;by_cases F:i<n/\i<120
  ·as_aux_lemma=>
   obtain⟨c8,d6⟩:=F;obtain⟨g,o,rfl,hg,K,hc⟩:=hO.cell c8;obtain⟨x,hx⟩:∃x,opAt os i=x:=⟨_,rfl⟩;rw[hx] at K hc;have f:=(Q.nil.Vd hT).1;rw[qaw (hn.trans E.symm),a1,hn] at f;have HD:=Lib.hid (quc (H0:=[]) Q hb hT d5 b5 (by omega) (by simp) (by omega) (by omega) (by omega) A' n' c' S x.z K.z x.k K.off x.V x.q x.c x.v (K.sl.below J) (λhv g hg b3=>by have h1:=K.sl.Qa hv g hg;have h2:=(Q.low g b3).1;have:=W.size;omega) K.few);obtain⟨c0,c1,c2,c3,c4⟩:=hc wr J;have e0:(0:Int)<=(i:Int):=by omega
   have e1:(i:Int)<(n:Int):=by omega
   have e2:(i:Int)<120:=by omega
   have e6:=hO.1.2.1;have c9:=hO.1.2.2.1;unfold maxLen at c9;have Hc:=Lib.hid hc;have Hg:=Lib.hid hg;have R:=Lib.hid (Q.nil.Vd hT).2;have b4:∀k,U k->w.1.size<=k:=λk hk=>by have:=(Q.low k hk).1;have:=W.size;omega
   replace hx:=Lib.hid hx;replace f:=Lib.hid f;replace hn:=Lib.hid hn;clear hc hg;go_wp2_with fail
   refine HD.out.mono ?_;rintro e I ⟨r,A6,n6,c6,b,U6,D6,P6,rfl,N⟩;have B6:Below w.1.size w I:=J.trans (N.turn.below b4 J.size);obtain⟨d0,d1,d2,d3,d4⟩:=Hc.out I B6;have e4:b.length<=150:=by have:=N.len;omega
   have t6:=N.ed.tab;have E6:=N.ed.weak (m':=100+2100*(i+1)) (g':=2+((i+1:Nat):Int)) (by omega) (by omega);have l6:b.length<=i+1:=by have:=N.len;omega
   have a6:=N.n.trans hn.out;have a2:P6.C.kept<=120:=by
    rcases N.kept with h|h
    ·omega
    ·have:=R.out;omega
   clear c0 c1 c2 c3 c4 HD;go_wp2_with fail
   all_goals first
    |exact⟨⟨i+1,r,A6,n6,c6,b,U6,D6,P6,by omega,by omega,by go_num,rfl,rfl,E6,N.tree,N.stay,N.Qd,N.fine,l6,a6,a2,B6⟩,by simp[intOf];omega⟩
    |skip
   all_goals (
    have bl:Below I.1.size I (I.alloc (.cells #[.int .i64 r] 3)):=Qm;have El:=N.ed.below bl;have HN:=Lib.hid (Qdy El.src El.tab (some ⟨I.1.size,0,none⟩) 1 1 [r] (qjf I r) (by omega));refine HN.out.mono ?_;rintro e w7 ⟨O,on,oc,Ns,d7,rfl,e7,hI,H,b7⟩;have y:=bl.trans (b7.mono bl.size);have E7:=N.ed.below y;have G:∀a:Nat,0<a->a<P6.C.n->([r]:List Int).count (a:Int)=(Jr r++[]).count (a:Int):=λa h _=>by rw[List.append_nil];exact Qds a h
    have hF:=E7.foundAt G H;have HO:=Lib.hid (Qdk (wl:=w7) (λ_ h=>h) O on oc Ns hI (by omega) hF r b N.tree N.Qd (by omega) w7 (Below.refl _ _));clear HN El bl;go_wp2_with fail
    refine HO.out.mono ?_;rintro e w8 ⟨B8,m8,d8,rfl,I8,b8⟩;have h8:m8=n6:=I8.Zq.len.symm.trans N.stay.Zq.len;subst h8;have a8:=y.trans (b8.mono y.size);have S8:=N.stay.Zq.below a8;clear HO;go_wp2_with fail
    refine (q61 b B8 m8 d8 A6 c6 w8 I8.Zq S8).mono ?_;rintro e w9 ⟨rfl,b9⟩;have Y:=b8.trans (b9.mono b8.size);have b0:Below w9.1.size w9 (w9.alloc (.cells #[.int .i64 r] 3)):=Qm;have m:=Y.trans (b0.mono Y.size);have E9:=E7.below m;have HH:=Lib.hid (E9.Qfa G H (hI.below m) (λw' h=>m.trans (h.mono m.size)) (by omega) (qjf w9 r) (by omega) (N.n.trans hn.out) (by omega) (by omega));go_wp2_with fail
    refine HH.out.mono ?_;rintro e e8 ⟨rfl,a7⟩;have u:=y.trans ((m.trans (a7.mono m.size)).mono y.size);clear HH E9 E7 hI H hF;go_wp2_with fail
    exact⟨⟨i+1,r,A6,_,c6,b,U6,D6,P6,by omega,by omega,by go_num,rfl,rfl,E6.below u,N.tree,N.stay.below u,N.Qd,N.fine,l6,a6,a2,B6.trans (u.mono B6.size)⟩,by simp[intOf];omega⟩)
  ·as_aux_lemma=>
   have B:¬((i:Int)<(n:Int)/\(i:Int)<120):=λh=>F ⟨by omega,by omega⟩
   by_cases h1:(i:Int)<(n:Int)
   ·have h3:¬(i:Int)<120:=λh=>B ⟨h1,h⟩
    clear B F;go_wp2_with fail
    go_ret;exact⟨rfl,J⟩
   ·clear B F;go_wp2_with fail
    go_ret;exact⟨rfl,J⟩
