/- ShareHeld's walk. -/
import Derived.Test.YthkfkhejjmhomaaGreatDoorEs46
namespace Go.Proofs.YthkfkhejjmhomaaGreatDoor
open Go Go.RowKit Go.Proofs
set_option maxHeartbeats 16000000
set_option maxRecDepth 100000
theorem qsn (r:Int):Uz r 1=Jy r:=by
 unfold Uz Jy;split<;>rfl
theorem shareHeld_walk (A:Option Addr)(n c:Nat)(os:List U2)(a:Int)(w:World)(hO:Au w A n c os)(ha:-9223372036854775808<=a/\a<=9223372036854775807)(ht:Tab w) :
  Calls Tryz.prog 11 #[.slice A n c,.int .i64 a] w λe w'=>e=.returned (.bool true)/\Below w.1.size w w':=by
 have hG:=ht.1;go_enter Tryz.func11,Tryz.ntmps11
 go_wp2_with fail
 refine (qd8 w ht).mono ?_;rintro e w1 ⟨rfl,b1⟩;have t1:=ht.below b1 hG;have hM:=Lib.hid (q8l w1 t1);have a3:=q7e;have a0:=q4k;have a6:=q57;obtain⟨P,hP⟩:∃P,Pl.fresh 1024=P:=⟨_,rfl⟩;rw[hP] at hM a3 a0 a6;clear hP;obtain⟨fr,a4⟩:∃x,P.C.free=x:=⟨_,rfl⟩;go_wp2_with fail
 refine hM.out.mono ?_;rintro e w2 ⟨p,d,U,D,rfl,E2,b2,hU⟩;have z1:=b1.size;have K:=b1.trans (b2.mono z1);have hb:1<w1.1.size:=t1.1;have O:∀k,U k->w.1.size<=k:=λk b=>by have:=hU k b;omega
 have y:=Lib.hid (E2.free fr a4);have HC:=Lib.hid (E2.Oc hb a3 a0 a6 A n c os hO K O);have b9:=E2.Oq;clear hM;go_wp2_with fail
 refine y.out.mono ?_;rintro e w3 ⟨rfl,rfl⟩;go_wp2_with fail
 refine HC.out.mono ?_;rintro e w3 ⟨r,R,row,rfl,C,hl⟩;have hr:=qlc C.tree;have hl:row.length<=60:=by simpa using hl
 have B3:=K.trans (C.turn.below O K.size);have E3:=C.ed.Qag;have b3:∀k,U k->k<w3.1.size:=λk b=>(E3.low k b).2
 have G:=Lib.hid (E3.Qa6 C.tree C.Qk C.fine (by omega));clear HC y E2;go_wp2_with fail
 refine G.out.mono ?_;rintro e w4 ⟨A9,n9,c9,rfl,I9,b4⟩;have E4:=E3.below b4;have B4:=B3.trans (b4.mono B3.size);obtain⟨M,B⟩:∃x,R.C.free=x:=⟨_,rfl⟩;have y:=Lib.hid (E4.free M B);have X:Vq w1.1.size w4 d p U D R R r (0+1) row 100 2:=⟨by rw[Nat.zero_add,qsn];exact E4,λ_=>C.tree,λ_=>rfl,λ_ h0=>C.ed.Ey C.tree h0,.refl _,rfl⟩;have f:∀v,Turn U w4 v->Jt v w3.1.size A9 n9 c9 row:=λv hv=>I9.low hv b3
 have f:=Lib.hid f;have c7:=I9.J5.len;have a9:=C.Qk;have a2:=C.fine;have E:=C.like;have F:=C.n;have hq:=qxh a (show 0<21 by omega);have m:=q8m a 21 ha (by omega) (by omega);obtain⟨q,a7⟩:∃q,md a 21=q:=⟨_,rfl⟩;rw[a7] at m hq;have m:=Lib.hid m;clear G a7 C E3 E4 I9;go_wp2_with fail
 refine y.out.mono ?_;rintro e u ⟨rfl,rfl⟩;clear y;go_wp2_with fail
 go_loopw [11] (λiv wr=>∃(j:Nat) (Pj:Pl),j<=q/\iv=.int .i64 (j:Int)/\Vq w1.1.size wr d p U D R Pj r (j+1) row 100 2/\Turn U w4 wr) (λiv _=>q-(intOf iv).toNat)
 case atStart=>exact⟨0,R,Nat.zero_le _,rfl,X,Turn.refl _ _⟩
 case round=>
  clear X;obtain⟨j,Pj,hj,rfl,H,Xj⟩:=hrel;go_wp2_with fail
  refine (m.out wr).mono ?_;rintro e u ⟨rfl,rfl⟩;by_cases c8:j<q
  ·have e1:(j:Int)<(q:Int):=by omega
   have HH:=Lib.hid (H.hold hb (by omega) (by omega));go_wp2_with fail
   refine HH.out.mono ?_;rintro e u ⟨P5,rfl,H5,J⟩;have XX:=Xj.trans J λk b=>.inl b
   clear HH;go_wp2_with fail
   exact⟨⟨j+1,P5,by omega,by go_num,H5,XX⟩,by simp[intOf];omega⟩
  ·obtain rfl:j=q:=by omega
   have e1:¬(j:Int)<(j:Int):=by omega
   have a1:=(H.free (by omega)).trans B;have y:=Lib.hid (H.ed.free M a1);have a5:=H.get (by omega);have Z:=H.ed.count r;go_wp2_with fail
   refine y.out.mono ?_;rintro e u ⟨rfl,rfl⟩
   cases h0:(r != 0)
   case' true=>
    have a8:r≠0:=by simpa using h0
    rw[a5 a8,show ((j+1:Nat):Int)=1+(j:Int) by omega] at Z;have Z:=Lib.hid Z;clear a8;go_wp2_with fail
    refine Z.out.mono ?_;rintro e u ⟨rfl,rfl⟩;go_wp2_with fail
    refine (m.out wr).mono ?_;rintro e u ⟨rfl,rfl⟩;go_wp2_with fail
   case' false=>
    clear Z;go_wp2_with fail
   all_goals (
    clear y a5 a1 e1;go_loopw [12] (λiv wx=>∃(i:Nat) (Pi:Pl),i<=j/\iv=.int .i64 (i:Int)/\Vq w1.1.size wx d p U D R Pi r (j-i+1) row 100 2/\Turn U w4 wx) (λiv _=>j-(intOf iv).toNat)
    case atStart=>exact⟨0,Pj,Nat.zero_le _,rfl,H,Xj⟩
    case round=>
     clear H Xj;obtain⟨i,Pi,hi,rfl,Hi,Xi⟩:=hrel;have G:=Lib.hid (Hi.ed.Qa6 (Hi.tree (by omega)) a9 a2 (by omega));go_wp2_with fail
     refine (m.out wr).mono ?_;rintro e u ⟨rfl,rfl⟩;by_cases c6:i<j
     ·have e1:(i:Int)<(j:Int):=by omega
      go_wp2_with fail
      refine G.out.mono ?_;rintro e u ⟨A5,n5,c5,rfl,I,b5⟩;have b8:=I.J5.len;obtain rfl:n5=n9:=by omega
      have J:=Xi.trans (Qu (S:=U) b5) λk b=>.inl b
      have Y:=Lib.hid (q64 row A5 n5 c5 A9 c9 u I.J5 (f.out u J).J5);go_wp2_with fail
      refine Y.out.mono ?_;rintro e w6 ⟨rfl,b6⟩;have Q:=(Hi.below b5).below b6;rw[show j-i+1=(j-(i+1)+1)+1 by omega] at Q;have W:=Lib.hid (Q.drop hb);have X6:=J.trans (Qu (S:=U) b6) λk b=>.inl b
      clear Y G I;go_wp2_with fail
      refine W.out.mono ?_;rintro e w7 ⟨P7,rfl,T,X7⟩;have XX:=X6.trans X7 λk b=>.inl b
      clear W;go_wp2_with fail
      exact⟨⟨i+1,P7,by omega,by go_num,T,XX⟩,by simp[intOf];omega⟩
     ·obtain rfl:i=j:=by omega
      have e1:¬(i:Int)<(i:Int):=by omega
      rw[show i-i+1=0+1 by omega] at Hi;go_wp2_with fail
      refine G.out.mono ?_;rintro e u ⟨A5,n5,c5,rfl,I,b5⟩;have b8:=I.J5.len;obtain rfl:n5=n9:=by omega
      have J:=Xi.trans (Qu (S:=U) b5) λk b=>.inl b
      have Y:=Lib.hid (q64 row A5 n5 c5 A9 c9 u I.J5 (f.out u J).J5);go_wp2_with fail
      refine Y.out.mono ?_;rintro e w6 ⟨rfl,b6⟩;have Q:=(Hi.below b5).below b6;have X6:=J.trans (Qu (S:=U) b6) λk b=>.inl b
      have y:=Lib.hid (Q.ed.free M ((Q.free (by omega)).trans B));have W:=Lib.hid (Q.drop hb);clear Y G I;go_wp2_with fail
      refine y.out.mono ?_;rintro e w7 ⟨rfl,rfl⟩;go_wp2_with fail
      refine W.out.mono ?_;rintro e w7 ⟨P7,rfl,T,X7⟩;have E7:=T.ed;rw[qnu] at E7;have b7:P7.C.free=fr:=(qgv (T.n.trans F) (E.trans T.like).2 b9 E7.Oq).trans a4;have b0:=Lib.hid (E7.free fr b7);have B7:Below w.1.size w w7:=B4.trans ((X6.trans X7 λk b=>.inl b).below O B4.size);clear W y;go_wp2_with fail
      refine b0.out.mono ?_;rintro e w8 ⟨rfl,rfl⟩;go_wp2_with fail
      go_ret;exact⟨rfl,B7⟩)
