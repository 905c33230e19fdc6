/- ShareBad's walk. -/
import Derived.Test.YthkfkhejjmhomaaGreatDoorEs45
namespace Go.Proofs.YthkfkhejjmhomaaGreatDoor
open Go Go.RowKit Go.Proofs
set_option maxHeartbeats 8000000
set_option maxRecDepth 100000
theorem shareBad_walk (A:Option Addr)(n c:Nat)(os:List U2)(a:Int)(w:World)(hO:Au w A n c os)(ha:-9223372036854775808<=a/\a<=9223372036854775807)(X:Tab w) :
  Calls Tryz.prog 10 #[.slice A n c,.int .i64 a] w λe w'=>e=.returned (.bool true)/\Below w.1.size w w':=by
 have hG:=X.1;go_enter Tryz.func10,Tryz.ntmps10
 go_wp2_with fail
 refine (qd8 w X).mono ?_;rintro e w1 ⟨rfl,R⟩;have t1:=X.below R hG;have W:=Lib.hid (q8l w1 t1);have y:=q7e;have B:=q4k;have F:=q57;obtain⟨P,hP⟩:∃P,Pl.fresh 1024=P:=⟨_,rfl⟩;rw[hP] at W y B F;clear hP;go_wp2_with fail
 refine W.out.mono ?_;rintro e w2 ⟨p,d,U,D,rfl,E2,b2,hU⟩;have z1:=R.size;have m:=R.trans (b2.mono z1);have M:1<w1.1.size:=t1.1;have u:∀k,U k->w.1.size<=k:=λk hk=>by have:=hU k hk;omega
 have HC:=Lib.hid (E2.Oc M y B F A n c os hO m u);clear W;go_wp2_with fail
 refine HC.out.mono ?_;rintro e w3 ⟨r,P3,row,rfl,C,hl⟩;have hr:=qlc C.tree;have H:=Lib.hid (q8m a 1023 ha (by omega) (by omega));have hq:=qxh a (show 0<1023 by omega);obtain⟨q,I⟩:∃q,md a 1023=q:=⟨_,rfl⟩;rw[I] at H hq;have Q:=m.trans (C.turn.below u m.size);clear HC I;go_wp2_with fail
 refine (H.out w3).mono ?_;rintro e w4 ⟨rfl,rfl⟩;have J:=C.ed.Qag;obtain⟨G,f⟩:∃G,P3.C.get (1+(q:Int))=G:=⟨_,rfl⟩;have b:=J.count (1+(q:Int));rw[f] at b;have b:=Lib.hid b;go_wp2_with fail
 refine b.out.mono ?_;rintro e w4 ⟨rfl,rfl⟩;by_cases h0:G=0
 ·subst h0;obtain⟨fr,E⟩:∃x,P3.C.free=x:=⟨_,rfl⟩;have K:=Lib.hid (J.free fr E);go_wp2_with fail
  refine K.out.mono ?_;rintro e w4 ⟨rfl,rfl⟩;have HS:=Lib.hid (J.Qb2 M (1+(q:Int)) f);go_wp2_with fail
  refine HS.out.mono ?_;rintro e w5 ⟨rfl,b5⟩;have E5:=J.below b5;have HD:=Lib.hid (E5.Qbq M (1+(q:Int)) (by omega) f);go_wp2_with fail
  refine HD.out.mono ?_;rintro e w6 ⟨rfl,b6⟩;have E6:=E5.below b6;have HH:=Lib.hid (E6.Qbu M (1+(q:Int)) (by omega) f);go_wp2_with fail
  refine HH.out.mono ?_;rintro e O ⟨rfl,E7,X7⟩;have T:Below O.1.size O (O.alloc (.cells #[.int .i64 r] 3)):=Qn;have HL:=Lib.hid ((E7.below T).Qbs (zs:=[r]) (C.n.trans y) (λa h1 _=>qeu a h1) _ 1 1 (Oi O r) (by omega));have Y:=Q.trans (b5.mono Q.size);have Z:=Y.trans (b6.mono Y.size);have B7:=Z.trans (X7.below u Z.size);have B8:=B7.trans (T.mono B7.size);clear K HS HD HH;go_wp2_with fail
  refine HL.out.mono ?_;rintro e w9 ⟨rfl,b9⟩;have B9:=B8.trans (b9.mono B8.size);have K:=Lib.hid (((E7.below T).below b9).free fr E);clear HL;go_wp2_with fail
  refine K.out.mono ?_;rintro e a0 ⟨rfl,rfl⟩;go_wp2_with fail
  go_ret;exact⟨rfl,B9⟩
 ·go_wp2_with fail
  go_ret;exact⟨rfl,Q⟩
