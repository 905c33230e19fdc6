/- The statement FileBig: the walk. -/
import Derived.Test.YtloolbmdiimanaaGreatDoorFv46
namespace Go.Proofs.YtloolbmdiimanaaGreatDoor
open Go Go.RowKit Go.Proofs Tryz
set_option maxHeartbeats 16000000
set_option maxRecDepth 100000
theorem fileBig_walk (off n m:Int)(w:WD)(ho:i64 off)(hn:i64 n)(a3:i64 m)(ht:Tab w) :
  Calls prog 4 #[.int .i64 off,.int .i64 n,.int .i64 m] w λe w'=>e=.returned (.bool true)/\Below w.1.size w w':=by
 have hG:=ht.1;obtain⟨a1,a2⟩:=ho;obtain⟨a5,a6⟩:=a3;go_enter func4,ntmps4
 go_wp2_with fail
 refine (qiu w ht).mono ?_;rintro e w1 ⟨rfl,Y⟩;have t1:=ht.below Y hG;have z1:=Y.size;go_wp2_with fail
 refine (qd3 256 ⟨by omega,by omega⟩ w1 t1).mono ?_;rintro e w2 ⟨p,d,U,D,rfl,E2,b2,hU⟩;have S2:=qvo E2;have B2:=Y.trans (b2.mono z1);have hR:Y8 (Pl.fresh 256) 40:=ql3 (by decide);have E:(Pl.fresh 256).C.kept=0:=qgq 256;have A:(Pl.fresh 256).C.first<=(Pl.fresh 256).C.n:=by unfold Ct.first;rw[qeh 256];decide
 obtain⟨P,hP⟩:∃P,Pl.fresh 256=P:=⟨_,rfl⟩;rw[hP] at S2 hR E A;obtain⟨Z,B⟩:∃Z,P.C.free=Z:=⟨_,rfl⟩;have K:∀k,U k->w.1.size<=k:=λk hk=>AZ z1 (hU k hk)
 have J:∀k,U k->k<w2.1.size:=λk hk=>(E2.low k hk).2
 have I:1<w1.1.size:=by omega
 have hK:=HI (qn5 n 600 hn (by omega) (by omega) w2);have hq:=Qb7 n (show 0<600 by omega);obtain⟨q,R⟩:∃q,md n 600=q:=⟨_,rfl⟩;rw[R] at hK hq;clear E2 Y b2 R t1 hP;go_wp2_with fail
 refine hK.out.mono ?_;rintro e a8 ⟨rfl,rfl⟩;clear hK;go_wp2_with (first
  |(refine qf3 w2 Bv rfl (.tmp 26) (.tmp 26) rfl .i64 .i64 q rfl rfl (by omega) ?_;intro w3 y b3)
  |fail)
 have S3:=S2.below b3;have B3:=B2.trans (b3.mono B2.size);have H:=HI (S3.ed.F7 Z B);have hW:=HI (S3.noughts E A B I off ⟨a1,a2⟩ _ q q y.sl (λi=>qek q i) (by omega) (λg hg hu=>by have:=J g hu;have hg:w2.1.size=g:=OI hg;omega) hR (z:=w.1.size) K B3.size);clear S2 S3;go_wp2_with fail
 refine H.out.mono ?_;rintro e a9 ⟨rfl,rfl⟩;clear H;go_wp2_with fail
 refine hW.out.mono ?_;rintro e w4 ⟨⟨r,sz,rfl,F,T⟩,⟨P4,H4,Q,E4⟩,b4⟩;have B4:=B3.trans b4;have a0:=HI (E4.F7 Z Q);have G:=qgx (some ⟨p,0,none⟩) 0 1 0 m (by omega) (by omega) w4;rw[show ((0:Nat):Int)=0 from rfl] at G;replace G:=HI G;have a4:(0:Int)<=(q:Int):=by omega
 have u:(m<0/\Dp m=1)\/(0<=m/\¬m<=8192/\Dp m=17)\/(0<=m/\m<=8192/\Dp m=0):=by
  unfold Dp;split
  ·omega
  ·split<;>omega
 have W:(off<0/\Zq off q=1/\sz=0)\/(0<=off/\8192<off/\Zq off q=17/\sz=0)\/(0<=off/\off<=8192/\8192<off+(q:Int)/\Zq off q=17/\sz=0)\/(0<=off/\off<=8192/\off+(q:Int)<=8192/\Zq off q=0/\(q=0\/0<q/\sz=off+(q:Int))):=by
  by_cases c1:off<0
  ·have h:Zq off q=1:=AA c1;exact .inl ⟨c1,h,F (by rw[h];decide)⟩
  ·by_cases c2:off > 8192\/off+(q:Int) > 8192
   ·have h:Zq off q=17:=by unfold Zq;rw[AB c1,AA c2]
    have hz:=F (by rw[h];decide);by_cases c3:8192<off
    ·exact .inr (.inl ⟨by omega,c3,h,hz⟩)
    ·exact .inr (.inr (.inl ⟨by omega,by omega,by omega,h,hz⟩))
   ·have h:Zq off q=0:=by unfold Zq;rw[AB c1,AB c2]
    have hz:=T h;exact .inr (.inr (.inr ⟨by omega,by omega,by omega,h,by
     by_cases hq:q=0
     ·exact .inl hq
     ·exact .inr ⟨by omega,hz (by omega)⟩⟩))
 clear hW y b3 b4 B2 B3 hR E A K J hU E4 Q B I ht hG z1 hn;have M:=G.out;replace M:=HI M;clear F T;rcases W with⟨o1,O,rfl⟩|⟨o1,o2,O,rfl⟩|⟨o1,o2,o3,O,rfl⟩|⟨o1,o2,o3,O,rfl|⟨o4,rfl⟩⟩
 ·rw[O];go_wp2_with fail
  refine G.out.mono ?_;rintro e w5 ⟨⟨r5,rfl,-⟩,rfl⟩;rcases u with⟨X,f⟩|⟨X,x2,f⟩|⟨X,x2,f⟩ <;>
  ·rw[f];go_wp2_with fail
   go_ret;exact⟨rfl,B4⟩
 all_goals
  rw[O];try (have a7:IntKind.i64.wrap (off+(q:Int))=off+(q:Int):=IntWalk.i64_in _ (by omega))
  go_wp2_with fail
  refine G.out.mono ?_;rintro e w5 ⟨⟨r5,rfl,-⟩,rfl⟩;rcases u with⟨X,f⟩|⟨X,x2,f⟩|⟨X,x2,f⟩
  all_goals
   rw[f];go_wp2_with fail
   refine a0.out.mono ?_;rintro e w6 ⟨rfl,rfl⟩;go_wp2_with fail
   go_ret;first|exact⟨rfl,B4⟩|exact⟨congrArg (λc=>Ending.returned (.bool !c)) (AH (show ¬m<=8192 by omega)),B4⟩
