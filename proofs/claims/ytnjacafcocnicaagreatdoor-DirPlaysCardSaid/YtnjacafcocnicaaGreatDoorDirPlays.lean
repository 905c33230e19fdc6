/- The statement DirPlays: the walk. -/
import Derived.Test.YtnjacafcocnicaaGreatDoorDjC
namespace Go.Proofs.YtnjacafcocnicaaGreatDoor
open Go Go.RowKit Go.Proofs Tryz
set_option maxHeartbeats 16000000
set_option maxRecDepth 100000
theorem dirPlays_walk (A:OA)(n c:Nat)(os:List Pz)(w:WD)(hO:Qad w A n c os)(ht:Tab w) :
  Calls prog 3 #[.slice A n c] w λe w'=>e=.returned (.bool true)/\Below w.1.size w w':=by
 have hG:=ht.1;have c9:=hO.1.cap;have b4:=hO.1.max;unfold maxLen at b4;go_enter func3,ntmps3
 go_wp2_with fail
 refine (qbo w ht).mono ?_;rintro e w1 ⟨rfl,X⟩;have t1:=ht.below X hG;have z1:=X.size;go_wp2_with fail
 refine (q8l 512 ⟨by omega,by omega⟩ w1 t1).mono ?_;rintro e u ⟨p,d0,U,D,rfl,E2,P,hU⟩;have Q:Below u.1.size u (u.alloc (.cells #[.pointer (some ⟨p,0,none⟩),.int .i64 0,.slice none 0 0,.slice none 0 0,.slice none 0 0] 29)):=Qi;have G:u.1.size<(u.alloc (.cells #[.pointer (some ⟨p,0,none⟩),.int .i64 0,.slice none 0 0,.slice none 0 0,.slice none 0 0] 29)).1.size:=by simp
 have J:=qkw E2 Q (IB.new u (Uf p 0 λ_=>(none,0,0)) 29) G;have c3:=J.blk.cell 0 rfl;have R:Below w.1.size w (u.alloc (.cells #[.pointer (some ⟨p,0,none⟩),.int .i64 0,.slice none 0 0,.slice none 0 0,.slice none 0 0] 29)):=X.trans ((P.mono z1).trans (Q.mono (AZ z1 P.size)));have a1:1<w1.1.size:=t1.1;have f:∀k,U k->w.1.size<=k:=λk H=>by have:=hU k H;omega
 have c8:w.1.size<=u.1.size:=AZ z1 P.size;clear E2 t1;go_wp2_with fail
 generalize u.alloc (.cells #[.pointer (some ⟨p,0,none⟩),.int .i64 0,.slice none 0 0,.slice none 0 0,.slice none 0 0] 29)=w3 at Q G J R c3 ⊢;go_wp2_with fail
 obtain⟨q,hq⟩:∃q,u.1.size=q:=⟨_,rfl⟩;rw[hq] at J c8 ⊢;clear Q G c3 P hq;go_loopw [5] (λiv wr=>Qae w.1.size w1.1.size w q d0 p n U iv wr) (λiv _=>n-(intOf iv).toNat)
 case atStart=>exact⟨0,U,D,_,0,_,_,AW _,AW _,rfl,J,R,f⟩
 case round=>
  clear J R f;obtain⟨j,U',D',P',r,L,T,d6,d1,rfl,S,O,f⟩:=hrel;have M:=O.size;by_cases a8:j<n/\j<80
  ·obtain⟨b0,d2⟩:=a8;obtain⟨d4,oo,rfl,d5,m,F⟩:=hO.cell b0;obtain⟨o,ho⟩:∃o,Gm os j=o:=⟨_,rfl⟩;rw[ho] at m F;obtain⟨c0,c1,c2,c3,c4⟩:=F wr O;have hD:=HI (qg0 S a1 (by omega) (by omega) (by omega) o m);have e0:(0:Int)<=(j:Int):=by omega
   have e1:(j:Int)<(n:Int):=by omega
   have e2:(j:Int)<80:=by omega
   clear F;go_wp2_with fail
   refine hD.out.mono ?_;rintro e w5 ⟨rfl,U5,D5,P5,r5,L5,T5,S5,X5,a7⟩;clear hD c0 c1 c2 c3 c4;go_wp2_with fail
   have B5:=O.trans (X5.below (λk H=>H.elim (λh=>by omega) (f k)) M);exact⟨⟨j+1,U5,D5,P5,r5,L5,T5,by omega,by omega,by go_num,by have:=S5;rw[show 100+2100*(j+1)=100+2100*j+2100 by omega,show (2:Int)+((j+1:Nat):Int)=2+(j:Int)+1 by omega];exact this,B5,λk H=>by
    rcases (a7 k H).1 with h|h
    ·exact f k h
    ·omega⟩,by simp[intOf];omega⟩
  ·have HS:=HI S;clear S;have E:(¬(j:Int)<(n:Int))\/((j:Int)<(n:Int)/\¬(j:Int)<80):=by omega
   rcases E with b9|⟨b9,d3⟩
   all_goals (
    go_wp2_with fail
    go_loopw [7] (λkv wx=>∃k:Nat,k<=3/\kv=.int .i64 (k:Int)/\Below wr.1.size wr wx) (λkv _=>3-(intOf kv).toNat)
    case atStart=>exact⟨0,by omega,rfl,AI _ _⟩
    case round=>
     obtain⟨k,H,rfl,I⟩:=hrel;have BW:=O.trans (I.mono M);by_cases y:k<3
     ·have B:=HS.out.below I;have x0:=B.blk.cell 0 rfl;have x1:=B.blk.cell 1 rfl;have d7:(0:Int)<=(k:Int):=by omega
      have d8:(k:Int)<3:=by omega
      have b5:(T k).2.1<=1000:=by
       rw[B.lens k y];have e2:=B.Jv.Ze.few;rw[q6l] at e2;rcases (show k=0\/k=1\/k=2 by omega) with rfl|rfl|rfl<;>omega
      have hL:=HI (B.Jv.list (by omega) y);have hw:IntKind.i64.wrap ((k:Int)+1)=(k:Int)+1:=IntWalk.i64_in _ (by omega);have HX:=HI B;clear B;go_wp2_with fail
      refine hL.out.mono ?_;rintro e w6 ⟨A6,n6,c6,rfl,a2,Y⟩;have W:=HX.out.below Y;have K:=qbp W.blk y;have hB:=HI (qhr (T k).1 (T k).2.1 (T k).2.2 (J5 (L k)) w6 (W.row k y) b5);clear hL x0 x1 W;go_wp2_with fail
      refine hB.out.mono ?_;rintro e w7 ⟨A7,n7,c7,rfl,a6,Z⟩;have hC:=HI (qhp A6 A7 n6 c6 n7 c7 _ w7 (a2.below Z) a6);clear hB K;go_wp2_with fail
      refine hC.out.mono ?_;rintro e w8 ⟨rfl,b8⟩;clear hC;have V:=(I.trans (Y.mono I.size)).trans ((Z.trans (b8.mono Z.size)).mono (AZ I.size Y.size));go_wp2_with fail
      exact⟨⟨k+1,by omega,by go_num,V⟩,by simp[intOf];omega⟩
     ·have ek:k=3:=by omega
      subst ek;go_wp2_with fail
      go_ret;exact⟨rfl,BW⟩)
