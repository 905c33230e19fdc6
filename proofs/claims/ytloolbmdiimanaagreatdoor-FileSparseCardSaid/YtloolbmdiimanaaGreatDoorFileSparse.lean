/- The statement FileSparse: the walk. -/
import Derived.Test.YtloolbmdiimanaaGreatDoorGv45
namespace Go.Proofs.YtloolbmdiimanaaGreatDoor
open Go Go.RowKit Go.Proofs Tryz
set_option maxHeartbeats 16000000
set_option maxRecDepth 100000
theorem fileSparse_walk (A:OA)(M c:Nat)(l:LU)(off tz:Int)(w:WD)(B:Sl w A M c l)(ho:i64 off)(e7:i64 tz)(ht:Tab w) :
  Calls prog 3 #[.slice A M c,.int .i64 off,.int .i64 tz] w λe w'=>e=.returned (.bool true)/\Below w.1.size w w':=by
 have hG:=ht.1;have f2:=B.cap;have e4:=B.max;unfold maxLen at e4;go_enter func3,ntmps3
 go_wp2_with fail
 refine (qiy w ht).mono ?_;rintro e w1 ⟨rfl,b1⟩;have t1:=ht.below b1 hG;have z1:=b1.size;go_wp2_with fail
 refine (qde 256 ⟨by omega,by omega⟩ w1 t1).mono ?_;rintro e w2 ⟨p,d,U,D,rfl,E2,b2,hU⟩;have S2:=qvx E2;have B2:=b1.trans (b2.mono z1);have hR:Yw (Pl.fresh 256) 200:=qlb (by decide);obtain⟨P,hP⟩:∃P,Pl.fresh 256=P:=⟨_,rfl⟩;rw[hP] at S2 hR;have a1:∀k,U k->w.1.size<=k:=λk hk=>AZ z1 (hU k hk)
 have a0:1<w1.1.size:=by omega
 have b0:=B.below B2;have hK:=HI (qdf off 7001 ho (by omega) (by omega) w2);have hq:=qz0 off (show 0<7001 by omega);obtain⟨at_,a8⟩:∃q,md off 7001=q:=⟨_,rfl⟩;rw[a8] at hK hq;clear E2 b1 b2 a8 t1 hP;go_upto_region 5 with fail
 go_cut [34] from 32 to 34 (λe9 wc=>wc=w2/\e9=.bool (decide ((M:Int) > 400)))
 case first=>
  go_wp2_with fail
  go_meet
  exact⟨rfl,rfl⟩
 case rest=>
 obtain⟨rfl,G⟩:=hcut;replace G:=HI G;go_wp2_with fail
 have d6:=G.out;clear G;subst d6;go_cut [0] from 35 to 36 (λs0 wd=>wd=wc/\∃q:Nat,s0=.slice A q c/\q<=400/\q<=M)
 case first=>
  by_cases f1:M > 400
  ·have g4:(M:Int) > 400:=by omega
   have g5:(400:Int)<=(c:Int):=by omega
   go_wp2_with fail
   go_meet
   exact⟨rfl,400,rfl,by omega,by omega⟩
  ·have g4:¬(M:Int) > 400:=by omega
   go_wp2_with fail
   go_meet
   exact⟨rfl,M,rfl,by omega,by omega⟩
 case rest=>
 obtain⟨rfl,q,rfl,f4,a9⟩:=hcut;go_wp2_with fail
 refine hK.out.mono ?_;rintro e w3 ⟨rfl,rfl⟩;have W:=b0.take (k:=q) a9;have b4:=B.take (k:=q) a9;obtain⟨x,hx⟩:∃x,l.take q=x:=⟨_,rfl⟩;rw[hx] at W b4;clear hK b0 hx B;have X:=W.len;have hW:=HI (S2.write (qf0 P D 1) a0 ⟨by omega,by omega⟩ (at_:Int) ⟨by omega,by omega⟩ A q c W (by omega) hR (by show 2*(0+(q / 128+2))+0<=200;omega) (by omega));clear S2;go_wp2_with fail
 refine hW.out.mono ?_;rintro e w4 b3;obtain⟨r4,P4,f,rfl,S4,T4,F4,b7⟩:=b3.yes (by unfold Y7;rw[AB (by omega),AB (by omega)]);have m:=qng x at_;have u:=λ(cut i:Nat) (hc:cut<=(Xq [] (at_:Int) x).length)=>qnf hc i
 obtain⟨F,d9⟩:∃F,Xq [] (at_:Int) x=F:=⟨_,rfl⟩;rw[d9] at F4 m u ⊢;have K:=F4.few;obtain⟨g,R⟩:∃g,F.length=g:=⟨_,rfl⟩;rw[R] at m u K ⊢;have b7:f.length<=q / 128+2:=by have:=b7;rw[X] at this;simpa using this
 have B4:=B2.trans (T4.turn.below a1 B2.size);have d7:=hR.to T4;have T:(q=0/\g=0)\/(0<q/\g=at_+q):=by
  by_cases h0:q=0
  ·have:x=[]:=List.length_eq_zero_iff.1 (by omega);rw[AA this] at m;exact .inl ⟨h0,m⟩
  ·rw[AB (λe=>h0 (by rw[<-X,e];rfl)),X] at m;exact .inr ⟨by omega,m⟩
 have Z:=HI (S4.blocks F4 (by omega));have d8:=qne (within ⟨1,3,0⟩ ⟨1,3,2147483647⟩ f);have e8:(within ⟨1,3,0⟩ ⟨1,3,2147483647⟩ f).length<=f.length:=List.length_filter_le _ _;clear hW b3 m T4 hR;go_wp2_with fail
 refine Z.out.mono ?_;rintro e w5 ⟨A5,n5,c5,rfl,O,b5⟩;have a7:=O.len (by omega);rw[AF] at a7;have S5:=S4.below b5;have B5:=B4.trans (b5.mono B4.size);obtain⟨Y,f5⟩:∃Y,q / 128=Y:=⟨_,rfl⟩;have d1:(q:Int).tdiv 128=(Y:Int):=by rw[Int.tdiv_eq_ediv_of_nonneg (by omega)];omega
 have d2:IntKind.i64.wrap ((Y:Int)+2)=((Y+2:Nat):Int):=IntWalk.i64_in _ (by omega);have d3:¬(n5:Int) > ((Y+2:Nat):Int):=by omega
 have d4:IntKind.i64.wrap ((at_:Int)+(q:Int))=((at_+q:Nat):Int):=IntWalk.i64_in _ (by omega);have d5:IntKind.i64.wrap ((g:Int)+1)=((g+1:Nat):Int):=IntWalk.i64_in _ (by omega);clear Z O a7 d8 e8 S4 b5;go_upto_region 10 with fail
 go_cut [80] from 53 to 80 (λf0 wc=>wc=w5/\f0=.bool false)
 case first=>
  rcases T with⟨h1,h2⟩|⟨h1,h2⟩
  ·subst h1;clear h2;go_wp2_with fail
   go_meet
   first|exact⟨rfl,rfl⟩|exact⟨rfl,congrArg Value.bool (AH (by omega))⟩
  ·have e1:(q:Int) > 0:=by omega
   have e2:g=at_+q:=h2;subst e2;go_wp2_with fail
   go_meet
   first|exact⟨rfl,rfl⟩|exact⟨rfl,congrArg Value.bool (AH (by omega))⟩
 case rest=>
 obtain⟨rfl,rfl⟩:=hcut;clear d1 d2 d3 d4;have Q:=HI (qdf tz (g+1) e7 (by omega) (by omega) wc);have hcut:=qz0 tz (show 0<g+1 by omega);obtain⟨cut,a3⟩:∃cut,md tz (g+1)=cut:=⟨_,rfl⟩;rw[a3] at Q hcut;have hz:=S5.Pg F4 a0 ⟨by omega,by omega⟩ cut (by omega) d7 (by show 2*(f.length+64)+0<=200;omega) (by omega);rw[R] at hz;replace hz:=HI hz;clear a3;go_wp2_with fail
 refine Q.out.mono ?_;rintro e w6 ⟨rfl,rfl⟩;clear Q;go_wp2_with fail
 refine hz.out.mono ?_;rintro e w7 ⟨r7,P7,b6,rfl,S7,T7,F7,f6⟩;have B7:=B5.trans (T7.turn.below a1 B5.size);have e6:Dv (g:Int)=0:=by unfold Dv;rw[AB (by omega),AB (by omega)]
 have E:=q8v (some ⟨p,0,none⟩) r7 1 cut (g:Int) (by omega) (.inr (by omega)) w7;rw[e6] at E;replace E:=HI E;have J:=qj1 (bs:=F) (c:=cut) (by omega);rw[R] at J;have F8:Zt P7 D b6 1 (q3b F cut):=F7.same (by omega) λi=>by
  rw[qbh (by omega),Ob]
 have y:=S7.read F8 (by omega) 0 8192 ⟨by omega,by omega⟩ ⟨by omega,by omega⟩;rw[J,show Il 0 8192=0 from rfl,show Io (q3b F cut) 0 8192=q3b F cut from AN (by rw[show ((0:Int).toNat)=0 from rfl,List.drop_zero];exact AZ (Nat.le_of_eq J) K)] at y;replace y:=HI y;clear hz T7 F7;go_wp2_with fail
 refine E.out.mono ?_;rintro e w8 ⟨⟨r8,rfl,e5⟩,rfl⟩;obtain rfl:=e5 rfl;clear E;go_wp2_with fail
 refine y.out.mono ?_;rintro e w9 ⟨A9,n9,c9,rfl,s9,b9,-⟩;clear y;have B9:=B7.trans (b9.mono B7.size);have h9:=s9.len;rw[J] at h9;subst h9;have sx:=b4.below B9;have a2:∀k:Nat,Xr (q3b F cut) k=if at_<=k/\k<cut then Xr x (k-at_) else 0:=λk=>by
  have:=congrArg UInt8.toNat (u cut k (by omega));show (Xe (q3b F cut) k).toNat=_;rw[this];split
  ·rfl
  ·rfl
 have b8:=HI a2;have d0:=HI T;clear a2 u S7 S5 F8 T;go_wp2_with fail
 go_loopw [22,23] (λkv _ wr=>wr=w9/\∃k:Nat,k<=g/\kv=.int .i64 (k:Int)) (λkv _ _=>g-(intOf kv).toNat)
 case atStart=>exact⟨rfl,0,AW _,rfl⟩
 case round=>
  obtain⟨rfl,k,hk,rfl⟩:=hrel;by_cases e3:k<g
  ·obtain⟨ad,rfl,_,I⟩:=s9.cell e3;have H:=b8.out k;have k0:(0:Int)<=(k:Int):=by omega
   have k1:(k:Int)<(g:Int):=by omega
   have k3:IntKind.i64.wrap ((k:Int)+1)=((k+1:Nat):Int):=IntWalk.i64_in _ (by omega);by_cases h1:at_<=k
   ·have g1:(k:Int)>=(at_:Int):=by omega
    by_cases h2:k<cut
    ·have g2:(k:Int)<(cut:Int):=by omega
     rw[AA ⟨h1,h2⟩] at H;rw[H] at I;have a6:k-at_<q:=by have:=d0.out;omega
     obtain⟨f3,rfl,_,a4⟩:=sx.cell a6;obtain⟨v,hv⟩:∃v,Xr x (k-at_)=v:=⟨_,rfl⟩;rw[hv] at I a4;have k4:IntKind.i64.wrap ((k:Int)-(at_:Int))=((k-at_:Nat):Int):=by rw[show (k:Int)-(at_:Int)=((k-at_:Nat):Int) by omega];exact IntWalk.i64_in _ (by omega)
     obtain⟨ka,a5⟩:∃ka,k-at_=ka:=⟨_,rfl⟩;rw[a5] at k4 a4 a6;have k5:(0:Int)<=(ka:Int):=by omega
     have k6:(ka:Int)<(q:Int):=by omega
     clear a5 H hv;go_wp2_with fail
     exact⟨⟨trivial,k+1,by omega,by go_num⟩,by simp[intOf];omega⟩
    ·have g2:¬(k:Int)<(cut:Int):=by omega
     rw[AB (by omega)] at H;rw[H] at I;clear H;go_wp2_with fail
     exact⟨⟨trivial,k+1,by omega,by go_num⟩,by simp[intOf];omega⟩
   ·have g1:¬(k:Int)>=(at_:Int):=by omega
    rw[AB (by omega)] at H;rw[H] at I;clear H;go_wp2_with fail
    exact⟨⟨trivial,k+1,by omega,by go_num⟩,by simp[intOf];omega⟩
  ·have e0:k=g:=by omega
   subst e0;go_wp2_with fail
   go_ret;exact⟨rfl,B9⟩
