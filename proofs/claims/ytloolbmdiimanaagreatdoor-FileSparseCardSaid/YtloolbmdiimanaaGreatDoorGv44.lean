/- The code's file: around -/
import Derived.Test.YtloolbmdiimanaaGreatDoorGv43
namespace Go.Proofs.YtloolbmdiimanaaGreatDoor
open Go Go.RowKit Go.Proofs Tryz
set_option maxHeartbeats 8000000
set_option maxRecDepth 100000
theorem Qba {L:List Qb}{j:Nat}(h:j<L.length):(L.map Om)[j]?=some (Om (Qu L j)):=by rw[BA,Et h];rfl
theorem qh4 {L:List Qb}{ino:Int}{j:Nat}(F:Qg L)(u:∀x∈L,∃c:Nat,x.k=⟨ino,3,(c:Int)⟩)(f:j<L.length):∀y∈L.take j,y.k.off≠(Qu L j).k.off:=λy G e=>by
 obtain⟨i,hi,rfl⟩:=List.getElem_of_mem G;rw[AR] at hi;rw[List.getElem_take] at e;have h1:=List.pairwise_iff_getElem.1 F i j (by omega) f (by omega);obtain⟨a,A⟩:=u _ (List.getElem_mem (show i<L.length by omega));obtain⟨b,B⟩:=u _ (List.getElem_mem f);have E:Qu L j=L[j]:=by
  have:=Et f;rw[AC f] at this;exact (OI this).symm
 rw[E,A,B] at e;rw[A,B,Kd.Vh] at h1;dsimp only at e h1;omega
section
variable {b:Nat}{w:WD}{d p:Nat}{U Q V:NP}{D:DM}{P:Pl}{root:Int}{its:List Qb}{X:LI}{m:Nat}{g:Int}
theorem Ft.around {ino:Int}{bs:LU}(h:Ft b w d p U Q V D P root its X m g)(F:Zt P D its ino bs)(hlen:its.length<=1000)(off n:Nat)(hn:1<=n)(ho:off+n<=8192) :
  Calls prog 16 #[.pointer (some ⟨p,0,none⟩),.int .i64 root,.int .i64 ino,.int .i64 (off:Int),.int .i64 (n:Int)] w λe w'=>∃(gb M at_:Nat) (R:LU),e=.returned (.tuple #[.slice (some ⟨gb,0,none⟩) M M,.int .i64 (at_:Int),.int .i64 0])/\M=128*((off+n-1) / 128-off / 128+1)/\at_=off-128*(off / 128)/\Own w' w.1.size 5 (some ⟨gb,0,none⟩) M M R/\(R.length=M/\∀i,i<M->Xe R i=Xe bs (128*(off / 128)+i))/\Below w.1.size w w':=by
 obtain⟨f,b0⟩:∃f,off / 128=f:=⟨_,rfl⟩;obtain⟨up,d1⟩:∃up,(off+n-1) / 128=up:=⟨_,rfl⟩;obtain⟨M,hM⟩:∃M,128*(up-f+1)=M:=⟨_,rfl⟩;rw[b0,d1,hM];have d9:f<=up:=by omega
 have q1:(off:Int).tdiv 128=(f:Int):=by rw[Int.tdiv_eq_ediv_of_nonneg (by omega)];omega
 have w1:IntKind.i64.wrap ((off:Int)+(n:Int))=((off+n:Nat):Int):=by rw[show (off:Int)+(n:Int)=((off+n:Nat):Int) by omega];exact IntWalk.i64_in _ (by omega)
 obtain⟨on,b3⟩:∃on,off+n=on:=⟨_,rfl⟩;rw[b3] at w1;have w2:IntKind.i64.wrap ((on:Int)-1)=((on-1:Nat):Int):=by rw[show (on:Int)-1=((on-1:Nat):Int) by omega];exact IntWalk.i64_in _ (by omega)
 obtain⟨o1,b2⟩:∃o1,on-1=o1:=⟨_,rfl⟩;rw[b2] at w2;have q2:(o1:Int).tdiv 128=(up:Int):=by rw[Int.tdiv_eq_ediv_of_nonneg (by omega)];omega
 have w3:IntKind.i64.wrap ((up:Int)-(f:Int))=((up-f:Nat):Int):=by rw[show (up:Int)-(f:Int)=((up-f:Nat):Int) by omega];exact IntWalk.i64_in _ (by omega)
 obtain⟨uf,d0⟩:∃uf,up-f=uf:=⟨_,rfl⟩;rw[d0] at w3;have w4:IntKind.i64.wrap ((uf:Int)+1)=((uf+1:Nat):Int):=by rw[show (uf:Int)+1=((uf+1:Nat):Int) by omega];exact IntWalk.i64_in _ (by omega)
 obtain⟨u1,c9⟩:∃u1,uf+1=u1:=⟨_,rfl⟩;rw[c9] at w4;have w5:IntKind.i64.wrap ((u1:Int)*128)=(M:Int):=by rw[show (u1:Int)*128=(M:Int) by omega];exact IntWalk.i64_in _ (by omega)
 have w6:IntKind.i64.wrap ((f:Int)*128)=((128*f:Nat):Int):=by rw[show (f:Int)*128=((128*f:Nat):Int) by omega];exact IntWalk.i64_in _ (by omega)
 obtain⟨f1,a4⟩:∃f1,128*f=f1:=⟨_,rfl⟩;rw[a4] at w6 ⊢;have w7:IntKind.i64.wrap ((off:Int)-(f1:Int))=((off-f1:Nat):Int):=by rw[show (off:Int)-(f1:Int)=((off-f1:Nat):Int) by omega];exact IntWalk.i64_in _ (by omega)
 obtain⟨aa,I⟩:∃aa,off-f1=aa:=⟨_,rfl⟩;rw[I] at w7 ⊢;have e9:M<=8320:=by omega
 have HN:=HI (And.intro hM (And.intro a4 I));obtain⟨L,hL⟩:∃L,within ⟨ino,3,(f:Int)⟩ ⟨ino,3,(up:Int)⟩ its=L:=⟨_,rfl⟩;have B:∀x∈L,x∈its/\∃c:Nat,x.k=⟨ino,3,(c:Int)⟩/\f<=c/\c<=up:=λx Z=>q76.1 (by rw[hL];exact Z)
 have d2:up<=2147483647:=by omega
 have G:∀x∈L,∀c:Nat,x.k=⟨ino,3,(c:Int)⟩->c<=up->Ld P D x.v (Za bs c):=λx Z c hk hc=>F.item h.Qg (B x Z).1 hk (by omega)
 have hI:=HI (q85 (h.told hlen) h.ed.tab hL (λx Z=>by
  obtain⟨_,c,hk,_,hc⟩:=B x Z;exact (G x Z c hk hc).1))
 have b6:Go.Proofs.YtloolbmdiimanaaGreatDoor.Qg L:=by rw[<-hL];exact h.Qg.filter _
 have O:∀j,j<L.length->∀y∈L.take j,y.k.off≠(Qu L j).k.off:=λj hj=>qh4 b6 (λx Z=>by obtain⟨_,c,hk,_⟩:=B x Z;exact⟨c,hk⟩) hj
 replace O:=HI O;have a9:=HI (λR (hB:Buf bs f M L R)=>qxr F d2 hM.symm d9 (by rw[hL];exact hB));have a6:=HI B;have a2:=HI G;clear B G hL b0 d1 hM b3 b2 d0 c9 a4 I F b6;go_enter func16,ntmps16
 go_wp2_with fail
 refine hI.out.mono ?_;rintro e wa ⟨A,n1,c1,rfl,hC,ba⟩;clear hI;have e4:=hC.len (by omega);rw[AF] at e4;obtain⟨e6,e3⟩:=hC.bounds (by omega);unfold maxLen at e3;go_wp2_with (first
  |(refine qo9 wa Cb rfl (.tmp 43) (.tmp 43) rfl .i64 .i64 M rfl rfl (by omega) ?_;intro wb own bb)
  |fail)
 have HC:=HI hC;have hz:=ba.size;clear hC;go_wp2_with fail
 go_loopw [10,47] (λbv iv wr=>∃(j:Nat) (R:LU),j<=n1/\iv=.int .i64 (j:Int)/\bv=.slice (some ⟨wa.1.size,0,none⟩) M M/\Own wr wa.1.size 5 (some ⟨wa.1.size,0,none⟩) M M R/\Buf bs f M (L.take j) R/\Below wa.1.size wa wr) (λ_ iv _=>n1-(intOf iv).toNat)
 case atStart=>exact⟨0,zeros M,AW _,rfl,rfl,own,qrq bs f M,bb⟩
 case round=>
  clear own bb;obtain⟨j,R,hj,rfl,rfl,own,hB,BB⟩:=hrel;have BW:=ba.trans (BB.mono hz);by_cases f4:j<n1
  ·have a0:j<L.length:=by omega
   have b9:L.take (j+1)=L.take j++[Qu L j]:=by rw[List.take_add_one,Et a0];rfl
   have a1:=O.out j a0;have a5:Qu L j∈L:=List.mem_of_getElem? (Et a0);obtain⟨g1,W,p1,q1,rfl,f2,f3,E,Y,b1⟩:=(HC.out.below BB).at_ (by omega) (Qba a0);obtain⟨x,Z⟩:∃x,Qu L j=x:=⟨_,rfl⟩;rw[Z] at b9 a1 a5 E Y b1;obtain⟨-,c,hk,d8,d7⟩:=a6.out x a5;obtain⟨-,e8,u⟩:=a2.out x a5 c hk d7;rw[show x.k.off=(c:Int) by rw[hk]] at a1;have r0:=E 0 _ rfl;have r1:=E 1 _ rfl;have r2:=E 2 _ rfl;rw[Nat.add_zero] at r0;rw[show (Om x).c=(c:Int) by show x.k.off=_;rw[hk]] at r0;change Sl wr W p1 q1 (Vq x.v) at Y;change wr.cell? ⟨g1,j*3+2,none⟩=some (.int .i64 (J4 x.v)) at r2;obtain⟨l,hl⟩:∃l,Vq x.v=l:=⟨_,rfl⟩;obtain⟨a,ha⟩:∃a,J4 x.v=a:=⟨_,rfl⟩;obtain⟨t,ht⟩:∃t,Za bs c=t:=⟨_,rfl⟩;rw[hl] at Y u;rw[ha] at r2 u;rw[ht] at u;have e5:t.length<=128:=by rw[<-ht];exact qbc bs c
   have K:(a=0/\l=t)\/(a≠0/\P.dat D a=(0,t)):=u.imp id λh=>⟨h.1,h.2.2.2⟩
   have e0:(0:Int)<=(j:Int):=by omega
   have e1:(j:Int)<(n1:Int):=by omega
   have bx:Below wr.1.size wr (wr.alloc (.cells #[.int .i64 (c:Int),.slice W p1 q1,.int .i64 a] 55)):=Ql;have Kx:IB (wr.alloc (.cells #[.int .i64 (c:Int),.slice W p1 q1,.int .i64 a] 55)) wr.1.size [.int .i64 (c:Int),.slice W p1 q1,.int .i64 a]:=IB.new wr _ _;have a7:=HI ((h.below (BW.trans (bx.mono BW.size))).content W p1 q1 a l t (Y.below bx) K);have HB:=HI hB;have T:=own;clear hB E u K Y hl ha Z;obtain⟨hM,-,-⟩:=HN.out;obtain⟨cf,a3⟩:∃cf,c-f=cf:=⟨_,rfl⟩;obtain⟨H,b4⟩:∃H,128*cf=H:=⟨_,rfl⟩;have v1:IntKind.i64.wrap ((c:Int)-(f:Int))=(cf:Int):=by rw[show (c:Int)-(f:Int)=(cf:Int) by omega];exact IntWalk.i64_in _ (by omega)
   have v2:IntKind.i64.wrap ((cf:Int)*128)=(H:Int):=by rw[show (cf:Int)*128=(H:Int) by omega];exact IntWalk.i64_in _ (by omega)
   have e7:H+128<=M:=by omega
   have p0:(0:Int)<=(H:Int):=by omega
   have f6:(H:Int)<=(M:Int):=by omega
   have f0:¬M=H:=by omega
   have a8:=HI (qv3 HB.out (x:=x) (by rw[hk]) a1 d8 (by rw[a3];omega));have d6:=HI (show 128*(c-f)=H by rw[a3,b4]);clear hM a3 b4 a1;go_wp2_with fail
   refine a7.out.mono ?_;rintro e w5 ⟨A5,n5,k5,rfl,b8,b5,-⟩;clear a7 r0 r1 r2;have K5:=Kx.below b5 Kx.lt;have k0:=K5.cell 0 rfl;have B5:=bx.trans (b5.mono bx.size);have d3:=own.below B5;have f5:=b8.len;clear T Kx;go_wp2_with (first
    |((with_reducible show wpList _ _ _ _ _ _);refine q51 Cb rfl (.tmp 67) (.tmp 68) rfl wa.1.size wa.1.size M R d3 H (M-H) (M-H) rfl A5 n5 k5 t rfl b8 (by omega) (by omega) ?_;intro w7 d4 b7)
    |fail)
   have J:=a8.out;rw[d6.out,ht] at J;have d5:=(BB.trans (B5.mono BB.size)).trans b7;exact⟨⟨j+1,splice R H t,by omega,by go_num,rfl,d4,by rw[b9];exact J,d5⟩,by simp[intOf];omega⟩
  ·have e2:j=n1:=by omega
   subst e2;rw[AN (by omega)] at hB;have hE:=a9.out R hB;obtain⟨hM,-,I⟩:=HN.out;have T:=own.less hz;have HE:=HI hE;clear hB own hE hM I;go_wp2_with fail
   go_ret3;exact⟨wa.1.size,M,aa,R,rfl,rfl,rfl,T,by have:=HE.out;rw[HN.out.2.1] at this;exact this,BW⟩
end
theorem qiv (x l u:Int)(w:WD):Calls prog 26 #[.int .i64 x,.int .i64 l,.int .i64 u] w λe w'=>e=.returned (.bool (decide (l<=x/\x<=u)))/\w=w':=by
 by_cases h1:l<=x
 ·by_cases h2:x<=u
  ·have hd:decide (l<=x/\x<=u)=true:=AL ⟨h1,h2⟩;rw[hd];go_enter func26,ntmps26
   go_wp2_with fail
   go_ret;exact⟨rfl,rfl⟩
  ·have hd:decide (l<=x/\x<=u)=false:=AH λh=>h2 h.2
   rw[hd];go_enter func26,ntmps26
   go_wp2_with fail
   go_ret;exact⟨rfl,rfl⟩
 ·have hd:decide (l<=x/\x<=u)=false:=AH λh=>h1 h.1
  rw[hd];go_enter func26,ntmps26
  go_wp2_with fail
  go_ret;exact⟨rfl,rfl⟩
theorem qiw (x:Int)(f:0<=x/\x<=2147483647)(w:WD):Calls prog 15 #[.int .i64 x] w λe w'=>e=.returned (.bool true)/\w=w':=by
 have h:=qiv x 0 2147483647 w;rw[AL f] at h;replace h:=HI h;go_enter func15,ntmps15
 go_wp2_with fail
 refine h.out.mono ?_;rintro e u ⟨rfl,rfl⟩;go_wp2_with fail
 go_ret;exact⟨rfl,rfl⟩
def Va (bs:LU)(off:Nat)(x:LU):LU:=splice (bs++zeros (off+x.length-bs.length)) off x
theorem q4z (bs:LU)(off:Nat)(x:LU):(Va bs off x).length=max bs.length (off+x.length):=by
 unfold Va;rw[length_splice _ _ _ (by rw[AD];unfold zeros;rw[BK];omega),AD];unfold zeros;rw[BK];omega
theorem qbg (bs:LU)(off:Nat)(x:LU)(i:Nat):Xe (Va bs off x) i=if off<=i/\i<off+x.length then Xe x (i-off) else Xe bs i:=by
 unfold Va;rw[q86 (by rw[AD];unfold zeros;rw[BK];omega)];split
 ·rfl
 ·by_cases h:i<bs.length
  ·rw[q75 h]
  ·rw[q5n (by omega),q4x (l:=bs) (by omega)];exact qex _ _
theorem qix {bs:LU}{off:Nat}{x:LU}{c:Nat}(h:128*c+128<=off\/off+x.length<=128*c):Za (Va bs off x) c=Za bs c:=qey λj e=>by
 rw[qbg,AB (by omega)]
theorem qnc {bs R x:LU}{off fr at_ i M:Nat}(u:R.length=M)(e:∀i,i<M->Xe R i=Xe bs (128*fr+i))(y:off=128*fr+at_)(hi:128*i+128<=M)(A:at_+x.length<=M):Qv (((splice R at_ x).drop (128*i)).take 128)=Za (Va bs off x) (fr+i):=by
 refine ql9 (λj f=>?_) (by rw[AR];omega);rw[Ob,AA f,q2l,q86 (by omega),qbg];by_cases h:at_<=128*i+j/\128*i+j<at_+x.length
 ·rw[AA h,AA (by omega)];congr 1
  omega
 ·rw[AB h,AB (by omega),e _ (by omega)];congr 1
  omega
def Y7 (off:Int)(q:Nat):Int:=if off<0 then 1 else if off > 8192\/off+q > 8192 then 17 else 0
def Xq (bs:LU)(off:Int)(x:LU):LU:=if x=[] then bs else Va bs off.toNat x
def Au (c:Int)(E:Ending->WD->Int->Prop)(G:Ending->WD->Prop)(e:Ending)(w':WD):Prop:=(c≠0/\E e w' c)\/(c=0/\G e w')
theorem Au.bad {c:Int}{E:Ending->WD->Int->Prop}{G:Ending->WD->Prop}{e:Ending}{w':WD}(h:c≠0)(hE:E e w' c):Au c E G e w':=.inl ⟨h,hE⟩
theorem Au.good {E:Ending->WD->Int->Prop}{G:Ending->WD->Prop}{e:Ending}{w':WD}(h:G e w'):Au 0 E G e w':=.inr ⟨rfl,h⟩
def Ec (b:Nat)(w:WD)(d p:Nat)(U Q V:NP)(D:DM)(P:Pl)(its:List Qb)(X:LI)(ino:Int)(bs:LU)(lim:Nat)(m:Nat)(g:Int)(f:Int->Value)(e:Ending)(w':WD):Prop:=
 ∃r P' its',e=.returned (f r)/\Ft b w' d p U Q V D P' r its' X m g/\Yb D P P' its its' X (λk=>∃c:Int,k=⟨ino,3,c⟩) w w' U V/\Zt P' D its' ino bs/\its'.length<=its.length+lim
def q87 (b:Nat)(w:WD)(d p:Nat)(U Q V:NP)(D:DM)(P:Pl)(its:List Qb)(X:LI)(ino:Int)(bs:LU)(off:Int)(x:LU)(m:Nat)(g:Int)(e:Ending)(w':WD):Prop:=
 Au (Y7 off x.length) (λe w' c=>e=.returned (.tuple #[.int .i64 0,.int .i64 0,.int .i64 c])/\Below w.1.size w w')
  (Ec b w d p U Q V D P its X ino (Xq bs off x) (x.length / 128+2) m g (λr=>.tuple #[.int .i64 r,.int .i64 ((Xq bs off x).length:Int),.int .i64 0])) e w'
section
variable {b:Nat}{w w':WD}{d p:Nat}{U Q V:NP}{D:DM}{P P':Pl}{root r:Int}{its its':List Qb}{X:LI}{m:Nat}{g:Int}
theorem qv4 {ino:Int}{bs x R:LU}{off fr at_ cnt M:Nat}(F:Zt P D its ino bs)(T:Yb D P P' its its' X (λq=>∃i,i<cnt/\q=⟨ino,3,((fr+i:Nat):Int)⟩) w w' U V)
  (y:∀i,i<cnt->Ij P' D (valOf its' ⟨ino,3,((fr+i:Nat):Int)⟩) (Qv (((splice R at_ x).drop (128*i)).take 128)))
  (A:R.length=M) (E:∀i,i<M->Xe R i=Xe bs (128*fr+i)) (B:off=128*fr+at_) (I:M=128*cnt) (H:at_+x.length<=M) (u:off+x.length<=8192):Zt P' D its' ino (Va bs off x):=by
 refine⟨by rw[q4z];have:=F.few;omega,λc G=>?_⟩;by_cases f:fr<=c/\c<fr+cnt
 ·obtain⟨i,rfl⟩:∃i,c=fr+i:=⟨c-fr,by omega⟩;have:=y i (by omega);rw[qnc A E B (by omega) H] at this;exact this
 ·obtain⟨h1,h2⟩:=T.same ⟨ino,3,(c:Int)⟩ (λ⟨i,hi,e⟩=>f (by injection e with _ _ e;omega));rw[h1,qix (by omega)];exact h2 rfl _ (F.at_ c G)
theorem Ft.write {ino:Int}{bs x:LU}{a:Nat}(h:Ft b w d p U Q V D P root its X m g)(F:Zt P D its ino bs)(hb:1<b)(hi:0<=ino/\ino<=2147483647)(off:Int)(ho:i64 off)(B:OA)(q c:Nat)(hs:Sl w B q c x)(hq:q<=4611686018427387904)(hR:Yw P a)(ha:2*(its.length+(q / 128+2))+X.length<=a)(hfew:a<1900) :
  Calls prog 8 #[.pointer (some ⟨p,0,none⟩),.int .i64 root,.int .i64 ino,.int .i64 (bs.length:Int),.int .i64 off,.slice B q c] w (q87 b w d p U Q V D P its X ino bs off x m g):=by
 unfold q87;rw[hs.len];obtain⟨d8,d9⟩:=ho;have O:=hs.len;have e0:=hs.cap;have b9:=hs.max;unfold maxLen at b9;have b6:=F.few;obtain⟨sz,a0⟩:∃sz,bs.length=sz:=⟨_,rfl⟩;rw[a0] at b6 ⊢;have a6:=HI a0;clear a0;by_cases h1:off<0
 ·have T:Y7 off q=1:=AA h1;rw[T];have d1:decide (off<0)=true:=AL h1;go_enter func8,ntmps8
  go_wp2_with fail
  go_ret3;exact .bad (by omega) ⟨rfl,AI _ _⟩
 ·have d1:decide (off<0)=false:=AH h1;obtain⟨o,rfl⟩:∃o:Nat,off=(o:Int):=⟨off.toNat,by omega⟩;by_cases h2:(o:Int) > 8192
  ·have T:Y7 (o:Int) q=17:=by unfold Y7;rw[AB h1,AA (.inl h2)]
   rw[T];have d2:decide ((o:Int) > 8192)=true:=AL h2;go_enter func8,ntmps8
   go_wp2_with fail
   go_ret3;exact .bad (by omega) ⟨rfl,AI _ _⟩
  ·have d2:decide ((o:Int) > 8192)=false:=AH h2;have w1:IntKind.i64.wrap ((o:Int)+(q:Int))=((o+q:Nat):Int):=by rw[show (o:Int)+(q:Int)=((o+q:Nat):Int) by omega];exact IntWalk.i64_in _ (by omega)
   obtain⟨oq,u⟩:∃oq,o+q=oq:=⟨_,rfl⟩;rw[u] at w1;obtain⟨I,c9⟩:∃I:Nat,max (sz:Int) (oq:Int)=(I:Int):=⟨max sz oq,by omega⟩;have d3:decide ((I:Int) > 8192)=decide (8192<I):=by
    by_cases h:8192<I
    ·rw[AL h,AL (show (I:Int) > 8192 by omega)]
    ·rw[AH h,AH (show ¬(I:Int) > 8192 by omega)]
   by_cases h3:8192<I
   ·have T:Y7 (o:Int) q=17:=by unfold Y7;rw[AB h1,AA (.inr (by omega))]
    rw[T];have b4:(I:Int) > 8192:=by omega
    clear d3;go_enter func8,ntmps8
    go_wp2_with fail
    go_ret3;exact .bad (by omega) ⟨rfl,AI _ _⟩
   ·have T:Y7 (o:Int) q=0:=by unfold Y7;rw[AB h1,AB (by omega)]
    rw[T];have b4:¬(I:Int) > 8192:=by omega
    clear d3;by_cases h0:q=0
    ·subst h0;have hx:x=[]:=List.length_eq_zero_iff.1 O;have J:Xq bs (o:Int) x=bs:=AA hx;rw[J,a6.out];go_enter func8,ntmps8
     go_wp2_with fail
     go_ret3;exact .good ⟨root,P,its,rfl,h,Yb.refl D P its X _ U V (AI _ _),F,by omega⟩
    ·have q0:((q:Int)==0)=false:=beq_eq_false_iff_ne.2 (by omega);have q1:decide ((q:Int)=0)=false:=AH (by omega);have hx:¬x=[]:=λe=>h0 (by rw[<-O,e];rfl)
     have J:Xq bs (o:Int) x=Va bs o x:=AB hx;have a9:(Va bs o x).length=I:=by rw[q4z,a6.out,O];omega
     rw[J,a9];have A:=HI (qiw ino hi w);have hA:=HI (h.around F (by omega) o q (by omega) (by omega));obtain⟨Z,y⟩:∃Z,o / 128=Z:=⟨_,rfl⟩;have v1:(o:Int).tdiv 128=(Z:Int):=by rw[Int.tdiv_eq_ediv_of_nonneg (by omega)];omega
     have b8:Z<=64:=by omega
     have a8:=λk hk=>(h.ed.low k hk).2
     have a5:=HI y;have Y:=HI u;have d4:=HI c9;clear J a9 hx y u T d1 d2;go_enter func8,ntmps8
     go_wp2_with fail
     refine A.out.mono ?_;rintro e e1 ⟨rfl,rfl⟩;clear A;go_wp2_with fail
     refine hA.out.mono ?_;rintro e w2 ⟨gb,M,at_,R,rfl,A,E,own,⟨hl,K⟩,b2⟩;clear hA;have d6:=own.whole.1;have y:=a5.out;have u:=Y.out;rw[y] at A E K;obtain⟨cnt,f⟩:∃cnt,(o+q-1) / 128-Z+1=cnt:=⟨_,rfl⟩;rw[f] at A;subst A;have a7:cnt<=64:=by omega
     have d5:cnt<=q / 128+2:=by omega
     have H:at_+q<=128*cnt:=by omega
     have G:o=128*Z+at_:=by omega
     have a1:(0:Int)<=(at_:Int):=by omega
     obtain⟨M,A⟩:∃M,128*cnt=M:=⟨_,rfl⟩;rw[A] at K H hl own;try rw[A]
     have a2:(at_:Int)<=(M:Int):=by omega
     have a3:¬M=at_:=by omega
     have a4:at_<=M:=by omega
     have b0:=hs.below b2;have Hs:=HI (And.intro A (And.intro E (And.intro f G)));have b1:=HI K;have HF:=HI F;have Hh:=HI h;clear A E f G K y u F h hs;go_wp2_with (first
      |((with_reducible show wpList _ _ _ _ _ _);refine q51 Cb rfl (.tmp 59) (.tmp 60) rfl w.1.size gb M R own at_ (M-at_) (M-at_) rfl B q c x rfl b0 (by omega) (by omega) ?_;intro w3 W b3)
      |fail)
     have B3:=b2.trans b3;have h3:=Hh.out.below B3;obtain⟨A,E,f,G⟩:=Hs.out;subst A;have y:=a5.out;have u:=Y.out;have hL:=HI (h3.lay hb ino Z hi (by omega) (some ⟨gb,0,none⟩) (128*cnt) W.sl a7 (λk hk hu=>by have:=a8 k hu;have e:gb=k:=OI hk;omega) hR (a:=a) (by omega) hfew);have Hl:=HI hl;have d0:=O;have b7:=H;clear W E f G y u own b0 a2 a3 a4 hl H;go_wp2_with fail
     refine hL.out.mono ?_;rintro e w4 ⟨r,P',its',rfl,F4,T4,b5,d7⟩;clear hL;go_wp2_with fail
     go_ret3;refine .good ⟨r,P',its',rfl,F4,(T4.wider λk ⟨i,_,e⟩=>⟨_,e⟩).ahead B3,?_,by omega⟩;obtain⟨-,E,f,G⟩:=Hs.out;have u:=Y.out;exact qv4 HF.out T4 b5 Hl.out b1.out G rfl (by omega) (by omega)
end
def Io (bs:LU)(off n:Int):LU:=if off<0\/n<0 then [] else (bs.drop off.toNat).take n.toNat
def Il (off n:Int):Int:=if off<0\/n<0 then 1 else 0
theorem qv5 {R bs:LU}{at_ off k:Nat}(e:at_+k<=R.length)(f:off+k<=bs.length)(h:∀i,i<k->Xe R (at_+i)=Xe bs (off+i)):(R.drop at_).take k=(bs.drop off).take k:=by
 refine qrd (by rw[AR,AR,AS,AS];omega) λi hi=>?_
 rw[AR,AS] at hi;rw[Ob,Ob,AA (by omega),AA (by omega),q2l,q2l];exact h i (by omega)
section
variable {b:Nat}{w:WD}{d p:Nat}{U Q V:NP}{D:DM}{P:Pl}{root:Int}{its:List Qb}{X:LI}{m:Nat}{g:Int}
theorem Ft.read {ino:Int}{bs:LU}(h:Ft b w d p U Q V D P root its X m g)(F:Zt P D its ino bs)(hlen:its.length<=1000)(off n:Int)(ho:i64 off)(hn:i64 n) :
  Calls prog 11 #[.pointer (some ⟨p,0,none⟩),.int .i64 root,.int .i64 ino,.int .i64 (bs.length:Int),.int .i64 off,.int .i64 n] w λe w'=>∃A k c,e=.returned (.tuple #[.slice A k c,.int .i64 (Il off n)])/\Sl w' A k c (Io bs off n)/\Below w.1.size w w'/\∀E,q01 A=some E->w.1.size<=E:=by
 have J:=F.few;obtain⟨a7,a8⟩:=ho;obtain⟨a4,a5⟩:=hn;obtain⟨f,G⟩:∃f,bs.length=f:=⟨_,rfl⟩;rw[G] at J ⊢;have y:=HI G;clear G;have hF:∀(_:off<0\/n<0),Il off n=1/\Io bs off n=[]:=λh=>⟨AA h,AA h⟩
 have W:∀(_:¬(off<0\/n<0)),Il off n=0/\Io bs off n=(bs.drop off.toNat).take n.toNat:=λh=>⟨AB h,AB h⟩
 by_cases h1:off<0
 ·obtain⟨c1,c2⟩:=hF (.inl h1);rw[c1,c2];clear hF W c1 c2;go_enter func11,ntmps11
  go_wp2_with fail
  go_ret2;exact⟨_,_,_,rfl,G6 _,AI _ _,λ_ h=>by cases h⟩
 ·by_cases h2:n<0
  ·obtain⟨c1,c2⟩:=hF (.inr h2);rw[c1,c2];clear hF W c1 c2;go_enter func11,ntmps11
   go_wp2_with fail
   go_ret2;exact⟨_,_,_,rfl,G6 _,AI _ _,λ_ h=>by cases h⟩
  ·obtain⟨c1,c2⟩:=W (by omega);rw[c1,c2];clear hF W c1 c2;have a3:min (f:Int) 8192=(f:Int):=by omega
   obtain⟨o,rfl⟩:∃o:Nat,off=(o:Int):=⟨off.toNat,by omega⟩;rw[AJ];have o0:decide ((o:Int)<0)=false:=AH (by omega);have a9:decide (n<0)=false:=AH (by omega);by_cases T:n=0
   ·subst T;rw[show (0:Int).toNat=0 from rfl,List.take_zero];go_enter func11,ntmps11
    go_wp2_with fail
    go_ret2;exact⟨_,_,_,rfl,G6 _,AI _ _,λ_ h=>by cases h⟩
   ·have b0:(n==0)=false:=beq_eq_false_iff_ne.2 T;have b1:decide (n=0)=false:=AH T;by_cases h4:f<=o
    ·rw[List.drop_eq_nil_of_le (by rw[y.out];exact h4),List.take_nil];have Z:(f:Int)<=(o:Int):=by omega
     go_enter func11,ntmps11
     go_wp2_with fail
     go_ret2;exact⟨_,_,_,rfl,G6 _,AI _ _,λ_ h=>by cases h⟩
    ·have Z:¬(f:Int)<=(o:Int):=by omega
     obtain⟨k,K⟩:∃k:Nat,min n ((f-o:Nat):Int)=(k:Int):=⟨(min n ((f-o:Nat):Int)).toNat,by omega⟩;have w1:IntKind.i64.wrap ((f:Int)-(o:Int))=((f-o:Nat):Int):=by rw[show (f:Int)-(o:Int)=((f-o:Nat):Int) by omega];exact IntWalk.i64_in _ (by omega)
     obtain⟨so,O⟩:∃so,f-o=so:=⟨_,rfl⟩;rw[O] at w1 K;have a2:1<=k:=by omega
     have u:o+k<=f:=by omega
     have e1:(bs.drop o).take n.toNat=(bs.drop o).take k:=by
      by_cases a6:n<=(so:Int)
      ·rw[show n.toNat=k by omega]
      ·rw[AN (by rw[AS,y.out];omega),AN (by rw[AS,y.out];omega)]
     rw[e1];have hA:=HI (h.around F hlen o k a2 (by omega));have B:∀(M at_:Nat) (R:LU),M=128*((o+k-1) / 128-o / 128+1)->at_=o-128*(o / 128)->R.length=M->(∀i,i<M->Xe R i=Xe bs (128*(o / 128)+i))->at_+k<=M/\(R.drop at_).take k=(bs.drop o).take k:=λM at_ R hM ha hl Y=>by
      have h5:at_+k<=M:=by omega
      refine⟨h5,qv5 (by omega) (by rw[y.out];exact u) λi hi=>?_⟩;rw[Y _ (by omega)];congr 1
      omega
     have Hk:=HI u;clear O e1 h h4 T u;go_enter func11,ntmps11
     go_wp2_with fail
     refine hA.out.mono ?_;rintro e w2 ⟨E,M,at_,R,rfl,hM,ha,own,⟨hl,Y⟩,b2⟩;have a1:=HI own.whole.1;obtain⟨f1,f2⟩:=B M at_ R hM ha hl Y;have u:=Hk.out;have a0:at_<=o:=by omega
     have v1:IntKind.i64.wrap ((at_:Int)+(k:Int))=((at_+k:Nat):Int):=by rw[show (at_:Int)+(k:Int)=((at_+k:Nat):Int) by omega];exact IntWalk.i64_in _ (by omega)
     obtain⟨H,I⟩:∃H,at_+k=H:=⟨_,rfl⟩;rw[I] at v1 f1;have v2:(0:Int)<=(at_:Int):=by omega
     have v3:(at_:Int)<=(H:Int):=by omega
     have v4:(H:Int)<=(M:Int):=by omega
     have v5:¬M=at_:=by omega
     have v6:H-at_=k:=by omega
     have v7:(0:Int)<=(H:Int):=by omega
     have hS:Sl w2 (some ⟨E,at_,none⟩) k (M-at_) ((bs.drop o).take k):=by
      rw[<-f2];have:=(own.sl.drop (k:=at_) (by omega)).take (k:=k) (by omega);rw[AB v5] at this;have e:Option.map (λx:Addr=>x.add at_) (some ⟨E,0,none⟩)=some ⟨E,at_,none⟩:=by simp[Addr.add];omega
      rw[e] at this;exact this
     have HS:=HI hS;clear hA hM ha hl Y own I hS f1 f2 B u a0;go_wp2_with fail
     go_ret2;exact⟨_,_,_,rfl,HS.out,b2,λk K=>by have K:E=k:=OI K;rw[<-K];exact a1.out⟩
end
theorem qde (n:Nat)(hn:Qa n)(w:WD)(W:Tab w) :
  Calls prog 6 #[.int .i64 n] w λe w'=>∃p d U D,e=.returned (.pointer (some ⟨p,0,none⟩))/\Ed w.1.size w' d p U D (Pl.fresh n) [] 100 2/\Below w.1.size w w'/\(∀k,U k->w.1.size<=k):=by
 have hG:=W.1;have h1:32<=n:=hn.1;have h2:n<=2048:=hn.2;go_enter func6,ntmps6
 go_wp2_with fail
 refine (qwg n hn w).mono ?_;rintro e w1 ⟨d,rfl,R,G⟩;have Y:=W.below G hG;go_wp2_with fail
 refine (qi9 R ⟨rfl,rfl⟩ (by omega) Y (qjy n) (by omega)).mono ?_;rintro e I ⟨p,q,rfl,u⟩;have F:(DM.mk0 n).n=n:=rfl;rw[F] at u;have y:=(q6u (Xu n) (qjy n)).mono (m':=100) (by have:=qyt (n:=n) h2;omega);have H:=qmw h1 h2;obtain⟨O,B⟩:∃D,(DM.mk0 n).Qy (Xu n)=D:=⟨_,rfl⟩;rw[B] at u y H;obtain⟨P,K⟩:∃P,Pl.fresh n=P:=⟨_,rfl⟩;have hg:P.S.gen=1:=by rw[<-K];rfl
 rw[K] at u H;have A:=qys (b:=w.1.size) u (λk f=>f) G.size;have t2:=Y.turned u.turn (by omega);have z1:=G.size;have J:Below w.1.size w I:=G.trans (u.turn.below (λk f=>f) z1);obtain⟨S0,S,A⟩:=A;obtain⟨T,M⟩:∃T:NP,(λk=>w.1.size<=k/\k<I.1.size)=T:=⟨_,rfl⟩;have E:∀k,T k->w.1.size<=k/\k<I.1.size:=λk f=>by rw[<-M] at f;exact f
 rw[M] at A;have Z:Ed w.1.size I d p T O P [] 100 2:=⟨⟨S0,S,T,A,A.sub,A.Dw⟩,E,t2,⟨_,_,H⟩,y,by omega⟩;clear u R M B H y F;go_wp2_with fail
 go_ret;exact⟨p,d,T,O,rfl,K▸Z,J,λk f=>(E k f).1⟩
theorem qdf (x:Int)(m:Nat)(u:-9223372036854775808<=x/\x<=9223372036854775807)(f:0<m)(B:m<=1000000)(w:WD) :
  Calls prog 7 #[.int .i64 x,.int .i64 (m:Int)] w λe w'=>e=.returned (.int .i64 (md x m:Int))/\w=w':=by
 obtain⟨y,A⟩:=u;go_enter func7,ntmps7
 have hn:¬((m:Int)=0):=by omega
 by_cases h0:x<0
 ·have hm:=qz2 m h0 (by omega);go_wp2;go_ret;exact⟨q9u (by first|exact hm|simp),rfl⟩
 ·have hm:=qz1 m (show 0<=x by omega) (by omega);go_wp2;go_ret;exact⟨q9u (by first|exact hm|simp),rfl⟩
section
variable {b:Nat}{w w':WD}{d p:Nat}{U Q V:NP}{D:DM}{P:Pl}{root:Int}{its:List Qb}{X:LI}{m:Nat}{g:Int}
theorem qvx {n:Nat}(E:Ed b w d p U D (Pl.fresh n) [] m g):Ft b w d p U (λ_=>False) U D (Pl.fresh n) 0 [] [] m g:=
 ⟨E,E.Qc3,.inl ⟨rfl,rfl⟩,List.Pairwise.nil,λx f=>(by cases f),λa e=>(by cases e)⟩
theorem qlb {n a:Nat}(hn:2+2*Qj n+a+20<=n):Yw (Pl.fresh n) a:=by
 unfold Yw;rw[show (Pl.fresh n).C.kept=0 from qr9 n,qla n,show (Pl.fresh n).C.first=2+2*Qj n by unfold Ct.first;rw[qla n]];omega
theorem qf0 (P:Pl)(D:DM)(ino:Int):Zt P D [] ino []:=qrg λx e=>(by cases e)
end
theorem Qcu:Xq [] 3 [97,98]=[0,0,0,97,98]:=by decide
theorem Qcv:Io [0,0,0,97,98] 0 9=[0,0,0,97,98]:=by decide
theorem Qcw:Il 0 9=0:=by decide
theorem Qcx:(Xq [] 8191 [97]).length=8192:=by
 unfold Xq;rw[AB (by decide),q4z];rfl
theorem q87.yes {b:Nat}{w w':WD}{d p:Nat}{U Q V:NP}{D:DM}{P:Pl}{its:List Qb}{X:LI}{m:Nat}{g:Int}{ino:Int}{bs x:LU}{off:Int}{e:Ending}(h:q87 b w d p U Q V D P its X ino bs off x m g e w')(hc:Y7 off x.length=0):Ec b w d p U Q V D P its X ino (Xq bs off x) (x.length / 128+2) m g (λr=>.tuple #[.int .i64 r,.int .i64 ((Xq bs off x).length:Int),.int .i64 0]) e w':=h.elim (λh=>absurd hc h.1) (·.2)
theorem q87.no {b:Nat}{w w':WD}{d p:Nat}{U Q V:NP}{D:DM}{P:Pl}{its:List Qb}{X:LI}{m:Nat}{g:Int}{ino:Int}{bs x:LU}{off:Int}{e:Ending}(h:q87 b w d p U Q V D P its X ino bs off x m g e w')(hc:Y7 off x.length≠0):e=.returned (.tuple #[.int .i64 0,.int .i64 0,.int .i64 (Y7 off x.length)])/\Below w.1.size w w':=h.elim (·.2) (λh=>absurd h.1 hc)
theorem qiy (w:WD)(ht:Tab w):Calls prog 5 #[] w λe w'=>e=.returned (.bool true)/\Below w.1.size w w':=by
 have hG:=ht.1;have hM:=HI (qde 64 ⟨by omega,by omega⟩ w ht);have hR:Yw (Pl.fresh 64) 40:=qlb (by decide);obtain⟨P,hP⟩:∃P,Pl.fresh 64=P:=⟨_,rfl⟩;have kc:=λ(w:WD) (C:Array Value) (n c:Nat)=>Lib.run_convert_bytes_const (P:=prog) w 22 5 C n c underlying22 underlying5
 go_enter func5,ntmps5
 go_wp2_with fail
 refine hM.out.mono ?_;rintro e B ⟨p,d,U,D,rfl,E2,Y,hU⟩;clear hM;have S2:=qvx E2;rw[hP] at S2 hR;have b3:Below B.1.size B (B.alloc (.cells #[.int .u8 97,.int .u8 98] 5 (2,3))):=Ql;have s3:Sl (B.alloc (.cells #[.int .u8 97,.int .u8 98] 5 (2,3))) (some ⟨B.1.size,0,none⟩) 2 2 [97,98]:=qi4 B 5 (2,3) [97,98] #[.int .u8 97,.int .u8 98] rfl (by simp);have J:=HI ((S2.below b3).write (qf0 P D 5) hG ⟨by omega,by omega⟩ 3 ⟨by omega,by omega⟩ _ 2 2 s3 (by omega) hR (by simp) (by omega));clear E2;go_wp2_with fail
 refine J.out.mono ?_;rintro e w4 O;obtain⟨r4,P4,f,rfl,Z,T4,F4,W⟩:=O.yes (by decide);rw[Qcu] at F4 ⊢;have W:f.length<=2:=W;have B4:Below w.1.size w w4:=(Y.trans (b3.mono Y.size)).trans (T4.turn.below hU (AZ Y.size b3.size));have a0:∀k,U k->k<w4.1.size:=λk hk=>(Z.ed.low k hk).2
 have I:Yw P4 40:=hR.to T4;have F6:Zt P4 D f 6 []:=T4.file (qf0 P D 6) λc ⟨c',e⟩=>by injection e with e;omega
 have y:=Z.read F4 (by omega) 0 9 ⟨by omega,by omega⟩ ⟨by omega,by omega⟩;rw[Qcv,Qcw,show ((([0,0,0,97,98]:LU).length:Nat):Int)=5 from rfl] at y;replace y:=HI y;have u:=HI B4;clear J O b3 s3 S2 T4 F4 hR Y B4;go_wp2_with fail
 refine y.out.mono ?_;rintro e E ⟨A5,n5,c5,rfl,s5,b5,h5⟩;have A:Below E.1.size E (E.alloc (.cells #[.int .u8 97] 5 (1,2))):=Ql;have s6:Sl (E.alloc (.cells #[.int .u8 97] 5 (1,2))) (some ⟨E.1.size,0,none⟩) 1 1 [97]:=qi4 E 5 (1,2) [97] #[.int .u8 97] rfl (by simp);have S5:=Z.below b5;have K:=HI ((S5.below A).write F6 hG ⟨by omega,by omega⟩ 8192 ⟨by omega,by omega⟩ _ 1 1 s6 (by omega) I (by show 2*(f.length+2)+0<=40;omega) (by omega));clear y Z;go_wp2_with fail
 refine K.out.mono ?_;rintro e F R;obtain⟨rfl,G⟩:=R.no (by decide);have S7:=(S5.below A).below G;have s7:=(s5.below A).below G;have H:Below F.1.size F (F.alloc (.cells #[.int .u8 97] 5 (1,2))):=Ql;have s8:Sl (F.alloc (.cells #[.int .u8 97] 5 (1,2))) (some ⟨F.1.size,0,none⟩) 1 1 [97]:=qi4 F 5 (1,2) [97] #[.int .u8 97] rfl (by simp);have M:=HI ((S7.below H).write F6 hG ⟨by omega,by omega⟩ 8191 ⟨by omega,by omega⟩ _ 1 1 s8 (by omega) I (by show 2*(f.length+2)+0<=40;omega) (by omega));have a1:=s7.below H;clear K R s5 s6 s7;go_wp2_with fail
 refine M.out.mono ?_;rintro e w9 T;obtain⟨r9,P9,a2,rfl,S9,T9,F9,a3⟩:=T.yes (by decide);rw[Qcx];have z5:=b5.size;have z6:=A.size;have z7:=G.size;have z8:=H.size;have B8:=((((u.out.trans (b5.mono u.out.size)).trans (A.mono (AZ u.out.size z5))).trans (G.mono (AZ u.out.size (AZ z5 z6)))).trans (H.mono (AZ u.out.size (AZ z5 (AZ z6 z7)))));have B9:=B8.trans (T9.turn.below hU B8.size);have s9:=a1.turned T9.Ah (λg hg hu=>by have:=a0 g hu;have:=h5 g hg;omega);have hc:=qwn s9;clear M T b5 A G H z5 z6 z7 z8 u B8 S5 S7 kc;go_wp2_with fail
 go_ret;exact⟨rfl,B9⟩
