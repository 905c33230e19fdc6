/- The code's file: Resize where bytes go -/
import Derived.Test.YtloolbmdiimanaaGreatDoorGv44
namespace Go.Proofs.YtloolbmdiimanaaGreatDoor
open Go Go.RowKit Go.Proofs Tryz
set_option maxHeartbeats 8000000
set_option maxRecDepth 100000
theorem qh5 (bs:LU)(n c:Nat):Qv ((Za bs c).take (n-128*c))=Za (bs.take n) c:=by
 refine ql9 (λj e=>?_) (by have:=qbc bs c;rw[AR];omega);rw[Ob,Ob,qbb,AA e];by_cases h:128*c+j<n
 ·rw[AA h,AA (by omega)]
 ·rw[AB h,AB (by omega)]
theorem qnd (bs:LU)(c:Nat):Qv (Za bs c)=Za bs c:=qn8 _
theorem qxs {bs:LU}{n c:Nat}(h:128*c+128<=n):Za (bs.take n) c=Za bs c:=qey λj e=>by rw[Ob,AA (by omega)]
theorem qh6 {ino:Int}:∀(L:List Qb) (lo k:Nat),Qg L->(∀x∈L,∃c:Nat,x.k=⟨ino,3,(c:Int)⟩/\lo<=c/\c<lo+k)->L.length<=k
 |[],_,_,_,_=>AW _
 |x::r,lo,k,hr,hL=>by
  obtain⟨h1,h2⟩:=List.pairwise_cons.1 hr;obtain⟨c,B,E,F⟩:=hL x (AP ..);have:=qh6 r (c+1) (lo+k-(c+1)) h2 λy u=>by
   obtain⟨A,e,G,H⟩:=hL y (AO _ u);have f:=h1 y u;rw[Kd.Vh,B,e] at f;dsimp only at f;exact⟨A,e,by omega,by omega⟩
  rw[AX];omega
section
variable {b:Nat}{w w':WD}{d p:Nat}{U Q V:NP}{D:DM}{P:Pl}{root:Int}{its:List Qb}{X:LI}{m:Nat}{g:Int}
theorem Ft.resize {ino:Int}{bs:LU}{ro:Nat}(h:Ft b w d p U Q V D P root its X m g)(F:Zt P D its ino bs)(hb:1<b)(hi:0<=ino/\ino<=2147483647)(n:Nat)(hn:n<bs.length)(hR:Yw P ro)(hro:2*(its.length+64)+X.length<=ro)(hfew:ro<1900) :
  Calls prog 10 #[.pointer (some ⟨p,0,none⟩),.int .i64 root,.int .i64 ino,.int .i64 (bs.length:Int),.int .i64 (n:Int)] w (Ec b w d p U Q V D P its X ino (bs.take n) 64 m g (λr=>.tuple #[.int .i64 r,.int .i64 0])):=by
 have e5:=F.few;obtain⟨sz,b3⟩:∃sz,bs.length=sz:=⟨_,rfl⟩;rw[b3] at e5 hn ⊢;have f4:=HI b3;clear b3;obtain⟨fr,d3⟩:∃fr,n / 128=fr:=⟨_,rfl⟩;have q1:(n:Int).tdiv 128=(fr:Int):=by rw[Int.tdiv_eq_ediv_of_nonneg (by omega)];omega
 obtain⟨L,hL⟩:∃L,within ⟨ino,3,(fr:Int)⟩ ⟨ino,3,((2147483647:Nat):Int)⟩ its=L:=⟨_,rfl⟩;have u:∀x∈L,x∈its/\∃c:Nat,x.k=⟨ino,3,(c:Int)⟩/\fr<=c/\c<64:=λx M=>by
  obtain⟨h1,c,h2,h3,h4⟩:=q76.1 (show x∈within ⟨ino,3,(fr:Int)⟩ ⟨ino,3,((2147483647:Nat):Int)⟩ its by rw[hL];exact M);refine⟨h1,c,h2,h3,?_⟩;obtain⟨_,B,_⟩:=F.item h.Qg h1 h2 h4;have:=qv1 B;have:=F.few;omega
 have hI:=HI (q85 (h.told (by omega)) h.ed.tab hL (λx M=>by
  obtain⟨h1,c,f,_,hc⟩:=u x M;exact (F.item h.Qg h1 f (by omega)).1))
 have b2:Go.Proofs.YtloolbmdiimanaaGreatDoor.Qg L:=by rw[<-hL];exact h.Qg.filter _
 have f5:L.length<=64:=qh6 (ino:=ino) L 0 64 b2 λx M=>by
  obtain⟨_,c,f,_,hc⟩:=u x M;exact⟨c,f,AW _,by omega⟩
 have a7:∀j,j<L.length->∀y∈L.take j,y.k.off≠(Qu L j).k.off:=λj hj=>qh4 b2 (λx M=>by obtain⟨_,c,f,_⟩:=u x M;exact⟨c,f⟩) hj
 have a5:∀x∈its,∀c:Nat,x.k=⟨ino,3,(c:Int)⟩->fr<=c->c<=2147483647->x∈L:=λx M c f h1 h2=>by
  rw[<-hL];exact q76.2 ⟨M,c,f,h1,h2⟩
 have a6:=λk f=>(h.ed.low k f).2
 have b9:=HI a7;have a4:=HI u;have b6:=HI a5;have HF:=HI F;have e3:=HI h.Qg;have b8:=HI d3;have g1:¬(n:Int)<0:=by omega
 have g2:¬(n:Int) > 8192:=by omega
 have g3:¬(n:Int)>=(sz:Int):=by omega
 have e6:fr<=64:=by omega
 rw[show ((2147483647:Nat):Int)=2147483647 from rfl] at hI;clear a7 u a5 hL F b2 d3;go_enter func10,ntmps10
 go_wp2_with fail
 refine hI.out.mono ?_;rintro e wa ⟨A,n1,c1,rfl,a2,ba⟩;clear hI;have e9:=a2.len (by omega);rw[AF] at e9;obtain⟨f1,e8⟩:=a2.bounds (by omega);unfold maxLen at e8;have ha:=h.below ba;have HC:=HI a2;clear a2;go_wp2_with fail
 go_loopw [1,13,41] (λrv ev iv wr=>∃(j:Nat) (r:Int) (P':Pl) (its':List Qb),j<=n1/\rv=.int .i64 r/\ev=.int .i64 0/\iv=.int .i64 (j:Int)/\Ft b wr d p U Q V D P' r its' X m g/\Yb D P P' its its' X (λq=>∃y∈L.take j,q=y.k) wa wr U V/\(∀y∈L.take j,∀c:Nat,y.k=⟨ino,3,(c:Int)⟩->Ij P' D (valOf its' ⟨ino,3,(c:Int)⟩) (Za (bs.take n) c))/\its'.length<=its.length+j) (λ_ _ iv _=>n1-(intOf iv).toNat)
 case atStart=>exact⟨0,root,P,its,AW _,rfl,rfl,rfl,ha,Yb.refl D P its X _ U V (AI _ _),λy H=>(by cases H),by omega⟩
 case round=>
  obtain⟨j,r,P',its',hj,rfl,rfl,rfl,S,T,O,g4⟩:=hrel;by_cases g5:j<n1
  ·have a3:j<L.length:=by omega
   have b4:L.take (j+1)=L.take j++[Qu L j]:=by rw[List.take_add_one,Et a3];rfl
   have B:=b9.out j a3;have d9:Qu L j∈L:=List.mem_of_getElem? (Et a3);obtain⟨g1,W,p1,q1,rfl,f9,g0,G,a0,E⟩:=(HC.out.turned T.Ah (λk f=>a6 k f)).at_ (by omega) (Qba a3);obtain⟨x,M⟩:∃x,Qu L j=x:=⟨_,rfl⟩;rw[M] at b4 B d9 G a0 E;obtain⟨f0,c,f,f8,f7⟩:=a4.out x d9;have r0:=G 0 _ rfl;have r1:=G 1 _ rfl;have r2:=G 2 _ rfl;rw[Nat.add_zero] at r0;rw[show (Om x).c=(c:Int) by show x.k.off=_;rw[f]] at r0;change Sl wr W p1 q1 (Vq x.v) at a0;change Vq x.v≠[]->_ at E;change wr.cell? ⟨g1,j*3+2,none⟩=some (.int .i64 (J4 x.v)) at r2;have K:¬∃y∈L.take j,(⟨ino,3,(c:Int)⟩:Kd)=y.k:=λ⟨y,H,e⟩=>B y H (by rw[<-e,f])
   obtain⟨b5,d7⟩:=T.same ⟨ino,3,(c:Int)⟩ K;have d8:valOf its ⟨ino,3,(c:Int)⟩=some x.v:=by rw[<-f];exact q6p e3.out x f0
   have I:Ij P' D (valOf its' ⟨ino,3,(c:Int)⟩) (Za bs c):=by
    rw[b5];exact d7 rfl _ (HF.out.at_ c (by omega))
   obtain⟨-,d5,J⟩:=qbf (by rw[b5,d8] at I;exact I);obtain⟨l,hl⟩:∃l,Vq x.v=l:=⟨_,rfl⟩;obtain⟨a,ha⟩:∃a,J4 x.v=a:=⟨_,rfl⟩;rw[hl] at a0 J E;rw[ha] at r2 J;have R:(a=0/\l=Za bs c)\/(a≠0/\P'.dat D a=(0,Za bs c)):=J.imp id λh=>⟨h.1,h.2.2.2⟩
   have e0:(0:Int)<=(j:Int):=by omega
   have e1:(j:Int)<(n1:Int):=by omega
   obtain⟨ps,d6⟩:∃ps,128*c=ps:=⟨_,rfl⟩;obtain⟨lf,d4⟩:∃lf,n-ps=lf:=⟨_,rfl⟩;have v1:IntKind.i64.wrap ((c:Int)*128)=(ps:Int):=by rw[show (c:Int)*128=(ps:Int) by omega];exact IntWalk.i64_in _ (by omega)
   have v2:IntKind.i64.wrap ((n:Int)-(ps:Int))=(n:Int)-(ps:Int):=IntWalk.i64_in _ (by omega);have v3:max ((n:Int)-(ps:Int)) 0=(lf:Int):=by omega
   have b1:lf<=128:=by have:=b8.out;omega
   have bx:Below wr.1.size wr (wr.alloc (.cells #[.int .i64 (c:Int),.slice W p1 q1,.int .i64 a] 55)):=Ql;have Kx:IB (wr.alloc (.cells #[.int .i64 (c:Int),.slice W p1 q1,.int .i64 a] 55)) wr.1.size [.int .i64 (c:Int),.slice W p1 q1,.int .i64 a]:=IB.new wr _ _;have k0:=Kx.cell 0 rfl;have k1:=Kx.cell 1 rfl;have k2:=Kx.cell 2 rfl;have d2:=HI ((S.below bx).shorten hb ino (c:Int) hi ⟨by omega,by omega⟩ W p1 q1 (a0.below bx) (λh0 k Y hu=>by have:=(E h0 k Y).1;have:=a6 k hu;omega) R lf b1 (qnd bs c) I (hR.to T) (ro:=ro) (by omega) (by omega) (by omega));have b7:=HI (show Qv ((Za bs c).take lf)=Za (bs.take n) c by rw[<-d4,<-d6];exact qh5 bs n c);have HT:=HI T;have a8:=HI O;have e2:=HI f;have c9:=HI b4;have f3:=HI B;clear T O d4 d6 E J R I K B d5 a0 G b5 d7 d8 hl ha M f b4;go_wp2_with fail
   refine d2.out.mono ?_;rintro e w5 ⟨r5,P5,a1,rfl,S5,T5,d0,f2⟩;clear d2 r0 r1 r2 k0 k1 k2;have f:=e2.out;rw[b7.out] at d0;have hT:Yb D P P5 its a1 X (λq=>∃y∈L.take (j+1),q=y.k) wa w5 U V:=(HT.out.trans (T5.ahead bx) λ_ h=>h).wider λq hq=>by
    rw[c9.out];rcases hq with⟨y,H,e⟩|e
    ·exact⟨y,List.mem_append_left _ H,e⟩
    ·exact⟨x,AU _ (List.mem_singleton.2 rfl),by rw[e,f]⟩
   have d1:∀y∈L.take (j+1),∀c':Nat,y.k=⟨ino,3,(c':Int)⟩->Ij P5 D (valOf a1 ⟨ino,3,(c':Int)⟩) (Za (bs.take n) c'):=λy H c' Y=>by
    by_cases a9:c'=c
    ·rw[a9];exact d0
    ·rw[c9.out] at H;rcases List.mem_append.1 H with H|H
     ·obtain⟨s1,s2⟩:=T5.same (⟨ino,3,(c':Int)⟩:Kd) (λe=>a9 (by injection e with _ _ e;omega));rw[s1];exact s2 rfl _ (a8.out y H c' Y)
     ·rw[List.mem_singleton.1 H,f] at Y;exact absurd (by injection Y with _ _ e;omega) a9
   clear v1 v2 v3;go_wp2_with fail
   exact⟨⟨j+1,r5,P5,a1,by omega,rfl,rfl,by go_num,S5,hT,d1,by omega⟩,by simp[intOf];omega⟩
  ·have e7:j=n1:=by omega
   subst e7;rw[AN (by omega)] at T O;have HT:=HI T;have a8:=HI O;clear T O;go_wp2_with fail
   go_ret2;have hW:=(HT.out.wider (N':=λk=>∃c:Int,k=⟨ino,3,c⟩) λk ⟨y,H,e⟩=>by
    obtain⟨_,c,f,_⟩:=a4.out y H;exact⟨(c:Int),by rw[e,f]⟩).ahead ba
   have e4:∀c:Nat,c<=2147483647->Ij P' D (valOf its' ⟨ino,3,(c:Int)⟩) (Za (bs.take n) c):=λc hc=>by
    by_cases b0:∃y∈L,(⟨ino,3,(c:Int)⟩:Kd)=y.k
    ·obtain⟨y,H,e⟩:=b0;exact a8.out y H c e.symm
    ·obtain⟨h1,h2⟩:=HT.out.same ⟨ino,3,(c:Int)⟩ b0;rw[h1];have hF:=HF.out.at_ c hc;refine (h2 rfl _ hF).inj ?_;by_cases f6:c<fr
     ·exact (qxs (by have:=b8.out;omega)).symm
     ·have Z:Za bs c=[]:=Classical.byContradiction λB=>by
       obtain⟨x,M,f⟩:=HF.out.there hc B;exact b0 ⟨x,b6.out x M c f (by omega) hc,f.symm⟩
      rw[Z,<-qh5,Z,List.take_nil];rfl
   exact⟨r,P',its',rfl,S,hW,⟨by rw[AR];omega,e4⟩,by omega⟩
end
def Dv (e:Int):Int:=if e<0 then 1 else if e > 8192 then 17 else 0
def Qa7 (root c:Int)(e:Ending):Prop:=∃r:Int,e=.returned (.tuple #[.int .i64 r,.int .i64 c])/\(c=0->r=root)
theorem q8v (p:OA)(root ino:Int)(size:Nat)(f:Int)(_A:size<=8192)(h:f<0\/(size:Int)<=f)(w:WD) :
  Calls prog 10 #[.pointer p,.int .i64 root,.int .i64 ino,.int .i64 (size:Int),.int .i64 f] w λe w'=>Qa7 root (Dv f) e/\w=w':=by
 by_cases h1:f<0
 ·have u:Dv f=1:=AA h1;rw[u];go_enter func10,ntmps10
  go_wp2_with fail
  go_ret2;exact⟨⟨0,rfl,λh=>by omega⟩,rfl⟩
 ·by_cases h2:f > 8192
  ·have u:Dv f=17:=by unfold Dv;rw[AB h1,AA h2]
   rw[u];go_enter func10,ntmps10
   go_wp2_with fail
   go_ret2;exact⟨⟨0,rfl,λh=>by omega⟩,rfl⟩
  ·have u:Dv f=0:=by unfold Dv;rw[AB h1,AB h2]
   rw[u];have y:(size:Int)<=f:=by omega
   go_enter func10,ntmps10
   go_wp2_with fail
   go_ret2;exact⟨⟨root,rfl,λ_=>rfl⟩,rfl⟩
section
variable {b:Nat}{w w':WD}{d p:Nat}{U Q V:NP}{D:DM}{P P':Pl}{root r:Int}{its its':List Qb}{X:LI}{m:Nat}{g:Int}
end
def q4c (L:List Qb):LI:=(L.map λx=>J4 x.v).filter λa=>a != 0
theorem qiz (L:List Qb)(x:Qb):q4c (L++[x])=if J4 x.v=0 then q4c L else q4c L++[J4 x.v]:=by
 unfold q4c;rw[List.map_append,List.filter_append];by_cases h:J4 x.v=0
 ·rw[AA h,BJ,List.map_nil,List.filter_cons,h];simp
 ·rw[AB h,BJ,List.map_nil,List.filter_cons,AA (by simpa using h)];rfl
theorem qne (L:List Qb):(q4c L).length<=L.length:=by
 unfold q4c;refine AZ (List.length_filter_le _ _) ?_;rw[AF];exact AE _
theorem qj0 {w:WD}{p:Nat}{R:Int->Nd × Int}{root ino:Int}{its L:List Qb}(T:Told w p R root its)(ht:Tab w)(hL:within ⟨ino,3,0⟩ ⟨ino,3,2147483647⟩ its=L)(a4:∀x∈L,Yl x.v=true) :
  Calls prog 9 #[.pointer (some ⟨p,0,none⟩),.int .i64 root,.int .i64 ino] w λe w'=>∃A n c,e=.returned (.tuple #[.slice A n c,.int .i64 0])/\Qz w' w.1.size 3 1 A n c ((q4c L).map iv)/\Below w.1.size w w':=by
 have a3:=T.len;have b5:L.length<=1000:=by
  rw[<-hL];exact AZ (List.length_filter_le _ _) a3
 have hI:=HI (q85 T ht hL a4);clear T hL a4;go_enter func9,ntmps9
 go_wp2_with fail
 refine hI.out.mono ?_;rintro e K ⟨A,n1,c1,rfl,B,ba⟩;clear hI;have b2:=B.len (by omega);rw[AF] at b2;obtain⟨b3,b1⟩:=B.bounds (by omega);unfold maxLen at b1;have HC:=HI B;have hz:=ba.size;clear B;go_wp2_with fail
 go_loopw [10,25] (λbv J wr=>∃(j:Nat) (M:OA) (F c2:Nat),j<=n1/\J=.int .i64 (j:Int)/\bv=.slice M F c2/\Qz wr K.1.size 3 1 M F c2 ((q4c (L.take j)).map iv)/\F<=j/\Below K.1.size K wr) (λ_ J _=>n1-(intOf J).toNat)
 case atStart=>exact⟨0,none,0,0,AW _,rfl,rfl,I5 _ _ _ _,AE _,AI _ _⟩
 case round=>
  obtain⟨j,M,F,c2,hj,rfl,rfl,own,b9,BB⟩:=hrel;by_cases b8:j<n1
  ·have a2:j<L.length:=by omega
   have a6:L.take (j+1)=L.take j++[Qu L j]:=by rw[List.take_add_one,Et a2];rfl
   obtain⟨g1,W,p1,q1,rfl,b6,b7,u,a5,E⟩:=(HC.out.below BB).at_ (by omega) (Qba a2);obtain⟨x,hx⟩:∃x,Qu L j=x:=⟨_,rfl⟩;rw[hx] at a6 u a5 E;have r0:=u 0 _ rfl;have r1:=u 1 _ rfl;have r2:=u 2 _ rfl;rw[Nat.add_zero] at r0;change wr.cell? ⟨g1,j*3,none⟩=some (.int .i64 x.k.off) at r0;change wr.cell? ⟨g1,j*3+2,none⟩=some (.int .i64 (J4 x.v)) at r2;have f:=qiz (L.take j) x;rw[<-a6] at f;obtain⟨O,Z⟩:∃O,x.k.off=O:=⟨_,rfl⟩;obtain⟨a,ha⟩:∃a,J4 x.v=a:=⟨_,rfl⟩;rw[Z] at r0;rw[ha] at r2 f;have e0:(0:Int)<=(j:Int):=by omega
   have e1:(j:Int)<(n1:Int):=by omega
   have bx:Below wr.1.size wr (wr.alloc (.cells #[.int .i64 O,.slice W p1 q1,.int .i64 a] 55)):=Ql;have Kx:IB (wr.alloc (.cells #[.int .i64 O,.slice W p1 q1,.int .i64 a] 55)) wr.1.size [.int .i64 O,.slice W p1 q1,.int .i64 a]:=IB.new wr _ _;have k2:=Kx.cell 2 rfl;have y:=BB.trans (bx.mono BB.size);have H:=own.below bx;have c9:IntKind.i64.wrap ((j:Int)+1)=((j+1:Nat):Int):=IntWalk.i64_in _ (by omega);clear u a5 E Z ha hx own;by_cases h0:a=0
   ·rw[AA h0] at f;subst h0;have I:=HI f;clear f;go_wp2_with fail
    exact⟨⟨j+1,M,F,c2,by omega,by go_num,rfl,by rw[I.out];exact H,by omega,y⟩,by simp[intOf];omega⟩
   ·rw[AB h0] at f;have I:=HI f;have a0:(a==0)=false:=beq_eq_false_iff_ne.2 h0;have a1:decide (a=0)=false:=AH h0;generalize d0:wr.alloc (.cells #[.int .i64 O,.slice W p1 q1,.int .i64 a] 55)=wx at *;have l9:=qf2 wx a;have bl:Below wx.1.size wx (wx.alloc (.cells #[.int .i64 a] 3)):=Ql;have G:=H.below bl;have z9:K.1.size<=(wx.alloc (.cells #[.int .i64 a] 3)).1.size:=(y.trans (bl.mono y.size)).size;have a9:=G.Qc;clear f;go_wp2_with (first
     |(at_builtin;refine qby rfl _ _ rfl K.1.size M F c2 _ rfl G _ 1 a rfl l9 (by omega) z9 ?_;intro A1 a8 w1 a7 T1 b4)
     |fail)
    have B1:Below K.1.size K w1:=(y.trans (bl.mono y.size)).trans (T1.below (λk hk=>(a9 k hk).1) z9);exact⟨⟨j+1,A1,F+1,a8,by omega,by go_num,rfl,by rw[I.out];exact a7,by omega,B1⟩,by simp[intOf];omega⟩
  ·have b0:j=n1:=by omega
   subst b0;rw[AN (by omega)] at own;have Y:=HI own;clear own;go_wp2_with fail
   go_ret2;exact⟨M,F,c2,rfl,Y.out.less hz,ba.trans (BB.mono hz)⟩
theorem Zt.same {P:Pl}{D:DM}{its:List Qb}{ino:Int}{x y:LU}(h:Zt P D its ino x)(hy:y.length<=8192)(he:∀i,Xe y i=Xe x i):Zt P D its ino y:=
 ⟨hy,λc e=>(h.at_ c e).inj (qey λ_ _=>(he _).symm)⟩
def q3b (bs:LU)(c:Nat):LU:=bs.take c++zeros (bs.length-c)
theorem qj1 {bs:LU}{c:Nat}(h:c<=bs.length):(q3b bs c).length=bs.length:=by
 unfold q3b zeros;rw[AD,AR,BK];omega
theorem qbh {bs:LU}{c:Nat}(h:c<=bs.length)(i:Nat):Xe (q3b bs c) i=if i<c then Xe bs i else 0:=by
 unfold q3b;by_cases hi:i<c
 ·rw[AA hi,q75 (by rw[AR];omega),Ob,AA hi]
 ·rw[AB hi,q5n (by rw[AR];omega)];exact qex _ _
theorem qnf {x:LU}{at_ c:Nat}(e:c<=(Xq [] (at_:Int) x).length)(i:Nat):Xe (q3b (Xq [] (at_:Int) x) c) i=if at_<=i/\i<c then Xe x (i-at_) else 0:=by
 rw[qbh e];unfold Xq at e ⊢;by_cases f:x=[]
 ·rw[AA f] at e ⊢;simp only[List.length_nil] at e;rw[AB (by omega),AB (by omega)]
 ·rw[AB f] at e ⊢;rw[q4z,AJ] at e;simp only[List.length_nil] at e;rw[qbg,AJ,qit];by_cases h1:i<c
  ·rw[AA h1];by_cases h2:at_<=i
   ·rw[AA ⟨h2,by omega⟩,AA ⟨h2,h1⟩]
   ·rw[AB (by omega),AB (by omega)]
  ·rw[AB h1,AB (by omega)]
theorem qng (x:LU)(at_:Nat):(Xq [] (at_:Int) x).length=if x=[] then 0 else at_+x.length:=by
 unfold Xq;split
 ·rfl
 ·rw[q4z,AJ];simp only[List.length_nil];omega
section
variable {b:Nat}{w w':WD}{d p:Nat}{U Q V:NP}{D:DM}{P:Pl}{root:Int}{its:List Qb}{X:LI}{m:Nat}{g:Int}
theorem Ft.Pg {ino:Int}{bs:LU}{ro:Nat}(h:Ft b w d p U Q V D P root its X m g)(F:Zt P D its ino bs)(hb:1<b)(hi:0<=ino/\ino<=2147483647)(n:Nat)(hn:n<=bs.length)(hR:Yw P ro)(hro:2*(its.length+64)+X.length<=ro)(hfew:ro<1900) :
  Calls prog 10 #[.pointer (some ⟨p,0,none⟩),.int .i64 root,.int .i64 ino,.int .i64 (bs.length:Int),.int .i64 (n:Int)] w (Ec b w d p U Q V D P its X ino (bs.take n) 64 m g (λr=>.tuple #[.int .i64 r,.int .i64 0])):=by
 by_cases f:n<bs.length
 ·exact h.resize F hb hi n f hR hro hfew
 ·have y:=F.few;have A:Dv (n:Int)=0:=by unfold Dv;rw[AB (by omega),AB (by omega)]
  refine (q8v (some ⟨p,0,none⟩) root ino bs.length (n:Int) y (.inr (by omega)) w).mono ?_;rintro e w' ⟨⟨r,rfl,u⟩,rfl⟩;rw[A] at u ⊢;obtain rfl:=u rfl;exact⟨r,P,its,rfl,h,Yb.refl D P its X _ U V (AI _ _),by rw[AN (by omega)];exact F,by omega⟩
theorem Ft.blocks {ino:Int}{bs:LU}(h:Ft b w d p U Q V D P root its X m g)(F:Zt P D its ino bs)(hlen:its.length<=1000) :
  Calls prog 9 #[.pointer (some ⟨p,0,none⟩),.int .i64 root,.int .i64 ino] w λe w'=>∃A n c,e=.returned (.tuple #[.slice A n c,.int .i64 0])/\Qz w' w.1.size 3 1 A n c ((q4c (within ⟨ino,3,0⟩ ⟨ino,3,2147483647⟩ its)).map iv)/\Below w.1.size w w':=
 qj0 (h.told hlen) h.ed.tab rfl (λx y=>by
  obtain⟨h1,c,u,_,f⟩:=q76.1 (show x∈within ⟨ino,3,((0:Nat):Int)⟩ ⟨ino,3,((2147483647:Nat):Int)⟩ its from y);exact (F.item h.Qg h1 u f).1)
end
