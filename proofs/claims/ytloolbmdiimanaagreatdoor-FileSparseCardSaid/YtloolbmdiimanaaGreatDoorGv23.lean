/- The code's node: put, for items and for kids -/
import Derived.Test.YtloolbmdiimanaaGreatDoorGv10
namespace Go.Proofs.YtloolbmdiimanaaGreatDoor
open Go Go.RowKit Go.Proofs Tryz
set_option maxHeartbeats 8000000
set_option maxRecDepth 100000
theorem qg1 (A:OA)(n c:Nat)(l:LU)(x:Qb)(B:OA)(m d:Nat)(w:WD)(h:Sl w A n c l)(hv:Sl w B m d x.v)(hm:m<=28)(hn:n<=100000) :
  Calls prog 186 #[.slice A n c,.agg #[.int .i64 x.k.obj,.int .i64 x.k.kind,.int .i64 x.k.off,.slice B m d]] w λe f=>∃A' Z c',e=.returned (.slice A' Z c')/\Z=n+10+m/\Own f w.1.size 5 A' Z c' (l++Ew x)/\Below w.1.size w f:=by
 have E:=HI h.len;have H:=HI hv.len;obtain⟨X,Q⟩:∃X:ByteArray,(⟨x.v.toArray⟩:ByteArray)=X:=⟨_,rfl⟩;have Xs:X.size=m:=by rw[<-Q,<-H.out];rfl
 have Xd:=HI (show X.data.toList=x.v by rw[<-Q]);have u:∀f:WD,Below w.1.size w f->(convert 22 9 (.slice B m d)).run prog f=.ok (.string X) f:=λf F=>by
  have:=Nu (hv.below F);rw[Q] at this;exact this
 clear Q;obtain⟨k,W⟩:∃k,x.k=k:=⟨_,rfl⟩;have Hk:=HI W;rw[W];clear W;go_enter func186,ntmps186
 go_wp2_with fail
 have I:Below w.1.size w (w.alloc (.cells #[.int .i64 k.obj,.int .i64 k.kind,.int .i64 k.off,.slice B m d] 84)):=Ql;have J:(w.alloc (.cells #[.int .i64 k.obj,.int .i64 k.kind,.int .i64 k.off,.slice B m d] 84)).1[w.1.size]?=some (.cells #[.int .i64 k.obj,.int .i64 k.kind,.int .i64 k.off,.slice B m d] 84 (0,0)):=BE w _;have M:w.1.size<(w.alloc (.cells #[.int .i64 k.obj,.int .i64 k.kind,.int .i64 k.off,.slice B m d] 84)).1.size:=by simp
 generalize w.alloc (.cells #[.int .i64 k.obj,.int .i64 k.kind,.int .i64 k.off,.slice B m d] 84)=g at I J M ⊢;have q0:g.cell? ⟨w.1.size,0,none⟩=some (.int .i64 k.obj):=by rw[cell_of_row _ _ _ _ _ _ J];rfl
 have q1:g.cell? ⟨w.1.size,1,none⟩=some (.int .i64 k.kind):=by rw[cell_of_row _ _ _ _ _ _ J];rfl
 have q2:g.cell? ⟨w.1.size,2,none⟩=some (.int .i64 k.off):=by rw[cell_of_row _ _ _ _ _ _ J];rfl
 have q3:g.cell? ⟨w.1.size,3,none⟩=some (.slice B m d):=by rw[cell_of_row _ _ _ _ _ _ J];rfl
 clear J;have Y:=h.below I;have P:∀f:WD,Below g.1.size g f->f.cell? ⟨w.1.size,0,none⟩=some (.int .i64 k.obj)/\f.cell? ⟨w.1.size,1,none⟩=some (.int .i64 k.kind)/\f.cell? ⟨w.1.size,2,none⟩=some (.int .i64 k.off)/\f.cell? ⟨w.1.size,3,none⟩=some (.slice B m d)/\(convert 22 9 (.slice B m d)).run prog f=.ok (.string X) f/\Below g.1.size g f:=
  λf F=>⟨(F.cell (p:=⟨w.1.size,_,none⟩) M).trans q0,(F.cell (p:=⟨w.1.size,_,none⟩) M).trans q1,(F.cell (p:=⟨w.1.size,_,none⟩) M).trans q2,(F.cell (p:=⟨w.1.size,_,none⟩) M).trans q3,u f (I.trans (F.mono I.size)),F⟩
 have R:Below g.1.size g g.drew:=(AI _ g).drew;have zr:g.1.size<=g.drew.1.size:=AE _;have p0:n<=4398046511104:=by omega
 have pX:X.size<=255:=by omega
 clear q0 q1 q2 q3;have O:=HI u;clear u;go_region_held3 (λf=>f.cell? ⟨w.1.size,0,none⟩=some (.int .i64 k.obj)/\f.cell? ⟨w.1.size,1,none⟩=some (.int .i64 k.kind)/\f.cell? ⟨w.1.size,2,none⟩=some (.int .i64 k.off)/\f.cell? ⟨w.1.size,3,none⟩=some (.slice B m d)/\(convert 22 9 (.slice B m d)).run prog f=.ok (.string X) f/\Below g.1.size g f)
  (first|assumption|exact P _ R|exact P _ y|exact P _ K)
  (first
   |(go_at_call 191;have hh:=y;refine (qgv A5 n5 c5 _ X _ G.sl p5 pX).mono ?_;rintro e w6 ⟨A6,n6,c6,rfl,D,U⟩;have K:Below g.1.size g w6:=y.trans (U.mono y.size))
   |(go_at_call 192;refine (qld A n c l k _ Y.drew p0).mono ?_;rintro e w5 ⟨A5,n5,c5,rfl,G,T⟩;have y:Below g.1.size g w5:=R.trans (T.mono zr);have l5:n5=n+9:=(by have:=G.len;rw[AD,E.out,Kd.X0] at this;omega);have p5:n5<=17592186044416:=(by omega);have a0:=HI l5;clear l5)
   |fail)
 all_goals
  have e6:l++k.bytes++(Q8 (X.size:Int) 1++X.data.toList)=l++Ew x:=by
   unfold Ew;rw[Xd.out,Xs,H.out,Hk.out,AM]
  have l6:=HI (show n6=n+10+m by have:=D.len;rw[AD,AD,AD,E.out,Kd.X0,Xz,Xd.out,H.out] at this;omega);rw[e6] at D;have B6:=I.trans (K.mono I.size);have o6:=D.less (show w.1.size<=w5.1.size from AZ I.size y.size);clear P R;go_wp2;go_ret;exact⟨_,_,_,rfl,l6.out,o6,B6⟩
theorem qi7 (A:OA)(n c:Nat)(l:LU)(x:Qk)(w:WD)(h:Sl w A n c l)(hn:n<=100000) :
  Calls prog 188 #[.slice A n c,.agg #[.int .i64 x.k.obj,.int .i64 x.k.kind,.int .i64 x.k.off,.int .i64 x.a]] w λe f=>∃W T X,e=.returned (.slice W T X)/\T=n+11/\Own f w.1.size 5 W T X (l++Eu x)/\Below w.1.size w f:=by
 have u:=HI h.len;have B:Eu x=x.k.bytes++Q8 x.a 2:=rfl;obtain⟨k,Q⟩:∃k,x.k=k:=⟨_,rfl⟩;obtain⟨a,M⟩:∃a,x.a=a:=⟨_,rfl⟩;rw[Q,M] at B;have K:=HI B;rw[Q,M];clear Q M B;go_enter func188,ntmps188
 go_wp2_with fail
 have E:Below w.1.size w (w.alloc (.cells #[.int .i64 k.obj,.int .i64 k.kind,.int .i64 k.off,.int .i64 a] 159)):=Ql;have D:(w.alloc (.cells #[.int .i64 k.obj,.int .i64 k.kind,.int .i64 k.off,.int .i64 a] 159)).1[w.1.size]?=some (.cells #[.int .i64 k.obj,.int .i64 k.kind,.int .i64 k.off,.int .i64 a] 159 (0,0)):=BE w _;have H:w.1.size<(w.alloc (.cells #[.int .i64 k.obj,.int .i64 k.kind,.int .i64 k.off,.int .i64 a] 159)).1.size:=by simp
 generalize w.alloc (.cells #[.int .i64 k.obj,.int .i64 k.kind,.int .i64 k.off,.int .i64 a] 159)=d at E D H ⊢;have Z:d.cell? ⟨w.1.size,0,none⟩=some (.int .i64 k.obj):=by rw[cell_of_row _ _ _ _ _ _ D];rfl
 have q1:d.cell? ⟨w.1.size,1,none⟩=some (.int .i64 k.kind):=by rw[cell_of_row _ _ _ _ _ _ D];rfl
 have q2:d.cell? ⟨w.1.size,2,none⟩=some (.int .i64 k.off):=by rw[cell_of_row _ _ _ _ _ _ D];rfl
 have q3:d.cell? ⟨w.1.size,3,none⟩=some (.int .i64 a):=by rw[cell_of_row _ _ _ _ _ _ D];rfl
 clear D;have R:=h.below E;have I:∀f:WD,Below d.1.size d f->f.cell? ⟨w.1.size,0,none⟩=some (.int .i64 k.obj)/\f.cell? ⟨w.1.size,1,none⟩=some (.int .i64 k.kind)/\f.cell? ⟨w.1.size,2,none⟩=some (.int .i64 k.off)/\f.cell? ⟨w.1.size,3,none⟩=some (.int .i64 a)/\Below d.1.size d f:=
  λf G=>⟨(G.cell (p:=⟨w.1.size,_,none⟩) H).trans Z,(G.cell (p:=⟨w.1.size,_,none⟩) H).trans q1,(G.cell (p:=⟨w.1.size,_,none⟩) H).trans q2,(G.cell (p:=⟨w.1.size,_,none⟩) H).trans q3,G⟩
 have J:Below d.1.size d d.drew:=(AI _ d).drew;have zr:d.1.size<=d.drew.1.size:=AE _;have p0:n<=4398046511104:=by omega
 have r1:(1:Int)<=2:=by omega
 have r2:(2:Int)<=8:=by omega
 clear Z q1 q2 q3;go_region_held3 (λf=>f.cell? ⟨w.1.size,0,none⟩=some (.int .i64 k.obj)/\f.cell? ⟨w.1.size,1,none⟩=some (.int .i64 k.kind)/\f.cell? ⟨w.1.size,2,none⟩=some (.int .i64 k.off)/\f.cell? ⟨w.1.size,3,none⟩=some (.int .i64 a)/\Below d.1.size d f)
  (first|assumption|exact I _ J|exact I _ g|exact I _ F)
  (first
   |(go_at_call 65;have hh:=g;refine (q78 A5 U c5 _ a 2 _ y.sl p5 r1 r2).mono ?_;rintro e w6 ⟨A6,n6,c6,rfl,m,a1,P⟩;have F:Below d.1.size d w6:=g.trans (P.mono g.size))
   |(go_at_call 192;refine (qld A n c l k _ R.drew p0).mono ?_;rintro e w5 ⟨A5,U,c5,rfl,y,O⟩;have g:Below d.1.size d w5:=J.trans (O.mono zr);have Y:U=n+9:=(by have:=y.len;rw[AD,u.out,Kd.X0] at this;omega);have p5:U<=17592186044416:=(by omega);have a0:=HI Y;clear Y)
   |fail)
 all_goals
  have e6:l++k.bytes++Q8 a (2:Int).toNat=l++Eu x:=by
   rw[K.out,AM];rfl
  have l6:=HI (show n6=n+11 by have:=m.len;rw[AD,AD,u.out,Kd.X0,Xz] at this;rw[<-this];rfl);rw[e6] at m;have B6:=E.trans (F.mono E.size);have o6:=m.less (show w.1.size<=w5.1.size from AZ E.size g.size);clear I J;go_wp2;go_ret;exact⟨_,_,_,rfl,l6.out,o6,B6⟩
def bI (xs:List Qb)(j:Nat):LU:=(xs.take j).flatMap Ew
def bK (xs:List Qk)(j:Nat):LU:=(xs.take j).flatMap Eu
theorem qx3 (xs:List Qb)(j:Nat)(h:j<xs.length):bI xs (j+1)=bI xs j++Ew (Qu xs j):=by
 unfold bI;have:=Et h;rw[AC h] at this;rw[List.take_succ_eq_append_getElem h,List.flatMap_append,OI this];simp
theorem qx4 (xs:List Qk)(j:Nat)(h:j<xs.length):bK xs (j+1)=bK xs j++Eu (Qi xs j):=by
 unfold bK;have:=q16 h;rw[AC h] at this;rw[List.take_succ_eq_append_getElem h,List.flatMap_append,OI this];simp
theorem qyp (xs:List Qb):bI xs xs.length=xs.flatMap Ew:=by unfold bI;rw[List.take_length]
theorem qyq (xs:List Qk):bK xs xs.length=xs.flatMap Eu:=by unfold bK;rw[List.take_length]
theorem qpb (xs:List Qb)(A:OA)(n c:Nat)(w:WD)(M:Ji w A n c xs)(hn:n<=1000)(hv:∀j,j<n->(Qu xs j).v.length<=28) :
  Calls prog 185 #[.slice A n c,.func (.func 186) #[] #[]] w λe w'=>∃p W B,e=.returned (.slice p W B)/\W<=38*n/\Sl w' p W B (xs.flatMap Ew)/\(∀m,p=some m->w.1.size<=m.block)/\Below w.1.size w w':=by
 have u:=HI M.len;have Hv:=HI hv;clear hv;obtain⟨a1,Q⟩:=M.bounds;unfold maxLen at Q;go_enter func185,ntmps185
 go_wp2_with fail
 go_loopw [5,10] (λb i wr=>∃(j q:Nat) (p:OA) (B:Nat),j<=n/\q<=38*j/\i=.int .i64 (j:Int)/\b=.slice p q B/\Sl wr p q B (bI xs j)/\(∀m,p=some m->w.1.size<=m.block)/\Below w.1.size w wr) (λ_ i _=>n-(intOf i).toNat)
 case atStart=>exact⟨0,0,_,_,AW _,by omega,rfl,rfl,G6 _,(λm h=>by cases h),AI _ _⟩
 case round=>
  obtain⟨j,q,p,B,hj,hq,rfl,rfl,T,hO,G⟩:=hrel;by_cases D:j<n
  ·have O:=M.below G;obtain⟨g,o,Y,m',Z,hA,hg,c0,c1,c2,c3,E⟩:=O.cell D;have y:=Hv.out j D;rw[E.len] at y;subst hA;have f:=HI (qx3 xs j (by rw[u.out];exact D));obtain⟨x,hx⟩:∃x,Qu xs j=x:=⟨_,rfl⟩;rw[hx] at c0 c1 c2 E f;clear hx;go_wp2_with fail
   have F:Below wr.1.size wr (wr.alloc (.cells #[.int .i64 x.k.obj,.int .i64 x.k.kind,.int .i64 x.k.off,.slice Y m' Z] 84)):=Ql;refine (qg1 p q B _ x Y m' Z _ (T.below F) (E.below F) y (by omega)).mono ?_;rintro e w2 ⟨X,n2,J,rfl,I,d,H⟩;have K:=G.trans ((F.trans (H.mono F.size)).mono G.size);have R:n2<=38*(j+1):=by omega
   have a0:=HI I;clear I;rw[<-f.out] at d;have U:=d.sl;have P:∀m,X=some m->w.1.size<=m.block:=λm h=>by have h1:=(d.block m h).1;have h2:=G.size;have h3:=F.size;omega
   clear hO;clear d F;go_wp2;exact⟨⟨j+1,n2,X,J,by omega,R,by go_num,rfl,U,P,K⟩,by simp[intOf];omega⟩
  ·obtain rfl:j=n:=by omega
   have e:bI xs j=xs.flatMap Ew:=by rw[<-u.out];exact qyp xs
   rw[e] at T;go_wp2;go_ret;exact⟨_,_,_,rfl,hq,T,hO,G⟩
theorem qpc (xs:List Qk)(A:OA)(n c:Nat)(w:WD)(J:Zn w A n c xs)(hn:n<=1000) :
  Calls prog 187 #[.slice A n c,.func (.func 188) #[] #[]] w λe Z=>∃p T y,e=.returned (.slice p T y)/\T<=11*n/\Sl Z p T y (xs.flatMap Eu)/\(∀m,p=some m->w.1.size<=m.block)/\Below w.1.size w Z:=by
 have u:=HI J.len;skip
 skip
 obtain⟨a1,O⟩:=J.bounds;unfold maxLen at O;go_enter func187,ntmps187
 go_wp2_with fail
 go_loopw [5,10] (λb i wr=>∃(j q:Nat) (p:OA) (y:Nat),j<=n/\q<=11*j/\i=.int .i64 (j:Int)/\b=.slice p q y/\Sl wr p q y (bK xs j)/\(∀m,p=some m->w.1.size<=m.block)/\Below w.1.size w wr) (λ_ i _=>n-(intOf i).toNat)
 case atStart=>exact⟨0,0,_,_,AW _,by omega,rfl,rfl,G6 _,(λm h=>by cases h),AI _ _⟩
 case round=>
  obtain⟨j,q,p,y,hj,hq,rfl,rfl,Q,W,D⟩:=hrel;by_cases F:j<n
  ·have K:=J.below D;obtain⟨g,o,hA,hg,c0,c1,c2,c3⟩:=K.cell F;subst hA;have f:=HI (qx4 xs j (by rw[u.out];exact F));obtain⟨x,X⟩:∃x,Qi xs j=x:=⟨_,rfl⟩;rw[X] at c0 c1 c2 c3 f;clear X;go_wp2_with fail
   have B:Below wr.1.size wr (wr.alloc (.cells #[.int .i64 x.k.obj,.int .i64 x.k.kind,.int .i64 x.k.off,.int .i64 x.a] 159)):=Ql;refine (qi7 p q y _ x _ (Q.below B) (by omega)).mono ?_;rintro e w2 ⟨U,Y,H,rfl,G,d,E⟩;have I:=D.trans ((B.trans (E.mono B.size)).mono D.size);have P:Y<=11*(j+1):=by omega
   have a0:=HI G;clear G;rw[<-f.out] at d;have R:=d.sl;have M:∀m,U=some m->w.1.size<=m.block:=λm h=>by have h1:=(d.block m h).1;have h2:=D.size;have h3:=B.size;omega
   clear W;clear d B;go_wp2;exact⟨⟨j+1,Y,U,H,by omega,P,by go_num,rfl,R,M,I⟩,by simp[intOf];omega⟩
  ·obtain rfl:j=n:=by omega
   have e:bK xs j=xs.flatMap Eu:=by rw[<-u.out];exact qyq xs
   rw[e] at Q;go_wp2;go_ret;exact⟨_,_,_,rfl,hq,Q,W,D⟩
theorem qpd {N:Nd}(addr gen:Int){n:Nat}{K:Int}(e:N.lvl=0)(hm:N.may=true)(hn:N.items.length=n)(d:(if N.lvl=0 then 3 else 4)=K):N.head addr gen=⟨K,addr,(n:Int),N.lvl,gen⟩/\N.body=N.items.flatMap Ew:=by
 rw[AA e] at d;have f:N.kids=[]:=by
  refine BF ?_;unfold Nd.may at hm;rw[AA e,BN,BN] at hm;exact (AK hm.2.2).1
 unfold Nd.head Nd.body;rw[f,hn,AB (by omega),d];simp
theorem qmf {N:Nd}(addr gen:Int){m:Nat}{K:Int}(e:¬N.lvl=0)(hm:N.may=true)(hn:N.kids.length=m)(d:(if N.lvl=0 then 3 else 4)=K):N.head addr gen=⟨K,addr,(m:Int),N.lvl,gen⟩/\N.body=N.kids.flatMap Eu:=by
 rw[AB e] at d;unfold Nd.may at hm;rw[AB e,BN,BN] at hm;have h2:=AK hm.2.2;have f:N.items=[]:=BF h2.2.2.1;unfold Nd.head Nd.body;rw[f,hn,AA (by omega),d];simp
theorem qg2 {w:WD}{b:Nat}{K addr lvl gen x y:Int}(H:HB w b ⟨K,addr,x,lvl,gen⟩):HB (w.setCell ⟨b,2,none⟩ (.int .i64 y)) b ⟨K,addr,y,lvl,gen⟩:=H.G7 3 y
theorem qch (N:Nd)(addr gen:Int)(A:OA)(n c:Nat)(B:OA)(m d:Nat)(w:WD)(hI:Ji w A n c N.items)(hK:Zn w B m d N.kids)(hn:n<=1000)(hm:m<=1000)(ht:Tab w) :
  Calls prog 179 #[.agg #[.int .i64 N.lvl,.slice A n c,.slice B m d],.int .i64 addr,.int .i64 gen] w λe D=>∃A' n' c',e=.returned (.tuple #[.slice A' n' c',.int .i64 (Zh N addr gen)])/\Own D w.1.size 5 A' n' c' (Jr N addr gen)/\(Zh N addr gen=0->∃g,A'=some ⟨g,0,none⟩/\n'=256/\c'=256)/\Below w.1.size w D:=by
 have a8:=HI hI.len;have a9:=HI hK.len;go_enter func179,ntmps179
 go_wp2_with fail
 have N1:NB (w.alloc (.cells #[.int .i64 N.lvl,.slice A n c,.slice B m d] 108)) w.1.size N.lvl A n c B m d:=NB.new w _ _ _ _ _ _ _ _;have b1:Below w.1.size w (w.alloc (.cells #[.int .i64 N.lvl,.slice A n c,.slice B m d] 108)):=Ql;generalize w.alloc (.cells #[.int .i64 N.lvl,.slice A n c,.slice B m d] 108)=w1 at N1 b1 ⊢
 cases M:N.may
 ·refine (q28 N false M A n c B m d w1 (hI.below b1) (hK.below b1) hn hm).mono ?_;rintro e f ⟨rfl,a3⟩;go_wp2;go_ret2;have h1:Zh N addr gen=1:=by unfold Zh;rw[M];rfl
  have h2:Jr N addr gen=[]:=by unfold Jr;rw[M];rfl
  rw[h1,h2];exact⟨_,_,_,rfl,qf1 _ _ _,(λh=>by cases h),b1.trans (a3.mono b1.size)⟩
 ·refine (q28 N true M A n c B m d w1 (hI.below b1) (hK.below b1) hn hm).mono ?_;rintro e f ⟨rfl,a3⟩;have N2:=N1.below a3 N1.lt;have B2:=b1.trans (a3.mono b1.size);have n0:=N2.c0;obtain⟨_,_,a2,_⟩:=q2z M;have Hv:=HI a2;have F:=HI M;clear a2;obtain⟨K,a4⟩:∃K:Int,(if N.lvl=0 then 3 else 4)=K:=⟨_,rfl⟩;have a5:=HI a4;clear a4;have zn:=N2.lt;have Q:∀D:WD,Below f.1.size f D->D.cell? ⟨w.1.size,0,none⟩=some (.int .i64 N.lvl)/\Below f.1.size f D:=
   λD Z=>⟨(Z.cell (p:=⟨w.1.size,_,none⟩) zn).trans n0,Z⟩
  have W:Below f.1.size f f.drew:=(AI _ f).drew;go_wp2_with fail
  go_region_held3 (λD=>D.cell? ⟨w.1.size,0,none⟩=some (.int .i64 N.lvl)/\Below f.1.size f D)
   (first|assumption|exact Q _ W|exact Q _ (W.alloc (AE _) _))
   (first
    |(go_at_call 115;refine (q4e N.lvl K a5.out _).mono ?_;rintro e w3 ⟨rfl,rfl⟩)
    |fail)
  all_goals
   have H3:HB (f.alloc (.cells #[.int .i64 K,.int .i64 addr,.int .i64 0,.int .i64 N.lvl,.int .i64 gen] 94)).drew f.1.size ⟨K,addr,0,N.lvl,gen⟩:=⟨_,BE f _⟩;have b3:Below f.1.size f (f.alloc (.cells #[.int .i64 K,.int .i64 addr,.int .i64 0,.int .i64 N.lvl,.int .i64 gen] 94)).drew:=((AI _ f).alloc (AE _) _).drew;have J:f.1.size<(f.alloc (.cells #[.int .i64 K,.int .i64 addr,.int .i64 0,.int .i64 N.lvl,.int .i64 gen] 94)).drew.1.size:=by simp
   clear Q W;generalize (f.alloc (.cells #[.int .i64 K,.int .i64 addr,.int .i64 0,.int .i64 N.lvl,.int .i64 gen] 94)).drew=w3 at *;have Y:=N2.below b3 zn;have B3:=B2.trans (b3.mono B2.size);clear N2 B2 b3 n0 N1 b1;by_cases hl:N.lvl=0
   ·have R:=qpd addr gen hl F.out a8.out a5.out;have H:=HI R.1;have G:=HI R.2;clear R;have Hl:=HI hl;clear hl;have q0:=Y.c0;have q1:=Y.c1;have q2:=Y.c2;go_wp2_with fail
    refine (Pz N.lvl true (AL Hl.out) A n c B m d w3).mono ?_;rintro e u ⟨rfl,I⟩;have N4:=Y.below I Y.lt;have H4:=H3.below I J;have B4:=B3.trans (I.mono B3.size);have U:f.1.size<u.1.size:=Nat.lt_of_lt_of_le J I.size;clear I Y H3 B3 J q0 q1 q2;have nn:=N4.c1;have T:w.1.size<f.1.size:=zn;have Q:∀D:WD,Below f.1.size u D->D.cell? ⟨w.1.size,1,none⟩=some (.slice A n c)/\Below f.1.size u D:=
     λD Z=>⟨(Z.cell (p:=⟨w.1.size,_,none⟩) T).trans nn,Z⟩
    have W:Below f.1.size u u.drew:=(AI _ u).drew;have a1:∀D:WD,Below f.1.size u D->Ji D A n c N.items:=λD Z=>hI.below (B4.trans (Z.mono (Nat.le_of_lt T)))
    have h2:=H4.at_ 3;have f2:=H4.fz 3;have BS:Below f.1.size u ((u.setCell ⟨f.1.size,2,none⟩ (.int .i64 (n:Int))).drew):=((AI _ u).setCell (p:=⟨f.1.size,2,none⟩) (AE f.1.size) _).drew;have zS:u.1.size<=(u.setCell ⟨f.1.size,2,none⟩ (.int .i64 (n:Int))).drew.1.size:=by simp
    have zD:u.1.size<=u.drew.1.size:=AE _;simp only[Xv] at h2 f2;go_wp2_with fail
    go_region_held3 (λD=>D.cell? ⟨w.1.size,1,none⟩=some (.slice A n c)/\Below f.1.size u D)
     (first|assumption|exact Q _ W|exact Q _ BS|exact Q _ O|exact Q _ (O.setCell (p:=⟨f.1.size,2,none⟩) (AE f.1.size) _))
     (first
      |(go_at_call 185;refine (qpb N.items A n c _ (a1 _ (by first|exact W|exact BS)) (by omega) (λj hj=>Hv.out j (by rw[a8.out];exact hj))).mono ?_;rintro e X ⟨A5,n5,c5,rfl,b0,s5,o5,E⟩;have O:Below f.1.size u X:=(by first|exact W.trans (E.mono (AZ (Nat.le_of_lt U) zD))|exact BS.trans (E.mono (AZ (Nat.le_of_lt U) zS)));have g5:=(show X.cell? ⟨f.1.size,2,none⟩=_ from E.cell (p:=⟨f.1.size,2,none⟩) (by first|exact Nat.lt_of_lt_of_le U zD|exact Nat.lt_of_lt_of_le U zS));have k5:=(show X.frozen? ⟨f.1.size,2,none⟩=_ from E.frozen (p:=⟨f.1.size,2,none⟩) (by first|exact Nat.lt_of_lt_of_le U zD|exact Nat.lt_of_lt_of_le U zS)))
      |fail)
    all_goals
     simp only[Hd.Bf] at h2;have H5:HB X f.1.size ⟨K,addr,0,N.lvl,gen⟩:=(show HB u.drew _ _ from H4).below E U;have H6:=qg2 (y:=(n:Int)) H5;have s6:=s5.turned (Cc (S:=λk=>k=f.1.size) (w:=X) (a:=⟨f.1.size,2,none⟩) (.int .i64 (n:Int)) rfl) (λk hk e=>by
      cases A5 with
      |none=>cases hk
      |some ad=>
       have e1:=o5 ad rfl;have e2:ad.block=k:=OI hk;have e3:u.1.size<=ad.block:=e1;omega)
     have B6:=B4.trans ((O.setCell (p:=⟨f.1.size,2,none⟩) (AE f.1.size) (.int .i64 (n:Int))).mono (Nat.le_of_lt T));clear s5;generalize X.setCell ⟨f.1.size,2,none⟩ (.int .i64 (n:Int))=w6 at H6 s6 B6 ⊢;clear Q W BS a1 h2 f2 g5 k5 E O nn zS zD N4 H4;go_wp2_with (first
      |(refine q8a rfl (.tmp 8) rfl f.1.size rfl _ H6 ?_)
      |fail)
     refine (q5p _ A5 n5 c5 _ _ s6 (ht.below B6 ht.1)).mono ?_;rintro e w7 ⟨A7,n7,c7,rfl,P,a7,a6⟩;rw[<-G.out,<-H.out] at P;have s7:=P.less B6.size;have B7:=B6.trans (a6.mono B6.size);have hE:=HI (show Zh N addr gen=Xb (N.head addr gen) N.body by unfold Zh;rw[F.out];rfl);have a0:Xi (N.head addr gen) N.body=Jr N addr gen:=by unfold Jr;rw[F.out];rfl
     rw[a0] at s7;clear a0;go_wp2;go_ret2;rw[hE.out,H.out,G.out];exact⟨_,_,_,rfl,s7,a7,B7⟩
   ·have R:=qmf addr gen hl F.out a9.out a5.out;have H:=HI R.1;have G:=HI R.2;clear R;have Hl:=HI hl;clear hl;have q0:=Y.c0;have q1:=Y.c1;have q2:=Y.c2;go_wp2_with fail
    refine (Pz N.lvl false (AH Hl.out) A n c B m d w3).mono ?_;rintro e u ⟨rfl,I⟩;have N4:=Y.below I Y.lt;have H4:=H3.below I J;have B4:=B3.trans (I.mono B3.size);have U:f.1.size<u.1.size:=Nat.lt_of_lt_of_le J I.size;clear I Y H3 B3 J q0 q1 q2;have nn:=N4.c2;have T:w.1.size<f.1.size:=zn;have Q:∀D:WD,Below f.1.size u D->D.cell? ⟨w.1.size,2,none⟩=some (.slice B m d)/\Below f.1.size u D:=
     λD Z=>⟨(Z.cell (p:=⟨w.1.size,_,none⟩) T).trans nn,Z⟩
    have W:Below f.1.size u u.drew:=(AI _ u).drew;have a1:∀D:WD,Below f.1.size u D->Zn D B m d N.kids:=λD Z=>hK.below (B4.trans (Z.mono (Nat.le_of_lt T)))
    have h2:=H4.at_ 3;have f2:=H4.fz 3;have BS:Below f.1.size u ((u.setCell ⟨f.1.size,2,none⟩ (.int .i64 (m:Int))).drew):=((AI _ u).setCell (p:=⟨f.1.size,2,none⟩) (AE f.1.size) _).drew;have zS:u.1.size<=(u.setCell ⟨f.1.size,2,none⟩ (.int .i64 (m:Int))).drew.1.size:=by simp
    have zD:u.1.size<=u.drew.1.size:=AE _;simp only[Xv] at h2 f2;go_wp2_with fail
    go_region_held3 (λD=>D.cell? ⟨w.1.size,2,none⟩=some (.slice B m d)/\Below f.1.size u D)
     (first|assumption|exact Q _ W|exact Q _ BS|exact Q _ O|exact Q _ (O.setCell (p:=⟨f.1.size,2,none⟩) (AE f.1.size) _))
     (first
      |(go_at_call 187;refine (qpc N.kids B m d _ (a1 _ (by first|exact W|exact BS)) (by omega)).mono ?_;rintro e X ⟨A5,n5,c5,rfl,b0,s5,o5,E⟩;have O:Below f.1.size u X:=(by first|exact W.trans (E.mono (AZ (Nat.le_of_lt U) zD))|exact BS.trans (E.mono (AZ (Nat.le_of_lt U) zS)));have g5:=(show X.cell? ⟨f.1.size,2,none⟩=_ from E.cell (p:=⟨f.1.size,2,none⟩) (by first|exact Nat.lt_of_lt_of_le U zD|exact Nat.lt_of_lt_of_le U zS));have k5:=(show X.frozen? ⟨f.1.size,2,none⟩=_ from E.frozen (p:=⟨f.1.size,2,none⟩) (by first|exact Nat.lt_of_lt_of_le U zD|exact Nat.lt_of_lt_of_le U zS)))
      |fail)
    all_goals
     simp only[Hd.Bf] at h2;have H5:HB X f.1.size ⟨K,addr,0,N.lvl,gen⟩:=(show HB u.drew _ _ from H4).below E U;have H6:=qg2 (y:=(m:Int)) H5;have s6:=s5.turned (Cc (S:=λk=>k=f.1.size) (w:=X) (a:=⟨f.1.size,2,none⟩) (.int .i64 (m:Int)) rfl) (λk hk e=>by
      cases A5 with
      |none=>cases hk
      |some ad=>
       have e1:=o5 ad rfl;have e2:ad.block=k:=OI hk;have e3:u.1.size<=ad.block:=e1;omega)
     have B6:=B4.trans ((O.setCell (p:=⟨f.1.size,2,none⟩) (AE f.1.size) (.int .i64 (m:Int))).mono (Nat.le_of_lt T));clear s5;generalize X.setCell ⟨f.1.size,2,none⟩ (.int .i64 (m:Int))=w6 at H6 s6 B6 ⊢;clear Q W BS a1 h2 f2 g5 k5 E O nn zS zD N4 H4;go_wp2_with (first
      |(refine q8a rfl (.tmp 8) rfl f.1.size rfl _ H6 ?_)
      |fail)
     refine (q5p _ A5 n5 c5 _ _ s6 (ht.below B6 ht.1)).mono ?_;rintro e w7 ⟨A7,n7,c7,rfl,P,a7,a6⟩;rw[<-G.out,<-H.out] at P;have s7:=P.less B6.size;have B7:=B6.trans (a6.mono B6.size);have hE:=HI (show Zh N addr gen=Xb (N.head addr gen) N.body by unfold Zh;rw[F.out];rfl);have a0:Xi (N.head addr gen) N.body=Jr N addr gen:=by unfold Jr;rw[F.out];rfl
     rw[a0] at s7;clear a0;go_wp2;go_ret2;rw[hE.out,H.out,G.out];exact⟨_,_,_,rfl,s7,a7,B7⟩
