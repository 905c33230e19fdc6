/- The code's node: put, for items and for kids -/
import Derived.Test.YtnjacafcocnicaaGreatDoorDv20
namespace Go.Proofs.YtnjacafcocnicaaGreatDoor
open Go Go.RowKit Go.Proofs Tryz
set_option maxHeartbeats 8000000
set_option maxRecDepth 100000
theorem qh0 (A:OA)(n c:Nat)(l:LU)(x:Qc)(B:OA)(m d:Nat)(w:WD)(h:Sl w A n c l)(hv:Sl w B m d x.v)(hm:m<=28)(hn:n<=100000) :
  Calls prog 222 #[.slice A n c,.agg #[.int .i64 x.k.obj,.int .i64 x.k.kind,.int .i64 x.k.off,.slice B m d]] w λe f=>∃A' Y c',e=.returned (.slice A' Y c')/\Y=n+10+m/\Own f w.1.size 5 A' Y c' (l++Ik x)/\Below w.1.size w f:=by
 have E:=HI h.len;have H:=HI hv.len;obtain⟨X,Q⟩:∃X:ByteArray,(⟨x.v.toArray⟩:ByteArray)=X:=⟨_,rfl⟩;have Xs:X.size=m:=by rw[<-Q,<-H.out];rfl
 have Xd:=HI (show X.data.toList=x.v by rw[<-Q]);have u:∀f:WD,Below w.1.size w f->(convert 48 9 (.slice B m d)).run prog f=.ok (.string X) f:=λf F=>by
  have:=Fb (hv.below F);rw[Q] at this;exact this
 clear Q;obtain⟨k,V⟩:∃k,x.k=k:=⟨_,rfl⟩;have Hk:=HI V;rw[V];clear V;go_enter func222,ntmps222
 go_wp2_with fail
 have I:Below w.1.size w (w.alloc (.cells #[.int .i64 k.obj,.int .i64 k.kind,.int .i64 k.off,.slice B m d] 50)):=Qi;have J:(w.alloc (.cells #[.int .i64 k.obj,.int .i64 k.kind,.int .i64 k.off,.slice B m d] 50)).1[w.1.size]?=some (.cells #[.int .i64 k.obj,.int .i64 k.kind,.int .i64 k.off,.slice B m d] 50 (0,0)):=BE w _;have M:w.1.size<(w.alloc (.cells #[.int .i64 k.obj,.int .i64 k.kind,.int .i64 k.off,.slice B m d] 50)).1.size:=by simp
 generalize w.alloc (.cells #[.int .i64 k.obj,.int .i64 k.kind,.int .i64 k.off,.slice B m d] 50)=q at I J M ⊢;have q0:q.cell? ⟨w.1.size,0,none⟩=some (.int .i64 k.obj):=by rw[cell_of_row _ _ _ _ _ _ J];rfl
 have q1:q.cell? ⟨w.1.size,1,none⟩=some (.int .i64 k.kind):=by rw[cell_of_row _ _ _ _ _ _ J];rfl
 have q2:q.cell? ⟨w.1.size,2,none⟩=some (.int .i64 k.off):=by rw[cell_of_row _ _ _ _ _ _ J];rfl
 have q3:q.cell? ⟨w.1.size,3,none⟩=some (.slice B m d):=by rw[cell_of_row _ _ _ _ _ _ J];rfl
 clear J;have W:=h.below I;have P:∀f:WD,Below q.1.size q f->f.cell? ⟨w.1.size,0,none⟩=some (.int .i64 k.obj)/\f.cell? ⟨w.1.size,1,none⟩=some (.int .i64 k.kind)/\f.cell? ⟨w.1.size,2,none⟩=some (.int .i64 k.off)/\f.cell? ⟨w.1.size,3,none⟩=some (.slice B m d)/\(convert 48 9 (.slice B m d)).run prog f=.ok (.string X) f/\Below q.1.size q f:=
  λf F=>⟨(F.cell (p:=⟨w.1.size,_,none⟩) M).trans q0,(F.cell (p:=⟨w.1.size,_,none⟩) M).trans q1,(F.cell (p:=⟨w.1.size,_,none⟩) M).trans q2,(F.cell (p:=⟨w.1.size,_,none⟩) M).trans q3,u f (I.trans (F.mono I.size)),F⟩
 have R:Below q.1.size q q.drew:=(AI _ q).drew;have zr:q.1.size<=q.drew.1.size:=AE _;have p0:n<=4398046511104:=by omega
 have pX:X.size<=255:=by omega
 clear q0 q1 q2 q3;have O:=HI u;clear u;go_region_held3 (λf=>f.cell? ⟨w.1.size,0,none⟩=some (.int .i64 k.obj)/\f.cell? ⟨w.1.size,1,none⟩=some (.int .i64 k.kind)/\f.cell? ⟨w.1.size,2,none⟩=some (.int .i64 k.off)/\f.cell? ⟨w.1.size,3,none⟩=some (.slice B m d)/\(convert 48 9 (.slice B m d)).run prog f=.ok (.string X) f/\Below q.1.size q f)
  (first|assumption|exact P _ R|exact P _ y|exact P _ K)
  (first
   |(go_at_call 66;have hh:=y;refine (q4w A5 Z c5 _ X _ G.sl p5 pX).mono ?_;rintro e w6 ⟨A6,n6,c6,rfl,D,U⟩;have K:Below q.1.size q w6:=y.trans (U.mono y.size))
   |(go_at_call 234;refine (qnb A n c l k _ W.drew p0).mono ?_;rintro e w5 ⟨A5,Z,c5,rfl,G,T⟩;have y:Below q.1.size q w5:=R.trans (T.mono zr);have l5:Z=n+9:=(by have:=G.len;rw[AD,E.out,Kd.Yj] at this;omega);have p5:Z<=17592186044416:=(by omega);have a1:=HI l5;clear l5)
   |fail)
 all_goals
  have e6:l++k.bytes++(Qx (X.size:Int) 1++X.data.toList)=l++Ik x:=by
   unfold Ik;rw[Xd.out,Xs,H.out,Hk.out,AM]
  have l6:=HI (show n6=n+10+m by have:=D.len;rw[AD,AD,AD,E.out,Kd.Yj,J8,Xd.out,H.out] at this;omega);rw[e6] at D;have B6:=I.trans (K.mono I.size);have o6:=D.less (show w.1.size<=w5.1.size from AZ I.size y.size);clear P R;go_wp2;go_ret;exact⟨_,_,_,rfl,l6.out,o6,B6⟩
theorem qjp (A:OA)(n c:Nat)(l:LU)(x:Qn)(w:WD)(h:Sl w A n c l)(hn:n<=100000) :
  Calls prog 224 #[.slice A n c,.agg #[.int .i64 x.k.obj,.int .i64 x.k.kind,.int .i64 x.k.off,.int .i64 x.a]] w λe m=>∃W U X,e=.returned (.slice W U X)/\U=n+11/\Own m w.1.size 5 W U X (l++Ij x)/\Below w.1.size w m:=by
 have y:=HI h.len;have D:Ij x=x.k.bytes++Qx x.a 2:=rfl;obtain⟨k,R⟩:∃k,x.k=k:=⟨_,rfl⟩;obtain⟨a,O⟩:∃a,x.a=a:=⟨_,rfl⟩;rw[R,O] at D;have M:=HI D;rw[R,O];clear R O D;go_enter func224,ntmps224
 go_wp2_with fail
 have F:Below w.1.size w (w.alloc (.cells #[.int .i64 k.obj,.int .i64 k.kind,.int .i64 k.off,.int .i64 a] 125)):=Qi;have E:(w.alloc (.cells #[.int .i64 k.obj,.int .i64 k.kind,.int .i64 k.off,.int .i64 a] 125)).1[w.1.size]?=some (.cells #[.int .i64 k.obj,.int .i64 k.kind,.int .i64 k.off,.int .i64 a] 125 (0,0)):=BE w _;have I:w.1.size<(w.alloc (.cells #[.int .i64 k.obj,.int .i64 k.kind,.int .i64 k.off,.int .i64 a] 125)).1.size:=by simp
 generalize w.alloc (.cells #[.int .i64 k.obj,.int .i64 k.kind,.int .i64 k.off,.int .i64 a] 125)=f at F E I ⊢;have Z:f.cell? ⟨w.1.size,0,none⟩=some (.int .i64 k.obj):=by rw[cell_of_row _ _ _ _ _ _ E];rfl
 have q1:f.cell? ⟨w.1.size,1,none⟩=some (.int .i64 k.kind):=by rw[cell_of_row _ _ _ _ _ _ E];rfl
 have q2:f.cell? ⟨w.1.size,2,none⟩=some (.int .i64 k.off):=by rw[cell_of_row _ _ _ _ _ _ E];rfl
 have q3:f.cell? ⟨w.1.size,3,none⟩=some (.int .i64 a):=by rw[cell_of_row _ _ _ _ _ _ E];rfl
 clear E;have T:=h.below F;have J:∀m:WD,Below f.1.size f m->m.cell? ⟨w.1.size,0,none⟩=some (.int .i64 k.obj)/\m.cell? ⟨w.1.size,1,none⟩=some (.int .i64 k.kind)/\m.cell? ⟨w.1.size,2,none⟩=some (.int .i64 k.off)/\m.cell? ⟨w.1.size,3,none⟩=some (.int .i64 a)/\Below f.1.size f m:=
  λm H=>⟨(H.cell (p:=⟨w.1.size,_,none⟩) I).trans Z,(H.cell (p:=⟨w.1.size,_,none⟩) I).trans q1,(H.cell (p:=⟨w.1.size,_,none⟩) I).trans q2,(H.cell (p:=⟨w.1.size,_,none⟩) I).trans q3,H⟩
 have K:Below f.1.size f f.drew:=(AI _ f).drew;have zr:f.1.size<=f.drew.1.size:=AE _;have p0:n<=4398046511104:=by omega
 have r1:(1:Int)<=2:=by omega
 have r2:(2:Int)<=8:=by omega
 clear Z q1 q2 q3;go_region_held3 (λm=>m.cell? ⟨w.1.size,0,none⟩=some (.int .i64 k.obj)/\m.cell? ⟨w.1.size,1,none⟩=some (.int .i64 k.kind)/\m.cell? ⟨w.1.size,2,none⟩=some (.int .i64 k.off)/\m.cell? ⟨w.1.size,3,none⟩=some (.int .i64 a)/\Below f.1.size f m)
  (first|assumption|exact J _ K|exact J _ q|exact J _ G)
  (first
   |(go_at_call 126;have hh:=q;refine (q7l A5 V c5 _ a 2 _ B.sl p5 r1 r2).mono ?_;rintro e w6 ⟨A6,n6,c6,rfl,u,a2,Q⟩;have G:Below f.1.size f w6:=q.trans (Q.mono q.size))
   |(go_at_call 234;refine (qnb A n c l k _ T.drew p0).mono ?_;rintro e w5 ⟨A5,V,c5,rfl,B,P⟩;have q:Below f.1.size f w5:=K.trans (P.mono zr);have Y:V=n+9:=(by have:=B.len;rw[AD,y.out,Kd.Yj] at this;omega);have p5:V<=17592186044416:=(by omega);have a1:=HI Y;clear Y)
   |fail)
 all_goals
  have e6:l++k.bytes++Qx a (2:Int).toNat=l++Ij x:=by
   rw[M.out,AM];rfl
  have l6:=HI (show n6=n+11 by have:=u.len;rw[AD,AD,y.out,Kd.Yj,J8] at this;rw[<-this];rfl);rw[e6] at u;have B6:=F.trans (G.mono F.size);have o6:=u.less (show w.1.size<=w5.1.size from AZ F.size q.size);clear J K;go_wp2;go_ret;exact⟨_,_,_,rfl,l6.out,o6,B6⟩
def bI (xs:List Qc)(j:Nat):LU:=(xs.take j).flatMap Ik
def bK (xs:List Qn)(j:Nat):LU:=(xs.take j).flatMap Ij
theorem qA9 (xs:List Qc)(j:Nat)(h:j<xs.length):bI xs (j+1)=bI xs j++Ik (Zc xs j):=by
 unfold bI;have:=q22 h;rw[AC h] at this;rw[List.take_succ_eq_append_getElem h,List.flatMap_append,OI this];simp
theorem qAa (xs:List Qn)(j:Nat)(h:j<xs.length):bK xs (j+1)=bK xs j++Ij (Qk xs j):=by
 unfold bK;have:=q16 h;rw[AC h] at this;rw[List.take_succ_eq_append_getElem h,List.flatMap_append,OI this];simp
theorem qC5 (xs:List Qc):bI xs xs.length=xs.flatMap Ik:=by unfold bI;rw[List.take_length]
theorem qC6 (xs:List Qn):bK xs xs.length=xs.flatMap Ij:=by unfold bK;rw[List.take_length]
theorem qrf (xs:List Qc)(A:OA)(n c:Nat)(w:WD)(O:J3 w A n c xs)(hn:n<=1000)(hv:∀j,j<n->(Zc xs j).v.length<=28) :
  Calls prog 221 #[.slice A n c,.func (.func 222) #[] #[]] w λe w'=>∃u W D,e=.returned (.slice u W D)/\W<=38*n/\Sl w' u W D (xs.flatMap Ik)/\(∀p,u=some p->w.1.size<=p.block)/\Below w.1.size w w':=by
 have y:=HI O.len;have Hv:=HI hv;clear hv;obtain⟨a2,R⟩:=O.bounds;unfold maxLen at R;go_enter func221,ntmps221
 go_wp2_with fail
 go_loopw [5,10] (λb i wr=>∃(j q:Nat) (u:OA) (D:Nat),j<=n/\q<=38*j/\i=.int .i64 (j:Int)/\b=.slice u q D/\Sl wr u q D (bI xs j)/\(∀p,u=some p->w.1.size<=p.block)/\Below w.1.size w wr) (λ_ i _=>n-(intOf i).toNat)
 case atStart=>exact⟨0,0,_,_,AW _,by omega,rfl,rfl,Il _,(λp h=>by cases h),AI _ _⟩
 case round=>
  obtain⟨j,q,u,D,hj,hq,rfl,rfl,U,hO,H⟩:=hrel;by_cases E:j<n
  ·have P:=O.below H;obtain⟨g,o,Y,m',Z,hA,hg,c0,c1,c2,c3,F⟩:=P.cell E;have B:=Hv.out j E;rw[F.len] at B;subst hA;have m:=HI (qA9 xs j (by rw[y.out];exact E));obtain⟨x,hx⟩:∃x,Zc xs j=x:=⟨_,rfl⟩;rw[hx] at c0 c1 c2 F m;clear hx;go_wp2_with fail
   have G:Below wr.1.size wr (wr.alloc (.cells #[.int .i64 x.k.obj,.int .i64 x.k.kind,.int .i64 x.k.off,.slice Y m' Z] 50)):=Qi;refine (qh0 u q D _ x Y m' Z _ (U.below G) (F.below G) B (by omega)).mono ?_;rintro e w2 ⟨X,n2,K,rfl,J,f,I⟩;have M:=H.trans ((G.trans (I.mono G.size)).mono H.size);have T:n2<=38*(j+1):=by omega
   have a1:=HI J;clear J;rw[<-m.out] at f;have V:=f.sl;have Q:∀p,X=some p->w.1.size<=p.block:=λp h=>by have h1:=(f.block p h).1;have h2:=H.size;have h3:=G.size;omega
   clear hO;clear f G;go_wp2;exact⟨⟨j+1,n2,X,K,by omega,T,by go_num,rfl,V,Q,M⟩,by simp[intOf];omega⟩
  ·obtain rfl:j=n:=by omega
   have e:bI xs j=xs.flatMap Ik:=by rw[<-y.out];exact qC5 xs
   rw[e] at U;go_wp2;go_ret;exact⟨_,_,_,rfl,hq,U,hO,H⟩
theorem qrg (xs:List Qn)(A:OA)(n c:Nat)(w:WD)(K:Zr w A n c xs)(hn:n<=1000) :
  Calls prog 223 #[.slice A n c,.func (.func 224) #[] #[]] w λe Z=>∃u U B,e=.returned (.slice u U B)/\U<=11*n/\Sl Z u U B (xs.flatMap Ij)/\(∀p,u=some p->w.1.size<=p.block)/\Below w.1.size w Z:=by
 have y:=HI K.len;skip
 skip
 obtain⟨a2,P⟩:=K.bounds;unfold maxLen at P;go_enter func223,ntmps223
 go_wp2_with fail
 go_loopw [5,10] (λb i wr=>∃(j q:Nat) (u:OA) (B:Nat),j<=n/\q<=11*j/\i=.int .i64 (j:Int)/\b=.slice u q B/\Sl wr u q B (bK xs j)/\(∀p,u=some p->w.1.size<=p.block)/\Below w.1.size w wr) (λ_ i _=>n-(intOf i).toNat)
 case atStart=>exact⟨0,0,_,_,AW _,by omega,rfl,rfl,Il _,(λp h=>by cases h),AI _ _⟩
 case round=>
  obtain⟨j,q,u,B,hj,hq,rfl,rfl,R,W,E⟩:=hrel;by_cases G:j<n
  ·have M:=K.below E;obtain⟨g,o,hA,hg,c0,c1,c2,c3⟩:=M.cell G;subst hA;have m:=HI (qAa xs j (by rw[y.out];exact G));obtain⟨x,X⟩:∃x,Qk xs j=x:=⟨_,rfl⟩;rw[X] at c0 c1 c2 c3 m;clear X;go_wp2_with fail
   have D:Below wr.1.size wr (wr.alloc (.cells #[.int .i64 x.k.obj,.int .i64 x.k.kind,.int .i64 x.k.off,.int .i64 x.a] 125)):=Qi;refine (qjp u q B _ x _ (R.below D) (by omega)).mono ?_;rintro e w2 ⟨V,Y,I,rfl,H,f,F⟩;have J:=E.trans ((D.trans (F.mono D.size)).mono E.size);have Q:Y<=11*(j+1):=by omega
   have a1:=HI H;clear H;rw[<-m.out] at f;have T:=f.sl;have O:∀p,V=some p->w.1.size<=p.block:=λp h=>by have h1:=(f.block p h).1;have h2:=E.size;have h3:=D.size;omega
   clear W;clear f D;go_wp2;exact⟨⟨j+1,Y,V,I,by omega,Q,by go_num,rfl,T,O,J⟩,by simp[intOf];omega⟩
  ·obtain rfl:j=n:=by omega
   have e:bK xs j=xs.flatMap Ij:=by rw[<-y.out];exact qC6 xs
   rw[e] at R;go_wp2;go_ret;exact⟨_,_,_,rfl,hq,R,W,E⟩
theorem qrh {N:Nd}(addr gen:Int){n:Nat}{K:Int}(f:N.lvl=0)(hm:N.may=true)(hn:N.items.length=n)(e:(if N.lvl=0 then 3 else 4)=K):N.head addr gen=⟨K,addr,(n:Int),N.lvl,gen⟩/\N.body=N.items.flatMap Ik:=by
 rw[AA f] at e;have m:N.kids=[]:=by
  refine BF ?_;unfold Nd.may at hm;rw[AA f,BN,BN] at hm;exact (AK hm.2.2).1
 unfold Nd.head Nd.body;rw[m,hn,AB (by omega),e];simp
theorem qok {N:Nd}(addr gen:Int){m:Nat}{K:Int}(f:¬N.lvl=0)(hm:N.may=true)(hn:N.kids.length=m)(e:(if N.lvl=0 then 3 else 4)=K):N.head addr gen=⟨K,addr,(m:Int),N.lvl,gen⟩/\N.body=N.kids.flatMap Ij:=by
 rw[AB f] at e;unfold Nd.may at hm;rw[AB f,BN,BN] at hm;have h2:=AK hm.2.2;have p:N.items=[]:=BF h2.2.2.1;unfold Nd.head Nd.body;rw[p,hn,AA (by omega),e];simp
theorem qh1 {w:WD}{b:Nat}{K addr lvl gen x y:Int}(H:HB w b ⟨K,addr,x,lvl,gen⟩):HB (w.setCell ⟨b,2,none⟩ (.int .i64 y)) b ⟨K,addr,y,lvl,gen⟩:=H.Vo 3 y
theorem qd5 (N:Nd)(addr gen:Int)(A:OA)(n c:Nat)(B:OA)(m d:Nat)(w:WD)(hI:J3 w A n c N.items)(hK:Zr w B m d N.kids)(hn:n<=1000)(hm:m<=1000)(ht:Tab w) :
  Calls prog 195 #[.agg #[.int .i64 N.lvl,.slice A n c,.slice B m d],.int .i64 addr,.int .i64 gen] w λe u=>∃A' n' c',e=.returned (.tuple #[.slice A' n' c',.int .i64 (Zi N addr gen)])/\Own u w.1.size 5 A' n' c' (Jo N addr gen)/\(Zi N addr gen=0->∃g,A'=some ⟨g,0,none⟩/\n'=256/\c'=256)/\Below w.1.size w u:=by
 have b2:=HI hI.len;have b4:=HI hK.len;go_enter func195,ntmps195
 go_wp2_with fail
 have N1:NB (w.alloc (.cells #[.int .i64 N.lvl,.slice A n c,.slice B m d] 74)) w.1.size N.lvl A n c B m d:=NB.new w _ _ _ _ _ _ _ _;have b1:Below w.1.size w (w.alloc (.cells #[.int .i64 N.lvl,.slice A n c,.slice B m d] 74)):=Qi;generalize w.alloc (.cells #[.int .i64 N.lvl,.slice A n c,.slice B m d] 74)=w1 at N1 b1 ⊢
 cases J:N.may
 ·refine (q2g N false J A n c B m d w1 (hI.below b1) (hK.below b1) hn hm).mono ?_;rintro e f ⟨rfl,a2⟩;go_wp2;go_ret2;have h1:Zi N addr gen=1:=by unfold Zi;rw[J];rfl
  have h2:Jo N addr gen=[]:=by unfold Jo;rw[J];rfl
  rw[h1,h2];exact⟨_,_,_,rfl,qfs _ _ _,(λh=>by cases h),b1.trans (a2.mono b1.size)⟩
 ·refine (q2g N true J A n c B m d w1 (hI.below b1) (hK.below b1) hn hm).mono ?_;rintro e f ⟨rfl,a2⟩;have N2:=N1.below a2 N1.lt;have B2:=b1.trans (a2.mono b1.size);have n0:=N2.c0;obtain⟨_,_,a1,_⟩:=q31 J;have Hv:=HI a1;have E:=HI J;clear a1;obtain⟨K,a6⟩:∃K:Int,(if N.lvl=0 then 3 else 4)=K:=⟨_,rfl⟩;have a7:=HI a6;clear a6;have zn:=N2.lt;have P:∀u:WD,Below f.1.size f u->u.cell? ⟨w.1.size,0,none⟩=some (.int .i64 N.lvl)/\Below f.1.size f u:=
   λu W=>⟨(W.cell (p:=⟨w.1.size,_,none⟩) zn).trans n0,W⟩
  have T:Below f.1.size f f.drew:=(AI _ f).drew;go_wp2_with fail
  go_region_held3 (λu=>u.cell? ⟨w.1.size,0,none⟩=some (.int .i64 N.lvl)/\Below f.1.size f u)
   (first|assumption|exact P _ T|exact P _ (T.alloc (AE _) _))
   (first
    |(go_at_call 107;refine (q4j N.lvl K a7.out _).mono ?_;rintro e w3 ⟨rfl,rfl⟩)
    |fail)
  all_goals
   have H3:HB (f.alloc (.cells #[.int .i64 K,.int .i64 addr,.int .i64 0,.int .i64 N.lvl,.int .i64 gen] 153)).drew f.1.size ⟨K,addr,0,N.lvl,gen⟩:=⟨_,BE f _⟩;have b3:Below f.1.size f (f.alloc (.cells #[.int .i64 K,.int .i64 addr,.int .i64 0,.int .i64 N.lvl,.int .i64 gen] 153)).drew:=((AI _ f).alloc (AE _) _).drew;have I:f.1.size<(f.alloc (.cells #[.int .i64 K,.int .i64 addr,.int .i64 0,.int .i64 N.lvl,.int .i64 gen] 153)).drew.1.size:=by simp
   clear P T;generalize (f.alloc (.cells #[.int .i64 K,.int .i64 addr,.int .i64 0,.int .i64 N.lvl,.int .i64 gen] 153)).drew=w3 at *;have V:=N2.below b3 zn;have B3:=B2.trans (b3.mono B2.size);clear N2 B2 b3 n0 N1 b1;by_cases hl:N.lvl=0
   ·have Q:=qrh addr gen hl E.out b2.out a7.out;have G:=HI Q.1;have F:=HI Q.2;clear Q;have Hl:=HI hl;clear hl;have q0:=V.c0;have q1:=V.c1;have q2:=V.c2;go_wp2_with fail
    refine (q1c N.lvl true (AL Hl.out) A n c B m d w3).mono ?_;rintro e q ⟨rfl,H⟩;have N4:=V.below H V.lt;have H4:=H3.below H I;have B4:=B3.trans (H.mono B3.size);have z4:f.1.size<q.1.size:=Nat.lt_of_lt_of_le I H.size;clear H V H3 B3 I q0 q1 q2;have nn:=N4.c1;have R:w.1.size<f.1.size:=zn;have P:∀u:WD,Below f.1.size q u->u.cell? ⟨w.1.size,1,none⟩=some (.slice A n c)/\Below f.1.size q u:=
     λu W=>⟨(W.cell (p:=⟨w.1.size,_,none⟩) R).trans nn,W⟩
    have T:Below f.1.size q q.drew:=(AI _ q).drew;have Z:∀u:WD,Below f.1.size q u->J3 u A n c N.items:=λu W=>hI.below (B4.trans (W.mono (Nat.le_of_lt R)))
    have h2:=H4.at_ 3;have f2:=H4.fz 3;have BS:Below f.1.size q ((q.setCell ⟨f.1.size,2,none⟩ (.int .i64 (n:Int))).drew):=((AI _ q).setCell (p:=⟨f.1.size,2,none⟩) (AE f.1.size) _).drew;have zS:q.1.size<=(q.setCell ⟨f.1.size,2,none⟩ (.int .i64 (n:Int))).drew.1.size:=by simp
    have zD:q.1.size<=q.drew.1.size:=AE _;simp only[Y0] at h2 f2;go_wp2_with fail
    go_region_held3 (λu=>u.cell? ⟨w.1.size,1,none⟩=some (.slice A n c)/\Below f.1.size q u)
     (first|assumption|exact P _ T|exact P _ BS|exact P _ M|exact P _ (M.setCell (p:=⟨f.1.size,2,none⟩) (AE f.1.size) _))
     (first
      |(go_at_call 221;refine (qrf N.items A n c _ (Z _ (by first|exact T|exact BS)) (by omega) (λj hj=>Hv.out j (by rw[b2.out];exact hj))).mono ?_;rintro e U ⟨A5,n5,c5,rfl,b5,s5,o5,D⟩;have M:Below f.1.size q U:=(by first|exact T.trans (D.mono (AZ (Nat.le_of_lt z4) zD))|exact BS.trans (D.mono (AZ (Nat.le_of_lt z4) zS)));have g5:=(show U.cell? ⟨f.1.size,2,none⟩=_ from D.cell (p:=⟨f.1.size,2,none⟩) (by first|exact Nat.lt_of_lt_of_le z4 zD|exact Nat.lt_of_lt_of_le z4 zS));have k5:=(show U.frozen? ⟨f.1.size,2,none⟩=_ from D.frozen (p:=⟨f.1.size,2,none⟩) (by first|exact Nat.lt_of_lt_of_le z4 zD|exact Nat.lt_of_lt_of_le z4 zS)))
      |fail)
    all_goals
     simp only[Hd.Fj] at h2;have H5:HB U f.1.size ⟨K,addr,0,N.lvl,gen⟩:=(show HB q.drew _ _ from H4).below D z4;have H6:=qh1 (y:=(n:Int)) H5;have s6:=s5.turned (Gw (S:=λk=>k=f.1.size) (w:=U) (a:=⟨f.1.size,2,none⟩) (.int .i64 (n:Int)) rfl) (λk hk e=>by
      cases A5 with
      |none=>cases hk
      |some ad=>
       have e1:=o5 ad rfl;have e2:ad.block=k:=OI hk;have e3:q.1.size<=ad.block:=e1;omega)
     have X:=B4.trans ((M.setCell (p:=⟨f.1.size,2,none⟩) (AE f.1.size) (.int .i64 (n:Int))).mono (Nat.le_of_lt R));clear s5;generalize U.setCell ⟨f.1.size,2,none⟩ (.int .i64 (n:Int))=w6 at H6 s6 X ⊢;clear P T BS Z h2 f2 g5 k5 D M nn zS zD N4 H4;go_wp2_with (first
      |(refine q5x rfl (.tmp 8) rfl f.1.size rfl _ H6 ?_)
      |fail)
     refine (q5y _ A5 n5 c5 _ _ s6 (ht.below X ht.1)).mono ?_;rintro e w7 ⟨A7,n7,c7,rfl,O,b0,a8⟩;rw[<-F.out,<-G.out] at O;have s7:=O.less X.size;have B7:=X.trans (a8.mono X.size);have hE:=HI (show Zi N addr gen=Xr (N.head addr gen) N.body by unfold Zi;rw[E.out];rfl);have Y:Xw (N.head addr gen) N.body=Jo N addr gen:=by unfold Jo;rw[E.out];rfl
     rw[Y] at s7;clear Y;go_wp2;go_ret2;rw[hE.out,G.out,F.out];exact⟨_,_,_,rfl,s7,b0,B7⟩
   ·have Q:=qok addr gen hl E.out b4.out a7.out;have G:=HI Q.1;have F:=HI Q.2;clear Q;have Hl:=HI hl;clear hl;have q0:=V.c0;have q1:=V.c1;have q2:=V.c2;go_wp2_with fail
    refine (q1c N.lvl false (AH Hl.out) A n c B m d w3).mono ?_;rintro e q ⟨rfl,H⟩;have N4:=V.below H V.lt;have H4:=H3.below H I;have B4:=B3.trans (H.mono B3.size);have z4:f.1.size<q.1.size:=Nat.lt_of_lt_of_le I H.size;clear H V H3 B3 I q0 q1 q2;have nn:=N4.c2;have R:w.1.size<f.1.size:=zn;have P:∀u:WD,Below f.1.size q u->u.cell? ⟨w.1.size,2,none⟩=some (.slice B m d)/\Below f.1.size q u:=
     λu W=>⟨(W.cell (p:=⟨w.1.size,_,none⟩) R).trans nn,W⟩
    have T:Below f.1.size q q.drew:=(AI _ q).drew;have Z:∀u:WD,Below f.1.size q u->Zr u B m d N.kids:=λu W=>hK.below (B4.trans (W.mono (Nat.le_of_lt R)))
    have h2:=H4.at_ 3;have f2:=H4.fz 3;have BS:Below f.1.size q ((q.setCell ⟨f.1.size,2,none⟩ (.int .i64 (m:Int))).drew):=((AI _ q).setCell (p:=⟨f.1.size,2,none⟩) (AE f.1.size) _).drew;have zS:q.1.size<=(q.setCell ⟨f.1.size,2,none⟩ (.int .i64 (m:Int))).drew.1.size:=by simp
    have zD:q.1.size<=q.drew.1.size:=AE _;simp only[Y0] at h2 f2;go_wp2_with fail
    go_region_held3 (λu=>u.cell? ⟨w.1.size,2,none⟩=some (.slice B m d)/\Below f.1.size q u)
     (first|assumption|exact P _ T|exact P _ BS|exact P _ M|exact P _ (M.setCell (p:=⟨f.1.size,2,none⟩) (AE f.1.size) _))
     (first
      |(go_at_call 223;refine (qrg N.kids B m d _ (Z _ (by first|exact T|exact BS)) (by omega)).mono ?_;rintro e U ⟨A5,n5,c5,rfl,b5,s5,o5,D⟩;have M:Below f.1.size q U:=(by first|exact T.trans (D.mono (AZ (Nat.le_of_lt z4) zD))|exact BS.trans (D.mono (AZ (Nat.le_of_lt z4) zS)));have g5:=(show U.cell? ⟨f.1.size,2,none⟩=_ from D.cell (p:=⟨f.1.size,2,none⟩) (by first|exact Nat.lt_of_lt_of_le z4 zD|exact Nat.lt_of_lt_of_le z4 zS));have k5:=(show U.frozen? ⟨f.1.size,2,none⟩=_ from D.frozen (p:=⟨f.1.size,2,none⟩) (by first|exact Nat.lt_of_lt_of_le z4 zD|exact Nat.lt_of_lt_of_le z4 zS)))
      |fail)
    all_goals
     simp only[Hd.Fj] at h2;have H5:HB U f.1.size ⟨K,addr,0,N.lvl,gen⟩:=(show HB q.drew _ _ from H4).below D z4;have H6:=qh1 (y:=(m:Int)) H5;have s6:=s5.turned (Gw (S:=λk=>k=f.1.size) (w:=U) (a:=⟨f.1.size,2,none⟩) (.int .i64 (m:Int)) rfl) (λk hk e=>by
      cases A5 with
      |none=>cases hk
      |some ad=>
       have e1:=o5 ad rfl;have e2:ad.block=k:=OI hk;have e3:q.1.size<=ad.block:=e1;omega)
     have X:=B4.trans ((M.setCell (p:=⟨f.1.size,2,none⟩) (AE f.1.size) (.int .i64 (m:Int))).mono (Nat.le_of_lt R));clear s5;generalize U.setCell ⟨f.1.size,2,none⟩ (.int .i64 (m:Int))=w6 at H6 s6 X ⊢;clear P T BS Z h2 f2 g5 k5 D M nn zS zD N4 H4;go_wp2_with (first
      |(refine q5x rfl (.tmp 8) rfl f.1.size rfl _ H6 ?_)
      |fail)
     refine (q5y _ A5 n5 c5 _ _ s6 (ht.below X ht.1)).mono ?_;rintro e w7 ⟨A7,n7,c7,rfl,O,b0,a8⟩;rw[<-F.out,<-G.out] at O;have s7:=O.less X.size;have B7:=X.trans (a8.mono X.size);have hE:=HI (show Zi N addr gen=Xr (N.head addr gen) N.body by unfold Zi;rw[E.out];rfl);have Y:Xw (N.head addr gen) N.body=Jo N addr gen:=by unfold Jo;rw[E.out];rfl
     rw[Y] at s7;clear Y;go_wp2;go_ret2;rw[hE.out,G.out,F.out];exact⟨_,_,_,rfl,s7,b0,B7⟩
