/- The code's node: put, for items and for kids -/
import Derived.Test.YtnnbaihfboacoaaGreatDoorEr10
namespace Go.Proofs.YtnnbaihfboacoaaGreatDoor
open Go Go.RowKit Go.Proofs
set_option maxHeartbeats 8000000
set_option maxRecDepth 100000
theorem qfu (A:Option Addr)(n c:Nat)(l:List UInt8)(x:Qc)(B:Option Addr)(m d:Nat)(w:World)(h:Sl w A n c l)(hv:Sl w B m d x.v)(hm:m<=28)(hn:n<=100000) :
  Calls Tryz.prog 192 #[.slice A n c,.agg #[.int .i64 x.k.obj,.int .i64 x.k.kind,.int .i64 x.k.off,.slice B m d]] w λe b=>∃A' Z c',e=.returned (.slice A' Z c')/\Z=n+10+m/\Own b w.1.size 5 A' Z c' (l++Fe x)/\Below w.1.size w b:=by
 have E:=Lib.hid h.len;have H:=Lib.hid hv.len;obtain⟨X,Q⟩:∃X:ByteArray,(⟨x.v.toArray⟩:ByteArray)=X:=⟨_,rfl⟩;have Xs:X.size=m:=by rw[<-Q,<-H.out];rfl
 have Xd:=Lib.hid (show X.data.toList=x.v by rw[<-Q]);have u:∀b:World,Below w.1.size w b->(convert 31 9 (.slice B m d)).run Tryz.prog b=.ok (.string X) b:=λb F=>by
  have:=Ny (hv.below F);rw[Q] at this;exact this
 clear Q;obtain⟨k,W⟩:∃k,x.k=k:=⟨_,rfl⟩;have Hk:=Lib.hid W;rw[W];clear W;go_enter Tryz.func192,Tryz.ntmps192
 go_wp2_with fail
 have I:Below w.1.size w (w.alloc (.cells #[.int .i64 k.obj,.int .i64 k.kind,.int .i64 k.off,.slice B m d] 68)):=Qm;have J:(w.alloc (.cells #[.int .i64 k.obj,.int .i64 k.kind,.int .i64 k.off,.slice B m d] 68)).1[w.1.size]?=some (.cells #[.int .i64 k.obj,.int .i64 k.kind,.int .i64 k.off,.slice B m d] 68 (0,0)):=heap_alloc_new w _;have M:w.1.size<(w.alloc (.cells #[.int .i64 k.obj,.int .i64 k.kind,.int .i64 k.off,.slice B m d] 68)).1.size:=by simp
 generalize w.alloc (.cells #[.int .i64 k.obj,.int .i64 k.kind,.int .i64 k.off,.slice B m d] 68)=f at I J M ⊢;have q0:f.cell? ⟨w.1.size,0,none⟩=some (.int .i64 k.obj):=by rw[cell_of_row _ _ _ _ _ _ J];rfl
 have q1:f.cell? ⟨w.1.size,1,none⟩=some (.int .i64 k.kind):=by rw[cell_of_row _ _ _ _ _ _ J];rfl
 have q2:f.cell? ⟨w.1.size,2,none⟩=some (.int .i64 k.off):=by rw[cell_of_row _ _ _ _ _ _ J];rfl
 have q3:f.cell? ⟨w.1.size,3,none⟩=some (.slice B m d):=by rw[cell_of_row _ _ _ _ _ _ J];rfl
 clear J;have Y:=h.below I;have P:∀b:World,Below f.1.size f b->b.cell? ⟨w.1.size,0,none⟩=some (.int .i64 k.obj)/\b.cell? ⟨w.1.size,1,none⟩=some (.int .i64 k.kind)/\b.cell? ⟨w.1.size,2,none⟩=some (.int .i64 k.off)/\b.cell? ⟨w.1.size,3,none⟩=some (.slice B m d)/\(convert 31 9 (.slice B m d)).run Tryz.prog b=.ok (.string X) b/\Below f.1.size f b:=
  λb F=>⟨(F.cell (p:=⟨w.1.size,_,none⟩) M).trans q0,(F.cell (p:=⟨w.1.size,_,none⟩) M).trans q1,(F.cell (p:=⟨w.1.size,_,none⟩) M).trans q2,(F.cell (p:=⟨w.1.size,_,none⟩) M).trans q3,u b (I.trans (F.mono I.size)),F⟩
 have R:Below f.1.size f f.drew:=(Below.refl _ f).drew;have zr:f.1.size<=f.drew.1.size:=Nat.le_refl _;have p0:n<=4398046511104:=by omega
 have pX:X.size<=255:=by omega
 clear q0 q1 q2 q3;have O:=Lib.hid u;clear u;go_region_held3 (λb=>b.cell? ⟨w.1.size,0,none⟩=some (.int .i64 k.obj)/\b.cell? ⟨w.1.size,1,none⟩=some (.int .i64 k.kind)/\b.cell? ⟨w.1.size,2,none⟩=some (.int .i64 k.off)/\b.cell? ⟨w.1.size,3,none⟩=some (.slice B m d)/\(convert 31 9 (.slice B m d)).run Tryz.prog b=.ok (.string X) b/\Below f.1.size f b)
  (first|assumption|exact P _ R|exact P _ y|exact P _ K)
  (first
   |(go_at_call 210;have hh:=y;refine (qga A5 n5 c5 _ X _ G.sl p5 pX).mono ?_;rintro e w6 ⟨A6,n6,c6,rfl,D,U⟩;have K:Below f.1.size f w6:=y.trans (U.mono y.size))
   |(go_at_call 211;refine (qkv A n c l k _ Y.drew p0).mono ?_;rintro e w5 ⟨A5,n5,c5,rfl,G,T⟩;have y:Below f.1.size f w5:=R.trans (T.mono zr);have l5:n5=n+9:=(by have:=G.len;rw[List.length_append,E.out,Kd.Yb] at this;omega);have p5:n5<=17592186044416:=(by omega);have a1:=Lib.hid l5;clear l5)
   |fail)
 all_goals
  have e6:l++k.bytes++(Zc (X.size:Int) 1++X.data.toList)=l++Fe x:=by
   unfold Fe;rw[Xd.out,Xs,H.out,Hk.out,List.append_assoc]
  have l6:=Lib.hid (show n6=n+10+m by have:=D.len;rw[List.length_append,List.length_append,List.length_append,E.out,Kd.Yb,Yl,Xd.out,H.out] at this;omega);rw[e6] at D;have B6:=I.trans (K.mono I.size);have o6:=D.less (show w.1.size<=w5.1.size from Nat.le_trans I.size y.size);clear P R;go_wp2;go_ret;exact⟨_,_,_,rfl,l6.out,o6,B6⟩
theorem qhu (A:Option Addr)(n c:Nat)(l:List UInt8)(x:Ql)(w:World)(h:Sl w A n c l)(hn:n<=100000) :
  Calls Tryz.prog 194 #[.slice A n c,.agg #[.int .i64 x.k.obj,.int .i64 x.k.kind,.int .i64 x.k.off,.int .i64 x.a]] w λe d=>∃W T X,e=.returned (.slice W T X)/\T=n+11/\Own d w.1.size 5 W T X (l++Fb x)/\Below w.1.size w d:=by
 have u:=Lib.hid h.len;have B:Fb x=x.k.bytes++Zc x.a 2:=rfl;obtain⟨k,Q⟩:∃k,x.k=k:=⟨_,rfl⟩;obtain⟨a,M⟩:∃a,x.a=a:=⟨_,rfl⟩;rw[Q,M] at B;have K:=Lib.hid B;rw[Q,M];clear Q M B;go_enter Tryz.func194,Tryz.ntmps194
 go_wp2_with fail
 have E:Below w.1.size w (w.alloc (.cells #[.int .i64 k.obj,.int .i64 k.kind,.int .i64 k.off,.int .i64 a] 81)):=Qm;have D:(w.alloc (.cells #[.int .i64 k.obj,.int .i64 k.kind,.int .i64 k.off,.int .i64 a] 81)).1[w.1.size]?=some (.cells #[.int .i64 k.obj,.int .i64 k.kind,.int .i64 k.off,.int .i64 a] 81 (0,0)):=heap_alloc_new w _;have H:w.1.size<(w.alloc (.cells #[.int .i64 k.obj,.int .i64 k.kind,.int .i64 k.off,.int .i64 a] 81)).1.size:=by simp
 generalize w.alloc (.cells #[.int .i64 k.obj,.int .i64 k.kind,.int .i64 k.off,.int .i64 a] 81)=b at E D H ⊢;have Z:b.cell? ⟨w.1.size,0,none⟩=some (.int .i64 k.obj):=by rw[cell_of_row _ _ _ _ _ _ D];rfl
 have q1:b.cell? ⟨w.1.size,1,none⟩=some (.int .i64 k.kind):=by rw[cell_of_row _ _ _ _ _ _ D];rfl
 have q2:b.cell? ⟨w.1.size,2,none⟩=some (.int .i64 k.off):=by rw[cell_of_row _ _ _ _ _ _ D];rfl
 have q3:b.cell? ⟨w.1.size,3,none⟩=some (.int .i64 a):=by rw[cell_of_row _ _ _ _ _ _ D];rfl
 clear D;have R:=h.below E;have I:∀d:World,Below b.1.size b d->d.cell? ⟨w.1.size,0,none⟩=some (.int .i64 k.obj)/\d.cell? ⟨w.1.size,1,none⟩=some (.int .i64 k.kind)/\d.cell? ⟨w.1.size,2,none⟩=some (.int .i64 k.off)/\d.cell? ⟨w.1.size,3,none⟩=some (.int .i64 a)/\Below b.1.size b d:=
  λd G=>⟨(G.cell (p:=⟨w.1.size,_,none⟩) H).trans Z,(G.cell (p:=⟨w.1.size,_,none⟩) H).trans q1,(G.cell (p:=⟨w.1.size,_,none⟩) H).trans q2,(G.cell (p:=⟨w.1.size,_,none⟩) H).trans q3,G⟩
 have J:Below b.1.size b b.drew:=(Below.refl _ b).drew;have zr:b.1.size<=b.drew.1.size:=Nat.le_refl _;have p0:n<=4398046511104:=by omega
 have r1:(1:Int)<=2:=by omega
 have r2:(2:Int)<=8:=by omega
 clear Z q1 q2 q3;go_region_held3 (λd=>d.cell? ⟨w.1.size,0,none⟩=some (.int .i64 k.obj)/\d.cell? ⟨w.1.size,1,none⟩=some (.int .i64 k.kind)/\d.cell? ⟨w.1.size,2,none⟩=some (.int .i64 k.off)/\d.cell? ⟨w.1.size,3,none⟩=some (.int .i64 a)/\Below b.1.size b d)
  (first|assumption|exact I _ J|exact I _ f|exact I _ F)
  (first
   |(go_at_call 126;have hh:=f;refine (q73 A5 U c5 _ a 2 _ y.sl p5 r1 r2).mono ?_;rintro e w6 ⟨A6,n6,c6,rfl,m,a2,P⟩;have F:Below b.1.size b w6:=f.trans (P.mono f.size))
   |(go_at_call 211;refine (qkv A n c l k _ R.drew p0).mono ?_;rintro e w5 ⟨A5,U,c5,rfl,y,O⟩;have f:Below b.1.size b w5:=J.trans (O.mono zr);have Y:U=n+9:=(by have:=y.len;rw[List.length_append,u.out,Kd.Yb] at this;omega);have p5:U<=17592186044416:=(by omega);have a1:=Lib.hid Y;clear Y)
   |fail)
 all_goals
  have e6:l++k.bytes++Zc a (2:Int).toNat=l++Fb x:=by
   rw[K.out,List.append_assoc];rfl
  have l6:=Lib.hid (show n6=n+11 by have:=m.len;rw[List.length_append,List.length_append,u.out,Kd.Yb,Yl] at this;rw[<-this];rfl);rw[e6] at m;have B6:=E.trans (F.mono E.size);have o6:=m.less (show w.1.size<=w5.1.size from Nat.le_trans E.size f.size);clear I J;go_wp2;go_ret;exact⟨_,_,_,rfl,l6.out,o6,B6⟩
def bI (xs:List Qc)(j:Nat):List UInt8:=(xs.take j).flatMap Fe
def bK (xs:List Ql)(j:Nat):List UInt8:=(xs.take j).flatMap Fb
theorem qwa (xs:List Qc)(j:Nat)(h:j<xs.length):bI xs (j+1)=bI xs j++Fe (Qj xs j):=by
 unfold bI;have:=q11 h;rw[List.getElem?_eq_getElem h] at this;rw[List.take_succ_eq_append_getElem h,List.flatMap_append,Option.some.inj this];simp
theorem qwb (xs:List Ql)(j:Nat)(h:j<xs.length):bK xs (j+1)=bK xs j++Fb (Qg xs j):=by
 unfold bK;have:=Rf h;rw[List.getElem?_eq_getElem h] at this;rw[List.take_succ_eq_append_getElem h,List.flatMap_append,Option.some.inj this];simp
theorem qxv (xs:List Qc):bI xs xs.length=xs.flatMap Fe:=by unfold bI;rw[List.take_length]
theorem qxw (xs:List Ql):bK xs xs.length=xs.flatMap Fb:=by unfold bK;rw[List.take_length]
theorem qow (xs:List Qc)(A:Option Addr)(n c:Nat)(w:World)(M:Zl w A n c xs)(hn:n<=1000)(hv:∀j,j<n->(Qj xs j).v.length<=28) :
  Calls Tryz.prog 191 #[.slice A n c,.func (.func 192) #[] #[]] w λe w'=>∃p W B,e=.returned (.slice p W B)/\W<=38*n/\Sl w' p W B (xs.flatMap Fe)/\(∀m,p=some m->w.1.size<=m.block)/\Below w.1.size w w':=by
 have u:=Lib.hid M.len;have Hv:=Lib.hid hv;clear hv;obtain⟨a2,Q⟩:=M.bounds;unfold maxLen at Q;go_enter Tryz.func191,Tryz.ntmps191
 go_wp2_with fail
 go_loopw [5,10] (λb i wr=>∃(j q:Nat) (p:Option Addr) (B:Nat),j<=n/\q<=38*j/\i=.int .i64 (j:Int)/\b=.slice p q B/\Sl wr p q B (bI xs j)/\(∀m,p=some m->w.1.size<=m.block)/\Below w.1.size w wr) (λ_ i _=>n-(intOf i).toNat)
 case atStart=>exact⟨0,0,_,_,Nat.zero_le _,by omega,rfl,rfl,q24 _,(λm h=>by cases h),Below.refl _ _⟩
 case round=>
  obtain⟨j,q,p,B,hj,hq,rfl,rfl,T,hO,G⟩:=hrel;by_cases D:j<n
  ·have O:=M.below G;obtain⟨g,o,Y,m',Z,hA,hg,c0,c1,c2,c3,E⟩:=O.cell D;have y:=Hv.out j D;rw[E.len] at y;subst hA;have f:=Lib.hid (qwa xs j (by rw[u.out];exact D));obtain⟨x,hx⟩:∃x,Qj xs j=x:=⟨_,rfl⟩;rw[hx] at c0 c1 c2 E f;clear hx;go_wp2_with fail
   have F:Below wr.1.size wr (wr.alloc (.cells #[.int .i64 x.k.obj,.int .i64 x.k.kind,.int .i64 x.k.off,.slice Y m' Z] 68)):=Qm;refine (qfu p q B _ x Y m' Z _ (T.below F) (E.below F) y (by omega)).mono ?_;rintro e w2 ⟨X,n2,J,rfl,I,d,H⟩;have K:=G.trans ((F.trans (H.mono F.size)).mono G.size);have R:n2<=38*(j+1):=by omega
   have a1:=Lib.hid I;clear I;rw[<-f.out] at d;have U:=d.sl;have P:∀m,X=some m->w.1.size<=m.block:=λm h=>by have h1:=(d.block m h).1;have h2:=G.size;have h3:=F.size;omega
   clear hO;clear d F;go_wp2;exact⟨⟨j+1,n2,X,J,by omega,R,by go_num,rfl,U,P,K⟩,by simp[intOf];omega⟩
  ·obtain rfl:j=n:=by omega
   have e:bI xs j=xs.flatMap Fe:=by rw[<-u.out];exact qxv xs
   rw[e] at T;go_wp2;go_ret;exact⟨_,_,_,rfl,hq,T,hO,G⟩
theorem qox (xs:List Ql)(A:Option Addr)(n c:Nat)(w:World)(J:Zm w A n c xs)(hn:n<=1000) :
  Calls Tryz.prog 193 #[.slice A n c,.func (.func 194) #[] #[]] w λe Z=>∃p T y,e=.returned (.slice p T y)/\T<=11*n/\Sl Z p T y (xs.flatMap Fb)/\(∀m,p=some m->w.1.size<=m.block)/\Below w.1.size w Z:=by
 have u:=Lib.hid J.len;skip
 skip
 obtain⟨a2,O⟩:=J.bounds;unfold maxLen at O;go_enter Tryz.func193,Tryz.ntmps193
 go_wp2_with fail
 go_loopw [5,10] (λb i wr=>∃(j q:Nat) (p:Option Addr) (y:Nat),j<=n/\q<=11*j/\i=.int .i64 (j:Int)/\b=.slice p q y/\Sl wr p q y (bK xs j)/\(∀m,p=some m->w.1.size<=m.block)/\Below w.1.size w wr) (λ_ i _=>n-(intOf i).toNat)
 case atStart=>exact⟨0,0,_,_,Nat.zero_le _,by omega,rfl,rfl,q24 _,(λm h=>by cases h),Below.refl _ _⟩
 case round=>
  obtain⟨j,q,p,y,hj,hq,rfl,rfl,Q,W,D⟩:=hrel;by_cases F:j<n
  ·have K:=J.below D;obtain⟨g,o,hA,hg,c0,c1,c2,c3⟩:=K.cell F;subst hA;have f:=Lib.hid (qwb xs j (by rw[u.out];exact F));obtain⟨x,X⟩:∃x,Qg xs j=x:=⟨_,rfl⟩;rw[X] at c0 c1 c2 c3 f;clear X;go_wp2_with fail
   have B:Below wr.1.size wr (wr.alloc (.cells #[.int .i64 x.k.obj,.int .i64 x.k.kind,.int .i64 x.k.off,.int .i64 x.a] 81)):=Qm;refine (qhu p q y _ x _ (Q.below B) (by omega)).mono ?_;rintro e w2 ⟨U,Y,H,rfl,G,d,E⟩;have I:=D.trans ((B.trans (E.mono B.size)).mono D.size);have P:Y<=11*(j+1):=by omega
   have a1:=Lib.hid G;clear G;rw[<-f.out] at d;have R:=d.sl;have M:∀m,U=some m->w.1.size<=m.block:=λm h=>by have h1:=(d.block m h).1;have h2:=D.size;have h3:=B.size;omega
   clear W;clear d B;go_wp2;exact⟨⟨j+1,Y,U,H,by omega,P,by go_num,rfl,R,M,I⟩,by simp[intOf];omega⟩
  ·obtain rfl:j=n:=by omega
   have e:bK xs j=xs.flatMap Fb:=by rw[<-u.out];exact qxw xs
   rw[e] at Q;go_wp2;go_ret;exact⟨_,_,_,rfl,hq,Q,W,D⟩
theorem qoy {N:Nd}(addr gen:Int){n:Nat}{K:Int}(d:N.lvl=0)(hm:N.may=true)(hn:N.items.length=n)(b:(if N.lvl=0 then 3 else 4)=K):N.head addr gen=⟨K,addr,(n:Int),N.lvl,gen⟩/\N.body=N.items.flatMap Fe:=by
 rw[if_pos d] at b;have e:N.kids=[]:=by
  refine List.eq_nil_of_length_eq_zero ?_;unfold Nd.may at hm;rw[if_pos d,Bool.and_eq_true,Bool.and_eq_true] at hm;exact (of_decide_eq_true hm.2.2).1
 unfold Nd.head Nd.body;rw[e,hn,if_neg (by omega),b];simp
theorem qm8 {N:Nd}(addr gen:Int){m:Nat}{K:Int}(d:¬N.lvl=0)(hm:N.may=true)(hn:N.kids.length=m)(b:(if N.lvl=0 then 3 else 4)=K):N.head addr gen=⟨K,addr,(m:Int),N.lvl,gen⟩/\N.body=N.kids.flatMap Fb:=by
 rw[if_neg d] at b;unfold Nd.may at hm;rw[if_neg d,Bool.and_eq_true,Bool.and_eq_true] at hm;have h2:=of_decide_eq_true hm.2.2;have e:N.items=[]:=List.eq_nil_of_length_eq_zero h2.2.2.1;unfold Nd.head Nd.body;rw[e,hn,if_pos (by omega),b];simp
theorem qfv {w:World}{b:Nat}{K addr lvl gen x y:Int}(H:HB w b ⟨K,addr,x,lvl,gen⟩):HB (w.setCell ⟨b,2,none⟩ (.int .i64 y)) b ⟨K,addr,y,lvl,gen⟩:=H.Vr 3 y
theorem qcc (N:Nd)(addr gen:Int)(A:Option Addr)(n c:Nat)(B:Option Addr)(m d:Nat)(w:World)(hI:Zl w A n c N.items)(hK:Zm w B m d N.kids)(hn:n<=1000)(hm:m<=1000)(ht:Tab w) :
  Calls Tryz.prog 168 #[.agg #[.int .i64 N.lvl,.slice A n c,.slice B m d],.int .i64 addr,.int .i64 gen] w λe u=>∃A' n' c',e=.returned (.tuple #[.slice A' n' c',.int .i64 (Zk N addr gen)])/\Own u w.1.size 5 A' n' c' (Jm N addr gen)/\(Zk N addr gen=0->∃g,A'=some ⟨g,0,none⟩/\n'=256/\c'=256)/\Below w.1.size w u:=by
 have b4:=Lib.hid hI.len;have b5:=Lib.hid hK.len;go_enter Tryz.func168,Tryz.ntmps168
 go_wp2_with fail
 have N1:NB (w.alloc (.cells #[.int .i64 N.lvl,.slice A n c,.slice B m d] 75)) w.1.size N.lvl A n c B m d:=NB.new w _ _ _ _ _ _ _ _;have b1:Below w.1.size w (w.alloc (.cells #[.int .i64 N.lvl,.slice A n c,.slice B m d] 75)):=Qm;generalize w.alloc (.cells #[.int .i64 N.lvl,.slice A n c,.slice B m d] 75)=w1 at N1 b1 ⊢
 cases J:N.may
 ·refine (q2l N false J A n c B m d w1 (hI.below b1) (hK.below b1) hn hm).mono ?_;rintro e b ⟨rfl,a6⟩;go_wp2;go_ret2;have h1:Zk N addr gen=1:=by unfold Zk;rw[J];rfl
  have h2:Jm N addr gen=[]:=by unfold Jm;rw[J];rfl
  rw[h1,h2];exact⟨_,_,_,rfl,qes _ _ _,(λh=>by cases h),b1.trans (a6.mono b1.size)⟩
 ·refine (q2l N true J A n c B m d w1 (hI.below b1) (hK.below b1) hn hm).mono ?_;rintro e b ⟨rfl,a6⟩;have N2:=N1.below a6 N1.lt;have B2:=b1.trans (a6.mono b1.size);have n0:=N2.c0;obtain⟨_,_,a2,_⟩:=q36 J;have Hv:=Lib.hid a2;have E:=Lib.hid J;clear a2;obtain⟨K,a7⟩:∃K:Int,(if N.lvl=0 then 3 else 4)=K:=⟨_,rfl⟩;have a8:=Lib.hid a7;clear a7;have zn:=N2.lt;have P:∀u:World,Below b.1.size b u->u.cell? ⟨w.1.size,0,none⟩=some (.int .i64 N.lvl)/\Below b.1.size b u:=
   λu X=>⟨(X.cell (p:=⟨w.1.size,_,none⟩) zn).trans n0,X⟩
  have T:Below b.1.size b b.drew:=(Below.refl _ b).drew;go_wp2_with fail
  go_region_held3 (λu=>u.cell? ⟨w.1.size,0,none⟩=some (.int .i64 N.lvl)/\Below b.1.size b u)
   (first|assumption|exact P _ T|exact P _ (T.alloc (Nat.le_refl _) _))
   (first
    |(go_at_call 112;refine (q4c N.lvl K a8.out _).mono ?_;rintro e w3 ⟨rfl,rfl⟩)
    |fail)
  all_goals
   have H3:HB (b.alloc (.cells #[.int .i64 K,.int .i64 addr,.int .i64 0,.int .i64 N.lvl,.int .i64 gen] 150)).drew b.1.size ⟨K,addr,0,N.lvl,gen⟩:=⟨_,heap_alloc_new b _⟩;have b3:Below b.1.size b (b.alloc (.cells #[.int .i64 K,.int .i64 addr,.int .i64 0,.int .i64 N.lvl,.int .i64 gen] 150)).drew:=((Below.refl _ b).alloc (Nat.le_refl _) _).drew;have I:b.1.size<(b.alloc (.cells #[.int .i64 K,.int .i64 addr,.int .i64 0,.int .i64 N.lvl,.int .i64 gen] 150)).drew.1.size:=by simp
   clear P T;generalize (b.alloc (.cells #[.int .i64 K,.int .i64 addr,.int .i64 0,.int .i64 N.lvl,.int .i64 gen] 150)).drew=w3 at *;have W:=N2.below b3 zn;have B3:=B2.trans (b3.mono B2.size);clear N2 B2 b3 n0 N1 b1;by_cases hl:N.lvl=0
   ·have Q:=qoy addr gen hl E.out b4.out a8.out;have G:=Lib.hid Q.1;have F:=Lib.hid Q.2;clear Q;have Hl:=Lib.hid hl;clear hl;have q0:=W.c0;have q1:=W.c1;have q2:=W.c2;go_wp2_with fail
    refine (Rh N.lvl true (decide_eq_true Hl.out) A n c B m d w3).mono ?_;rintro e f ⟨rfl,H⟩;have N4:=W.below H W.lt;have H4:=H3.below H I;have B4:=B3.trans (H.mono B3.size);have z4:b.1.size<f.1.size:=Nat.lt_of_lt_of_le I H.size;clear H W H3 B3 I q0 q1 q2;have nn:=N4.c1;have R:w.1.size<b.1.size:=zn;have P:∀u:World,Below b.1.size f u->u.cell? ⟨w.1.size,1,none⟩=some (.slice A n c)/\Below b.1.size f u:=
     λu X=>⟨(X.cell (p:=⟨w.1.size,_,none⟩) R).trans nn,X⟩
    have T:Below b.1.size f f.drew:=(Below.refl _ f).drew;have a1:∀u:World,Below b.1.size f u->Zl u A n c N.items:=λu X=>hI.below (B4.trans (X.mono (Nat.le_of_lt R)))
    have h2:=H4.at_ 3;have f2:=H4.fz 3;have BS:Below b.1.size f ((f.setCell ⟨b.1.size,2,none⟩ (.int .i64 (n:Int))).drew):=((Below.refl _ f).setCell (p:=⟨b.1.size,2,none⟩) (Nat.le_refl b.1.size) _).drew;have zS:f.1.size<=(f.setCell ⟨b.1.size,2,none⟩ (.int .i64 (n:Int))).drew.1.size:=by simp
    have zD:f.1.size<=f.drew.1.size:=Nat.le_refl _;simp only[Yp] at h2 f2;go_wp2_with fail
    go_region_held3 (λu=>u.cell? ⟨w.1.size,1,none⟩=some (.slice A n c)/\Below b.1.size f u)
     (first|assumption|exact P _ T|exact P _ BS|exact P _ M|exact P _ (M.setCell (p:=⟨b.1.size,2,none⟩) (Nat.le_refl b.1.size) _))
     (first
      |(go_at_call 191;refine (qow N.items A n c _ (a1 _ (by first|exact T|exact BS)) (by omega) (λj hj=>Hv.out j (by rw[b4.out];exact hj))).mono ?_;rintro e U ⟨A5,n5,c5,rfl,b6,s5,o5,D⟩;have M:Below b.1.size f U:=(by first|exact T.trans (D.mono (Nat.le_trans (Nat.le_of_lt z4) zD))|exact BS.trans (D.mono (Nat.le_trans (Nat.le_of_lt z4) zS)));have g5:=(show U.cell? ⟨b.1.size,2,none⟩=_ from D.cell (p:=⟨b.1.size,2,none⟩) (by first|exact Nat.lt_of_lt_of_le z4 zD|exact Nat.lt_of_lt_of_le z4 zS));have k5:=(show U.frozen? ⟨b.1.size,2,none⟩=_ from D.frozen (p:=⟨b.1.size,2,none⟩) (by first|exact Nat.lt_of_lt_of_le z4 zD|exact Nat.lt_of_lt_of_le z4 zS)))
      |fail)
    all_goals
     simp only[Hd.Ea] at h2;have H5:HB U b.1.size ⟨K,addr,0,N.lvl,gen⟩:=(show HB f.drew _ _ from H4).below D z4;have H6:=qfv (y:=(n:Int)) H5;have s6:=s5.turned (Ez (S:=λk=>k=b.1.size) (w:=U) (a:=⟨b.1.size,2,none⟩) (.int .i64 (n:Int)) rfl) (λk hk e=>by
      cases A5 with
      |none=>cases hk
      |some ad=>
       have e1:=o5 ad rfl;have e2:ad.block=k:=Option.some.inj hk;have e3:f.1.size<=ad.block:=e1;omega)
     have Y:=B4.trans ((M.setCell (p:=⟨b.1.size,2,none⟩) (Nat.le_refl b.1.size) (.int .i64 (n:Int))).mono (Nat.le_of_lt R));clear s5;generalize U.setCell ⟨b.1.size,2,none⟩ (.int .i64 (n:Int))=w6 at H6 s6 Y ⊢;clear P T BS a1 h2 f2 g5 k5 D M nn zS zD N4 H4;go_wp2_with (first
      |(refine q5t rfl (.tmp 8) rfl b.1.size rfl _ H6 ?_)
      |fail)
     refine (q5u _ A5 n5 c5 _ _ s6 (ht.below Y ht.1)).mono ?_;rintro e w7 ⟨A7,n7,c7,rfl,O,b2,b0⟩;rw[<-F.out,<-G.out] at O;have s7:=O.less Y.size;have B7:=Y.trans (b0.mono Y.size);have hE:=Lib.hid (show Zk N addr gen=Xi (N.head addr gen) N.body by unfold Zk;rw[E.out];rfl);have Z:Xo (N.head addr gen) N.body=Jm N addr gen:=by unfold Jm;rw[E.out];rfl
     rw[Z] at s7;clear Z;go_wp2;go_ret2;rw[hE.out,G.out,F.out];exact⟨_,_,_,rfl,s7,b2,B7⟩
   ·have Q:=qm8 addr gen hl E.out b5.out a8.out;have G:=Lib.hid Q.1;have F:=Lib.hid Q.2;clear Q;have Hl:=Lib.hid hl;clear hl;have q0:=W.c0;have q1:=W.c1;have q2:=W.c2;go_wp2_with fail
    refine (Rh N.lvl false (decide_eq_false Hl.out) A n c B m d w3).mono ?_;rintro e f ⟨rfl,H⟩;have N4:=W.below H W.lt;have H4:=H3.below H I;have B4:=B3.trans (H.mono B3.size);have z4:b.1.size<f.1.size:=Nat.lt_of_lt_of_le I H.size;clear H W H3 B3 I q0 q1 q2;have nn:=N4.c2;have R:w.1.size<b.1.size:=zn;have P:∀u:World,Below b.1.size f u->u.cell? ⟨w.1.size,2,none⟩=some (.slice B m d)/\Below b.1.size f u:=
     λu X=>⟨(X.cell (p:=⟨w.1.size,_,none⟩) R).trans nn,X⟩
    have T:Below b.1.size f f.drew:=(Below.refl _ f).drew;have a1:∀u:World,Below b.1.size f u->Zm u B m d N.kids:=λu X=>hK.below (B4.trans (X.mono (Nat.le_of_lt R)))
    have h2:=H4.at_ 3;have f2:=H4.fz 3;have BS:Below b.1.size f ((f.setCell ⟨b.1.size,2,none⟩ (.int .i64 (m:Int))).drew):=((Below.refl _ f).setCell (p:=⟨b.1.size,2,none⟩) (Nat.le_refl b.1.size) _).drew;have zS:f.1.size<=(f.setCell ⟨b.1.size,2,none⟩ (.int .i64 (m:Int))).drew.1.size:=by simp
    have zD:f.1.size<=f.drew.1.size:=Nat.le_refl _;simp only[Yp] at h2 f2;go_wp2_with fail
    go_region_held3 (λu=>u.cell? ⟨w.1.size,2,none⟩=some (.slice B m d)/\Below b.1.size f u)
     (first|assumption|exact P _ T|exact P _ BS|exact P _ M|exact P _ (M.setCell (p:=⟨b.1.size,2,none⟩) (Nat.le_refl b.1.size) _))
     (first
      |(go_at_call 193;refine (qox N.kids B m d _ (a1 _ (by first|exact T|exact BS)) (by omega)).mono ?_;rintro e U ⟨A5,n5,c5,rfl,b6,s5,o5,D⟩;have M:Below b.1.size f U:=(by first|exact T.trans (D.mono (Nat.le_trans (Nat.le_of_lt z4) zD))|exact BS.trans (D.mono (Nat.le_trans (Nat.le_of_lt z4) zS)));have g5:=(show U.cell? ⟨b.1.size,2,none⟩=_ from D.cell (p:=⟨b.1.size,2,none⟩) (by first|exact Nat.lt_of_lt_of_le z4 zD|exact Nat.lt_of_lt_of_le z4 zS));have k5:=(show U.frozen? ⟨b.1.size,2,none⟩=_ from D.frozen (p:=⟨b.1.size,2,none⟩) (by first|exact Nat.lt_of_lt_of_le z4 zD|exact Nat.lt_of_lt_of_le z4 zS)))
      |fail)
    all_goals
     simp only[Hd.Ea] at h2;have H5:HB U b.1.size ⟨K,addr,0,N.lvl,gen⟩:=(show HB f.drew _ _ from H4).below D z4;have H6:=qfv (y:=(m:Int)) H5;have s6:=s5.turned (Ez (S:=λk=>k=b.1.size) (w:=U) (a:=⟨b.1.size,2,none⟩) (.int .i64 (m:Int)) rfl) (λk hk e=>by
      cases A5 with
      |none=>cases hk
      |some ad=>
       have e1:=o5 ad rfl;have e2:ad.block=k:=Option.some.inj hk;have e3:f.1.size<=ad.block:=e1;omega)
     have Y:=B4.trans ((M.setCell (p:=⟨b.1.size,2,none⟩) (Nat.le_refl b.1.size) (.int .i64 (m:Int))).mono (Nat.le_of_lt R));clear s5;generalize U.setCell ⟨b.1.size,2,none⟩ (.int .i64 (m:Int))=w6 at H6 s6 Y ⊢;clear P T BS a1 h2 f2 g5 k5 D M nn zS zD N4 H4;go_wp2_with (first
      |(refine q5t rfl (.tmp 8) rfl b.1.size rfl _ H6 ?_)
      |fail)
     refine (q5u _ A5 n5 c5 _ _ s6 (ht.below Y ht.1)).mono ?_;rintro e w7 ⟨A7,n7,c7,rfl,O,b2,b0⟩;rw[<-F.out,<-G.out] at O;have s7:=O.less Y.size;have B7:=Y.trans (b0.mono Y.size);have hE:=Lib.hid (show Zk N addr gen=Xi (N.head addr gen) N.body by unfold Zk;rw[E.out];rfl);have Z:Xo (N.head addr gen) N.body=Jm N addr gen:=by unfold Jm;rw[E.out];rfl
     rw[Z] at s7;clear Z;go_wp2;go_ret2;rw[hE.out,G.out,F.out];exact⟨_,_,_,rfl,s7,b2,B7⟩
