/- The code's node: put, for items and for kids -/
import Derived.Test.YthkfkhejjmhomaaGreatDoorEs11
namespace Go.Proofs.YthkfkhejjmhomaaGreatDoor
open Go Go.RowKit Go.Proofs
set_option maxHeartbeats 8000000
set_option maxRecDepth 100000
theorem qfw (A:Option Addr)(n c:Nat)(l:List UInt8)(x:Qg)(B:Option Addr)(m d:Nat)(w:World)(h:Sl w A n c l)(hv:Sl w B m d x.v)(hm:m<=28)(hn:n<=100000) :
  Calls Tryz.prog 272 #[.slice A n c,.agg #[.int .i64 x.k.obj,.int .i64 x.k.kind,.int .i64 x.k.off,.slice B m d]] w λe b=>∃A' Z c',e=.returned (.slice A' Z c')/\Z=n+10+m/\Own b w.1.size 5 A' Z c' (l++Eu x)/\Below w.1.size w b:=by
 have E:=Lib.hid h.len;have H:=Lib.hid hv.len;obtain⟨X,Q⟩:∃X:ByteArray,(⟨x.v.toArray⟩:ByteArray)=X:=⟨_,rfl⟩;have Xs:X.size=m:=by rw[<-Q,<-H.out];rfl
 have Xd:=Lib.hid (show X.data.toList=x.v by rw[<-Q]);have u:∀b:World,Below w.1.size w b->(convert 48 9 (.slice B m d)).run Tryz.prog b=.ok (.string X) b:=λb F=>by
  have:=Oa (hv.below F);rw[Q] at this;exact this
 clear Q;obtain⟨k,W⟩:∃k,x.k=k:=⟨_,rfl⟩;have Hk:=Lib.hid W;rw[W];clear W;go_enter Tryz.func272,Tryz.ntmps272
 go_wp2_with fail
 have I:Below w.1.size w (w.alloc (.cells #[.int .i64 k.obj,.int .i64 k.kind,.int .i64 k.off,.slice B m d] 50)):=Qn;have J:(w.alloc (.cells #[.int .i64 k.obj,.int .i64 k.kind,.int .i64 k.off,.slice B m d] 50)).1[w.1.size]?=some (.cells #[.int .i64 k.obj,.int .i64 k.kind,.int .i64 k.off,.slice B m d] 50 (0,0)):=heap_alloc_new w _;have M:w.1.size<(w.alloc (.cells #[.int .i64 k.obj,.int .i64 k.kind,.int .i64 k.off,.slice B m d] 50)).1.size:=by simp
 generalize w.alloc (.cells #[.int .i64 k.obj,.int .i64 k.kind,.int .i64 k.off,.slice B m d] 50)=f at I J M ⊢;have q0:f.cell? ⟨w.1.size,0,none⟩=some (.int .i64 k.obj):=by rw[cell_of_row _ _ _ _ _ _ J];rfl
 have q1:f.cell? ⟨w.1.size,1,none⟩=some (.int .i64 k.kind):=by rw[cell_of_row _ _ _ _ _ _ J];rfl
 have q2:f.cell? ⟨w.1.size,2,none⟩=some (.int .i64 k.off):=by rw[cell_of_row _ _ _ _ _ _ J];rfl
 have q3:f.cell? ⟨w.1.size,3,none⟩=some (.slice B m d):=by rw[cell_of_row _ _ _ _ _ _ J];rfl
 clear J;have Y:=h.below I;have P:∀b:World,Below f.1.size f b->b.cell? ⟨w.1.size,0,none⟩=some (.int .i64 k.obj)/\b.cell? ⟨w.1.size,1,none⟩=some (.int .i64 k.kind)/\b.cell? ⟨w.1.size,2,none⟩=some (.int .i64 k.off)/\b.cell? ⟨w.1.size,3,none⟩=some (.slice B m d)/\(convert 48 9 (.slice B m d)).run Tryz.prog b=.ok (.string X) b/\Below f.1.size f b:=
  λb F=>⟨(F.cell (p:=⟨w.1.size,_,none⟩) M).trans q0,(F.cell (p:=⟨w.1.size,_,none⟩) M).trans q1,(F.cell (p:=⟨w.1.size,_,none⟩) M).trans q2,(F.cell (p:=⟨w.1.size,_,none⟩) M).trans q3,u b (I.trans (F.mono I.size)),F⟩
 have R:Below f.1.size f f.drew:=(Below.refl _ f).drew;have zr:f.1.size<=f.drew.1.size:=Nat.le_refl _;have p0:n<=4398046511104:=by omega
 have pX:X.size<=255:=by omega
 clear q0 q1 q2 q3;have O:=Lib.hid u;clear u;go_region_held3 (λb=>b.cell? ⟨w.1.size,0,none⟩=some (.int .i64 k.obj)/\b.cell? ⟨w.1.size,1,none⟩=some (.int .i64 k.kind)/\b.cell? ⟨w.1.size,2,none⟩=some (.int .i64 k.off)/\b.cell? ⟨w.1.size,3,none⟩=some (.slice B m d)/\(convert 48 9 (.slice B m d)).run Tryz.prog b=.ok (.string X) b/\Below f.1.size f b)
  (first|assumption|exact P _ R|exact P _ y|exact P _ K)
  (first
   |(go_at_call 104;have hh:=y;refine (qh7 A5 n5 c5 _ X _ G.sl p5 pX).mono ?_;rintro e w6 ⟨A6,n6,c6,rfl,D,U⟩;have K:Below f.1.size f w6:=y.trans (U.mono y.size))
   |(go_at_call 284;refine (qlf A n c l k _ Y.drew p0).mono ?_;rintro e w5 ⟨A5,n5,c5,rfl,G,T⟩;have y:Below f.1.size f w5:=R.trans (T.mono zr);have l5:n5=n+9:=(by have:=G.len;rw[List.length_append,E.out,Kd.Xu] at this;omega);have p5:n5<=17592186044416:=(by omega);have a0:=Lib.hid l5;clear l5)
   |fail)
 all_goals
  have e6:l++k.bytes++(Zc (X.size:Int) 1++X.data.toList)=l++Eu x:=by
   unfold Eu;rw[Xd.out,Xs,H.out,Hk.out,List.append_assoc]
  have l6:=Lib.hid (show n6=n+10+m by have:=D.len;rw[List.length_append,List.length_append,List.length_append,E.out,Kd.Xu,Ya,Xd.out,H.out] at this;omega);rw[e6] at D;have B6:=I.trans (K.mono I.size);have o6:=D.less (show w.1.size<=w5.1.size from Nat.le_trans I.size y.size);clear P R;go_wp2;go_ret;exact⟨_,_,_,rfl,l6.out,o6,B6⟩
theorem qia (A:Option Addr)(n c:Nat)(l:List UInt8)(x:Qm)(w:World)(h:Sl w A n c l)(hn:n<=100000) :
  Calls Tryz.prog 274 #[.slice A n c,.agg #[.int .i64 x.k.obj,.int .i64 x.k.kind,.int .i64 x.k.off,.int .i64 x.a]] w λe d=>∃W T X,e=.returned (.slice W T X)/\T=n+11/\Own d w.1.size 5 W T X (l++Es x)/\Below w.1.size w d:=by
 have u:=Lib.hid h.len;have B:Es x=x.k.bytes++Zc x.a 2:=rfl;obtain⟨k,Q⟩:∃k,x.k=k:=⟨_,rfl⟩;obtain⟨a,M⟩:∃a,x.a=a:=⟨_,rfl⟩;rw[Q,M] at B;have K:=Lib.hid B;rw[Q,M];clear Q M B;go_enter Tryz.func274,Tryz.ntmps274
 go_wp2_with fail
 have E:Below w.1.size w (w.alloc (.cells #[.int .i64 k.obj,.int .i64 k.kind,.int .i64 k.off,.int .i64 a] 148)):=Qn;have D:(w.alloc (.cells #[.int .i64 k.obj,.int .i64 k.kind,.int .i64 k.off,.int .i64 a] 148)).1[w.1.size]?=some (.cells #[.int .i64 k.obj,.int .i64 k.kind,.int .i64 k.off,.int .i64 a] 148 (0,0)):=heap_alloc_new w _;have H:w.1.size<(w.alloc (.cells #[.int .i64 k.obj,.int .i64 k.kind,.int .i64 k.off,.int .i64 a] 148)).1.size:=by simp
 generalize w.alloc (.cells #[.int .i64 k.obj,.int .i64 k.kind,.int .i64 k.off,.int .i64 a] 148)=b at E D H ⊢;have Z:b.cell? ⟨w.1.size,0,none⟩=some (.int .i64 k.obj):=by rw[cell_of_row _ _ _ _ _ _ D];rfl
 have q1:b.cell? ⟨w.1.size,1,none⟩=some (.int .i64 k.kind):=by rw[cell_of_row _ _ _ _ _ _ D];rfl
 have q2:b.cell? ⟨w.1.size,2,none⟩=some (.int .i64 k.off):=by rw[cell_of_row _ _ _ _ _ _ D];rfl
 have q3:b.cell? ⟨w.1.size,3,none⟩=some (.int .i64 a):=by rw[cell_of_row _ _ _ _ _ _ D];rfl
 clear D;have R:=h.below E;have I:∀d:World,Below b.1.size b d->d.cell? ⟨w.1.size,0,none⟩=some (.int .i64 k.obj)/\d.cell? ⟨w.1.size,1,none⟩=some (.int .i64 k.kind)/\d.cell? ⟨w.1.size,2,none⟩=some (.int .i64 k.off)/\d.cell? ⟨w.1.size,3,none⟩=some (.int .i64 a)/\Below b.1.size b d:=
  λd G=>⟨(G.cell (p:=⟨w.1.size,_,none⟩) H).trans Z,(G.cell (p:=⟨w.1.size,_,none⟩) H).trans q1,(G.cell (p:=⟨w.1.size,_,none⟩) H).trans q2,(G.cell (p:=⟨w.1.size,_,none⟩) H).trans q3,G⟩
 have J:Below b.1.size b b.drew:=(Below.refl _ b).drew;have zr:b.1.size<=b.drew.1.size:=Nat.le_refl _;have p0:n<=4398046511104:=by omega
 have r1:(1:Int)<=2:=by omega
 have r2:(2:Int)<=8:=by omega
 clear Z q1 q2 q3;go_region_held3 (λd=>d.cell? ⟨w.1.size,0,none⟩=some (.int .i64 k.obj)/\d.cell? ⟨w.1.size,1,none⟩=some (.int .i64 k.kind)/\d.cell? ⟨w.1.size,2,none⟩=some (.int .i64 k.off)/\d.cell? ⟨w.1.size,3,none⟩=some (.int .i64 a)/\Below b.1.size b d)
  (first|assumption|exact I _ J|exact I _ f|exact I _ F)
  (first
   |(go_at_call 180;have hh:=f;refine (q7k A5 U c5 _ a 2 _ y.sl p5 r1 r2).mono ?_;rintro e w6 ⟨A6,n6,c6,rfl,m,a1,P⟩;have F:Below b.1.size b w6:=f.trans (P.mono f.size))
   |(go_at_call 284;refine (qlf A n c l k _ R.drew p0).mono ?_;rintro e w5 ⟨A5,U,c5,rfl,y,O⟩;have f:Below b.1.size b w5:=J.trans (O.mono zr);have Y:U=n+9:=(by have:=y.len;rw[List.length_append,u.out,Kd.Xu] at this;omega);have p5:U<=17592186044416:=(by omega);have a0:=Lib.hid Y;clear Y)
   |fail)
 all_goals
  have e6:l++k.bytes++Zc a (2:Int).toNat=l++Es x:=by
   rw[K.out,List.append_assoc];rfl
  have l6:=Lib.hid (show n6=n+11 by have:=m.len;rw[List.length_append,List.length_append,u.out,Kd.Xu,Ya] at this;rw[<-this];rfl);rw[e6] at m;have B6:=E.trans (F.mono E.size);have o6:=m.less (show w.1.size<=w5.1.size from Nat.le_trans E.size f.size);clear I J;go_wp2;go_ret;exact⟨_,_,_,rfl,l6.out,o6,B6⟩
def bI (xs:List Qg)(j:Nat):List UInt8:=(xs.take j).flatMap Eu
def bK (xs:List Qm)(j:Nat):List UInt8:=(xs.take j).flatMap Es
theorem qx8 (xs:List Qg)(j:Nat)(h:j<xs.length):bI xs (j+1)=bI xs j++Eu (Qz xs j):=by
 unfold bI;have:=q1x h;rw[List.getElem?_eq_getElem h] at this;rw[List.take_succ_eq_append_getElem h,List.flatMap_append,Option.some.inj this];simp
theorem qx9 (xs:List Qm)(j:Nat)(h:j<xs.length):bK xs (j+1)=bK xs j++Es (Qh xs j):=by
 unfold bK;have:=q11 h;rw[List.getElem?_eq_getElem h] at this;rw[List.take_succ_eq_append_getElem h,List.flatMap_append,Option.some.inj this];simp
theorem qyv (xs:List Qg):bI xs xs.length=xs.flatMap Eu:=by unfold bI;rw[List.take_length]
theorem qyw (xs:List Qm):bK xs xs.length=xs.flatMap Es:=by unfold bK;rw[List.take_length]
theorem qpi (xs:List Qg)(A:Option Addr)(n c:Nat)(w:World)(M:Jd w A n c xs)(hn:n<=1000)(hv:∀j,j<n->(Qz xs j).v.length<=28) :
  Calls Tryz.prog 271 #[.slice A n c,.func (.func 272) #[] #[]] w λe w'=>∃p W B,e=.returned (.slice p W B)/\W<=38*n/\Sl w' p W B (xs.flatMap Eu)/\(∀m,p=some m->w.1.size<=m.block)/\Below w.1.size w w':=by
 have u:=Lib.hid M.len;have Hv:=Lib.hid hv;clear hv;obtain⟨a1,Q⟩:=M.bounds;unfold maxLen at Q;go_enter Tryz.func271,Tryz.ntmps271
 go_wp2_with fail
 go_loopw [5,10] (λb i wr=>∃(j q:Nat) (p:Option Addr) (B:Nat),j<=n/\q<=38*j/\i=.int .i64 (j:Int)/\b=.slice p q B/\Sl wr p q B (bI xs j)/\(∀m,p=some m->w.1.size<=m.block)/\Below w.1.size w wr) (λ_ i _=>n-(intOf i).toNat)
 case atStart=>exact⟨0,0,_,_,Nat.zero_le _,by omega,rfl,rfl,Np _,(λm h=>by cases h),Below.refl _ _⟩
 case round=>
  obtain⟨j,q,p,B,hj,hq,rfl,rfl,T,hO,G⟩:=hrel;by_cases D:j<n
  ·have O:=M.below G;obtain⟨g,o,Y,m',Z,hA,hg,c0,c1,c2,c3,E⟩:=O.cell D;have y:=Hv.out j D;rw[E.len] at y;subst hA;have f:=Lib.hid (qx8 xs j (by rw[u.out];exact D));obtain⟨x,hx⟩:∃x,Qz xs j=x:=⟨_,rfl⟩;rw[hx] at c0 c1 c2 E f;clear hx;go_wp2_with fail
   have F:Below wr.1.size wr (wr.alloc (.cells #[.int .i64 x.k.obj,.int .i64 x.k.kind,.int .i64 x.k.off,.slice Y m' Z] 50)):=Qn;refine (qfw p q B _ x Y m' Z _ (T.below F) (E.below F) y (by omega)).mono ?_;rintro e w2 ⟨X,n2,J,rfl,I,d,H⟩;have K:=G.trans ((F.trans (H.mono F.size)).mono G.size);have R:n2<=38*(j+1):=by omega
   have a0:=Lib.hid I;clear I;rw[<-f.out] at d;have U:=d.sl;have P:∀m,X=some m->w.1.size<=m.block:=λm h=>by have h1:=(d.block m h).1;have h2:=G.size;have h3:=F.size;omega
   clear hO;clear d F;go_wp2;exact⟨⟨j+1,n2,X,J,by omega,R,by go_num,rfl,U,P,K⟩,by simp[intOf];omega⟩
  ·obtain rfl:j=n:=by omega
   have e:bI xs j=xs.flatMap Eu:=by rw[<-u.out];exact qyv xs
   rw[e] at T;go_wp2;go_ret;exact⟨_,_,_,rfl,hq,T,hO,G⟩
theorem qpj (xs:List Qm)(A:Option Addr)(n c:Nat)(w:World)(J:Zp w A n c xs)(hn:n<=1000) :
  Calls Tryz.prog 273 #[.slice A n c,.func (.func 274) #[] #[]] w λe Z=>∃p T y,e=.returned (.slice p T y)/\T<=11*n/\Sl Z p T y (xs.flatMap Es)/\(∀m,p=some m->w.1.size<=m.block)/\Below w.1.size w Z:=by
 have u:=Lib.hid J.len;skip
 skip
 obtain⟨a1,O⟩:=J.bounds;unfold maxLen at O;go_enter Tryz.func273,Tryz.ntmps273
 go_wp2_with fail
 go_loopw [5,10] (λb i wr=>∃(j q:Nat) (p:Option Addr) (y:Nat),j<=n/\q<=11*j/\i=.int .i64 (j:Int)/\b=.slice p q y/\Sl wr p q y (bK xs j)/\(∀m,p=some m->w.1.size<=m.block)/\Below w.1.size w wr) (λ_ i _=>n-(intOf i).toNat)
 case atStart=>exact⟨0,0,_,_,Nat.zero_le _,by omega,rfl,rfl,Np _,(λm h=>by cases h),Below.refl _ _⟩
 case round=>
  obtain⟨j,q,p,y,hj,hq,rfl,rfl,Q,W,D⟩:=hrel;by_cases F:j<n
  ·have K:=J.below D;obtain⟨g,o,hA,hg,c0,c1,c2,c3⟩:=K.cell F;subst hA;have f:=Lib.hid (qx9 xs j (by rw[u.out];exact F));obtain⟨x,X⟩:∃x,Qh xs j=x:=⟨_,rfl⟩;rw[X] at c0 c1 c2 c3 f;clear X;go_wp2_with fail
   have B:Below wr.1.size wr (wr.alloc (.cells #[.int .i64 x.k.obj,.int .i64 x.k.kind,.int .i64 x.k.off,.int .i64 x.a] 148)):=Qn;refine (qia p q y _ x _ (Q.below B) (by omega)).mono ?_;rintro e w2 ⟨U,Y,H,rfl,G,d,E⟩;have I:=D.trans ((B.trans (E.mono B.size)).mono D.size);have P:Y<=11*(j+1):=by omega
   have a0:=Lib.hid G;clear G;rw[<-f.out] at d;have R:=d.sl;have M:∀m,U=some m->w.1.size<=m.block:=λm h=>by have h1:=(d.block m h).1;have h2:=D.size;have h3:=B.size;omega
   clear W;clear d B;go_wp2;exact⟨⟨j+1,Y,U,H,by omega,P,by go_num,rfl,R,M,I⟩,by simp[intOf];omega⟩
  ·obtain rfl:j=n:=by omega
   have e:bK xs j=xs.flatMap Es:=by rw[<-u.out];exact qyw xs
   rw[e] at Q;go_wp2;go_ret;exact⟨_,_,_,rfl,hq,Q,W,D⟩
theorem qpk {N:Nd}(addr gen:Int){n:Nat}{K:Int}(d:N.lvl=0)(hm:N.may=true)(hn:N.items.length=n)(b:(if N.lvl=0 then 3 else 4)=K):N.head addr gen=⟨K,addr,(n:Int),N.lvl,gen⟩/\N.body=N.items.flatMap Eu:=by
 rw[if_pos d] at b;have e:N.kids=[]:=by
  refine List.eq_nil_of_length_eq_zero ?_;unfold Nd.may at hm;rw[if_pos d,Bool.and_eq_true,Bool.and_eq_true] at hm;exact (of_decide_eq_true hm.2.2).1
 unfold Nd.head Nd.body;rw[e,hn,if_neg (by omega),b];simp
theorem qmm {N:Nd}(addr gen:Int){m:Nat}{K:Int}(d:¬N.lvl=0)(hm:N.may=true)(hn:N.kids.length=m)(b:(if N.lvl=0 then 3 else 4)=K):N.head addr gen=⟨K,addr,(m:Int),N.lvl,gen⟩/\N.body=N.kids.flatMap Es:=by
 rw[if_neg d] at b;unfold Nd.may at hm;rw[if_neg d,Bool.and_eq_true,Bool.and_eq_true] at hm;have h2:=of_decide_eq_true hm.2.2;have e:N.items=[]:=List.eq_nil_of_length_eq_zero h2.2.2.1;unfold Nd.head Nd.body;rw[e,hn,if_pos (by omega),b];simp
theorem qfx {w:World}{b:Nat}{K addr lvl gen x y:Int}(H:HB w b ⟨K,addr,x,lvl,gen⟩):HB (w.setCell ⟨b,2,none⟩ (.int .i64 y)) b ⟨K,addr,y,lvl,gen⟩:=H.Uj 3 y
theorem qcb (N:Nd)(addr gen:Int)(A:Option Addr)(n c:Nat)(B:Option Addr)(m d:Nat)(w:World)(hI:Jd w A n c N.items)(hK:Zp w B m d N.kids)(hn:n<=1000)(hm:m<=1000)(ht:Tab w) :
  Calls Tryz.prog 251 #[.agg #[.int .i64 N.lvl,.slice A n c,.slice B m d],.int .i64 addr,.int .i64 gen] w λe u=>∃A' n' c',e=.returned (.tuple #[.slice A' n' c',.int .i64 (Zm N addr gen)])/\Own u w.1.size 5 A' n' c' (Jr N addr gen)/\(Zm N addr gen=0->∃g,A'=some ⟨g,0,none⟩/\n'=256/\c'=256)/\Below w.1.size w u:=by
 have a8:=Lib.hid hI.len;have a9:=Lib.hid hK.len;go_enter Tryz.func251,Tryz.ntmps251
 go_wp2_with fail
 have N1:NB (w.alloc (.cells #[.int .i64 N.lvl,.slice A n c,.slice B m d] 77)) w.1.size N.lvl A n c B m d:=NB.new w _ _ _ _ _ _ _ _;have b1:Below w.1.size w (w.alloc (.cells #[.int .i64 N.lvl,.slice A n c,.slice B m d] 77)):=Qn;generalize w.alloc (.cells #[.int .i64 N.lvl,.slice A n c,.slice B m d] 77)=w1 at N1 b1 ⊢
 cases J:N.may
 ·refine (q27 N false J A n c B m d w1 (hI.below b1) (hK.below b1) hn hm).mono ?_;rintro e b ⟨rfl,a3⟩;go_wp2;go_ret2;have h1:Zm N addr gen=1:=by unfold Zm;rw[J];rfl
  have h2:Jr N addr gen=[]:=by unfold Jr;rw[J];rfl
  rw[h1,h2];exact⟨_,_,_,rfl,qex _ _ _,(λh=>by cases h),b1.trans (a3.mono b1.size)⟩
 ·refine (q27 N true J A n c B m d w1 (hI.below b1) (hK.below b1) hn hm).mono ?_;rintro e b ⟨rfl,a3⟩;have N2:=N1.below a3 N1.lt;have B2:=b1.trans (a3.mono b1.size);have n0:=N2.c0;obtain⟨_,_,a2,_⟩:=q26 J;have Hv:=Lib.hid a2;have E:=Lib.hid J;clear a2;obtain⟨K,a4⟩:∃K:Int,(if N.lvl=0 then 3 else 4)=K:=⟨_,rfl⟩;have a5:=Lib.hid a4;clear a4;have zn:=N2.lt;have P:∀u:World,Below b.1.size b u->u.cell? ⟨w.1.size,0,none⟩=some (.int .i64 N.lvl)/\Below b.1.size b u:=
   λu Y=>⟨(Y.cell (p:=⟨w.1.size,_,none⟩) zn).trans n0,Y⟩
  have U:Below b.1.size b b.drew:=(Below.refl _ b).drew;go_wp2_with fail
  go_region_held3 (λu=>u.cell? ⟨w.1.size,0,none⟩=some (.int .i64 N.lvl)/\Below b.1.size b u)
   (first|assumption|exact P _ U|exact P _ (U.alloc (Nat.le_refl _) _))
   (first
    |(go_at_call 140;refine (q4m N.lvl K a5.out _).mono ?_;rintro e w3 ⟨rfl,rfl⟩)
    |fail)
  all_goals
   have H3:HB (b.alloc (.cells #[.int .i64 K,.int .i64 addr,.int .i64 0,.int .i64 N.lvl,.int .i64 gen] 198)).drew b.1.size ⟨K,addr,0,N.lvl,gen⟩:=⟨_,heap_alloc_new b _⟩;have b3:Below b.1.size b (b.alloc (.cells #[.int .i64 K,.int .i64 addr,.int .i64 0,.int .i64 N.lvl,.int .i64 gen] 198)).drew:=((Below.refl _ b).alloc (Nat.le_refl _) _).drew;have I:b.1.size<(b.alloc (.cells #[.int .i64 K,.int .i64 addr,.int .i64 0,.int .i64 N.lvl,.int .i64 gen] 198)).drew.1.size:=by simp
   clear P U;generalize (b.alloc (.cells #[.int .i64 K,.int .i64 addr,.int .i64 0,.int .i64 N.lvl,.int .i64 gen] 198)).drew=w3 at *;have X:=N2.below b3 zn;have B3:=B2.trans (b3.mono B2.size);clear N2 B2 b3 n0 N1 b1;by_cases hl:N.lvl=0
   ·have Q:=qpk addr gen hl E.out a8.out a5.out;have G:=Lib.hid Q.1;have F:=Lib.hid Q.2;clear Q;have Hl:=Lib.hid hl;clear hl;have q0:=X.c0;have q1:=X.c1;have q2:=X.c2;go_wp2_with fail
    refine (Rn N.lvl true (decide_eq_true Hl.out) A n c B m d w3).mono ?_;rintro e f ⟨rfl,H⟩;have N4:=X.below H X.lt;have H4:=H3.below H I;have B4:=B3.trans (H.mono B3.size);have T:b.1.size<f.1.size:=Nat.lt_of_lt_of_le I H.size;clear H X H3 B3 I q0 q1 q2;have nn:=N4.c1;have R:w.1.size<b.1.size:=zn;have P:∀u:World,Below b.1.size f u->u.cell? ⟨w.1.size,1,none⟩=some (.slice A n c)/\Below b.1.size f u:=
     λu Y=>⟨(Y.cell (p:=⟨w.1.size,_,none⟩) R).trans nn,Y⟩
    have U:Below b.1.size f f.drew:=(Below.refl _ f).drew;have a1:∀u:World,Below b.1.size f u->Jd u A n c N.items:=λu Y=>hI.below (B4.trans (Y.mono (Nat.le_of_lt R)))
    have h2:=H4.at_ 3;have f2:=H4.fz 3;have BS:Below b.1.size f ((f.setCell ⟨b.1.size,2,none⟩ (.int .i64 (n:Int))).drew):=((Below.refl _ f).setCell (p:=⟨b.1.size,2,none⟩) (Nat.le_refl b.1.size) _).drew;have zS:f.1.size<=(f.setCell ⟨b.1.size,2,none⟩ (.int .i64 (n:Int))).drew.1.size:=by simp
    have zD:f.1.size<=f.drew.1.size:=Nat.le_refl _;simp only[Yo] at h2 f2;go_wp2_with fail
    go_region_held3 (λu=>u.cell? ⟨w.1.size,1,none⟩=some (.slice A n c)/\Below b.1.size f u)
     (first|assumption|exact P _ U|exact P _ BS|exact P _ M|exact P _ (M.setCell (p:=⟨b.1.size,2,none⟩) (Nat.le_refl b.1.size) _))
     (first
      |(go_at_call 271;refine (qpi N.items A n c _ (a1 _ (by first|exact U|exact BS)) (by omega) (λj hj=>Hv.out j (by rw[a8.out];exact hj))).mono ?_;rintro e W ⟨A5,n5,c5,rfl,b0,s5,o5,D⟩;have M:Below b.1.size f W:=(by first|exact U.trans (D.mono (Nat.le_trans (Nat.le_of_lt T) zD))|exact BS.trans (D.mono (Nat.le_trans (Nat.le_of_lt T) zS)));have g5:=(show W.cell? ⟨b.1.size,2,none⟩=_ from D.cell (p:=⟨b.1.size,2,none⟩) (by first|exact Nat.lt_of_lt_of_le T zD|exact Nat.lt_of_lt_of_le T zS));have k5:=(show W.frozen? ⟨b.1.size,2,none⟩=_ from D.frozen (p:=⟨b.1.size,2,none⟩) (by first|exact Nat.lt_of_lt_of_le T zD|exact Nat.lt_of_lt_of_le T zS)))
      |fail)
    all_goals
     simp only[Hd.Eh] at h2;have H5:HB W b.1.size ⟨K,addr,0,N.lvl,gen⟩:=(show HB f.drew _ _ from H4).below D T;have H6:=qfx (y:=(n:Int)) H5;have s6:=s5.turned (Dy (S:=λk=>k=b.1.size) (w:=W) (a:=⟨b.1.size,2,none⟩) (.int .i64 (n:Int)) rfl) (λk hk e=>by
      cases A5 with
      |none=>cases hk
      |some ad=>
       have e1:=o5 ad rfl;have e2:ad.block=k:=Option.some.inj hk;have e3:f.1.size<=ad.block:=e1;omega)
     have Z:=B4.trans ((M.setCell (p:=⟨b.1.size,2,none⟩) (Nat.le_refl b.1.size) (.int .i64 (n:Int))).mono (Nat.le_of_lt R));clear s5;generalize W.setCell ⟨b.1.size,2,none⟩ (.int .i64 (n:Int))=w6 at H6 s6 Z ⊢;clear P U BS a1 h2 f2 g5 k5 D M nn zS zD N4 H4;go_wp2_with (first
      |(refine q8r rfl (.tmp 8) rfl b.1.size rfl _ H6 ?_)
      |fail)
     refine (q5t _ A5 n5 c5 _ _ s6 (ht.below Z ht.1)).mono ?_;rintro e w7 ⟨A7,n7,c7,rfl,O,a7,a6⟩;rw[<-F.out,<-G.out] at O;have s7:=O.less Z.size;have B7:=Z.trans (a6.mono Z.size);have hE:=Lib.hid (show Zm N addr gen=Xb (N.head addr gen) N.body by unfold Zm;rw[E.out];rfl);have a0:Xg (N.head addr gen) N.body=Jr N addr gen:=by unfold Jr;rw[E.out];rfl
     rw[a0] at s7;clear a0;go_wp2;go_ret2;rw[hE.out,G.out,F.out];exact⟨_,_,_,rfl,s7,a7,B7⟩
   ·have Q:=qmm addr gen hl E.out a9.out a5.out;have G:=Lib.hid Q.1;have F:=Lib.hid Q.2;clear Q;have Hl:=Lib.hid hl;clear hl;have q0:=X.c0;have q1:=X.c1;have q2:=X.c2;go_wp2_with fail
    refine (Rn N.lvl false (decide_eq_false Hl.out) A n c B m d w3).mono ?_;rintro e f ⟨rfl,H⟩;have N4:=X.below H X.lt;have H4:=H3.below H I;have B4:=B3.trans (H.mono B3.size);have T:b.1.size<f.1.size:=Nat.lt_of_lt_of_le I H.size;clear H X H3 B3 I q0 q1 q2;have nn:=N4.c2;have R:w.1.size<b.1.size:=zn;have P:∀u:World,Below b.1.size f u->u.cell? ⟨w.1.size,2,none⟩=some (.slice B m d)/\Below b.1.size f u:=
     λu Y=>⟨(Y.cell (p:=⟨w.1.size,_,none⟩) R).trans nn,Y⟩
    have U:Below b.1.size f f.drew:=(Below.refl _ f).drew;have a1:∀u:World,Below b.1.size f u->Zp u B m d N.kids:=λu Y=>hK.below (B4.trans (Y.mono (Nat.le_of_lt R)))
    have h2:=H4.at_ 3;have f2:=H4.fz 3;have BS:Below b.1.size f ((f.setCell ⟨b.1.size,2,none⟩ (.int .i64 (m:Int))).drew):=((Below.refl _ f).setCell (p:=⟨b.1.size,2,none⟩) (Nat.le_refl b.1.size) _).drew;have zS:f.1.size<=(f.setCell ⟨b.1.size,2,none⟩ (.int .i64 (m:Int))).drew.1.size:=by simp
    have zD:f.1.size<=f.drew.1.size:=Nat.le_refl _;simp only[Yo] at h2 f2;go_wp2_with fail
    go_region_held3 (λu=>u.cell? ⟨w.1.size,2,none⟩=some (.slice B m d)/\Below b.1.size f u)
     (first|assumption|exact P _ U|exact P _ BS|exact P _ M|exact P _ (M.setCell (p:=⟨b.1.size,2,none⟩) (Nat.le_refl b.1.size) _))
     (first
      |(go_at_call 273;refine (qpj N.kids B m d _ (a1 _ (by first|exact U|exact BS)) (by omega)).mono ?_;rintro e W ⟨A5,n5,c5,rfl,b0,s5,o5,D⟩;have M:Below b.1.size f W:=(by first|exact U.trans (D.mono (Nat.le_trans (Nat.le_of_lt T) zD))|exact BS.trans (D.mono (Nat.le_trans (Nat.le_of_lt T) zS)));have g5:=(show W.cell? ⟨b.1.size,2,none⟩=_ from D.cell (p:=⟨b.1.size,2,none⟩) (by first|exact Nat.lt_of_lt_of_le T zD|exact Nat.lt_of_lt_of_le T zS));have k5:=(show W.frozen? ⟨b.1.size,2,none⟩=_ from D.frozen (p:=⟨b.1.size,2,none⟩) (by first|exact Nat.lt_of_lt_of_le T zD|exact Nat.lt_of_lt_of_le T zS)))
      |fail)
    all_goals
     simp only[Hd.Eh] at h2;have H5:HB W b.1.size ⟨K,addr,0,N.lvl,gen⟩:=(show HB f.drew _ _ from H4).below D T;have H6:=qfx (y:=(m:Int)) H5;have s6:=s5.turned (Dy (S:=λk=>k=b.1.size) (w:=W) (a:=⟨b.1.size,2,none⟩) (.int .i64 (m:Int)) rfl) (λk hk e=>by
      cases A5 with
      |none=>cases hk
      |some ad=>
       have e1:=o5 ad rfl;have e2:ad.block=k:=Option.some.inj hk;have e3:f.1.size<=ad.block:=e1;omega)
     have Z:=B4.trans ((M.setCell (p:=⟨b.1.size,2,none⟩) (Nat.le_refl b.1.size) (.int .i64 (m:Int))).mono (Nat.le_of_lt R));clear s5;generalize W.setCell ⟨b.1.size,2,none⟩ (.int .i64 (m:Int))=w6 at H6 s6 Z ⊢;clear P U BS a1 h2 f2 g5 k5 D M nn zS zD N4 H4;go_wp2_with (first
      |(refine q8r rfl (.tmp 8) rfl b.1.size rfl _ H6 ?_)
      |fail)
     refine (q5t _ A5 n5 c5 _ _ s6 (ht.below Z ht.1)).mono ?_;rintro e w7 ⟨A7,n7,c7,rfl,O,a7,a6⟩;rw[<-F.out,<-G.out] at O;have s7:=O.less Z.size;have B7:=Z.trans (a6.mono Z.size);have hE:=Lib.hid (show Zm N addr gen=Xb (N.head addr gen) N.body by unfold Zm;rw[E.out];rfl);have a0:Xg (N.head addr gen) N.body=Jr N addr gen:=by unfold Jr;rw[E.out];rfl
     rw[a0] at s7;clear a0;go_wp2;go_ret2;rw[hE.out,G.out,F.out];exact⟨_,_,_,rfl,s7,a7,B7⟩
