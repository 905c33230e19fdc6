/- The code's node: put, for items and for kids -/
import Derived.Test.YthkfkhejjmhomaaGreatDoorDz10
namespace Go.Proofs.YthkfkhejjmhomaaGreatDoor
open Go Go.RowKit Go.Proofs
set_option maxHeartbeats 8000000
set_option maxRecDepth 100000
theorem Qmo (A:Option Addr)(n c:Nat)(l:List UInt8)(x:Qq)(B:Option Addr)(m d:Nat)(w:World)(h:Sl w A n c l)(hv:Sl w B m d x.v)(hm:m<=28)(hn:n<=100000) :
  Calls Tryz.prog 272 #[.slice A n c,.agg #[.int .i64 x.k.obj,.int .i64 x.k.kind,.int .i64 x.k.off,.slice B m d]] w λe f=>∃Y V Z,e=.returned (.slice Y V Z)/\V=n+10+m/\Own f w.1.size 5 Y V Z (l++Vz x)/\Below w.1.size w f:=by
 have z:=Lib.hid h.len;have F:=Lib.hid hv.len;obtain⟨X,O⟩:∃X:ByteArray,(⟨x.v.toArray⟩:ByteArray)=X:=⟨_,rfl⟩;have Xs:X.size=m:=by rw[<-O,<-F.out];rfl
 have Xd:=Lib.hid (show X.data.toList=x.v by rw[<-O]);have q:∀f:World,Below w.1.size w f->(convert 48 9 (.slice B m d)).run Tryz.prog f=.ok (.string X) f:=λf D=>by
  have:=Qtn (hv.below D);rw[O] at this;exact this
 clear O;obtain⟨k,T⟩:∃k,x.k=k:=⟨_,rfl⟩;have Hk:=Lib.hid T;rw[T];clear T;go_enter Tryz.func272,Tryz.ntmps272
 go_wp2_with fail
 have G:Below w.1.size w (w.alloc (.cells #[.int .i64 k.obj,.int .i64 k.kind,.int .i64 k.off,.slice B m d] 50)):=Ib;have H:(w.alloc (.cells #[.int .i64 k.obj,.int .i64 k.kind,.int .i64 k.off,.slice B m d] 50)).1[w.1.size]?=some (.cells #[.int .i64 k.obj,.int .i64 k.kind,.int .i64 k.off,.slice B m d] 50 (0,0)):=heap_alloc_new w _;have J:w.1.size<(w.alloc (.cells #[.int .i64 k.obj,.int .i64 k.kind,.int .i64 k.off,.slice B m d] 50)).1.size:=by simp
 generalize w.alloc (.cells #[.int .i64 k.obj,.int .i64 k.kind,.int .i64 k.off,.slice B m d] 50)=g at G H J ⊢;have q0:g.cell? ⟨w.1.size,0,none⟩=some (.int .i64 k.obj):=by rw[cell_of_row _ _ _ _ _ _ H];rfl
 have q1:g.cell? ⟨w.1.size,1,none⟩=some (.int .i64 k.kind):=by rw[cell_of_row _ _ _ _ _ _ H];rfl
 have q2:g.cell? ⟨w.1.size,2,none⟩=some (.int .i64 k.off):=by rw[cell_of_row _ _ _ _ _ _ H];rfl
 have q3:g.cell? ⟨w.1.size,3,none⟩=some (.slice B m d):=by rw[cell_of_row _ _ _ _ _ _ H];rfl
 clear H;have U:=h.below G;have M:∀f:World,Below g.1.size g f->f.cell? ⟨w.1.size,0,none⟩=some (.int .i64 k.obj)/\f.cell? ⟨w.1.size,1,none⟩=some (.int .i64 k.kind)/\f.cell? ⟨w.1.size,2,none⟩=some (.int .i64 k.off)/\f.cell? ⟨w.1.size,3,none⟩=some (.slice B m d)/\(convert 48 9 (.slice B m d)).run Tryz.prog f=.ok (.string X) f/\Below g.1.size g f:=
  λf D=>⟨(D.cell (p:=⟨w.1.size,_,none⟩) J).trans q0,(D.cell (p:=⟨w.1.size,_,none⟩) J).trans q1,(D.cell (p:=⟨w.1.size,_,none⟩) J).trans q2,(D.cell (p:=⟨w.1.size,_,none⟩) J).trans q3,q f (G.trans (D.mono G.size)),D⟩
 have P:Below g.1.size g g.drew:=(Below.refl _ g).drew;have zr:g.1.size<=g.drew.1.size:=Nat.le_refl _;have p0:n<=4398046511104:=by omega
 have pX:X.size<=255:=by omega
 clear q0 q1 q2 q3;have K:=Lib.hid q;clear q;go_region_held3 (λf=>f.cell? ⟨w.1.size,0,none⟩=some (.int .i64 k.obj)/\f.cell? ⟨w.1.size,1,none⟩=some (.int .i64 k.kind)/\f.cell? ⟨w.1.size,2,none⟩=some (.int .i64 k.off)/\f.cell? ⟨w.1.size,3,none⟩=some (.slice B m d)/\(convert 48 9 (.slice B m d)).run Tryz.prog f=.ok (.string X) f/\Below g.1.size g f)
  (first|assumption|exact M _ P|exact M _ u|exact M _ I)
  (first
   |(go_at_call 104;have hh:=u;refine (Qf1 A5 W c5 _ X _ E.sl p5 pX).mono ?_;rintro e w6 ⟨A6,n6,c6,rfl,y,R⟩;have I:Below g.1.size g w6:=u.trans (R.mono u.size))
   |(go_at_call 284;refine (Qo7 A n c l k _ U.drew p0).mono ?_;rintro e w5 ⟨A5,W,c5,rfl,E,Q⟩;have u:Below g.1.size g w5:=P.trans (Q.mono zr);have l5:W=n+9:=(by have:=E.len;rw[List.length_append,z.out,Kd.Jf] at this;omega);have p5:W<=17592186044416:=(by omega);have a1:=Lib.hid l5;clear l5)
   |fail)
 all_goals
  have e6:l++k.bytes++(Zw (X.size:Int) 1++X.data.toList)=l++Vz x:=by
   unfold Vz;rw[Xd.out,Xs,F.out,Hk.out,List.append_assoc]
  have l6:=Lib.hid (show n6=n+10+m by have:=y.len;rw[List.length_append,List.length_append,List.length_append,z.out,Kd.Jf,Ye,Xd.out,F.out] at this;omega);rw[e6] at y;have B6:=G.trans (I.mono G.size);have o6:=y.less (show w.1.size<=w5.1.size from Nat.le_trans G.size u.size);clear M P;go_wp2;go_ret;exact⟨_,_,_,rfl,l6.out,o6,B6⟩
theorem Qn8 (A:Option Addr)(n c:Nat)(l:List UInt8)(x:Qk)(w:World)(h:Sl w A n c l)(hn:n<=100000) :
  Calls Tryz.prog 274 #[.slice A n c,.agg #[.int .i64 x.k.obj,.int .i64 x.k.kind,.int .i64 x.k.off,.int .i64 x.a]] w λe f=>∃T Q U,e=.returned (.slice T Q U)/\Q=n+11/\Own f w.1.size 5 T Q U (l++Vs x)/\Below w.1.size w f:=by
 have q:=Lib.hid h.len;have y:Vs x=x.k.bytes++Zw x.a 2:=rfl;obtain⟨k,O⟩:∃k,x.k=k:=⟨_,rfl⟩;obtain⟨a,J⟩:∃a,x.a=a:=⟨_,rfl⟩;rw[O,J] at y;have I:=Lib.hid y;rw[O,J];clear O J y;go_enter Tryz.func274,Tryz.ntmps274
 go_wp2_with fail
 have B:Below w.1.size w (w.alloc (.cells #[.int .i64 k.obj,.int .i64 k.kind,.int .i64 k.off,.int .i64 a] 148)):=Ib;have z:(w.alloc (.cells #[.int .i64 k.obj,.int .i64 k.kind,.int .i64 k.off,.int .i64 a] 148)).1[w.1.size]?=some (.cells #[.int .i64 k.obj,.int .i64 k.kind,.int .i64 k.off,.int .i64 a] 148 (0,0)):=heap_alloc_new w _;have F:w.1.size<(w.alloc (.cells #[.int .i64 k.obj,.int .i64 k.kind,.int .i64 k.off,.int .i64 a] 148)).1.size:=by simp
 generalize w.alloc (.cells #[.int .i64 k.obj,.int .i64 k.kind,.int .i64 k.off,.int .i64 a] 148)=d at B z F ⊢;have W:d.cell? ⟨w.1.size,0,none⟩=some (.int .i64 k.obj):=by rw[cell_of_row _ _ _ _ _ _ z];rfl
 have X:d.cell? ⟨w.1.size,1,none⟩=some (.int .i64 k.kind):=by rw[cell_of_row _ _ _ _ _ _ z];rfl
 have Y:d.cell? ⟨w.1.size,2,none⟩=some (.int .i64 k.off):=by rw[cell_of_row _ _ _ _ _ _ z];rfl
 have Z:d.cell? ⟨w.1.size,3,none⟩=some (.int .i64 a):=by rw[cell_of_row _ _ _ _ _ _ z];rfl
 clear z;have P:=h.below B;have G:∀f:World,Below d.1.size d f->f.cell? ⟨w.1.size,0,none⟩=some (.int .i64 k.obj)/\f.cell? ⟨w.1.size,1,none⟩=some (.int .i64 k.kind)/\f.cell? ⟨w.1.size,2,none⟩=some (.int .i64 k.off)/\f.cell? ⟨w.1.size,3,none⟩=some (.int .i64 a)/\Below d.1.size d f:=
  λf E=>⟨(E.cell (p:=⟨w.1.size,_,none⟩) F).trans W,(E.cell (p:=⟨w.1.size,_,none⟩) F).trans X,(E.cell (p:=⟨w.1.size,_,none⟩) F).trans Y,(E.cell (p:=⟨w.1.size,_,none⟩) F).trans Z,E⟩
 have H:Below d.1.size d d.drew:=(Below.refl _ d).drew;have zr:d.1.size<=d.drew.1.size:=Nat.le_refl _;have p0:n<=4398046511104:=by omega
 have r1:(1:Int)<=2:=by omega
 have r2:(2:Int)<=8:=by omega
 clear W X Y Z;go_region_held3 (λf=>f.cell? ⟨w.1.size,0,none⟩=some (.int .i64 k.obj)/\f.cell? ⟨w.1.size,1,none⟩=some (.int .i64 k.kind)/\f.cell? ⟨w.1.size,2,none⟩=some (.int .i64 k.off)/\f.cell? ⟨w.1.size,3,none⟩=some (.int .i64 a)/\Below d.1.size d f)
  (first|assumption|exact G _ H|exact G _ g|exact G _ D)
  (first
   |(go_at_call 180;have hh:=g;refine (Qdv A5 R c5 _ a 2 _ u.sl p5 r1 r2).mono ?_;rintro e w6 ⟨A6,n6,c6,rfl,m,a2,M⟩;have D:Below d.1.size d w6:=g.trans (M.mono g.size))
   |(go_at_call 284;refine (Qo7 A n c l k _ P.drew p0).mono ?_;rintro e w5 ⟨A5,R,c5,rfl,u,K⟩;have g:Below d.1.size d w5:=H.trans (K.mono zr);have V:R=n+9:=(by have:=u.len;rw[List.length_append,q.out,Kd.Jf] at this;omega);have p5:R<=17592186044416:=(by omega);have a1:=Lib.hid V;clear V)
   |fail)
 all_goals
  have e6:l++k.bytes++Zw a (2:Int).toNat=l++Vs x:=by
   rw[I.out,List.append_assoc];rfl
  have l6:=Lib.hid (show n6=n+11 by have:=m.len;rw[List.length_append,List.length_append,q.out,Kd.Jf,Ye] at this;rw[<-this];rfl);rw[e6] at m;have B6:=B.trans (D.mono B.size);have o6:=m.less (show w.1.size<=w5.1.size from Nat.le_trans B.size g.size);clear G H;go_wp2;go_ret;exact⟨_,_,_,rfl,l6.out,o6,B6⟩
def bI (xs:List Qq)(j:Nat):List UInt8:=(xs.take j).flatMap Vz
def bK (xs:List Qk)(j:Nat):List UInt8:=(xs.take j).flatMap Vs
theorem Zbt (xs:List Qq)(j:Nat)(h:j<xs.length):bI xs (j+1)=bI xs j++Vz (Qx xs j):=by
 unfold bI;have:=Ae h;rw[List.getElem?_eq_getElem h] at this;rw[List.take_succ_eq_append_getElem h,List.flatMap_append,Option.some.inj this];simp
theorem Zbu (xs:List Qk)(j:Nat)(h:j<xs.length):bK xs (j+1)=bK xs j++Vs (Ql xs j):=by
 unfold bK;have:=q32 h;rw[List.getElem?_eq_getElem h] at this;rw[List.take_succ_eq_append_getElem h,List.flatMap_append,Option.some.inj this];simp
theorem Zd4 (xs:List Qq):bI xs xs.length=xs.flatMap Vz:=by unfold bI;rw[List.take_length]
theorem Zd5 (xs:List Qk):bK xs xs.length=xs.flatMap Vs:=by unfold bK;rw[List.take_length]
theorem Quy (xs:List Qq)(A:Option Addr)(n c:Nat)(w:World)(K:Je w A n c xs)(hn:n<=1000)(Z:∀j,j<n->(Qx xs j).v.length<=28) :
  Calls Tryz.prog 271 #[.slice A n c,.func (.func 272) #[] #[]] w λe w'=>∃p U z,e=.returned (.slice p U z)/\U<=38*n/\Sl w' p U z (xs.flatMap Vz)/\(∀m,p=some m->w.1.size<=m.block)/\Below w.1.size w w':=by
 have u:=Lib.hid K.len;have Hv:=Lib.hid Z;clear Z;obtain⟨a2,P⟩:=K.bounds;unfold maxLen at P;go_enter Tryz.func271,Tryz.ntmps271
 go_wp2_with fail
 go_loopw [5,10] (λb i wr=>∃(j q:Nat) (p:Option Addr) (z:Nat),j<=n/\q<=38*j/\i=.int .i64 (j:Int)/\b=.slice p q z/\Sl wr p q z (bI xs j)/\(∀m,p=some m->w.1.size<=m.block)/\Below w.1.size w wr) (λ_ i _=>n-(intOf i).toNat)
 case atStart=>exact⟨0,0,_,_,Nat.zero_le _,by omega,rfl,rfl,Sm _,(λm h=>by cases h),Below.refl _ _⟩
 case round=>
  obtain⟨j,q,p,z,hj,hq,rfl,rfl,R,Y,F⟩:=hrel;by_cases B:j<n
  ·have M:=K.below F;obtain⟨g,o,W,m',X,hA,hg,c0,c1,c2,c3,D⟩:=M.cell B;have y:=Hv.out j B;rw[D.len] at y;subst hA;have f:=Lib.hid (Zbt xs j (by rw[u.out];exact B));obtain⟨x,hx⟩:∃x,Qx xs j=x:=⟨_,rfl⟩;rw[hx] at c0 c1 c2 D f;clear hx;go_wp2_with fail
   have E:Below wr.1.size wr (wr.alloc (.cells #[.int .i64 x.k.obj,.int .i64 x.k.kind,.int .i64 x.k.off,.slice W m' X] 50)):=Ib;refine (Qmo p q z _ x W m' X _ (R.below E) (D.below E) y (by omega)).mono ?_;rintro e w2 ⟨V,n2,I,rfl,H,d,G⟩;have J:=F.trans ((E.trans (G.mono E.size)).mono F.size);have Q:n2<=38*(j+1):=by omega
   have a1:=Lib.hid H;clear H;rw[<-f.out] at d;have T:=d.sl;have O:∀m,V=some m->w.1.size<=m.block:=λm h=>by have h1:=(d.block m h).1;have h2:=F.size;have h3:=E.size;omega
   clear Y;clear d E;go_wp2;exact⟨⟨j+1,n2,V,I,by omega,Q,by go_num,rfl,T,O,J⟩,by simp[intOf];omega⟩
  ·obtain rfl:j=n:=by omega
   have e:bI xs j=xs.flatMap Vz:=by rw[<-u.out];exact Zd4 xs
   rw[e] at R;go_wp2;go_ret;exact⟨_,_,_,rfl,hq,R,Y,F⟩
theorem Quz (xs:List Qk)(A:Option Addr)(n c:Nat)(w:World)(I:Q7 w A n c xs)(hn:n<=1000) :
  Calls Tryz.prog 273 #[.slice A n c,.func (.func 274) #[] #[]] w λe X=>∃p R y,e=.returned (.slice p R y)/\R<=11*n/\Sl X p R y (xs.flatMap Vs)/\(∀m,p=some m->w.1.size<=m.block)/\Below w.1.size w X:=by
 have u:=Lib.hid I.len;skip
 skip
 obtain⟨a1,M⟩:=I.bounds;unfold maxLen at M;go_enter Tryz.func273,Tryz.ntmps273
 go_wp2_with fail
 go_loopw [5,10] (λb i wr=>∃(j q:Nat) (p:Option Addr) (y:Nat),j<=n/\q<=11*j/\i=.int .i64 (j:Int)/\b=.slice p q y/\Sl wr p q y (bK xs j)/\(∀m,p=some m->w.1.size<=m.block)/\Below w.1.size w wr) (λ_ i _=>n-(intOf i).toNat)
 case atStart=>exact⟨0,0,_,_,Nat.zero_le _,by omega,rfl,rfl,Sm _,(λm h=>by cases h),Below.refl _ _⟩
 case round=>
  obtain⟨j,q,p,y,hj,hq,rfl,rfl,P,U,B⟩:=hrel;by_cases E:j<n
  ·have J:=I.below B;obtain⟨g,o,Z,hg,c0,c1,c2,c3⟩:=J.cell E;subst Z;have f:=Lib.hid (Zbu xs j (by rw[u.out];exact E));obtain⟨x,V⟩:∃x,Ql xs j=x:=⟨_,rfl⟩;rw[V] at c0 c1 c2 c3 f;clear V;go_wp2_with fail
   have z:Below wr.1.size wr (wr.alloc (.cells #[.int .i64 x.k.obj,.int .i64 x.k.kind,.int .i64 x.k.off,.int .i64 x.a] 148)):=Ib;refine (Qn8 p q y _ x _ (P.below z) (by omega)).mono ?_;rintro e w2 ⟨T,W,G,rfl,F,d,D⟩;have H:=B.trans ((z.trans (D.mono z.size)).mono B.size);have O:W<=11*(j+1):=by omega
   have Y:=Lib.hid F;clear F;rw[<-f.out] at d;have Q:=d.sl;have K:∀m,T=some m->w.1.size<=m.block:=λm h=>by have h1:=(d.block m h).1;have h2:=B.size;have h3:=z.size;omega
   clear U;clear d z;go_wp2;exact⟨⟨j+1,W,T,G,by omega,O,by go_num,rfl,Q,K,H⟩,by simp[intOf];omega⟩
  ·obtain rfl:j=n:=by omega
   have e:bK xs j=xs.flatMap Vs:=by rw[<-u.out];exact Zd5 xs
   rw[e] at P;go_wp2;go_ret;exact⟨_,_,_,rfl,hq,P,U,B⟩
theorem Qvs {N:Nd}(addr gen:Int){n:Nat}{K:Int}(e:N.lvl=0)(hm:N.may=true)(hn:N.items.length=n)(d:(if N.lvl=0 then 3 else 4)=K):N.head addr gen=⟨K,addr,(n:Int),N.lvl,gen⟩/\N.body=N.items.flatMap Vz:=by
 rw[if_pos e] at d;have f:N.kids=[]:=by
  refine List.eq_nil_of_length_eq_zero ?_;unfold Nd.may at hm;rw[if_pos e,Bool.and_eq_true,Bool.and_eq_true] at hm;exact (of_decide_eq_true hm.2.2).1
 unfold Nd.head Nd.body;rw[f,hn,if_neg (by omega),d];simp
theorem Qrs {N:Nd}(addr gen:Int){m:Nat}{K:Int}(e:¬N.lvl=0)(hm:N.may=true)(hn:N.kids.length=m)(d:(if N.lvl=0 then 3 else 4)=K):N.head addr gen=⟨K,addr,(m:Int),N.lvl,gen⟩/\N.body=N.kids.flatMap Vs:=by
 rw[if_neg e] at d;unfold Nd.may at hm;rw[if_neg e,Bool.and_eq_true,Bool.and_eq_true] at hm;have h2:=of_decide_eq_true hm.2.2;have f:N.items=[]:=List.eq_nil_of_length_eq_zero h2.2.2.1;unfold Nd.head Nd.body;rw[f,hn,if_pos (by omega),d];simp
theorem Ql6 {w:World}{b:Nat}{K addr lvl gen x y:Int}(H:HB w b ⟨K,addr,x,lvl,gen⟩):HB (w.setCell ⟨b,2,none⟩ (.int .i64 y)) b ⟨K,addr,y,lvl,gen⟩:=H.Xe 3 y
theorem Qic (N:Nd)(addr gen:Int)(A:Option Addr)(n c:Nat)(B:Option Addr)(m d:Nat)(w:World)(hI:Je w A n c N.items)(hK:Q7 w B m d N.kids)(hn:n<=1000)(hm:m<=1000)(ht:Tab w) :
  Calls Tryz.prog 251 #[.agg #[.int .i64 N.lvl,.slice A n c,.slice B m d],.int .i64 addr,.int .i64 gen] w λe u=>∃A' n' c',e=.returned (.tuple #[.slice A' n' c',.int .i64 (Qo N addr gen)])/\Own u w.1.size 5 A' n' c' (Jw N addr gen)/\(Qo N addr gen=0->∃g,A'=some ⟨g,0,none⟩/\n'=256/\c'=256)/\Below w.1.size w u:=by
 have b0:=Lib.hid hI.len;have b2:=Lib.hid hK.len;go_enter Tryz.func251,Tryz.ntmps251
 go_wp2_with fail
 have N1:NB (w.alloc (.cells #[.int .i64 N.lvl,.slice A n c,.slice B m d] 77)) w.1.size N.lvl A n c B m d:=NB.new w _ _ _ _ _ _ _ _;have b1:Below w.1.size w (w.alloc (.cells #[.int .i64 N.lvl,.slice A n c,.slice B m d] 77)):=Ib;generalize w.alloc (.cells #[.int .i64 N.lvl,.slice A n c,.slice B m d] 77)=w1 at N1 b1 ⊢
 cases I:N.may
 ·refine (Pm N false I A n c B m d w1 (hI.below b1) (hK.below b1) hn hm).mono ?_;rintro e f ⟨rfl,a1⟩;go_wp2;go_ret2;have h1:Qo N addr gen=1:=by unfold Qo;rw[I];rfl
  have h2:Jw N addr gen=[]:=by unfold Jw;rw[I];rfl
  rw[h1,h2];exact⟨_,_,_,rfl,Qjf _ _ _,(λh=>by cases h),b1.trans (a1.mono b1.size)⟩
 ·refine (Pm N true I A n c B m d w1 (hI.below b1) (hK.below b1) hn hm).mono ?_;rintro e f ⟨rfl,a1⟩;have N2:=N1.below a1 N1.lt;have B2:=b1.trans (a1.mono b1.size);have n0:=N2.c0;obtain⟨_,_,Z,_⟩:=Gx I;have Hv:=Lib.hid Z;have D:=Lib.hid I;clear Z;obtain⟨K,a2⟩:∃K:Int,(if N.lvl=0 then 3 else 4)=K:=⟨_,rfl⟩;have a6:=Lib.hid a2;clear a2;have zn:=N2.lt;have O:∀u:World,Below f.1.size f u->u.cell? ⟨w.1.size,0,none⟩=some (.int .i64 N.lvl)/\Below f.1.size f u:=
   λu V=>⟨(V.cell (p:=⟨w.1.size,_,none⟩) zn).trans n0,V⟩
  have R:Below f.1.size f f.drew:=(Below.refl _ f).drew;go_wp2_with fail
  go_region_held3 (λu=>u.cell? ⟨w.1.size,0,none⟩=some (.int .i64 N.lvl)/\Below f.1.size f u)
   (first|assumption|exact O _ R|exact O _ (R.alloc (Nat.le_refl _) _))
   (first
    |(go_at_call 140;refine (Qa2 N.lvl K a6.out _).mono ?_;rintro e w3 ⟨rfl,rfl⟩)
    |fail)
  all_goals
   have H3:HB (f.alloc (.cells #[.int .i64 K,.int .i64 addr,.int .i64 0,.int .i64 N.lvl,.int .i64 gen] 198)).drew f.1.size ⟨K,addr,0,N.lvl,gen⟩:=⟨_,heap_alloc_new f _⟩;have b3:Below f.1.size f (f.alloc (.cells #[.int .i64 K,.int .i64 addr,.int .i64 0,.int .i64 N.lvl,.int .i64 gen] 198)).drew:=((Below.refl _ f).alloc (Nat.le_refl _) _).drew;have H:f.1.size<(f.alloc (.cells #[.int .i64 K,.int .i64 addr,.int .i64 0,.int .i64 N.lvl,.int .i64 gen] 198)).drew.1.size:=by simp
   clear O R;generalize (f.alloc (.cells #[.int .i64 K,.int .i64 addr,.int .i64 0,.int .i64 N.lvl,.int .i64 gen] 198)).drew=w3 at *;have U:=N2.below b3 zn;have B3:=B2.trans (b3.mono B2.size);clear N2 B2 b3 n0 N1 b1;by_cases hl:N.lvl=0
   ·have P:=Qvs addr gen hl D.out b0.out a6.out;have F:=Lib.hid P.1;have E:=Lib.hid P.2;clear P;have Hl:=Lib.hid hl;clear hl;have q0:=U.c0;have q1:=U.c1;have q2:=U.c2;go_wp2_with fail
    refine (Nl N.lvl true (decide_eq_true Hl.out) A n c B m d w3).mono ?_;rintro e q ⟨rfl,G⟩;have N4:=U.below G U.lt;have H4:=H3.below G H;have B4:=B3.trans (G.mono B3.size);have z4:f.1.size<q.1.size:=Nat.lt_of_lt_of_le H G.size;clear G U H3 B3 H q0 q1 q2;have nn:=N4.c1;have Q:w.1.size<f.1.size:=zn;have O:∀u:World,Below f.1.size q u->u.cell? ⟨w.1.size,1,none⟩=some (.slice A n c)/\Below f.1.size q u:=
     λu V=>⟨(V.cell (p:=⟨w.1.size,_,none⟩) Q).trans nn,V⟩
    have R:Below f.1.size q q.drew:=(Below.refl _ q).drew;have Y:∀u:World,Below f.1.size q u->Je u A n c N.items:=λu V=>hI.below (B4.trans (V.mono (Nat.le_of_lt Q)))
    have h2:=H4.at_ 3;have f2:=H4.fz 3;have BS:Below f.1.size q ((q.setCell ⟨f.1.size,2,none⟩ (.int .i64 (n:Int))).drew):=((Below.refl _ q).setCell (p:=⟨f.1.size,2,none⟩) (Nat.le_refl f.1.size) _).drew;have zS:q.1.size<=(q.setCell ⟨f.1.size,2,none⟩ (.int .i64 (n:Int))).drew.1.size:=by simp
    have zD:q.1.size<=q.drew.1.size:=Nat.le_refl _;simp only[Ym] at h2 f2;go_wp2_with fail
    go_region_held3 (λu=>u.cell? ⟨w.1.size,1,none⟩=some (.slice A n c)/\Below f.1.size q u)
     (first|assumption|exact O _ R|exact O _ BS|exact O _ J|exact O _ (J.setCell (p:=⟨f.1.size,2,none⟩) (Nat.le_refl f.1.size) _))
     (first
      |(go_at_call 271;refine (Quy N.items A n c _ (Y _ (by first|exact R|exact BS)) (by omega) (λj hj=>Hv.out j (by rw[b0.out];exact hj))).mono ?_;rintro e T ⟨A5,n5,c5,rfl,b4,s5,o5,z⟩;have J:Below f.1.size q T:=(by first|exact R.trans (z.mono (Nat.le_trans (Nat.le_of_lt z4) zD))|exact BS.trans (z.mono (Nat.le_trans (Nat.le_of_lt z4) zS)));have g5:=(show T.cell? ⟨f.1.size,2,none⟩=_ from z.cell (p:=⟨f.1.size,2,none⟩) (by first|exact Nat.lt_of_lt_of_le z4 zD|exact Nat.lt_of_lt_of_le z4 zS));have k5:=(show T.frozen? ⟨f.1.size,2,none⟩=_ from z.frozen (p:=⟨f.1.size,2,none⟩) (by first|exact Nat.lt_of_lt_of_le z4 zD|exact Nat.lt_of_lt_of_le z4 zS)))
      |fail)
    all_goals
     simp only[Hd.Bl] at h2;have H5:HB T f.1.size ⟨K,addr,0,N.lvl,gen⟩:=(show HB q.drew _ _ from H4).below z z4;have H6:=Ql6 (y:=(n:Int)) H5;have s6:=s5.turned (Gi (S:=λk=>k=f.1.size) (w:=T) (a:=⟨f.1.size,2,none⟩) (.int .i64 (n:Int)) rfl) (λk hk e=>by
      cases A5 with
      |none=>cases hk
      |some ad=>
       have e1:=o5 ad rfl;have e2:ad.block=k:=Option.some.inj hk;have e3:q.1.size<=ad.block:=e1;omega)
     have W:=B4.trans ((J.setCell (p:=⟨f.1.size,2,none⟩) (Nat.le_refl f.1.size) (.int .i64 (n:Int))).mono (Nat.le_of_lt Q));clear s5;generalize T.setCell ⟨f.1.size,2,none⟩ (.int .i64 (n:Int))=w6 at H6 s6 W ⊢;clear O R BS Y h2 f2 g5 k5 z J nn zS zD N4 H4;go_wp2_with (first
      |(refine Qe0 rfl (.tmp 8) rfl f.1.size rfl _ H6 ?_)
      |fail)
     refine (Qdc _ A5 n5 c5 _ _ s6 (ht.below W ht.1)).mono ?_;rintro e w7 ⟨A7,n7,c7,rfl,M,a8,a7⟩;rw[<-E.out,<-F.out] at M;have s7:=M.less W.size;have B7:=W.trans (a7.mono W.size);have hE:=Lib.hid (show Qo N addr gen=J5 (N.head addr gen) N.body by unfold Qo;rw[D.out];rfl);have X:Xu (N.head addr gen) N.body=Jw N addr gen:=by unfold Jw;rw[D.out];rfl
     rw[X] at s7;clear X;go_wp2;go_ret2;rw[hE.out,F.out,E.out];exact⟨_,_,_,rfl,s7,a8,B7⟩
   ·have P:=Qrs addr gen hl D.out b2.out a6.out;have F:=Lib.hid P.1;have E:=Lib.hid P.2;clear P;have Hl:=Lib.hid hl;clear hl;have q0:=U.c0;have q1:=U.c1;have q2:=U.c2;go_wp2_with fail
    refine (Nl N.lvl false (decide_eq_false Hl.out) A n c B m d w3).mono ?_;rintro e q ⟨rfl,G⟩;have N4:=U.below G U.lt;have H4:=H3.below G H;have B4:=B3.trans (G.mono B3.size);have z4:f.1.size<q.1.size:=Nat.lt_of_lt_of_le H G.size;clear G U H3 B3 H q0 q1 q2;have nn:=N4.c2;have Q:w.1.size<f.1.size:=zn;have O:∀u:World,Below f.1.size q u->u.cell? ⟨w.1.size,2,none⟩=some (.slice B m d)/\Below f.1.size q u:=
     λu V=>⟨(V.cell (p:=⟨w.1.size,_,none⟩) Q).trans nn,V⟩
    have R:Below f.1.size q q.drew:=(Below.refl _ q).drew;have Y:∀u:World,Below f.1.size q u->Q7 u B m d N.kids:=λu V=>hK.below (B4.trans (V.mono (Nat.le_of_lt Q)))
    have h2:=H4.at_ 3;have f2:=H4.fz 3;have BS:Below f.1.size q ((q.setCell ⟨f.1.size,2,none⟩ (.int .i64 (m:Int))).drew):=((Below.refl _ q).setCell (p:=⟨f.1.size,2,none⟩) (Nat.le_refl f.1.size) _).drew;have zS:q.1.size<=(q.setCell ⟨f.1.size,2,none⟩ (.int .i64 (m:Int))).drew.1.size:=by simp
    have zD:q.1.size<=q.drew.1.size:=Nat.le_refl _;simp only[Ym] at h2 f2;go_wp2_with fail
    go_region_held3 (λu=>u.cell? ⟨w.1.size,2,none⟩=some (.slice B m d)/\Below f.1.size q u)
     (first|assumption|exact O _ R|exact O _ BS|exact O _ J|exact O _ (J.setCell (p:=⟨f.1.size,2,none⟩) (Nat.le_refl f.1.size) _))
     (first
      |(go_at_call 273;refine (Quz N.kids B m d _ (Y _ (by first|exact R|exact BS)) (by omega)).mono ?_;rintro e T ⟨A5,n5,c5,rfl,b4,s5,o5,z⟩;have J:Below f.1.size q T:=(by first|exact R.trans (z.mono (Nat.le_trans (Nat.le_of_lt z4) zD))|exact BS.trans (z.mono (Nat.le_trans (Nat.le_of_lt z4) zS)));have g5:=(show T.cell? ⟨f.1.size,2,none⟩=_ from z.cell (p:=⟨f.1.size,2,none⟩) (by first|exact Nat.lt_of_lt_of_le z4 zD|exact Nat.lt_of_lt_of_le z4 zS));have k5:=(show T.frozen? ⟨f.1.size,2,none⟩=_ from z.frozen (p:=⟨f.1.size,2,none⟩) (by first|exact Nat.lt_of_lt_of_le z4 zD|exact Nat.lt_of_lt_of_le z4 zS)))
      |fail)
    all_goals
     simp only[Hd.Bl] at h2;have H5:HB T f.1.size ⟨K,addr,0,N.lvl,gen⟩:=(show HB q.drew _ _ from H4).below z z4;have H6:=Ql6 (y:=(m:Int)) H5;have s6:=s5.turned (Gi (S:=λk=>k=f.1.size) (w:=T) (a:=⟨f.1.size,2,none⟩) (.int .i64 (m:Int)) rfl) (λk hk e=>by
      cases A5 with
      |none=>cases hk
      |some ad=>
       have e1:=o5 ad rfl;have e2:ad.block=k:=Option.some.inj hk;have e3:q.1.size<=ad.block:=e1;omega)
     have W:=B4.trans ((J.setCell (p:=⟨f.1.size,2,none⟩) (Nat.le_refl f.1.size) (.int .i64 (m:Int))).mono (Nat.le_of_lt Q));clear s5;generalize T.setCell ⟨f.1.size,2,none⟩ (.int .i64 (m:Int))=w6 at H6 s6 W ⊢;clear O R BS Y h2 f2 g5 k5 z J nn zS zD N4 H4;go_wp2_with (first
      |(refine Qe0 rfl (.tmp 8) rfl f.1.size rfl _ H6 ?_)
      |fail)
     refine (Qdc _ A5 n5 c5 _ _ s6 (ht.below W ht.1)).mono ?_;rintro e w7 ⟨A7,n7,c7,rfl,M,a8,a7⟩;rw[<-E.out,<-F.out] at M;have s7:=M.less W.size;have B7:=W.trans (a7.mono W.size);have hE:=Lib.hid (show Qo N addr gen=J5 (N.head addr gen) N.body by unfold Qo;rw[D.out];rfl);have X:Xu (N.head addr gen) N.body=Jw N addr gen:=by unfold Jw;rw[D.out];rfl
     rw[X] at s7;clear X;go_wp2;go_ret2;rw[hE.out,F.out,E.out];exact⟨_,_,_,rfl,s7,a8,B7⟩
