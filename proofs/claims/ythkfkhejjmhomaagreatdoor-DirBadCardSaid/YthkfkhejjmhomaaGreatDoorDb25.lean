/- The code's node: put, for items and for kids -/
import Derived.Test.YthkfkhejjmhomaaGreatDoorDb10
namespace Go.Proofs.YthkfkhejjmhomaaGreatDoor
open Go Go.RowKit Go.Proofs
set_option maxHeartbeats 8000000
set_option maxRecDepth 100000
theorem qfb (A:Option Addr)(n c:Nat)(l:List UInt8)(x:Qb)(B:Option Addr)(m d:Nat)(w:World)(h:Sl w A n c l)(hv:Sl w B m d x.v)(hm:m<=28)(hn:n<=100000) :
  Calls Tryz.prog 272 #[.slice A n c,.agg #[.int .i64 x.k.obj,.int .i64 x.k.kind,.int .i64 x.k.off,.slice B m d]] w λe f=>∃A' n' c',e=.returned (.slice A' n' c')/\n'=n+10+m/\Own f w.1.size 5 A' n' c' (l++q16 x)/\Below w.1.size w f:=by
 have F:=Lib.hid h.len;have I:=Lib.hid hv.len;obtain⟨X,R⟩:∃X:ByteArray,(⟨x.v.toArray⟩:ByteArray)=X:=⟨_,rfl⟩;have Xs:X.size=m:=by rw[<-R,<-I.out];rfl
 have Xd:=Lib.hid (show X.data.toList=x.v by rw[<-R]);have y:∀f:World,Below w.1.size w f->(convert 48 9 (.slice B m d)).run Tryz.prog f=.ok (.string X) f:=λf G=>by
  have:=Np (hv.below G);rw[R] at this;exact this
 clear R;obtain⟨k,Y⟩:∃k,x.k=k:=⟨_,rfl⟩;have Hk:=Lib.hid Y;rw[Y];clear Y;go_enter Tryz.func272,Tryz.ntmps272
 go_wp2_with fail
 have J:Below w.1.size w (w.alloc (.cells #[.int .i64 k.obj,.int .i64 k.kind,.int .i64 k.off,.slice B m d] 50)):=Qk;have K:(w.alloc (.cells #[.int .i64 k.obj,.int .i64 k.kind,.int .i64 k.off,.slice B m d] 50)).1[w.1.size]?=some (.cells #[.int .i64 k.obj,.int .i64 k.kind,.int .i64 k.off,.slice B m d] 50 (0,0)):=heap_alloc_new w _;have O:w.1.size<(w.alloc (.cells #[.int .i64 k.obj,.int .i64 k.kind,.int .i64 k.off,.slice B m d] 50)).1.size:=by simp
 generalize w.alloc (.cells #[.int .i64 k.obj,.int .i64 k.kind,.int .i64 k.off,.slice B m d] 50)=u at J K O ⊢;have q0:u.cell? ⟨w.1.size,0,none⟩=some (.int .i64 k.obj):=by rw[cell_of_row _ _ _ _ _ _ K];rfl
 have q1:u.cell? ⟨w.1.size,1,none⟩=some (.int .i64 k.kind):=by rw[cell_of_row _ _ _ _ _ _ K];rfl
 have q2:u.cell? ⟨w.1.size,2,none⟩=some (.int .i64 k.off):=by rw[cell_of_row _ _ _ _ _ _ K];rfl
 have q3:u.cell? ⟨w.1.size,3,none⟩=some (.slice B m d):=by rw[cell_of_row _ _ _ _ _ _ K];rfl
 clear K;have Z:=h.below J;have Q:∀f:World,Below u.1.size u f->f.cell? ⟨w.1.size,0,none⟩=some (.int .i64 k.obj)/\f.cell? ⟨w.1.size,1,none⟩=some (.int .i64 k.kind)/\f.cell? ⟨w.1.size,2,none⟩=some (.int .i64 k.off)/\f.cell? ⟨w.1.size,3,none⟩=some (.slice B m d)/\(convert 48 9 (.slice B m d)).run Tryz.prog f=.ok (.string X) f/\Below u.1.size u f:=
  λf G=>⟨(G.cell (p:=⟨w.1.size,_,none⟩) O).trans q0,(G.cell (p:=⟨w.1.size,_,none⟩) O).trans q1,(G.cell (p:=⟨w.1.size,_,none⟩) O).trans q2,(G.cell (p:=⟨w.1.size,_,none⟩) O).trans q3,y f (J.trans (G.mono J.size)),G⟩
 have T:Below u.1.size u u.drew:=(Below.refl _ u).drew;have zr:u.1.size<=u.drew.1.size:=Nat.le_refl _;have p0:n<=4398046511104:=by omega
 have pX:X.size<=255:=by omega
 clear q0 q1 q2 q3;have P:=Lib.hid y;clear y;go_region_held3 (λf=>f.cell? ⟨w.1.size,0,none⟩=some (.int .i64 k.obj)/\f.cell? ⟨w.1.size,1,none⟩=some (.int .i64 k.kind)/\f.cell? ⟨w.1.size,2,none⟩=some (.int .i64 k.off)/\f.cell? ⟨w.1.size,3,none⟩=some (.slice B m d)/\(convert 48 9 (.slice B m d)).run Tryz.prog f=.ok (.string X) f/\Below u.1.size u f)
  (first|assumption|exact Q _ T|exact Q _ D|exact Q _ M)
  (first
   |(go_at_call 104;have hh:=D;refine (q4j A5 n5 c5 _ X _ H.sl p5 pX).mono ?_;rintro e w6 ⟨A6,n6,c6,rfl,E,W⟩;have M:Below u.1.size u w6:=D.trans (W.mono D.size))
   |(go_at_call 284;refine (qku A n c l k _ Z.drew p0).mono ?_;rintro e w5 ⟨A5,n5,c5,rfl,H,U⟩;have D:Below u.1.size u w5:=T.trans (U.mono zr);have l5:n5=n+9:=(by have:=H.len;rw[List.length_append,F.out,Kd.Xv] at this;omega);have p5:n5<=17592186044416:=(by omega);have a1:=Lib.hid l5;clear l5)
   |fail)
 all_goals
  have e6:l++k.bytes++(Qy (X.size:Int) 1++X.data.toList)=l++q16 x:=by
   unfold q16;rw[Xd.out,Xs,I.out,Hk.out,List.append_assoc]
  have l6:=Lib.hid (show n6=n+10+m by have:=E.len;rw[List.length_append,List.length_append,List.length_append,F.out,Kd.Xv,Xf,Xd.out,I.out] at this;omega);rw[e6] at E;have B6:=J.trans (M.mono J.size);have o6:=E.less (show w.1.size<=w5.1.size from Nat.le_trans J.size D.size);clear Q T;go_wp2;go_ret;exact⟨_,_,_,rfl,l6.out,o6,B6⟩
theorem qhk (A:Option Addr)(n c:Nat)(l:List UInt8)(x:Qj)(w:World)(h:Sl w A n c l)(hn:n<=100000) :
  Calls Tryz.prog 274 #[.slice A n c,.agg #[.int .i64 x.k.obj,.int .i64 x.k.kind,.int .i64 x.k.off,.int .i64 x.a]] w λe f=>∃X U Y,e=.returned (.slice X U Y)/\U=n+11/\Own f w.1.size 5 X U Y (l++Ew x)/\Below w.1.size w f:=by
 have y:=Lib.hid h.len;have D:Ew x=x.k.bytes++Qy x.a 2:=rfl;obtain⟨k,R⟩:∃k,x.k=k:=⟨_,rfl⟩;obtain⟨a,O⟩:∃a,x.a=a:=⟨_,rfl⟩;rw[R,O] at D;have M:=Lib.hid D;rw[R,O];clear R O D;go_enter Tryz.func274,Tryz.ntmps274
 go_wp2_with fail
 have F:Below w.1.size w (w.alloc (.cells #[.int .i64 k.obj,.int .i64 k.kind,.int .i64 k.off,.int .i64 a] 148)):=Qk;have E:(w.alloc (.cells #[.int .i64 k.obj,.int .i64 k.kind,.int .i64 k.off,.int .i64 a] 148)).1[w.1.size]?=some (.cells #[.int .i64 k.obj,.int .i64 k.kind,.int .i64 k.off,.int .i64 a] 148 (0,0)):=heap_alloc_new w _;have I:w.1.size<(w.alloc (.cells #[.int .i64 k.obj,.int .i64 k.kind,.int .i64 k.off,.int .i64 a] 148)).1.size:=by simp
 generalize w.alloc (.cells #[.int .i64 k.obj,.int .i64 k.kind,.int .i64 k.off,.int .i64 a] 148)=d at F E I ⊢;have q0:d.cell? ⟨w.1.size,0,none⟩=some (.int .i64 k.obj):=by rw[cell_of_row _ _ _ _ _ _ E];rfl
 have q1:d.cell? ⟨w.1.size,1,none⟩=some (.int .i64 k.kind):=by rw[cell_of_row _ _ _ _ _ _ E];rfl
 have q2:d.cell? ⟨w.1.size,2,none⟩=some (.int .i64 k.off):=by rw[cell_of_row _ _ _ _ _ _ E];rfl
 have q3:d.cell? ⟨w.1.size,3,none⟩=some (.int .i64 a):=by rw[cell_of_row _ _ _ _ _ _ E];rfl
 clear E;have T:=h.below F;have J:∀f:World,Below d.1.size d f->f.cell? ⟨w.1.size,0,none⟩=some (.int .i64 k.obj)/\f.cell? ⟨w.1.size,1,none⟩=some (.int .i64 k.kind)/\f.cell? ⟨w.1.size,2,none⟩=some (.int .i64 k.off)/\f.cell? ⟨w.1.size,3,none⟩=some (.int .i64 a)/\Below d.1.size d f:=
  λf H=>⟨(H.cell (p:=⟨w.1.size,_,none⟩) I).trans q0,(H.cell (p:=⟨w.1.size,_,none⟩) I).trans q1,(H.cell (p:=⟨w.1.size,_,none⟩) I).trans q2,(H.cell (p:=⟨w.1.size,_,none⟩) I).trans q3,H⟩
 have K:Below d.1.size d d.drew:=(Below.refl _ d).drew;have zr:d.1.size<=d.drew.1.size:=Nat.le_refl _;have p0:n<=4398046511104:=by omega
 have r1:(1:Int)<=2:=by omega
 have r2:(2:Int)<=8:=by omega
 clear q0 q1 q2 q3;go_region_held3 (λf=>f.cell? ⟨w.1.size,0,none⟩=some (.int .i64 k.obj)/\f.cell? ⟨w.1.size,1,none⟩=some (.int .i64 k.kind)/\f.cell? ⟨w.1.size,2,none⟩=some (.int .i64 k.off)/\f.cell? ⟨w.1.size,3,none⟩=some (.int .i64 a)/\Below d.1.size d f)
  (first|assumption|exact J _ K|exact J _ m|exact J _ G)
  (first
   |(go_at_call 180;have hh:=m;refine (q6s A5 W c5 _ a 2 _ B.sl p5 r1 r2).mono ?_;rintro e w6 ⟨A6,n6,c6,rfl,u,a2,Q⟩;have G:Below d.1.size d w6:=m.trans (Q.mono m.size))
   |(go_at_call 284;refine (qku A n c l k _ T.drew p0).mono ?_;rintro e w5 ⟨A5,W,c5,rfl,B,P⟩;have m:Below d.1.size d w5:=K.trans (P.mono zr);have Z:W=n+9:=(by have:=B.len;rw[List.length_append,y.out,Kd.Xv] at this;omega);have p5:W<=17592186044416:=(by omega);have a1:=Lib.hid Z;clear Z)
   |fail)
 all_goals
  have e6:l++k.bytes++Qy a (2:Int).toNat=l++Ew x:=by
   rw[M.out,List.append_assoc];rfl
  have l6:=Lib.hid (show n6=n+11 by have:=u.len;rw[List.length_append,List.length_append,y.out,Kd.Xv,Xf] at this;rw[<-this];rfl);rw[e6] at u;have B6:=F.trans (G.mono F.size);have o6:=u.less (show w.1.size<=w5.1.size from Nat.le_trans F.size m.size);clear J K;go_wp2;go_ret;exact⟨_,_,_,rfl,l6.out,o6,B6⟩
def bI (xs:List Qb)(j:Nat):List UInt8:=(xs.take j).flatMap q16
def bK (xs:List Qj)(j:Nat):List UInt8:=(xs.take j).flatMap Ew
theorem qxc (xs:List Qb)(j:Nat)(h:j<xs.length):bI xs (j+1)=bI xs j++q16 (Zb xs j):=by
 unfold bI;have:=Tf h;rw[List.getElem?_eq_getElem h] at this;rw[List.take_succ_eq_append_getElem h,List.flatMap_append,Option.some.inj this];simp
theorem qxd (xs:List Qj)(j:Nat)(h:j<xs.length):bK xs (j+1)=bK xs j++Ew (Qe xs j):=by
 unfold bK;have:=q12 h;rw[List.getElem?_eq_getElem h] at this;rw[List.take_succ_eq_append_getElem h,List.flatMap_append,Option.some.inj this];simp
theorem qz1 (xs:List Qb):bI xs xs.length=xs.flatMap q16:=by unfold bI;rw[List.take_length]
theorem qz2 (xs:List Qj):bK xs xs.length=xs.flatMap Ew:=by unfold bK;rw[List.take_length]
theorem qoy (xs:List Qb)(A:Option Addr)(n c:Nat)(w:World)(M:Jg w A n c xs)(hn:n<=1000)(hv:∀j,j<n->(Zb xs j).v.length<=28) :
  Calls Tryz.prog 271 #[.slice A n c,.func (.func 272) #[] #[]] w λe w'=>∃p W B,e=.returned (.slice p W B)/\W<=38*n/\Sl w' p W B (xs.flatMap q16)/\(∀m,p=some m->w.1.size<=m.block)/\Below w.1.size w w':=by
 have u:=Lib.hid M.len;have Hv:=Lib.hid hv;clear hv;obtain⟨a2,Q⟩:=M.bounds;unfold maxLen at Q;go_enter Tryz.func271,Tryz.ntmps271
 go_wp2_with fail
 go_loopw [5,10] (λb i wr=>∃(j q:Nat) (p:Option Addr) (B:Nat),j<=n/\q<=38*j/\i=.int .i64 (j:Int)/\b=.slice p q B/\Sl wr p q B (bI xs j)/\(∀m,p=some m->w.1.size<=m.block)/\Below w.1.size w wr) (λ_ i _=>n-(intOf i).toNat)
 case atStart=>exact⟨0,0,_,_,Nat.zero_le _,by omega,rfl,rfl,Ik _,(λm h=>by cases h),Below.refl _ _⟩
 case round=>
  obtain⟨j,q,p,B,hj,hq,rfl,rfl,T,hO,G⟩:=hrel;by_cases D:j<n
  ·have O:=M.below G;obtain⟨g,o,Y,m',Z,hA,hg,c0,c1,c2,c3,E⟩:=O.cell D;have y:=Hv.out j D;rw[E.len] at y;subst hA;have f:=Lib.hid (qxc xs j (by rw[u.out];exact D));obtain⟨x,hx⟩:∃x,Zb xs j=x:=⟨_,rfl⟩;rw[hx] at c0 c1 c2 E f;clear hx;go_wp2_with fail
   have F:Below wr.1.size wr (wr.alloc (.cells #[.int .i64 x.k.obj,.int .i64 x.k.kind,.int .i64 x.k.off,.slice Y m' Z] 50)):=Qk;refine (qfb p q B _ x Y m' Z _ (T.below F) (E.below F) y (by omega)).mono ?_;rintro e w2 ⟨X,n2,J,rfl,I,d,H⟩;have K:=G.trans ((F.trans (H.mono F.size)).mono G.size);have R:n2<=38*(j+1):=by omega
   have a1:=Lib.hid I;clear I;rw[<-f.out] at d;have U:=d.sl;have P:∀m,X=some m->w.1.size<=m.block:=λm h=>by have h1:=(d.block m h).1;have h2:=G.size;have h3:=F.size;omega
   clear hO;clear d F;go_wp2;exact⟨⟨j+1,n2,X,J,by omega,R,by go_num,rfl,U,P,K⟩,by simp[intOf];omega⟩
  ·obtain rfl:j=n:=by omega
   have e:bI xs j=xs.flatMap q16:=by rw[<-u.out];exact qz1 xs
   rw[e] at T;go_wp2;go_ret;exact⟨_,_,_,rfl,hq,T,hO,G⟩
theorem qoz (xs:List Qj)(A:Option Addr)(n c:Nat)(w:World)(J:Zk w A n c xs)(hn:n<=1000) :
  Calls Tryz.prog 273 #[.slice A n c,.func (.func 274) #[] #[]] w λe Z=>∃p T y,e=.returned (.slice p T y)/\T<=11*n/\Sl Z p T y (xs.flatMap Ew)/\(∀m,p=some m->w.1.size<=m.block)/\Below w.1.size w Z:=by
 have u:=Lib.hid J.len;skip
 skip
 obtain⟨a2,O⟩:=J.bounds;unfold maxLen at O;go_enter Tryz.func273,Tryz.ntmps273
 go_wp2_with fail
 go_loopw [5,10] (λb i wr=>∃(j q:Nat) (p:Option Addr) (y:Nat),j<=n/\q<=11*j/\i=.int .i64 (j:Int)/\b=.slice p q y/\Sl wr p q y (bK xs j)/\(∀m,p=some m->w.1.size<=m.block)/\Below w.1.size w wr) (λ_ i _=>n-(intOf i).toNat)
 case atStart=>exact⟨0,0,_,_,Nat.zero_le _,by omega,rfl,rfl,Ik _,(λm h=>by cases h),Below.refl _ _⟩
 case round=>
  obtain⟨j,q,p,y,hj,hq,rfl,rfl,Q,W,D⟩:=hrel;by_cases F:j<n
  ·have K:=J.below D;obtain⟨g,o,hA,hg,c0,c1,c2,c3⟩:=K.cell F;subst hA;have f:=Lib.hid (qxd xs j (by rw[u.out];exact F));obtain⟨x,X⟩:∃x,Qe xs j=x:=⟨_,rfl⟩;rw[X] at c0 c1 c2 c3 f;clear X;go_wp2_with fail
   have B:Below wr.1.size wr (wr.alloc (.cells #[.int .i64 x.k.obj,.int .i64 x.k.kind,.int .i64 x.k.off,.int .i64 x.a] 148)):=Qk;refine (qhk p q y _ x _ (Q.below B) (by omega)).mono ?_;rintro e w2 ⟨U,Y,H,rfl,G,d,E⟩;have I:=D.trans ((B.trans (E.mono B.size)).mono D.size);have P:Y<=11*(j+1):=by omega
   have a1:=Lib.hid G;clear G;rw[<-f.out] at d;have R:=d.sl;have M:∀m,U=some m->w.1.size<=m.block:=λm h=>by have h1:=(d.block m h).1;have h2:=D.size;have h3:=B.size;omega
   clear W;clear d B;go_wp2;exact⟨⟨j+1,Y,U,H,by omega,P,by go_num,rfl,R,M,I⟩,by simp[intOf];omega⟩
  ·obtain rfl:j=n:=by omega
   have e:bK xs j=xs.flatMap Ew:=by rw[<-u.out];exact qz2 xs
   rw[e] at Q;go_wp2;go_ret;exact⟨_,_,_,rfl,hq,Q,W,D⟩
theorem qp0 {N:Nd}(addr gen:Int){n:Nat}{K:Int}(e:N.lvl=0)(hm:N.may=true)(hn:N.items.length=n)(d:(if N.lvl=0 then 3 else 4)=K):N.head addr gen=⟨K,addr,(n:Int),N.lvl,gen⟩/\N.body=N.items.flatMap q16:=by
 rw[if_pos e] at d;have f:N.kids=[]:=by
  refine List.eq_nil_of_length_eq_zero ?_;unfold Nd.may at hm;rw[if_pos e,Bool.and_eq_true,Bool.and_eq_true] at hm;exact (of_decide_eq_true hm.2.2).1
 unfold Nd.head Nd.body;rw[f,hn,if_neg (by omega),d];simp
theorem qlz {N:Nd}(addr gen:Int){m:Nat}{K:Int}(e:¬N.lvl=0)(hm:N.may=true)(hn:N.kids.length=m)(d:(if N.lvl=0 then 3 else 4)=K):N.head addr gen=⟨K,addr,(m:Int),N.lvl,gen⟩/\N.body=N.kids.flatMap Ew:=by
 rw[if_neg e] at d;unfold Nd.may at hm;rw[if_neg e,Bool.and_eq_true,Bool.and_eq_true] at hm;have h2:=of_decide_eq_true hm.2.2;have f:N.items=[]:=List.eq_nil_of_length_eq_zero h2.2.2.1;unfold Nd.head Nd.body;rw[f,hn,if_pos (by omega),d];simp
theorem qfc {w:World}{b:Nat}{K addr lvl gen x y:Int}(H:HB w b ⟨K,addr,x,lvl,gen⟩):HB (w.setCell ⟨b,2,none⟩ (.int .i64 y)) b ⟨K,addr,y,lvl,gen⟩:=H.Af 3 y
theorem qbr (N:Nd)(addr gen:Int)(A:Option Addr)(n c:Nat)(B:Option Addr)(m d:Nat)(w:World)(hI:Jg w A n c N.items)(hK:Zk w B m d N.kids)(hn:n<=1000)(hm:m<=1000)(ht:Tab w) :
  Calls Tryz.prog 251 #[.agg #[.int .i64 N.lvl,.slice A n c,.slice B m d],.int .i64 addr,.int .i64 gen] w λe D=>∃A' n' c',e=.returned (.tuple #[.slice A' n' c',.int .i64 (Zg N addr gen)])/\Own D w.1.size 5 A' n' c' (Jp N addr gen)/\(Zg N addr gen=0->∃g,A'=some ⟨g,0,none⟩/\n'=256/\c'=256)/\Below w.1.size w D:=by
 have b5:=Lib.hid hI.len;have b6:=Lib.hid hK.len;go_enter Tryz.func251,Tryz.ntmps251
 go_wp2_with fail
 have N1:NB (w.alloc (.cells #[.int .i64 N.lvl,.slice A n c,.slice B m d] 77)) w.1.size N.lvl A n c B m d:=NB.new w _ _ _ _ _ _ _ _;have b1:Below w.1.size w (w.alloc (.cells #[.int .i64 N.lvl,.slice A n c,.slice B m d] 77)):=Qk;generalize w.alloc (.cells #[.int .i64 N.lvl,.slice A n c,.slice B m d] 77)=w1 at N1 b1 ⊢
 cases M:N.may
 ·refine (q1z N false M A n c B m d w1 (hI.below b1) (hK.below b1) hn hm).mono ?_;rintro e f ⟨rfl,a7⟩;go_wp2;go_ret2;have h1:Zg N addr gen=1:=by unfold Zg;rw[M];rfl
  have h2:Jp N addr gen=[]:=by unfold Jp;rw[M];rfl
  rw[h1,h2];exact⟨_,_,_,rfl,qec _ _ _,(λh=>by cases h),b1.trans (a7.mono b1.size)⟩
 ·refine (q1z N true M A n c B m d w1 (hI.below b1) (hK.below b1) hn hm).mono ?_;rintro e f ⟨rfl,a7⟩;have N2:=N1.below a7 N1.lt;have B2:=b1.trans (a7.mono b1.size);have n0:=N2.c0;obtain⟨_,_,a6,_⟩:=q2s M;have Hv:=Lib.hid a6;have F:=Lib.hid M;clear a6;obtain⟨K,a8⟩:∃K:Int,(if N.lvl=0 then 3 else 4)=K:=⟨_,rfl⟩;have b0:=Lib.hid a8;clear a8;have zn:=N2.lt;have Q:∀D:World,Below f.1.size f D->D.cell? ⟨w.1.size,0,none⟩=some (.int .i64 N.lvl)/\Below f.1.size f D:=
   λD Y=>⟨(Y.cell (p:=⟨w.1.size,_,none⟩) zn).trans n0,Y⟩
  have U:Below f.1.size f f.drew:=(Below.refl _ f).drew;go_wp2_with fail
  go_region_held3 (λD=>D.cell? ⟨w.1.size,0,none⟩=some (.int .i64 N.lvl)/\Below f.1.size f D)
   (first|assumption|exact Q _ U|exact Q _ (U.alloc (Nat.le_refl _) _))
   (first
    |(go_at_call 140;refine (q41 N.lvl K b0.out _).mono ?_;rintro e w3 ⟨rfl,rfl⟩)
    |fail)
  all_goals
   have H3:HB (f.alloc (.cells #[.int .i64 K,.int .i64 addr,.int .i64 0,.int .i64 N.lvl,.int .i64 gen] 198)).drew f.1.size ⟨K,addr,0,N.lvl,gen⟩:=⟨_,heap_alloc_new f _⟩;have b3:Below f.1.size f (f.alloc (.cells #[.int .i64 K,.int .i64 addr,.int .i64 0,.int .i64 N.lvl,.int .i64 gen] 198)).drew:=((Below.refl _ f).alloc (Nat.le_refl _) _).drew;have J:f.1.size<(f.alloc (.cells #[.int .i64 K,.int .i64 addr,.int .i64 0,.int .i64 N.lvl,.int .i64 gen] 198)).drew.1.size:=by simp
   clear Q U;generalize (f.alloc (.cells #[.int .i64 K,.int .i64 addr,.int .i64 0,.int .i64 N.lvl,.int .i64 gen] 198)).drew=w3 at *;have X:=N2.below b3 zn;have B3:=B2.trans (b3.mono B2.size);clear N2 B2 b3 n0 N1 b1;by_cases hl:N.lvl=0
   ·have R:=qp0 addr gen hl F.out b5.out b0.out;have H:=Lib.hid R.1;have G:=Lib.hid R.2;clear R;have Hl:=Lib.hid hl;clear hl;have q0:=X.c0;have q1:=X.c1;have q2:=X.c2;go_wp2_with fail
    refine (Pm N.lvl true (decide_eq_true Hl.out) A n c B m d w3).mono ?_;rintro e u ⟨rfl,I⟩;have N4:=X.below I X.lt;have H4:=H3.below I J;have B4:=B3.trans (I.mono B3.size);have z4:f.1.size<u.1.size:=Nat.lt_of_lt_of_le J I.size;clear I X H3 B3 J q0 q1 q2;have nn:=N4.c1;have T:w.1.size<f.1.size:=zn;have Q:∀D:World,Below f.1.size u D->D.cell? ⟨w.1.size,1,none⟩=some (.slice A n c)/\Below f.1.size u D:=
     λD Y=>⟨(Y.cell (p:=⟨w.1.size,_,none⟩) T).trans nn,Y⟩
    have U:Below f.1.size u u.drew:=(Below.refl _ u).drew;have a2:∀D:World,Below f.1.size u D->Jg D A n c N.items:=λD Y=>hI.below (B4.trans (Y.mono (Nat.le_of_lt T)))
    have h2:=H4.at_ 3;have f2:=H4.fz 3;have BS:Below f.1.size u ((u.setCell ⟨f.1.size,2,none⟩ (.int .i64 (n:Int))).drew):=((Below.refl _ u).setCell (p:=⟨f.1.size,2,none⟩) (Nat.le_refl f.1.size) _).drew;have zS:u.1.size<=(u.setCell ⟨f.1.size,2,none⟩ (.int .i64 (n:Int))).drew.1.size:=by simp
    have zD:u.1.size<=u.drew.1.size:=Nat.le_refl _;simp only[Yr] at h2 f2;go_wp2_with fail
    go_region_held3 (λD=>D.cell? ⟨w.1.size,1,none⟩=some (.slice A n c)/\Below f.1.size u D)
     (first|assumption|exact Q _ U|exact Q _ BS|exact Q _ O|exact Q _ (O.setCell (p:=⟨f.1.size,2,none⟩) (Nat.le_refl f.1.size) _))
     (first
      |(go_at_call 271;refine (qoy N.items A n c _ (a2 _ (by first|exact U|exact BS)) (by omega) (λj hj=>Hv.out j (by rw[b5.out];exact hj))).mono ?_;rintro e W ⟨A5,n5,c5,rfl,b7,s5,o5,E⟩;have O:Below f.1.size u W:=(by first|exact U.trans (E.mono (Nat.le_trans (Nat.le_of_lt z4) zD))|exact BS.trans (E.mono (Nat.le_trans (Nat.le_of_lt z4) zS)));have g5:=(show W.cell? ⟨f.1.size,2,none⟩=_ from E.cell (p:=⟨f.1.size,2,none⟩) (by first|exact Nat.lt_of_lt_of_le z4 zD|exact Nat.lt_of_lt_of_le z4 zS));have k5:=(show W.frozen? ⟨f.1.size,2,none⟩=_ from E.frozen (p:=⟨f.1.size,2,none⟩) (by first|exact Nat.lt_of_lt_of_le z4 zD|exact Nat.lt_of_lt_of_le z4 zS)))
      |fail)
    all_goals
     simp only[Hd.En] at h2;have H5:HB W f.1.size ⟨K,addr,0,N.lvl,gen⟩:=(show HB u.drew _ _ from H4).below E z4;have H6:=qfc (y:=(n:Int)) H5;have s6:=s5.turned (Ac (S:=λk=>k=f.1.size) (w:=W) (a:=⟨f.1.size,2,none⟩) (.int .i64 (n:Int)) rfl) (λk hk e=>by
      cases A5 with
      |none=>cases hk
      |some ad=>
       have e1:=o5 ad rfl;have e2:ad.block=k:=Option.some.inj hk;have e3:u.1.size<=ad.block:=e1;omega)
     have Z:=B4.trans ((O.setCell (p:=⟨f.1.size,2,none⟩) (Nat.le_refl f.1.size) (.int .i64 (n:Int))).mono (Nat.le_of_lt T));clear s5;generalize W.setCell ⟨f.1.size,2,none⟩ (.int .i64 (n:Int))=w6 at H6 s6 Z ⊢;clear Q U BS a2 h2 f2 g5 k5 E O nn zS zD N4 H4;go_wp2_with (first
      |(refine q7y rfl (.tmp 8) rfl f.1.size rfl _ H6 ?_)
      |fail)
     refine (q6v _ A5 n5 c5 _ _ s6 (ht.below Z ht.1)).mono ?_;rintro e w7 ⟨A7,n7,c7,rfl,P,b4,b2⟩;rw[<-G.out,<-H.out] at P;have s7:=P.less Z.size;have B7:=Z.trans (b2.mono Z.size);have hE:=Lib.hid (show Zg N addr gen=Xn (N.head addr gen) N.body by unfold Zg;rw[F.out];rfl);have a1:Xy (N.head addr gen) N.body=Jp N addr gen:=by unfold Jp;rw[F.out];rfl
     rw[a1] at s7;clear a1;go_wp2;go_ret2;rw[hE.out,H.out,G.out];exact⟨_,_,_,rfl,s7,b4,B7⟩
   ·have R:=qlz addr gen hl F.out b6.out b0.out;have H:=Lib.hid R.1;have G:=Lib.hid R.2;clear R;have Hl:=Lib.hid hl;clear hl;have q0:=X.c0;have q1:=X.c1;have q2:=X.c2;go_wp2_with fail
    refine (Pm N.lvl false (decide_eq_false Hl.out) A n c B m d w3).mono ?_;rintro e u ⟨rfl,I⟩;have N4:=X.below I X.lt;have H4:=H3.below I J;have B4:=B3.trans (I.mono B3.size);have z4:f.1.size<u.1.size:=Nat.lt_of_lt_of_le J I.size;clear I X H3 B3 J q0 q1 q2;have nn:=N4.c2;have T:w.1.size<f.1.size:=zn;have Q:∀D:World,Below f.1.size u D->D.cell? ⟨w.1.size,2,none⟩=some (.slice B m d)/\Below f.1.size u D:=
     λD Y=>⟨(Y.cell (p:=⟨w.1.size,_,none⟩) T).trans nn,Y⟩
    have U:Below f.1.size u u.drew:=(Below.refl _ u).drew;have a2:∀D:World,Below f.1.size u D->Zk D B m d N.kids:=λD Y=>hK.below (B4.trans (Y.mono (Nat.le_of_lt T)))
    have h2:=H4.at_ 3;have f2:=H4.fz 3;have BS:Below f.1.size u ((u.setCell ⟨f.1.size,2,none⟩ (.int .i64 (m:Int))).drew):=((Below.refl _ u).setCell (p:=⟨f.1.size,2,none⟩) (Nat.le_refl f.1.size) _).drew;have zS:u.1.size<=(u.setCell ⟨f.1.size,2,none⟩ (.int .i64 (m:Int))).drew.1.size:=by simp
    have zD:u.1.size<=u.drew.1.size:=Nat.le_refl _;simp only[Yr] at h2 f2;go_wp2_with fail
    go_region_held3 (λD=>D.cell? ⟨w.1.size,2,none⟩=some (.slice B m d)/\Below f.1.size u D)
     (first|assumption|exact Q _ U|exact Q _ BS|exact Q _ O|exact Q _ (O.setCell (p:=⟨f.1.size,2,none⟩) (Nat.le_refl f.1.size) _))
     (first
      |(go_at_call 273;refine (qoz N.kids B m d _ (a2 _ (by first|exact U|exact BS)) (by omega)).mono ?_;rintro e W ⟨A5,n5,c5,rfl,b7,s5,o5,E⟩;have O:Below f.1.size u W:=(by first|exact U.trans (E.mono (Nat.le_trans (Nat.le_of_lt z4) zD))|exact BS.trans (E.mono (Nat.le_trans (Nat.le_of_lt z4) zS)));have g5:=(show W.cell? ⟨f.1.size,2,none⟩=_ from E.cell (p:=⟨f.1.size,2,none⟩) (by first|exact Nat.lt_of_lt_of_le z4 zD|exact Nat.lt_of_lt_of_le z4 zS));have k5:=(show W.frozen? ⟨f.1.size,2,none⟩=_ from E.frozen (p:=⟨f.1.size,2,none⟩) (by first|exact Nat.lt_of_lt_of_le z4 zD|exact Nat.lt_of_lt_of_le z4 zS)))
      |fail)
    all_goals
     simp only[Hd.En] at h2;have H5:HB W f.1.size ⟨K,addr,0,N.lvl,gen⟩:=(show HB u.drew _ _ from H4).below E z4;have H6:=qfc (y:=(m:Int)) H5;have s6:=s5.turned (Ac (S:=λk=>k=f.1.size) (w:=W) (a:=⟨f.1.size,2,none⟩) (.int .i64 (m:Int)) rfl) (λk hk e=>by
      cases A5 with
      |none=>cases hk
      |some ad=>
       have e1:=o5 ad rfl;have e2:ad.block=k:=Option.some.inj hk;have e3:u.1.size<=ad.block:=e1;omega)
     have Z:=B4.trans ((O.setCell (p:=⟨f.1.size,2,none⟩) (Nat.le_refl f.1.size) (.int .i64 (m:Int))).mono (Nat.le_of_lt T));clear s5;generalize W.setCell ⟨f.1.size,2,none⟩ (.int .i64 (m:Int))=w6 at H6 s6 Z ⊢;clear Q U BS a2 h2 f2 g5 k5 E O nn zS zD N4 H4;go_wp2_with (first
      |(refine q7y rfl (.tmp 8) rfl f.1.size rfl _ H6 ?_)
      |fail)
     refine (q6v _ A5 n5 c5 _ _ s6 (ht.below Z ht.1)).mono ?_;rintro e w7 ⟨A7,n7,c7,rfl,P,b4,b2⟩;rw[<-G.out,<-H.out] at P;have s7:=P.less Z.size;have B7:=Z.trans (b2.mono Z.size);have hE:=Lib.hid (show Zg N addr gen=Xn (N.head addr gen) N.body by unfold Zg;rw[F.out];rfl);have a1:Xy (N.head addr gen) N.body=Jp N addr gen:=by unfold Jp;rw[F.out];rfl
     rw[a1] at s7;clear a1;go_wp2;go_ret2;rw[hE.out,H.out,G.out];exact⟨_,_,_,rfl,s7,b4,B7⟩
