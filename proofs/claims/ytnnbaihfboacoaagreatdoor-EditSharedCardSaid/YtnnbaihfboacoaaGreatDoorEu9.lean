/- The reference's May: whether a node may be -/
import Derived.Test.YtnnbaihfboacoaaGreatDoorEu7
import Derived.Test.YtnnbaihfboacoaaGreatDoorEu8
namespace Go.Proofs.YtnnbaihfboacoaaGreatDoor
open Go Go.RowKit Go.Proofs
set_option maxHeartbeats 8000000
set_option maxRecDepth 100000
def q6e (N:Nd):Bool:=N.items.all λx=>decide (x.v.length<=28)
def G7 (N:Nd):Bool:=N.kids.all λx=>decide (1<=x.a/\x.a<2048)
def Nd.may (N:Nd):Bool:=
 if N.lvl=0 then q6e N&&(rises N.keys&&decide (N.kids.length=0/\1<=N.items.length/\N.items.length<=6))
 else G7 N&&(rises N.keys&&decide (1<=N.lvl/\N.lvl<8/\N.items.length=0/\2<=N.kids.length/\N.kids.length<=12))
theorem Qfb {N:Nd}{j:Nat}(b:j<N.items.length)(h:¬(Qj N.items j).v.length<=28):q6e N=false:=by
 unfold q6e;rw[List.all_eq_false];exact⟨_,List.mem_of_getElem? (q11 b),by simpa using h⟩
theorem qin {N:Nd}(h:∀j,j<N.items.length->(Qj N.items j).v.length<=28):q6e N=true:=by
 unfold q6e;rw[List.all_eq_true];intro x e;obtain⟨j,b⟩:=List.mem_iff_getElem?.1 e;have d:=(List.getElem?_eq_some_iff.1 b).1;have:=q11 d;rw[b] at this;obtain rfl:=Option.some.inj this;exact decide_eq_true (h j d)
theorem Qem {N:Nd}{j:Nat}(b:j<N.kids.length)(h:¬(1<=(Qg N.kids j).a/\(Qg N.kids j).a<2048)):G7 N=false:=by
 unfold G7;rw[List.all_eq_false];exact⟨_,List.mem_of_getElem? (Rf b),by rw[decide_eq_false h];simp⟩
theorem qn1 {N:Nd}(h:∀j,j<N.kids.length->1<=(Qg N.kids j).a/\(Qg N.kids j).a<2048):G7 N=true:=by
 unfold G7;rw[List.all_eq_true];intro x e;obtain⟨j,b⟩:=List.mem_iff_getElem?.1 e;have d:=(List.getElem?_eq_some_iff.1 b).1;have:=Rf d;rw[b] at this;obtain rfl:=Option.some.inj this;exact decide_eq_true (h j d)
theorem Qdv (N:Nd)(A:Option Addr)(n c:Nat)(B:Option Addr)(m d:Nat)(w:World)(Z:Zl w A n c N.items)(hK:Zm w B m d N.kids)(hn:n<=1000)(hm:m<=1000) :
  Calls Tryz.prog 69 #[.agg #[.int .i64 N.lvl,.slice A n c,.slice B m d]] w λe w'=>e=.returned (.bool N.may)/\Below w.1.size w w':=by
 have M:=Lib.hid Z.len;have J:=Lib.hid hK.len;obtain⟨r,hr⟩:∃r,rises N.keys=r:=⟨_,rfl⟩;by_cases X:N.lvl=0
 ·have E:N.may=(q6e N&&(r&&decide (m=0/\1<=n/\n<=6))):=by unfold Nd.may;rw[if_pos X,hr,M.out,J.out]
  have f:=Lib.hid E;clear E;have b2:decide (N.lvl=0)=true:=decide_eq_true X;have a7:(N.lvl==0)=true:=by simp[X]
  clear X;go_enter Tryz.func69,Tryz.ntmps69
  go_wp2_with fail
  have O:NB (w.alloc (.cells #[.int .i64 N.lvl,.slice A n c,.slice B m d] 75)) w.1.size N.lvl A n c B m d:=NB.new w _ _ _ _ _ _ _ _;have H:Below w.1.size w (w.alloc (.cells #[.int .i64 N.lvl,.slice A n c,.slice B m d] 75)):=Qm;generalize w.alloc (.cells #[.int .i64 N.lvl,.slice A n c,.slice B m d] 75)=w1 at O H ⊢;refine (Qd5 N A n c B m d w1 (Z.below H) (hK.below H) hn hm).mono ?_;rintro e w2 ⟨A2,n2,c2,rfl,b4,K,F⟩;have T:=O.below F O.lt;have R:=H.trans (F.mono H.size);clear O H F;go_wp2_with fail
  refine (Qd6 A2 n2 c2 _ w2 K (by omega)).mono ?_;rw[hr];rintro e w3 ⟨rfl,G⟩;have U:=T.below G T.lt;have y:=R.trans (G.mono R.size);have q0:=U.c0;have q1:=U.c1;have q2:=U.c2;have a1:=Z.below y;have a2:=hK.below y;clear T R G K;go_wp2_with fail
  go_loop [4] (λi=>∃j:Nat,j<=n/\i=.int .i64 (j:Int)/\∀q,q<j->(Qj N.items q).v.length<=28) (λi=>n-(intOf i).toNat)
  case atStart=>exact⟨0,Nat.zero_le _,rfl,λq P=>by omega⟩
  case round=>
   obtain⟨j,hj,rfl,D⟩:=hrel;by_cases I:j<n
   ·obtain⟨g,o,B',m',d',hA,hg,_,_,_,c3,b5⟩:=a1.cell I;subst hA;have a6:=Lib.hid b5.len;by_cases Y:m'<=28
    ·have b3:¬(28:Int)<(m':Int):=by omega
     go_wp2;refine⟨⟨j+1,by omega,by go_num,λq P=>?_⟩,by simp[intOf];omega⟩;rcases (by omega:q<j\/q=j) with h1|rfl
     ·exact D q h1
     ·rw[a6.out];exact Y
    ·have b3:(28:Int)<(m':Int):=by omega
     go_wp2;go_ret;have u:N.may=false:=by rw[f.out,Qfb (j:=j) (by rw[M.out];exact I) (by rw[a6.out];exact Y)];rfl
     exact⟨by rw[u];rfl,y⟩
   ·obtain rfl:n=j:=by omega
    have p:q6e N=true:=qin λq P=>D q (by rw[M.out] at P;exact P)
    cases r
    ·have u:=Lib.hid (show N.may=false by rw[f.out,p];rfl);go_wp2;go_ret;exact⟨by rw[u.out];rfl,y⟩
    ·have b:=Lib.hid (show N.may=decide (m=0/\1<=n/\n<=6) by rw[f.out,p,Bool.true_and,Bool.true_and]);clear p;by_cases h1:m=0
     ·subst h1;by_cases h2:1<=n
      ·have W:(1:Int)<=(n:Int):=by omega
       go_wp2;go_ret;exact⟨by rw[b.out];exact congrArg (λx=>Ending.returned (Value.bool x)) (show decide ((n:Int)<=6)=_ from decide_eq_decide.2 ⟨λh=>⟨trivial,h2,by omega⟩,λh=>by have:=h.2.2;omega⟩),y⟩
      ·have W:¬(1:Int)<=(n:Int):=by omega
       go_wp2;go_ret;exact⟨by rw[b.out,decide_eq_false (by omega)];rfl,y⟩
     ·have b6:((m:Int)==0)=false:=by simp;omega
      have b7:decide ((m:Int)=0)=false:=decide_eq_false (by omega);have b8:¬(m:Int)=0:=by omega
      go_wp2;go_ret;exact⟨by rw[b.out,decide_eq_false (by omega)];rfl,y⟩
 ·have E:N.may=(G7 N&&(r&&decide (1<=N.lvl/\N.lvl<8/\n=0/\2<=m/\m<=12))):=by unfold Nd.may;rw[if_neg X,hr,M.out,J.out]
  have f:=Lib.hid E;clear E;have b2:decide (N.lvl=0)=false:=decide_eq_false X;have a7:(N.lvl==0)=false:=by simp[X]
  go_enter Tryz.func69,Tryz.ntmps69
  go_wp2_with fail
  have O:NB (w.alloc (.cells #[.int .i64 N.lvl,.slice A n c,.slice B m d] 75)) w.1.size N.lvl A n c B m d:=NB.new w _ _ _ _ _ _ _ _;have H:Below w.1.size w (w.alloc (.cells #[.int .i64 N.lvl,.slice A n c,.slice B m d] 75)):=Qm;generalize w.alloc (.cells #[.int .i64 N.lvl,.slice A n c,.slice B m d] 75)=w1 at O H ⊢;refine (Qd5 N A n c B m d w1 (Z.below H) (hK.below H) hn hm).mono ?_;rintro e w2 ⟨A2,n2,c2,rfl,b4,K,F⟩;have T:=O.below F O.lt;have R:=H.trans (F.mono H.size);clear O H F;go_wp2_with fail
  refine (Qd6 A2 n2 c2 _ w2 K (by omega)).mono ?_;rw[hr];rintro e w3 ⟨rfl,G⟩;have U:=T.below G T.lt;have y:=R.trans (G.mono R.size);have q0:=U.c0;have q1:=U.c1;have q2:=U.c2;have a1:=Z.below y;have a2:=hK.below y;clear T R G K;go_wp2_with fail
  go_loop [5] (λi=>∃j:Nat,j<=m/\i=.int .i64 (j:Int)/\∀q,q<j->1<=(Qg N.kids q).a/\(Qg N.kids q).a<2048) (λi=>m-(intOf i).toNat)
  case atStart=>exact⟨0,Nat.zero_le _,rfl,λq P=>by omega⟩
  case round=>
   obtain⟨j,hj,rfl,D⟩:=hrel;by_cases I:j<m
   ·obtain⟨g,o,hA,hg,_,_,_,c3⟩:=a2.cell I;subst hA;obtain⟨a,ha⟩:∃a,(Qg N.kids j).a=a:=⟨_,rfl⟩;rw[ha] at c3;have Ha:=Lib.hid ha;clear ha;by_cases h1:1<=a
    ·have a8:¬a<1:=by omega
     by_cases h2:a<2048
     ·have W:¬(2048:Int)<=a:=by omega
      go_wp2;refine⟨⟨j+1,by omega,by go_num,λq P=>?_⟩,by simp[intOf];omega⟩;rcases (by omega:q<j\/q=j) with h3|rfl
      ·exact D q h3
      ·rw[Ha.out];exact⟨h1,h2⟩
     ·have W:(2048:Int)<=a:=by omega
      go_wp2;go_ret;have u:N.may=false:=by rw[f.out,Qem (j:=j) (by rw[J.out];exact I) (by rw[Ha.out];omega)];rfl
      exact⟨by rw[u];rfl,y⟩
    ·have a8:a<1:=by omega
     go_wp2;go_ret;have u:N.may=false:=by rw[f.out,Qem (j:=j) (by rw[J.out];exact I) (by rw[Ha.out];omega)];rfl
     exact⟨by rw[u];rfl,y⟩
   ·obtain rfl:m=j:=by omega
    have p:G7 N=true:=qn1 λq P=>D q (by rw[J.out] at P;exact P)
    cases r
    ·have u:=Lib.hid (show N.may=false by rw[f.out,p];rfl);go_wp2;go_ret;exact⟨by rw[u.out];rfl,y⟩
    ·have b:=Lib.hid (show N.may=decide (1<=N.lvl/\N.lvl<8/\n=0/\2<=m/\m<=12) by rw[f.out,p,Bool.true_and,Bool.true_and]);clear p;by_cases h1:1<=N.lvl
     ·by_cases h2:N.lvl<8
      ·by_cases h3:n=0
       ·subst h3;by_cases h4:2<=m
        ·have b0:(2:Int)<=(m:Int):=by omega
         go_wp2;go_ret;exact⟨by rw[b.out];exact congrArg (λx=>Ending.returned (Value.bool x)) (show decide ((m:Int)<=12)=_ from decide_eq_decide.2 ⟨λh=>⟨h1,h2,trivial,h4,by omega⟩,λh=>by have:=h.2.2.2.2;omega⟩),y⟩
        ·have b0:¬(2:Int)<=(m:Int):=by omega
         go_wp2;go_ret;exact⟨by rw[b.out,decide_eq_false (by omega)];rfl,y⟩
       ·have b9:((n:Int)==0)=false:=by simp;omega
        have c6:decide ((n:Int)=0)=false:=decide_eq_false (by omega);have c7:¬(n:Int)=0:=by omega
        go_wp2;go_ret;exact⟨by rw[b.out,decide_eq_false (by omega)];rfl,y⟩
      ·go_wp2;go_ret;exact⟨by rw[b.out,decide_eq_false (by omega)];rfl,y⟩
     ·go_wp2;go_ret;exact⟨by rw[b.out,decide_eq_false (by omega)];rfl,y⟩
def Ot (x:Qc):Bool:=decide (x.v.length<=28)
def Ou (x:Ql):Bool:=decide (1<=x.a/\x.a<=2047)
def okI (xs:List Qc)(j:Nat):Bool:=Wx (xs.map (·.k)) j&&Ot (Qj xs j)
def okK (xs:List Ql)(j:Nat):Bool:=Wx (xs.map (·.k)) j&&Ou (Qg xs j)
def Dp (xs:List Qc)(lo b:Int):Bool:=decide (lo<=(xs.length:Int)/\(xs.length:Int)<=b)&&(List.range xs.length).all (okI xs)
def Du (xs:List Ql)(lo b:Int):Bool:=decide (lo<=(xs.length:Int)/\(xs.length:Int)<=b)&&(List.range xs.length).all (okK xs)
theorem qvi {n:Nat}{f:Nat->Bool}{j:Nat}(b:j<n)(h:f j=false):(List.range n).all f=false:=by
 rw[List.all_eq_false];exact⟨j,List.mem_range.2 b,by rw[h];simp⟩
theorem qrj {n:Nat}{f:Nat->Bool}(h:∀j,j<n->f j=true):(List.range n).all f=true:=by
 rw[List.all_eq_true];exact λj b=>h j (List.mem_range.1 b)
theorem qet (xs:List Qc)(j:Nat):keyAt (xs.map (·.k)) j=(Qj xs j).k:=by
 unfold keyAt Qj;rw[List.getD_eq_getElem?_getD,List.getD_eq_getElem?_getD,List.getElem?_map]
 cases xs[j]?<;>rfl
theorem qbc (xs:List Ql)(j:Nat):keyAt (xs.map (·.k)) j=(Qg xs j).k:=by
 unfold keyAt Qg;rw[List.getD_eq_getElem?_getD,List.getD_eq_getElem?_getD,List.getElem?_map]
 cases xs[j]?<;>rfl
theorem qrk (xs:List Qc)(A:Option Addr)(n c:Nat)(lo W:Int)(w:World)(hI:Zl w A n c xs)(hn:n<=100000) :
  Calls Tryz.prog 151 #[.slice A n c,.int .i64 lo,.int .i64 W,.func (.func 75) #[] #[],.func (.func 152) #[] #[]] w λe w'=>e=.returned (.bool (Dp xs lo W))/\Below w.1.size w w':=by
 have K:=Lib.hid hI.len;obtain⟨b4,b2⟩:=hI.bounds;unfold maxLen at b2;go_enter Tryz.func151,Tryz.ntmps151
 go_wp2_with fail
 refine (q35 (n:Int) lo W _ rfl _).mono ?_
 cases hr:decide (lo<=(n:Int)/\(n:Int)<=W)
 ·rintro e w1 ⟨rfl,rfl⟩;go_wp2;go_ret;exact⟨by unfold Dp;rw[K.out,hr];rfl,Below.refl _ _⟩
 ·rintro e w1 ⟨rfl,rfl⟩;have M:=Lib.hid (show Dp xs lo W=(List.range n).all (okI xs) by unfold Dp;rw[K.out,hr];rfl);clear hr;go_wp2_with fail
  go_loopw [21] (λi wr=>∃j:Nat,j<=n/\i=.int .i64 (j:Int)/\(∀q,q<j->okI xs q=true)/\Below w.1.size w wr) (λi _=>n-(intOf i).toNat)
  case atStart=>exact⟨0,Nat.zero_le _,rfl,λq hq=>by omega,Below.refl _ _⟩
  case round=>
   obtain⟨j,hj,rfl,O,hB⟩:=hrel;by_cases a6:j<n
   ·have Z:=hI.below hB;obtain⟨g,o,E,D,F,hA,hg,c0,c1,c2,c3,a7⟩:=Z.cell a6;subst hA;obtain⟨x,hx⟩:∃x,Qj xs j=x:=⟨_,rfl⟩;have I:=Lib.hid (show okI xs j=((x.k.may&&(decide (j=0)||(Qj xs (j-1)).k.less x.k))&&Ot x) by unfold okI Wx;rw[qet,qet,hx]);rw[hx] at c0 c1 c2 a7;have a8:=a7.len;obtain⟨f,B⟩:∃f,decide (D<=28)=f:=⟨_,rfl⟩;have G:=Lib.hid (show Ot x=f by unfold Ot;rw[a8,B]);clear a8;obtain⟨k,hk⟩:∃k,x.k=k:=⟨_,rfl⟩;rw[hk] at c0 c1 c2;obtain⟨r,hm⟩:∃r,k.may=r:=⟨_,rfl⟩;have Hk:=Lib.hid hk;clear hk hx;go_wp2_with fail
    have T:Below wr.1.size wr (wr.alloc (.cells #[.int .i64 k.obj,.int .i64 k.kind,.int .i64 k.off,.slice E D F] 68)):=Qm;have Y:(wr.alloc (.cells #[.int .i64 k.obj,.int .i64 k.kind,.int .i64 k.off,.slice E D F] 68)).1[wr.1.size]?=some (.cells #[.int .i64 k.obj,.int .i64 k.kind,.int .i64 k.off,.slice E D F] 68 (0,0)):=heap_alloc_new wr _;have zx:wr.1.size<(wr.alloc (.cells #[.int .i64 k.obj,.int .i64 k.kind,.int .i64 k.off,.slice E D F] 68)).1.size:=by simp
    generalize wr.alloc (.cells #[.int .i64 k.obj,.int .i64 k.kind,.int .i64 k.off,.slice E D F] 68)=J at T Y zx ⊢;have q0:∀u:Grown J,u.to.cell? ⟨wr.1.size,0,none⟩=some (.int .i64 k.obj):=Grown.cell (by rw[cell_of_row _ _ _ _ _ _ Y];rfl) zx;have q1:∀u:Grown J,u.to.cell? ⟨wr.1.size,1,none⟩=some (.int .i64 k.kind):=Grown.cell (by rw[cell_of_row _ _ _ _ _ _ Y];rfl) zx;have q2:∀u:Grown J,u.to.cell? ⟨wr.1.size,2,none⟩=some (.int .i64 k.off):=Grown.cell (by rw[cell_of_row _ _ _ _ _ _ Y];rfl) zx;have q3:∀u:Grown J,u.to.cell? ⟨wr.1.size,3,none⟩=some (.slice E D F):=Grown.cell (by rw[cell_of_row _ _ _ _ _ _ Y];rfl) zx;have m:=hB.trans (T.mono hB.size);clear c0 c1 c2 c3 Y;have fin:∀b,okI xs j=b->b=false->Dp xs lo W=false:=λb h1 h2=>by rw[M.out];exact qvi a6 (h1.trans h2)
    have R:=Lib.hid fin;clear fin
    cases r
    ·refine Yc (by kernel_rfl) (by kernel_rfl) ?_;repeat (go_big_quiet_step (first
      |(go_at_call 75;exact Calls.grown (q2j k E D F _))
      |(go_at_call 62;exact Calls.grown (q20 k false hm _))
      |fail))
     refine wpQuiet_nil ?_;rintro _ ⟨u,rfl⟩;have d:=m.trans (u.ok.mono m.size);go_wp2;go_ret;exact⟨by rw[R.out _ I.out (by rw[Hk.out,hm];rfl)];rfl,d⟩
    ·cases f
     ·refine Yc (by kernel_rfl) (by kernel_rfl) ?_;repeat (go_big_quiet_step (first
       |(go_at_call 75;exact Calls.grown (q2j k E D F _))
       |(go_at_call 152;exact Calls.grown (qb0 k E D F _ B _))
       |(go_at_call 62;exact Calls.grown (q20 k true hm _))
       |fail))
      refine wpQuiet_nil ?_;rintro _ ⟨u,rfl⟩;have d:=m.trans (u.ok.mono m.size);go_wp2;go_ret;exact⟨by rw[R.out _ I.out (by rw[G.out,Bool.and_false])];rfl,d⟩
     ·rcases j with _|q
      ·refine Yc (by kernel_rfl) (by kernel_rfl) ?_;repeat (go_big_quiet_step (first
        |(go_at_call 75;exact Calls.grown (q2j k E D F _))
        |(go_at_call 152;exact Calls.grown (qb0 k E D F _ B _))
        |(go_at_call 62;exact Calls.grown (q20 k true hm _))
        |fail))
       refine wpQuiet_nil ?_;rintro _ ⟨u,rfl⟩;have d:=m.trans (u.ok.mono m.size);go_wp2;refine⟨⟨1,by omega,rfl,λq hq=>?_,d⟩,by simp[intOf];omega⟩;obtain rfl:q=0:=by omega
       rw[I.out,Hk.out,hm,G.out];rfl
      ·obtain⟨g',o',B2,m2,d2,U,_,a0,a1,a2,a3,_⟩:=Z.cell (show q<n by omega);injection U with U;injection U with e1 e2;subst e1 e2;obtain⟨y,hy⟩:∃y,Qj xs q=y:=⟨_,rfl⟩;rw[hy] at a0 a1 a2;obtain⟨l,X⟩:∃l,y.k=l:=⟨_,rfl⟩;rw[X] at a0 a1 a2;obtain⟨s,hl⟩:∃s,l.less k=s:=⟨_,rfl⟩;have P:=Lib.hid (show okI xs (q+1)=s by rw[I.out,Hk.out,hm,G.out,show q+1-1=q by omega,hy,X,hl];simp);clear hy X;have H:g<J.1.size:=by have:=T.size;omega
       have p0:∀u:Grown J,u.to.cell? ⟨g,o+q*4,none⟩=some (.int .i64 l.obj):=Grown.cell ((T.cell (p:=⟨g,_,none⟩) hg).trans a0) H;have p1:∀u:Grown J,u.to.cell? ⟨g,o+q*4+1,none⟩=some (.int .i64 l.kind):=Grown.cell ((T.cell (p:=⟨g,_,none⟩) hg).trans a1) H;have p2:∀u:Grown J,u.to.cell? ⟨g,o+q*4+2,none⟩=some (.int .i64 l.off):=Grown.cell ((T.cell (p:=⟨g,_,none⟩) hg).trans a2) H;have p3:∀u:Grown J,u.to.cell? ⟨g,o+q*4+3,none⟩=some (.slice B2 m2 d2):=Grown.cell ((T.cell (p:=⟨g,_,none⟩) hg).trans a3) H;clear a0 a1 a2 a3;have b5:(0:Int)<=(q:Int):=by omega
       have b6:(q:Int)<(n:Int):=by omega
       have b3:(0:Int)<(q:Int)+1:=by omega
       have b0:IntKind.i64.wrap (q:Int)=(q:Int):=IntWalk.i64_in _ (by omega);have b8:IntKind.i64.wrap ((q:Int)+1-1)=(q:Int):=by rw[Int.add_sub_cancel];exact b0
       have b7:IntKind.i64.wrap (((q+1:Nat):Int)-1)=(q:Int):=by rw[show ((q+1:Nat):Int)-1=(q:Int) by omega];exact b0
       refine Yc (by kernel_rfl) (by kernel_rfl) ?_;repeat (go_big_quiet_step (first
        |(go_at_call 75;exact Calls.grown (q2j k E D F _))
        |(go_at_call 75;exact Calls.grown (q2j l B2 m2 d2 _))
        |(go_at_call 152;exact Calls.grown (qb0 k E D F _ B _))
        |(go_at_call 62;exact Calls.grown (q20 k true hm _))
        |(go_at_call 44;exact Calls.grown (q74 l k s hl _))
        |fail))
       refine wpQuiet_nil ?_;rintro _ ⟨u,rfl⟩;have d:=m.trans (u.ok.mono m.size)
       cases s
       ·go_wp2;go_ret;exact⟨by rw[R.out _ P.out rfl];rfl,d⟩
       ·go_wp2;refine⟨⟨q+2,by omega,by go_num,λp hp=>?_,d⟩,by simp[intOf];omega⟩;rcases (by omega:p<q+1\/p=q+1) with h1|rfl
        ·exact O p h1
        ·exact P.out
   ·obtain rfl:j=n:=by omega
    have b1:=Lib.hid (show Dp xs lo W=true by rw[M.out];exact qrj O);go_wp2;go_ret;exact⟨by rw[b1.out];rfl,hB⟩
theorem qrl (xs:List Ql)(A:Option Addr)(n c:Nat)(lo R:Int)(w:World)(hI:Zm w A n c xs)(hn:n<=100000) :
  Calls Tryz.prog 154 #[.slice A n c,.int .i64 lo,.int .i64 R,.func (.func 78) #[] #[],.func (.func 155) #[] #[]] w λe w'=>e=.returned (.bool (Du xs lo R))/\Below w.1.size w w':=by
 have H:=Lib.hid hI.len;obtain⟨b0,a7⟩:=hI.bounds;unfold maxLen at a7;go_enter Tryz.func154,Tryz.ntmps154
 go_wp2_with fail
 refine (q35 (n:Int) lo R _ rfl _).mono ?_
 cases hr:decide (lo<=(n:Int)/\(n:Int)<=R)
 ·rintro e w1 ⟨rfl,rfl⟩;go_wp2;go_ret;exact⟨by unfold Du;rw[H.out,hr];rfl,Below.refl _ _⟩
 ·rintro e w1 ⟨rfl,rfl⟩;have I:=Lib.hid (show Du xs lo R=(List.range n).all (okK xs) by unfold Du;rw[H.out,hr];rfl);clear hr;go_wp2_with fail
  go_loopw [21] (λi wr=>∃j:Nat,j<=n/\i=.int .i64 (j:Int)/\(∀q,q<j->okK xs q=true)/\Below w.1.size w wr) (λi _=>n-(intOf i).toNat)
  case atStart=>exact⟨0,Nat.zero_le _,rfl,λq hq=>by omega,Below.refl _ _⟩
  case round=>
   obtain⟨j,hj,rfl,J,hB⟩:=hrel;by_cases X:j<n
   ·have W:=hI.below hB;obtain⟨g,o,hA,hg,c0,c1,c2,c3⟩:=W.cell X;subst hA;obtain⟨x,hx⟩:∃x,Qg xs j=x:=⟨_,rfl⟩;have F:=Lib.hid (show okK xs j=((x.k.may&&(decide (j=0)||(Qg xs (j-1)).k.less x.k))&&Ou x) by unfold okK Wx;rw[qbc,qbc,hx]);rw[hx] at c0 c1 c2 c3;obtain⟨v,hv⟩:∃v,x.a=v:=⟨_,rfl⟩;rw[hv] at c3;obtain⟨f,B⟩:∃f,decide (1<=v/\v<=2047)=f:=⟨_,rfl⟩;have D:=Lib.hid (show Ou x=f by unfold Ou;rw[hv,B]);clear hv;obtain⟨k,hk⟩:∃k,x.k=k:=⟨_,rfl⟩;rw[hk] at c0 c1 c2;obtain⟨r,hm⟩:∃r,k.may=r:=⟨_,rfl⟩;have Hk:=Lib.hid hk;clear hk hx;go_wp2_with fail
    have O:Below wr.1.size wr (wr.alloc (.cells #[.int .i64 k.obj,.int .i64 k.kind,.int .i64 k.off,.int .i64 v] 81)):=Qm;have U:(wr.alloc (.cells #[.int .i64 k.obj,.int .i64 k.kind,.int .i64 k.off,.int .i64 v] 81)).1[wr.1.size]?=some (.cells #[.int .i64 k.obj,.int .i64 k.kind,.int .i64 k.off,.int .i64 v] 81 (0,0)):=heap_alloc_new wr _;have zx:wr.1.size<(wr.alloc (.cells #[.int .i64 k.obj,.int .i64 k.kind,.int .i64 k.off,.int .i64 v] 81)).1.size:=by simp
    generalize wr.alloc (.cells #[.int .i64 k.obj,.int .i64 k.kind,.int .i64 k.off,.int .i64 v] 81)=G at O U zx ⊢;have q0:∀u:Grown G,u.to.cell? ⟨wr.1.size,0,none⟩=some (.int .i64 k.obj):=Grown.cell (by rw[cell_of_row _ _ _ _ _ _ U];rfl) zx;have q1:∀u:Grown G,u.to.cell? ⟨wr.1.size,1,none⟩=some (.int .i64 k.kind):=Grown.cell (by rw[cell_of_row _ _ _ _ _ _ U];rfl) zx;have q2:∀u:Grown G,u.to.cell? ⟨wr.1.size,2,none⟩=some (.int .i64 k.off):=Grown.cell (by rw[cell_of_row _ _ _ _ _ _ U];rfl) zx;have q3:∀u:Grown G,u.to.cell? ⟨wr.1.size,3,none⟩=some (.int .i64 v):=Grown.cell (by rw[cell_of_row _ _ _ _ _ _ U];rfl) zx;have m:=hB.trans (O.mono hB.size);clear c0 c1 c2 c3 U;have fin:∀b,okK xs j=b->b=false->Du xs lo R=false:=λb h1 h2=>by rw[I.out];exact qvi X (h1.trans h2)
    have M:=Lib.hid fin;clear fin
    cases r
    ·refine Yc (by kernel_rfl) (by kernel_rfl) ?_;repeat (go_big_quiet_step (first
      |(go_at_call 78;exact Calls.grown (q2k k v _))
      |(go_at_call 62;exact Calls.grown (q20 k false hm _))
      |fail))
     refine wpQuiet_nil ?_;rintro _ ⟨u,rfl⟩;have d:=m.trans (u.ok.mono m.size);go_wp2;go_ret;exact⟨by rw[M.out _ F.out (by rw[Hk.out,hm];rfl)];rfl,d⟩
    ·cases f
     ·refine Yc (by kernel_rfl) (by kernel_rfl) ?_;repeat (go_big_quiet_step (first
       |(go_at_call 78;exact Calls.grown (q2k k v _))
       |(go_at_call 155;exact Calls.grown (qb1 k v _ B _))
       |(go_at_call 62;exact Calls.grown (q20 k true hm _))
       |fail))
      refine wpQuiet_nil ?_;rintro _ ⟨u,rfl⟩;have d:=m.trans (u.ok.mono m.size);go_wp2;go_ret;exact⟨by rw[M.out _ F.out (by rw[D.out,Bool.and_false])];rfl,d⟩
     ·rcases j with _|q
      ·refine Yc (by kernel_rfl) (by kernel_rfl) ?_;repeat (go_big_quiet_step (first
        |(go_at_call 78;exact Calls.grown (q2k k v _))
        |(go_at_call 155;exact Calls.grown (qb1 k v _ B _))
        |(go_at_call 62;exact Calls.grown (q20 k true hm _))
        |fail))
       refine wpQuiet_nil ?_;rintro _ ⟨u,rfl⟩;have d:=m.trans (u.ok.mono m.size);go_wp2;refine⟨⟨1,by omega,rfl,λq hq=>?_,d⟩,by simp[intOf];omega⟩;obtain rfl:q=0:=by omega
       rw[F.out,Hk.out,hm,D.out];rfl
      ·obtain⟨g',o',P,_,a0,a1,a2,a3⟩:=W.cell (show q<n by omega);injection P with P;injection P with e1 e2;subst e1 e2;obtain⟨y,hy⟩:∃y,Qg xs q=y:=⟨_,rfl⟩;rw[hy] at a0 a1 a2 a3;obtain⟨v2,Y⟩:∃v2,y.a=v2:=⟨_,rfl⟩;rw[Y] at a3;clear Y;obtain⟨l,T⟩:∃l,y.k=l:=⟨_,rfl⟩;rw[T] at a0 a1 a2;obtain⟨s,hl⟩:∃s,l.less k=s:=⟨_,rfl⟩;have K:=Lib.hid (show okK xs (q+1)=s by rw[F.out,Hk.out,hm,D.out,show q+1-1=q by omega,hy,T,hl];simp);clear hy T;have E:g<G.1.size:=by have:=O.size;omega
       have p0:∀u:Grown G,u.to.cell? ⟨g,o+q*4,none⟩=some (.int .i64 l.obj):=Grown.cell ((O.cell (p:=⟨g,_,none⟩) hg).trans a0) E;have p1:∀u:Grown G,u.to.cell? ⟨g,o+q*4+1,none⟩=some (.int .i64 l.kind):=Grown.cell ((O.cell (p:=⟨g,_,none⟩) hg).trans a1) E;have p2:∀u:Grown G,u.to.cell? ⟨g,o+q*4+2,none⟩=some (.int .i64 l.off):=Grown.cell ((O.cell (p:=⟨g,_,none⟩) hg).trans a2) E;have p3:∀u:Grown G,u.to.cell? ⟨g,o+q*4+3,none⟩=some (.int .i64 v2):=Grown.cell ((O.cell (p:=⟨g,_,none⟩) hg).trans a3) E;clear a0 a1 a2 a3;have b1:(0:Int)<=(q:Int):=by omega
       have b2:(q:Int)<(n:Int):=by omega
       have a8:(0:Int)<(q:Int)+1:=by omega
       have Z:IntKind.i64.wrap (q:Int)=(q:Int):=IntWalk.i64_in _ (by omega);have b4:IntKind.i64.wrap ((q:Int)+1-1)=(q:Int):=by rw[Int.add_sub_cancel];exact Z
       have b3:IntKind.i64.wrap (((q+1:Nat):Int)-1)=(q:Int):=by rw[show ((q+1:Nat):Int)-1=(q:Int) by omega];exact Z
       refine Yc (by kernel_rfl) (by kernel_rfl) ?_;repeat (go_big_quiet_step (first
        |(go_at_call 78;exact Calls.grown (q2k k v _))
        |(go_at_call 78;exact Calls.grown (q2k l v2 _))
        |(go_at_call 155;exact Calls.grown (qb1 k v _ B _))
        |(go_at_call 62;exact Calls.grown (q20 k true hm _))
        |(go_at_call 44;exact Calls.grown (q74 l k s hl _))
        |fail))
       refine wpQuiet_nil ?_;rintro _ ⟨u,rfl⟩;have d:=m.trans (u.ok.mono m.size)
       cases s
       ·go_wp2;go_ret;exact⟨by rw[M.out _ K.out rfl];rfl,d⟩
       ·go_wp2;refine⟨⟨q+2,by omega,by go_num,λp hp=>?_,d⟩,by simp[intOf];omega⟩;rcases (by omega:p<q+1\/p=q+1) with h1|rfl
        ·exact J p h1
        ·exact K.out
   ·obtain rfl:j=n:=by omega
    have a6:=Lib.hid (show Du xs lo R=true by rw[I.out];exact qrj J);go_wp2;go_ret;exact⟨by rw[a6.out];rfl,hB⟩
section
variable {w w':World}{s n c:Nat}{A:Option Addr}
theorem Jf.drop {xs:List (List Value)}(h:Jf w s A n c xs){k:Nat}(hk:k<=n):Jf w s (if c=k then A else A.map (·.add (k*s))) (n-k) (c-k) (xs.drop k):=by
 have y:=h.len;have p:=h.cap;have hm:=h.max;refine⟨by rw[List.length_drop];omega,by omega,by omega,λj x b=>?_⟩;rw[List.getElem?_drop] at b;have u:=(List.getElem?_eq_some_iff.1 b).1;obtain⟨g,o,rfl,f,d,m⟩:=h.2.2.2 _ x b;rw[if_neg (by omega)];refine⟨g,o+k*s,by rw[Option.map_some,Addr.add_mid],f,d,?_⟩;have e:o+k*s+j*s=o+(k+j)*s:=by rw[Nat.add_mul];omega
 rw[e];exact m
theorem Zl.drop {xs:List Qc}(h:Zl w A n c xs){k:Nat}(hk:k<=n):Zl w (if c=k then A else A.map (·.add (k*4))) (n-k) (c-k) (xs.drop k):=by
 obtain⟨b,h1,h2,f⟩:=h;refine⟨b.drop k,h1.drop hk,by rw[List.length_drop,List.length_drop,h2],λj r x d e=>?_⟩;rw[List.getElem?_drop] at d e;exact f _ r x d e
theorem Zl.sub {xs:List Qc}(h:Zl w A n c xs){i j:Nat}(hi:i<=j)(hj:j<=n):Zl w (if c=i then A else A.map (·.add (i*4))) (j-i) (c-i) ((xs.drop i).take (j-i)):=(h.drop (by omega)).take (by omega)
theorem Zm.drop {xs:List Ql}(h:Zm w A n c xs){k:Nat}(hk:k<=n):Zm w (if c=k then A else A.map (·.add (k*4))) (n-k) (c-k) (xs.drop k):=by
 have:=Jf.drop h hk;rw[<-List.map_drop] at this;exact this
theorem Zm.sub {xs:List Ql}(h:Zm w A n c xs){i j:Nat}(hi:i<=j)(hj:j<=n):Zm w (if c=i then A else A.map (·.add (i*4))) (j-i) (c-i) ((xs.drop i).take (j-i)):=(h.drop (by omega)).take (by omega)
end
def Vg (l:Int)(A:Option Addr)(n c:Nat)(B:Option Addr)(m d:Nat):List Value:=[.int .i64 l,.slice A n c,.slice B m d]
theorem qsm (l:Int)(A:Option Addr)(n c:Nat)(B:Option Addr)(m d:Nat):∀y∈[Vg l A n c B m d],∀u∈y,u.oneCell'=true:=by
 intro y e u b;obtain rfl:y=Vg l A n c B m d:=by simpa using e
 simp[Vg] at b;rcases b with rfl|rfl|rfl<;>rfl
def Qbs (Q:World->Prop)(r:List Value)(N:Nd):Prop:=∃A n c B m d,r=Vg N.lvl A n c B m d/\n<=1000/\m<=1000/\∀w,Q w->Zl w A n c N.items/\Zm w B m d N.kids
def Bg (Q:World->Prop)(w:World)(base:Nat)(A:Option Addr)(n c:Nat)(Ns:List Nd):Prop:=
 ∃b,Qs w base 75 3 A n c b/\b.length=Ns.length/\∀(j:Nat) r N,b[j]?=some r->Ns[j]?=some N->Qbs Q r N
def Ndl (Q:World->Prop)(w:World)(A:Option Addr)(n c:Nat)(Ns:List Nd):Prop:=
 ∃b,Jf w 3 A n c b/\b.length=Ns.length/\∀(j:Nat) r N,b[j]?=some r->Ns[j]?=some N->Qbs Q r N
section
variable {Q:World->Prop}{w w':World}{base n c:Nat}{A:Option Addr}{Ns:List Nd}
theorem Ndl.len (h:Ndl Q w A n c Ns):Ns.length=n:=by
 obtain⟨b,h1,h2,_⟩:=h;rw[<-h2];exact h1.len
def U4 (Ns:List Nd)(j:Nat):Nd:=Ns.getD j ⟨0,[],[]⟩
theorem q5e {j:Nat}(h:j<Ns.length):Ns[j]?=some (U4 Ns j):=by simp[U4,List.getD,h]
end
theorem TAn:Em Tryz.prog 34 79 4 64 (.agg #[.int .i64 0,.int .i64 0,.slice none 0 0,.slice none 0 0]):=⟨Tryz.underlying34,by kernel_rfl,rfl,by omega⟩
def Qby (a l:Int)(A:Option Addr)(n c:Nat)(B:Option Addr)(m d:Nat):List Value:=[.int .i64 a,.int .i64 l,.slice A n c,.slice B m d]
theorem Qfu (a l:Int)(A:Option Addr)(n c:Nat)(B:Option Addr)(m d:Nat):∀y∈[Qby a l A n c B m d],∀u∈y,u.oneCell'=true:=by
 intro y e u b;obtain rfl:y=Qby a l A n c B m d:=by simpa using e
 simp[Qby] at b;rcases b with rfl|rfl|rfl|rfl<;>rfl
theorem Qf5 (w:World)(a l:Int)(A:Option Addr)(n c:Nat)(B:Option Addr)(m d:Nat):Jf (w.alloc (.cells #[.int .i64 a,.int .i64 l,.slice A n c,.slice B m d] 79)) 4 (some ⟨w.1.size,0,none⟩) 1 1 [Qby a l A n c B m d]:=(q1q w 79 4 (Qby a l A n c B m d) _ rfl rfl).Vs (by omega)
def Rl (Q:World->Prop)(r:List Value)(x:Int × Nd):Prop:=∃A n c B m d,r=Qby x.1 x.2.lvl A n c B m d/\n<=1000/\m<=1000/\∀w,Q w->Zl w A n c x.2.items/\Zm w B m d x.2.kids
def Dy (Q:World->Prop)(w:World)(base:Nat)(A:Option Addr)(n c:Nat)(Ns:List (Int × Nd)):Prop:=
 ∃b,Qs w base 79 4 A n c b/\b.length=Ns.length/\∀(j:Nat) r x,b[j]?=some r->Ns[j]?=some x->Rl Q r x
def Anl (Q:World->Prop)(w:World)(A:Option Addr)(n c:Nat)(Ns:List (Int × Nd)):Prop:=
 ∃b,Jf w 4 A n c b/\b.length=Ns.length/\∀(j:Nat) r x,b[j]?=some r->Ns[j]?=some x->Rl Q r x
section
variable {Q Q':World->Prop}{w w':World}{base n c:Nat}{A:Option Addr}{Ns:List (Int × Nd)}
theorem Rl.mono {r:List Value}{x:Int × Nd}(h:Rl Q r x)(hq:∀w,Q' w->Q w):Rl Q' r x:=by
 obtain⟨b,D,c1,d,B,f,e,p,u,y⟩:=h;exact⟨b,D,c1,d,B,f,e,p,u,λw m=>y w (hq w m)⟩
theorem Qe9 (Q:World->Prop)(w:World):Dy Q (w.alloc (.cells #[] 79)) w.1.size (some ⟨w.1.size,0,none⟩) 0 0 []:=⟨[],qor w _ 4,rfl,λj r x b=>by simp at b⟩
theorem Dy.mono (h:Dy Q w base A n c Ns)(hq:∀w,Q' w->Q w):Dy Q' w base A n c Ns:=by
 obtain⟨b,h1,h2,d⟩:=h;exact⟨b,h1,h2,λj r x e f=>(d j r x e f).mono hq⟩
theorem Anl.mono (h:Anl Q w A n c Ns)(hq:∀w,Q' w->Q w):Anl Q' w A n c Ns:=by
 obtain⟨b,h1,h2,d⟩:=h;exact⟨b,h1,h2,λj r x e f=>(d j r x e f).mono hq⟩
theorem Dy.below (h:Dy Q w base A n c Ns)(hb:Below w.1.size w w'):Dy Q w' base A n c Ns:=by
 obtain⟨b,h1,h2,d⟩:=h;exact⟨b,h1.below hb,h2,d⟩
theorem Dy.anl (h:Dy Q w base A n c Ns):Anl Q w A n c Ns:=by
 obtain⟨b,h1,h2,d⟩:=h;exact⟨b,h1.Vs (by omega),h2,d⟩
theorem Anl.below (h:Anl Q w A n c Ns)(hb:Below w.1.size w w'):Anl Q w' A n c Ns:=by
 obtain⟨b,h1,h2,d⟩:=h;exact⟨b,h1.below hb,h2,d⟩
theorem Anl.len (h:Anl Q w A n c Ns):Ns.length=n:=by
 obtain⟨b,h1,h2,_⟩:=h;rw[<-h2];exact h1.len
def Om (Ns:List (Int × Nd))(j:Nat):Int × Nd:=Ns.getD j (0,⟨0,[],[]⟩)
theorem qso {j:Nat}(h:j<Ns.length):Ns[j]?=some (Om Ns j):=by simp[Om,List.getD,h]
theorem Anl.get (h:Anl Q w A n c Ns){j:Nat}(hj:j<n):∃g o m d c1 p b u,A=some ⟨g,o,none⟩/\g<w.1.size/\w.rangeAt g (o+j*4) (Qby (Om Ns j).1 (Om Ns j).2.lvl m d c1 p b u)/\d<=1000/\b<=1000/\∀w',Q w'->Zl w' m d c1 (Om Ns j).2.items/\Zm w' p b u (Om Ns j).2.kids:=by
 have I:=h.len;obtain⟨f,h1,h2,D⟩:=h;have B:f[j]?=some (f[j]'(by omega)):=List.getElem?_eq_getElem (by omega);obtain⟨m,d,c1,p,b,u,e,F,G,H⟩:=D j _ _ B (qso (by omega));obtain⟨g,o,rfl,E,_,y⟩:=h1.2.2.2 j _ B;rw[e] at y;exact⟨g,o,m,d,c1,p,b,u,rfl,E,y,F,G,H⟩
end
