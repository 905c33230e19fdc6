/- The code's node: may, for items and for kids. -/
import Derived.Test.YtloolbmdiimanaaGreatDoorGv8
import Derived.Test.YtloolbmdiimanaaGreatDoorGv9
namespace Go.Proofs.YtloolbmdiimanaaGreatDoor
open Go Go.RowKit Go.Proofs Tryz
set_option maxHeartbeats 8000000
set_option maxRecDepth 100000
def Ot (x:Qb):Bool:=decide (x.v.length<=28)
def Ou (x:Qk):Bool:=decide (1<=x.a/\x.a<=2047)
def okI (xs:List Qb)(j:Nat):Bool:=Ws (xs.map (·.k)) j&&Ot (Qu xs j)
def okK (xs:List Qk)(j:Nat):Bool:=Ws (xs.map (·.k)) j&&Ou (Qi xs j)
def Dj (xs:List Qb)(lo hi:Int):Bool:=decide (lo<=(xs.length:Int)/\(xs.length:Int)<=hi)&&(List.range xs.length).all (okI xs)
def Dk (xs:List Qk)(lo hi:Int):Bool:=decide (lo<=(xs.length:Int)/\(xs.length:Int)<=hi)&&(List.range xs.length).all (okK xs)
theorem qw3 {n:Nat}{f:Nat->Bool}{j:Nat}(d:j<n)(h:f j=false):(List.range n).all f=false:=by
 rw[List.all_eq_false];exact⟨j,List.mem_range.2 d,by rw[h];simp⟩
theorem qs5 {n:Nat}{f:Nat->Bool}(h:∀j,j<n->f j=true):(List.range n).all f=true:=by
 rw[List.all_eq_true];exact λj d=>h j (List.mem_range.1 d)
theorem qf5 (xs:List Qb)(j:Nat):keyAt (xs.map (·.k)) j=(Qu xs j).k:=by
 unfold keyAt Qu;rw[AG,AG,BA]
 cases xs[j]?<;>rfl
theorem qbt (xs:List Qk)(j:Nat):keyAt (xs.map (·.k)) j=(Qi xs j).k:=by
 unfold keyAt Qi;rw[AG,AG,BA]
 cases xs[j]?<;>rfl
theorem qs6 (xs:List Qb)(A:OA)(n c:Nat)(lo hi:Int)(w:WD)(hI:Ji w A n c xs)(hn:n<=100000) :
  Calls prog 150 #[.slice A n c,.int .i64 lo,.int .i64 hi,.func (.func 124) #[] #[],.func (.func 151) #[] #[]] w λe w'=>e=.returned (.bool (Dj xs lo hi))/\Below w.1.size w w':=by
 have K:=HI hI.len;obtain⟨a9,a7⟩:=hI.bounds;unfold maxLen at a7;go_enter func150,ntmps150
 go_wp2_with fail
 refine (q2y (n:Int) lo hi _ rfl _).mono ?_
 cases hr:decide (lo<=(n:Int)/\(n:Int)<=hi)
 ·rintro e w1 ⟨rfl,rfl⟩;go_wp2;go_ret;exact⟨by unfold Dj;rw[K.out,hr];rfl,AI _ _⟩
 ·rintro e w1 ⟨rfl,rfl⟩;have M:=HI (show Dj xs lo hi=(List.range n).all (okI xs) by unfold Dj;rw[K.out,hr];rfl);clear hr;go_wp2_with fail
  go_loopw [21] (λi wr=>∃j:Nat,j<=n/\i=.int .i64 (j:Int)/\(∀q,q<j->okI xs q=true)/\Below w.1.size w wr) (λi _=>n-(intOf i).toNat)
  case atStart=>exact⟨0,AW _,rfl,λq hq=>by omega,AI _ _⟩
  case round=>
   obtain⟨j,hj,rfl,O,hB⟩:=hrel;by_cases Y:j<n
   ·have X:=hI.below hB;obtain⟨g,o,E,D,F,hA,hg,c0,c1,c2,c3,Z⟩:=X.cell Y;subst hA;obtain⟨x,hx⟩:∃x,Qu xs j=x:=⟨_,rfl⟩;have I:=HI (show okI xs j=((x.k.may&&(decide (j=0)||(Qu xs (j-1)).k.less x.k))&&Ot x) by unfold okI Ws;rw[qf5,qf5,hx]);rw[hx] at c0 c1 c2 Z;have a4:=Z.len;obtain⟨f,B⟩:∃f,decide (D<=28)=f:=⟨_,rfl⟩;have G:=HI (show Ot x=f by unfold Ot;rw[a4,B]);clear a4;obtain⟨k,hk⟩:∃k,x.k=k:=⟨_,rfl⟩;rw[hk] at c0 c1 c2;obtain⟨r,hm⟩:∃r,k.may=r:=⟨_,rfl⟩;have Hk:=HI hk;clear hk hx;go_wp2_with fail
    have R:Below wr.1.size wr (wr.alloc (.cells #[.int .i64 k.obj,.int .i64 k.kind,.int .i64 k.off,.slice E D F] 84)):=Ql;have W:(wr.alloc (.cells #[.int .i64 k.obj,.int .i64 k.kind,.int .i64 k.off,.slice E D F] 84)).1[wr.1.size]?=some (.cells #[.int .i64 k.obj,.int .i64 k.kind,.int .i64 k.off,.slice E D F] 84 (0,0)):=BE wr _;have zx:wr.1.size<(wr.alloc (.cells #[.int .i64 k.obj,.int .i64 k.kind,.int .i64 k.off,.slice E D F] 84)).1.size:=by simp
    generalize wr.alloc (.cells #[.int .i64 k.obj,.int .i64 k.kind,.int .i64 k.off,.slice E D F] 84)=J at R W zx ⊢;have q0:∀u:Grown J,u.to.cell? ⟨wr.1.size,0,none⟩=some (.int .i64 k.obj):=Grown.cell (by rw[cell_of_row _ _ _ _ _ _ W];rfl) zx;have q1:∀u:Grown J,u.to.cell? ⟨wr.1.size,1,none⟩=some (.int .i64 k.kind):=Grown.cell (by rw[cell_of_row _ _ _ _ _ _ W];rfl) zx;have q2:∀u:Grown J,u.to.cell? ⟨wr.1.size,2,none⟩=some (.int .i64 k.off):=Grown.cell (by rw[cell_of_row _ _ _ _ _ _ W];rfl) zx;have q3:∀u:Grown J,u.to.cell? ⟨wr.1.size,3,none⟩=some (.slice E D F):=Grown.cell (by rw[cell_of_row _ _ _ _ _ _ W];rfl) zx;have m:=hB.trans (R.mono hB.size);clear c0 c1 c2 c3 W;have fin:∀b,okI xs j=b->b=false->Dj xs lo hi=false:=λb h1 h2=>by rw[M.out];exact qw3 Y (h1.trans h2)
    have Q:=HI fin;clear fin
    cases r
    ·refine Ug (by kernel_rfl) (by kernel_rfl) ?_;repeat (go_big_quiet_step (first
      |(go_at_call 124;exact Calls.grown (q2f k E D F _))
      |(go_at_call 111;exact Calls.grown (q2m k false hm _))
      |fail))
     refine wpQuiet_nil ?_;rintro _ ⟨u,rfl⟩;have d:=m.trans (u.ok.mono m.size);go_wp2;go_ret;exact⟨by rw[Q.out _ I.out (by rw[Hk.out,hm];rfl)];rfl,d⟩
    ·cases f
     ·refine Ug (by kernel_rfl) (by kernel_rfl) ?_;repeat (go_big_quiet_step (first
       |(go_at_call 124;exact Calls.grown (q2f k E D F _))
       |(go_at_call 151;exact Calls.grown (qbj k E D F _ B _))
       |(go_at_call 111;exact Calls.grown (q2m k true hm _))
       |fail))
      refine wpQuiet_nil ?_;rintro _ ⟨u,rfl⟩;have d:=m.trans (u.ok.mono m.size);go_wp2;go_ret;exact⟨by rw[Q.out _ I.out (by rw[G.out,Bool.and_false])];rfl,d⟩
     ·rcases j with _|q
      ·refine Ug (by kernel_rfl) (by kernel_rfl) ?_;repeat (go_big_quiet_step (first
        |(go_at_call 124;exact Calls.grown (q2f k E D F _))
        |(go_at_call 151;exact Calls.grown (qbj k E D F _ B _))
        |(go_at_call 111;exact Calls.grown (q2m k true hm _))
        |fail))
       refine wpQuiet_nil ?_;rintro _ ⟨u,rfl⟩;have d:=m.trans (u.ok.mono m.size);go_wp2;refine⟨⟨1,by omega,rfl,λq hq=>?_,d⟩,by simp[intOf];omega⟩;obtain rfl:q=0:=by omega
       rw[I.out,Hk.out,hm,G.out];rfl
      ·obtain⟨g',o',B2,m2,d2,T,_,a0,a1,a2,a3,_⟩:=X.cell (show q<n by omega);injection T with T;injection T with e1 e2;subst e1 e2;obtain⟨y,hy⟩:∃y,Qu xs q=y:=⟨_,rfl⟩;rw[hy] at a0 a1 a2;obtain⟨l,U⟩:∃l,y.k=l:=⟨_,rfl⟩;rw[U] at a0 a1 a2;obtain⟨s,hl⟩:∃s,l.less k=s:=⟨_,rfl⟩;have P:=HI (show okI xs (q+1)=s by rw[I.out,Hk.out,hm,G.out,show q+1-1=q by omega,hy,U,hl];simp);clear hy U;have H:g<J.1.size:=by have:=R.size;omega
       have p0:∀u:Grown J,u.to.cell? ⟨g,o+q*4,none⟩=some (.int .i64 l.obj):=Grown.cell ((R.cell (p:=⟨g,_,none⟩) hg).trans a0) H;have p1:∀u:Grown J,u.to.cell? ⟨g,o+q*4+1,none⟩=some (.int .i64 l.kind):=Grown.cell ((R.cell (p:=⟨g,_,none⟩) hg).trans a1) H;have p2:∀u:Grown J,u.to.cell? ⟨g,o+q*4+2,none⟩=some (.int .i64 l.off):=Grown.cell ((R.cell (p:=⟨g,_,none⟩) hg).trans a2) H;have p3:∀u:Grown J,u.to.cell? ⟨g,o+q*4+3,none⟩=some (.slice B2 m2 d2):=Grown.cell ((R.cell (p:=⟨g,_,none⟩) hg).trans a3) H;clear a0 a1 a2 a3;have b0:(0:Int)<=(q:Int):=by omega
       have b1:(q:Int)<(n:Int):=by omega
       have a8:(0:Int)<(q:Int)+1:=by omega
       have a5:IntKind.i64.wrap (q:Int)=(q:Int):=IntWalk.i64_in _ (by omega);have b3:IntKind.i64.wrap ((q:Int)+1-1)=(q:Int):=by rw[Int.add_sub_cancel];exact a5
       have b2:IntKind.i64.wrap (((q+1:Nat):Int)-1)=(q:Int):=by rw[show ((q+1:Nat):Int)-1=(q:Int) by omega];exact a5
       refine Ug (by kernel_rfl) (by kernel_rfl) ?_;repeat (go_big_quiet_step (first
        |(go_at_call 124;exact Calls.grown (q2f k E D F _))
        |(go_at_call 124;exact Calls.grown (q2f l B2 m2 d2 _))
        |(go_at_call 151;exact Calls.grown (qbj k E D F _ B _))
        |(go_at_call 111;exact Calls.grown (q2m k true hm _))
        |(go_at_call 51;exact Calls.grown (q79 l k s hl _))
        |fail))
       refine wpQuiet_nil ?_;rintro _ ⟨u,rfl⟩;have d:=m.trans (u.ok.mono m.size)
       cases s
       ·go_wp2;go_ret;exact⟨by rw[Q.out _ P.out rfl];rfl,d⟩
       ·go_wp2;refine⟨⟨q+2,by omega,by go_num,λp hp=>?_,d⟩,by simp[intOf];omega⟩;rcases (by omega:p<q+1\/p=q+1) with h1|rfl
        ·exact O p h1
        ·exact P.out
   ·obtain rfl:j=n:=by omega
    have a6:=HI (show Dj xs lo hi=true by rw[M.out];exact qs5 O);go_wp2;go_ret;exact⟨by rw[a6.out];rfl,hB⟩
theorem qs7 (xs:List Qk)(A:OA)(n c:Nat)(lo hi:Int)(w:WD)(hI:Zn w A n c xs)(hn:n<=100000) :
  Calls prog 153 #[.slice A n c,.int .i64 lo,.int .i64 hi,.func (.func 127) #[] #[],.func (.func 154) #[] #[]] w λe w'=>e=.returned (.bool (Dk xs lo hi))/\Below w.1.size w w':=by
 have H:=HI hI.len;obtain⟨a6,a4⟩:=hI.bounds;unfold maxLen at a4;go_enter func153,ntmps153
 go_wp2_with fail
 refine (q2y (n:Int) lo hi _ rfl _).mono ?_
 cases hr:decide (lo<=(n:Int)/\(n:Int)<=hi)
 ·rintro e w1 ⟨rfl,rfl⟩;go_wp2;go_ret;exact⟨by unfold Dk;rw[H.out,hr];rfl,AI _ _⟩
 ·rintro e w1 ⟨rfl,rfl⟩;have I:=HI (show Dk xs lo hi=(List.range n).all (okK xs) by unfold Dk;rw[H.out,hr];rfl);clear hr;go_wp2_with fail
  go_loopw [21] (λi wr=>∃j:Nat,j<=n/\i=.int .i64 (j:Int)/\(∀q,q<j->okK xs q=true)/\Below w.1.size w wr) (λi _=>n-(intOf i).toNat)
  case atStart=>exact⟨0,AW _,rfl,λq hq=>by omega,AI _ _⟩
  case round=>
   obtain⟨j,hj,rfl,J,hB⟩:=hrel;by_cases U:j<n
   ·have T:=hI.below hB;obtain⟨g,o,hA,hg,c0,c1,c2,c3⟩:=T.cell U;subst hA;obtain⟨x,hx⟩:∃x,Qi xs j=x:=⟨_,rfl⟩;have F:=HI (show okK xs j=((x.k.may&&(decide (j=0)||(Qi xs (j-1)).k.less x.k))&&Ou x) by unfold okK Ws;rw[qbt,qbt,hx]);rw[hx] at c0 c1 c2 c3;obtain⟨v,hv⟩:∃v,x.a=v:=⟨_,rfl⟩;rw[hv] at c3;obtain⟨f,B⟩:∃f,decide (1<=v/\v<=2047)=f:=⟨_,rfl⟩;have D:=HI (show Ou x=f by unfold Ou;rw[hv,B]);clear hv;obtain⟨k,hk⟩:∃k,x.k=k:=⟨_,rfl⟩;rw[hk] at c0 c1 c2;obtain⟨r,hm⟩:∃r,k.may=r:=⟨_,rfl⟩;have Hk:=HI hk;clear hk hx;go_wp2_with fail
    have O:Below wr.1.size wr (wr.alloc (.cells #[.int .i64 k.obj,.int .i64 k.kind,.int .i64 k.off,.int .i64 v] 159)):=Ql;have R:(wr.alloc (.cells #[.int .i64 k.obj,.int .i64 k.kind,.int .i64 k.off,.int .i64 v] 159)).1[wr.1.size]?=some (.cells #[.int .i64 k.obj,.int .i64 k.kind,.int .i64 k.off,.int .i64 v] 159 (0,0)):=BE wr _;have Z:wr.1.size<(wr.alloc (.cells #[.int .i64 k.obj,.int .i64 k.kind,.int .i64 k.off,.int .i64 v] 159)).1.size:=by simp
    generalize wr.alloc (.cells #[.int .i64 k.obj,.int .i64 k.kind,.int .i64 k.off,.int .i64 v] 159)=G at O R Z ⊢;have q0:∀u:Grown G,u.to.cell? ⟨wr.1.size,0,none⟩=some (.int .i64 k.obj):=Grown.cell (by rw[cell_of_row _ _ _ _ _ _ R];rfl) Z;have q1:∀u:Grown G,u.to.cell? ⟨wr.1.size,1,none⟩=some (.int .i64 k.kind):=Grown.cell (by rw[cell_of_row _ _ _ _ _ _ R];rfl) Z;have q2:∀u:Grown G,u.to.cell? ⟨wr.1.size,2,none⟩=some (.int .i64 k.off):=Grown.cell (by rw[cell_of_row _ _ _ _ _ _ R];rfl) Z;have q3:∀u:Grown G,u.to.cell? ⟨wr.1.size,3,none⟩=some (.int .i64 v):=Grown.cell (by rw[cell_of_row _ _ _ _ _ _ R];rfl) Z;have m:=hB.trans (O.mono hB.size);clear c0 c1 c2 c3 R;have fin:∀b,okK xs j=b->b=false->Dk xs lo hi=false:=λb h1 h2=>by rw[I.out];exact qw3 U (h1.trans h2)
    have M:=HI fin;clear fin
    cases r
    ·refine Ug (by kernel_rfl) (by kernel_rfl) ?_;repeat (go_big_quiet_step (first
      |(go_at_call 127;exact Calls.grown (q2g k v _))
      |(go_at_call 111;exact Calls.grown (q2m k false hm _))
      |fail))
     refine wpQuiet_nil ?_;rintro _ ⟨u,rfl⟩;have d:=m.trans (u.ok.mono m.size);go_wp2;go_ret;exact⟨by rw[M.out _ F.out (by rw[Hk.out,hm];rfl)];rfl,d⟩
    ·cases f
     ·refine Ug (by kernel_rfl) (by kernel_rfl) ?_;repeat (go_big_quiet_step (first
       |(go_at_call 127;exact Calls.grown (q2g k v _))
       |(go_at_call 154;exact Calls.grown (qbk k v _ B _))
       |(go_at_call 111;exact Calls.grown (q2m k true hm _))
       |fail))
      refine wpQuiet_nil ?_;rintro _ ⟨u,rfl⟩;have d:=m.trans (u.ok.mono m.size);go_wp2;go_ret;exact⟨by rw[M.out _ F.out (by rw[D.out,Bool.and_false])];rfl,d⟩
     ·rcases j with _|q
      ·refine Ug (by kernel_rfl) (by kernel_rfl) ?_;repeat (go_big_quiet_step (first
        |(go_at_call 127;exact Calls.grown (q2g k v _))
        |(go_at_call 154;exact Calls.grown (qbk k v _ B _))
        |(go_at_call 111;exact Calls.grown (q2m k true hm _))
        |fail))
       refine wpQuiet_nil ?_;rintro _ ⟨u,rfl⟩;have d:=m.trans (u.ok.mono m.size);go_wp2;refine⟨⟨1,by omega,rfl,λq hq=>?_,d⟩,by simp[intOf];omega⟩;obtain rfl:q=0:=by omega
       rw[F.out,Hk.out,hm,D.out];rfl
      ·obtain⟨g',o',P,_,a0,a1,a2,a3⟩:=T.cell (show q<n by omega);injection P with P;injection P with e1 e2;subst e1 e2;obtain⟨y,hy⟩:∃y,Qi xs q=y:=⟨_,rfl⟩;rw[hy] at a0 a1 a2 a3;obtain⟨v2,W⟩:∃v2,y.a=v2:=⟨_,rfl⟩;rw[W] at a3;clear W;obtain⟨l,Q⟩:∃l,y.k=l:=⟨_,rfl⟩;rw[Q] at a0 a1 a2;obtain⟨s,hl⟩:∃s,l.less k=s:=⟨_,rfl⟩;have K:=HI (show okK xs (q+1)=s by rw[F.out,Hk.out,hm,D.out,show q+1-1=q by omega,hy,Q,hl];simp);clear hy Q;have E:g<G.1.size:=by have:=O.size;omega
       have p0:∀u:Grown G,u.to.cell? ⟨g,o+q*4,none⟩=some (.int .i64 l.obj):=Grown.cell ((O.cell (p:=⟨g,_,none⟩) hg).trans a0) E;have p1:∀u:Grown G,u.to.cell? ⟨g,o+q*4+1,none⟩=some (.int .i64 l.kind):=Grown.cell ((O.cell (p:=⟨g,_,none⟩) hg).trans a1) E;have p2:∀u:Grown G,u.to.cell? ⟨g,o+q*4+2,none⟩=some (.int .i64 l.off):=Grown.cell ((O.cell (p:=⟨g,_,none⟩) hg).trans a2) E;have p3:∀u:Grown G,u.to.cell? ⟨g,o+q*4+3,none⟩=some (.int .i64 v2):=Grown.cell ((O.cell (p:=⟨g,_,none⟩) hg).trans a3) E;clear a0 a1 a2 a3;have a7:(0:Int)<=(q:Int):=by omega
       have a8:(q:Int)<(n:Int):=by omega
       have a5:(0:Int)<(q:Int)+1:=by omega
       have X:IntKind.i64.wrap (q:Int)=(q:Int):=IntWalk.i64_in _ (by omega);have b0:IntKind.i64.wrap ((q:Int)+1-1)=(q:Int):=by rw[Int.add_sub_cancel];exact X
       have a9:IntKind.i64.wrap (((q+1:Nat):Int)-1)=(q:Int):=by rw[show ((q+1:Nat):Int)-1=(q:Int) by omega];exact X
       refine Ug (by kernel_rfl) (by kernel_rfl) ?_;repeat (go_big_quiet_step (first
        |(go_at_call 127;exact Calls.grown (q2g k v _))
        |(go_at_call 127;exact Calls.grown (q2g l v2 _))
        |(go_at_call 154;exact Calls.grown (qbk k v _ B _))
        |(go_at_call 111;exact Calls.grown (q2m k true hm _))
        |(go_at_call 51;exact Calls.grown (q79 l k s hl _))
        |fail))
       refine wpQuiet_nil ?_;rintro _ ⟨u,rfl⟩;have d:=m.trans (u.ok.mono m.size)
       cases s
       ·go_wp2;go_ret;exact⟨by rw[M.out _ K.out rfl];rfl,d⟩
       ·go_wp2;refine⟨⟨q+2,by omega,by go_num,λp hp=>?_,d⟩,by simp[intOf];omega⟩;rcases (by omega:p<q+1\/p=q+1) with h1|rfl
        ·exact J p h1
        ·exact K.out
   ·obtain rfl:j=n:=by omega
    have Y:=HI (show Dk xs lo hi=true by rw[I.out];exact qs5 J);go_wp2;go_ret;exact⟨by rw[Y.out];rfl,hB⟩
