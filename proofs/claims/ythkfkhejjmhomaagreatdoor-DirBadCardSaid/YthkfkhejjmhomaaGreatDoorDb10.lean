/- The code's node: may, for items and for kids -/
import Derived.Test.YthkfkhejjmhomaaGreatDoorDb9
namespace Go.Proofs.YthkfkhejjmhomaaGreatDoor
open Go Go.RowKit Go.Proofs
set_option maxHeartbeats 8000000
set_option maxRecDepth 100000
def Ol (x:Qb):Bool:=decide (x.v.length<=28)
def Om (x:Qj):Bool:=decide (1<=x.a/\x.a<=2047)
def okI (xs:List Qb)(j:Nat):Bool:=Wq (xs.map (·.k)) j&&Ol (Zb xs j)
def okK (xs:List Qj)(j:Nat):Bool:=Wq (xs.map (·.k)) j&&Om (Qe xs j)
def Dv (xs:List Qb)(lo hi:Int):Bool:=decide (lo<=(xs.length:Int)/\(xs.length:Int)<=hi)&&(List.range xs.length).all (okI xs)
def Dw (xs:List Qj)(lo hi:Int):Bool:=decide (lo<=(xs.length:Int)/\(xs.length:Int)<=hi)&&(List.range xs.length).all (okK xs)
theorem qvn {n:Nat}{f:Nat->Bool}{j:Nat}(d:j<n)(h:f j=false):(List.range n).all f=false:=by
 rw[List.all_eq_false];exact⟨j,List.mem_range.2 d,by rw[h];simp⟩
theorem qng {n:Nat}{f:Nat->Bool}(h:∀j,j<n->f j=true):(List.range n).all f=true:=by
 rw[List.all_eq_true];exact λj d=>h j (List.mem_range.1 d)
theorem qd0 (xs:List Qb)(j:Nat):keyAt (xs.map (·.k)) j=(Zb xs j).k:=by
 unfold keyAt Zb;rw[List.getD_eq_getElem?_getD,List.getD_eq_getElem?_getD,List.getElem?_map]
 cases xs[j]?<;>rfl
theorem q9c (xs:List Qj)(j:Nat):keyAt (xs.map (·.k)) j=(Qe xs j).k:=by
 unfold keyAt Qe;rw[List.getD_eq_getElem?_getD,List.getD_eq_getElem?_getD,List.getElem?_map]
 cases xs[j]?<;>rfl
theorem qnh (xs:List Qb)(A:Option Addr)(n c:Nat)(lo hi:Int)(w:World)(hI:Jg w A n c xs)(hn:n<=100000) :
  Calls Tryz.prog 214 #[.slice A n c,.int .i64 lo,.int .i64 hi,.func (.func 170) #[] #[],.func (.func 215) #[] #[]] w λe w'=>e=.returned (.bool (Dv xs lo hi))/\Below w.1.size w w':=by
 have K:=Lib.hid hI.len;obtain⟨b2,b0⟩:=hI.bounds;unfold maxLen at b0;go_enter Tryz.func214,Tryz.ntmps214
 go_wp2_with fail
 refine (q2r (n:Int) lo hi _ rfl _).mono ?_
 cases hr:decide (lo<=(n:Int)/\(n:Int)<=hi)
 ·rintro e w1 ⟨rfl,rfl⟩;go_wp2;go_ret;exact⟨by unfold Dv;rw[K.out,hr];rfl,Below.refl _ _⟩
 ·rintro e w1 ⟨rfl,rfl⟩;have M:=Lib.hid (show Dv xs lo hi=(List.range n).all (okI xs) by unfold Dv;rw[K.out,hr];rfl);clear hr;go_wp2_with fail
  go_loopw [21] (λi wr=>∃j:Nat,j<=n/\i=.int .i64 (j:Int)/\(∀q,q<j->okI xs q=true)/\Below w.1.size w wr) (λi _=>n-(intOf i).toNat)
  case atStart=>exact⟨0,Nat.zero_le _,rfl,λq hq=>by omega,Below.refl _ _⟩
  case round=>
   obtain⟨j,hj,rfl,O,hB⟩:=hrel;by_cases Y:j<n
   ·have X:=hI.below hB;obtain⟨g,o,E,D,F,hA,hg,c0,c1,c2,c3,Z⟩:=X.cell Y;subst hA;obtain⟨x,hx⟩:∃x,Zb xs j=x:=⟨_,rfl⟩;have I:=Lib.hid (show okI xs j=((x.k.may&&(decide (j=0)||(Zb xs (j-1)).k.less x.k))&&Ol x) by unfold okI Wq;rw[qd0,qd0,hx]);rw[hx] at c0 c1 c2 Z;have a6:=Z.len;obtain⟨f,B⟩:∃f,decide (D<=28)=f:=⟨_,rfl⟩;have G:=Lib.hid (show Ol x=f by unfold Ol;rw[a6,B]);clear a6;obtain⟨k,hk⟩:∃k,x.k=k:=⟨_,rfl⟩;rw[hk] at c0 c1 c2;obtain⟨r,hm⟩:∃r,k.may=r:=⟨_,rfl⟩;have Hk:=Lib.hid hk;clear hk hx;go_wp2_with fail
    have R:Below wr.1.size wr (wr.alloc (.cells #[.int .i64 k.obj,.int .i64 k.kind,.int .i64 k.off,.slice E D F] 50)):=Qk;have W:(wr.alloc (.cells #[.int .i64 k.obj,.int .i64 k.kind,.int .i64 k.off,.slice E D F] 50)).1[wr.1.size]?=some (.cells #[.int .i64 k.obj,.int .i64 k.kind,.int .i64 k.off,.slice E D F] 50 (0,0)):=heap_alloc_new wr _;have zx:wr.1.size<(wr.alloc (.cells #[.int .i64 k.obj,.int .i64 k.kind,.int .i64 k.off,.slice E D F] 50)).1.size:=by simp
    generalize wr.alloc (.cells #[.int .i64 k.obj,.int .i64 k.kind,.int .i64 k.off,.slice E D F] 50)=J at R W zx ⊢;have q0:∀u:Grown J,u.to.cell? ⟨wr.1.size,0,none⟩=some (.int .i64 k.obj):=Grown.cell (by rw[cell_of_row _ _ _ _ _ _ W];rfl) zx;have q1:∀u:Grown J,u.to.cell? ⟨wr.1.size,1,none⟩=some (.int .i64 k.kind):=Grown.cell (by rw[cell_of_row _ _ _ _ _ _ W];rfl) zx;have q2:∀u:Grown J,u.to.cell? ⟨wr.1.size,2,none⟩=some (.int .i64 k.off):=Grown.cell (by rw[cell_of_row _ _ _ _ _ _ W];rfl) zx;have q3:∀u:Grown J,u.to.cell? ⟨wr.1.size,3,none⟩=some (.slice E D F):=Grown.cell (by rw[cell_of_row _ _ _ _ _ _ W];rfl) zx;have m:=hB.trans (R.mono hB.size);clear c0 c1 c2 c3 W;have fin:∀b,okI xs j=b->b=false->Dv xs lo hi=false:=λb h1 h2=>by rw[M.out];exact qvn Y (h1.trans h2)
    have Q:=Lib.hid fin;clear fin
    cases r
    ·refine Uk (by kernel_rfl) (by kernel_rfl) ?_;repeat (go_big_quiet_step (first
      |(go_at_call 170;exact Calls.grown (q28 k E D F _))
      |(go_at_call 107;exact Calls.grown (q2d k false hm _))
      |fail))
     refine wpQuiet_nil ?_;rintro _ ⟨u,rfl⟩;have d:=m.trans (u.ok.mono m.size);go_wp2;go_ret;exact⟨by rw[Q.out _ I.out (by rw[Hk.out,hm];rfl)];rfl,d⟩
    ·cases f
     ·refine Uk (by kernel_rfl) (by kernel_rfl) ?_;repeat (go_big_quiet_step (first
       |(go_at_call 170;exact Calls.grown (q28 k E D F _))
       |(go_at_call 215;exact Calls.grown (qb0 k E D F _ B _))
       |(go_at_call 107;exact Calls.grown (q2d k true hm _))
       |fail))
      refine wpQuiet_nil ?_;rintro _ ⟨u,rfl⟩;have d:=m.trans (u.ok.mono m.size);go_wp2;go_ret;exact⟨by rw[Q.out _ I.out (by rw[G.out,Bool.and_false])];rfl,d⟩
     ·rcases j with _|q
      ·refine Uk (by kernel_rfl) (by kernel_rfl) ?_;repeat (go_big_quiet_step (first
        |(go_at_call 170;exact Calls.grown (q28 k E D F _))
        |(go_at_call 215;exact Calls.grown (qb0 k E D F _ B _))
        |(go_at_call 107;exact Calls.grown (q2d k true hm _))
        |fail))
       refine wpQuiet_nil ?_;rintro _ ⟨u,rfl⟩;have d:=m.trans (u.ok.mono m.size);go_wp2;refine⟨⟨1,by omega,rfl,λq hq=>?_,d⟩,by simp[intOf];omega⟩;obtain rfl:q=0:=by omega
       rw[I.out,Hk.out,hm,G.out];rfl
      ·obtain⟨g',o',B2,m2,d2,T,_,a0,a1,a2,a3,_⟩:=X.cell (show q<n by omega);injection T with T;injection T with e1 e2;subst e1 e2;obtain⟨y,hy⟩:∃y,Zb xs q=y:=⟨_,rfl⟩;rw[hy] at a0 a1 a2;obtain⟨l,U⟩:∃l,y.k=l:=⟨_,rfl⟩;rw[U] at a0 a1 a2;obtain⟨s,hl⟩:∃s,l.less k=s:=⟨_,rfl⟩;have P:=Lib.hid (show okI xs (q+1)=s by rw[I.out,Hk.out,hm,G.out,show q+1-1=q by omega,hy,U,hl];simp);clear hy U;have H:g<J.1.size:=by have:=R.size;omega
       have p0:∀u:Grown J,u.to.cell? ⟨g,o+q*4,none⟩=some (.int .i64 l.obj):=Grown.cell ((R.cell (p:=⟨g,_,none⟩) hg).trans a0) H;have p1:∀u:Grown J,u.to.cell? ⟨g,o+q*4+1,none⟩=some (.int .i64 l.kind):=Grown.cell ((R.cell (p:=⟨g,_,none⟩) hg).trans a1) H;have p2:∀u:Grown J,u.to.cell? ⟨g,o+q*4+2,none⟩=some (.int .i64 l.off):=Grown.cell ((R.cell (p:=⟨g,_,none⟩) hg).trans a2) H;have p3:∀u:Grown J,u.to.cell? ⟨g,o+q*4+3,none⟩=some (.slice B2 m2 d2):=Grown.cell ((R.cell (p:=⟨g,_,none⟩) hg).trans a3) H;clear a0 a1 a2 a3;have b3:(0:Int)<=(q:Int):=by omega
       have b4:(q:Int)<(n:Int):=by omega
       have b1:(0:Int)<(q:Int)+1:=by omega
       have a7:IntKind.i64.wrap (q:Int)=(q:Int):=IntWalk.i64_in _ (by omega);have b6:IntKind.i64.wrap ((q:Int)+1-1)=(q:Int):=by rw[Int.add_sub_cancel];exact a7
       have b5:IntKind.i64.wrap (((q+1:Nat):Int)-1)=(q:Int):=by rw[show ((q+1:Nat):Int)-1=(q:Int) by omega];exact a7
       refine Uk (by kernel_rfl) (by kernel_rfl) ?_;repeat (go_big_quiet_step (first
        |(go_at_call 170;exact Calls.grown (q28 k E D F _))
        |(go_at_call 170;exact Calls.grown (q28 l B2 m2 d2 _))
        |(go_at_call 215;exact Calls.grown (qb0 k E D F _ B _))
        |(go_at_call 107;exact Calls.grown (q2d k true hm _))
        |(go_at_call 55;exact Calls.grown (q6t l k s hl _))
        |fail))
       refine wpQuiet_nil ?_;rintro _ ⟨u,rfl⟩;have d:=m.trans (u.ok.mono m.size)
       cases s
       ·go_wp2;go_ret;exact⟨by rw[Q.out _ P.out rfl];rfl,d⟩
       ·go_wp2;refine⟨⟨q+2,by omega,by go_num,λp hp=>?_,d⟩,by simp[intOf];omega⟩;rcases (by omega:p<q+1\/p=q+1) with h1|rfl
        ·exact O p h1
        ·exact P.out
   ·obtain rfl:j=n:=by omega
    have a8:=Lib.hid (show Dv xs lo hi=true by rw[M.out];exact qng O);go_wp2;go_ret;exact⟨by rw[a8.out];rfl,hB⟩
theorem qni (xs:List Qj)(A:Option Addr)(n c:Nat)(lo hi:Int)(w:World)(hI:Zk w A n c xs)(hn:n<=100000) :
  Calls Tryz.prog 217 #[.slice A n c,.int .i64 lo,.int .i64 hi,.func (.func 173) #[] #[],.func (.func 218) #[] #[]] w λe w'=>e=.returned (.bool (Dw xs lo hi))/\Below w.1.size w w':=by
 have H:=Lib.hid hI.len;obtain⟨a8,a6⟩:=hI.bounds;unfold maxLen at a6;go_enter Tryz.func217,Tryz.ntmps217
 go_wp2_with fail
 refine (q2r (n:Int) lo hi _ rfl _).mono ?_
 cases hr:decide (lo<=(n:Int)/\(n:Int)<=hi)
 ·rintro e w1 ⟨rfl,rfl⟩;go_wp2;go_ret;exact⟨by unfold Dw;rw[H.out,hr];rfl,Below.refl _ _⟩
 ·rintro e w1 ⟨rfl,rfl⟩;have I:=Lib.hid (show Dw xs lo hi=(List.range n).all (okK xs) by unfold Dw;rw[H.out,hr];rfl);clear hr;go_wp2_with fail
  go_loopw [21] (λi wr=>∃j:Nat,j<=n/\i=.int .i64 (j:Int)/\(∀q,q<j->okK xs q=true)/\Below w.1.size w wr) (λi _=>n-(intOf i).toNat)
  case atStart=>exact⟨0,Nat.zero_le _,rfl,λq hq=>by omega,Below.refl _ _⟩
  case round=>
   obtain⟨j,hj,rfl,J,hB⟩:=hrel;by_cases U:j<n
   ·have T:=hI.below hB;obtain⟨g,o,hA,hg,c0,c1,c2,c3⟩:=T.cell U;subst hA;obtain⟨x,hx⟩:∃x,Qe xs j=x:=⟨_,rfl⟩;have F:=Lib.hid (show okK xs j=((x.k.may&&(decide (j=0)||(Qe xs (j-1)).k.less x.k))&&Om x) by unfold okK Wq;rw[q9c,q9c,hx]);rw[hx] at c0 c1 c2 c3;obtain⟨v,hv⟩:∃v,x.a=v:=⟨_,rfl⟩;rw[hv] at c3;obtain⟨f,B⟩:∃f,decide (1<=v/\v<=2047)=f:=⟨_,rfl⟩;have D:=Lib.hid (show Om x=f by unfold Om;rw[hv,B]);clear hv;obtain⟨k,hk⟩:∃k,x.k=k:=⟨_,rfl⟩;rw[hk] at c0 c1 c2;obtain⟨r,hm⟩:∃r,k.may=r:=⟨_,rfl⟩;have Hk:=Lib.hid hk;clear hk hx;go_wp2_with fail
    have O:Below wr.1.size wr (wr.alloc (.cells #[.int .i64 k.obj,.int .i64 k.kind,.int .i64 k.off,.int .i64 v] 148)):=Qk;have R:(wr.alloc (.cells #[.int .i64 k.obj,.int .i64 k.kind,.int .i64 k.off,.int .i64 v] 148)).1[wr.1.size]?=some (.cells #[.int .i64 k.obj,.int .i64 k.kind,.int .i64 k.off,.int .i64 v] 148 (0,0)):=heap_alloc_new wr _;have Z:wr.1.size<(wr.alloc (.cells #[.int .i64 k.obj,.int .i64 k.kind,.int .i64 k.off,.int .i64 v] 148)).1.size:=by simp
    generalize wr.alloc (.cells #[.int .i64 k.obj,.int .i64 k.kind,.int .i64 k.off,.int .i64 v] 148)=G at O R Z ⊢;have q0:∀u:Grown G,u.to.cell? ⟨wr.1.size,0,none⟩=some (.int .i64 k.obj):=Grown.cell (by rw[cell_of_row _ _ _ _ _ _ R];rfl) Z;have q1:∀u:Grown G,u.to.cell? ⟨wr.1.size,1,none⟩=some (.int .i64 k.kind):=Grown.cell (by rw[cell_of_row _ _ _ _ _ _ R];rfl) Z;have q2:∀u:Grown G,u.to.cell? ⟨wr.1.size,2,none⟩=some (.int .i64 k.off):=Grown.cell (by rw[cell_of_row _ _ _ _ _ _ R];rfl) Z;have q3:∀u:Grown G,u.to.cell? ⟨wr.1.size,3,none⟩=some (.int .i64 v):=Grown.cell (by rw[cell_of_row _ _ _ _ _ _ R];rfl) Z;have m:=hB.trans (O.mono hB.size);clear c0 c1 c2 c3 R;have fin:∀b,okK xs j=b->b=false->Dw xs lo hi=false:=λb h1 h2=>by rw[I.out];exact qvn U (h1.trans h2)
    have M:=Lib.hid fin;clear fin
    cases r
    ·refine Uk (by kernel_rfl) (by kernel_rfl) ?_;repeat (go_big_quiet_step (first
      |(go_at_call 173;exact Calls.grown (q29 k v _))
      |(go_at_call 107;exact Calls.grown (q2d k false hm _))
      |fail))
     refine wpQuiet_nil ?_;rintro _ ⟨u,rfl⟩;have d:=m.trans (u.ok.mono m.size);go_wp2;go_ret;exact⟨by rw[M.out _ F.out (by rw[Hk.out,hm];rfl)];rfl,d⟩
    ·cases f
     ·refine Uk (by kernel_rfl) (by kernel_rfl) ?_;repeat (go_big_quiet_step (first
       |(go_at_call 173;exact Calls.grown (q29 k v _))
       |(go_at_call 218;exact Calls.grown (qb1 k v _ B _))
       |(go_at_call 107;exact Calls.grown (q2d k true hm _))
       |fail))
      refine wpQuiet_nil ?_;rintro _ ⟨u,rfl⟩;have d:=m.trans (u.ok.mono m.size);go_wp2;go_ret;exact⟨by rw[M.out _ F.out (by rw[D.out,Bool.and_false])];rfl,d⟩
     ·rcases j with _|q
      ·refine Uk (by kernel_rfl) (by kernel_rfl) ?_;repeat (go_big_quiet_step (first
        |(go_at_call 173;exact Calls.grown (q29 k v _))
        |(go_at_call 218;exact Calls.grown (qb1 k v _ B _))
        |(go_at_call 107;exact Calls.grown (q2d k true hm _))
        |fail))
       refine wpQuiet_nil ?_;rintro _ ⟨u,rfl⟩;have d:=m.trans (u.ok.mono m.size);go_wp2;refine⟨⟨1,by omega,rfl,λq hq=>?_,d⟩,by simp[intOf];omega⟩;obtain rfl:q=0:=by omega
       rw[F.out,Hk.out,hm,D.out];rfl
      ·obtain⟨g',o',P,_,a0,a1,a2,a3⟩:=T.cell (show q<n by omega);injection P with P;injection P with e1 e2;subst e1 e2;obtain⟨y,hy⟩:∃y,Qe xs q=y:=⟨_,rfl⟩;rw[hy] at a0 a1 a2 a3;obtain⟨v2,W⟩:∃v2,y.a=v2:=⟨_,rfl⟩;rw[W] at a3;clear W;obtain⟨l,Q⟩:∃l,y.k=l:=⟨_,rfl⟩;rw[Q] at a0 a1 a2;obtain⟨s,hl⟩:∃s,l.less k=s:=⟨_,rfl⟩;have K:=Lib.hid (show okK xs (q+1)=s by rw[F.out,Hk.out,hm,D.out,show q+1-1=q by omega,hy,Q,hl];simp);clear hy Q;have E:g<G.1.size:=by have:=O.size;omega
       have p0:∀u:Grown G,u.to.cell? ⟨g,o+q*4,none⟩=some (.int .i64 l.obj):=Grown.cell ((O.cell (p:=⟨g,_,none⟩) hg).trans a0) E;have p1:∀u:Grown G,u.to.cell? ⟨g,o+q*4+1,none⟩=some (.int .i64 l.kind):=Grown.cell ((O.cell (p:=⟨g,_,none⟩) hg).trans a1) E;have p2:∀u:Grown G,u.to.cell? ⟨g,o+q*4+2,none⟩=some (.int .i64 l.off):=Grown.cell ((O.cell (p:=⟨g,_,none⟩) hg).trans a2) E;have p3:∀u:Grown G,u.to.cell? ⟨g,o+q*4+3,none⟩=some (.int .i64 v2):=Grown.cell ((O.cell (p:=⟨g,_,none⟩) hg).trans a3) E;clear a0 a1 a2 a3;have b0:(0:Int)<=(q:Int):=by omega
       have b1:(q:Int)<(n:Int):=by omega
       have a7:(0:Int)<(q:Int)+1:=by omega
       have X:IntKind.i64.wrap (q:Int)=(q:Int):=IntWalk.i64_in _ (by omega);have b3:IntKind.i64.wrap ((q:Int)+1-1)=(q:Int):=by rw[Int.add_sub_cancel];exact X
       have b2:IntKind.i64.wrap (((q+1:Nat):Int)-1)=(q:Int):=by rw[show ((q+1:Nat):Int)-1=(q:Int) by omega];exact X
       refine Uk (by kernel_rfl) (by kernel_rfl) ?_;repeat (go_big_quiet_step (first
        |(go_at_call 173;exact Calls.grown (q29 k v _))
        |(go_at_call 173;exact Calls.grown (q29 l v2 _))
        |(go_at_call 218;exact Calls.grown (qb1 k v _ B _))
        |(go_at_call 107;exact Calls.grown (q2d k true hm _))
        |(go_at_call 55;exact Calls.grown (q6t l k s hl _))
        |fail))
       refine wpQuiet_nil ?_;rintro _ ⟨u,rfl⟩;have d:=m.trans (u.ok.mono m.size)
       cases s
       ·go_wp2;go_ret;exact⟨by rw[M.out _ K.out rfl];rfl,d⟩
       ·go_wp2;refine⟨⟨q+2,by omega,by go_num,λp hp=>?_,d⟩,by simp[intOf];omega⟩;rcases (by omega:p<q+1\/p=q+1) with h1|rfl
        ·exact J p h1
        ·exact K.out
   ·obtain rfl:j=n:=by omega
    have Y:=Lib.hid (show Dw xs lo hi=true by rw[I.out];exact qng J);go_wp2;go_ret;exact⟨by rw[Y.out];rfl,hB⟩
theorem qd1 {n:Nat}{f:Nat->Bool}:(List.range n).all f=true↔∀j,j<n->f j=true:=by
 rw[List.all_eq_true];exact⟨λh j d=>h j (List.mem_range.2 d),λh j d=>h j (List.mem_range.1 d)⟩
theorem qgs (N:Nd):q65 N=true↔∀j,j<N.items.length->Ol (Zb N.items j)=true:=by
 constructor
 ·intro h j d;unfold q65 at h;exact List.all_eq_true.1 h _ (List.mem_of_getElem? (Tf d))
 ·intro h;exact qie λj d=>of_decide_eq_true (h j d)
theorem ql4 (N:Nd):G7 N=true↔∀j,j<N.kids.length->Om (Qe N.kids j)=true:=by
 constructor
 ·intro h j d;unfold G7 at h;have:=of_decide_eq_true (List.all_eq_true.1 h _ (List.mem_of_getElem? (q12 d)));exact decide_eq_true (by omega)
 ·intro h;refine qn6 λj d=>?_
  have:=of_decide_eq_true (h j d);omega
theorem qiq (N:Nd)(h:N.lvl=0)(f:N.kids.length=0):N.may=Dv N.items 1 6:=by
 have e:N.keys=N.items.map (·.k):=by unfold Nd.keys;rw[List.eq_nil_of_length_eq_zero f];simp
 unfold Nd.may Dv;rw[if_pos h,e,Bool.eq_iff_iff];simp only[Bool.and_eq_true,decide_eq_true_eq,qgs,rises,okI,qd1,List.length_map];constructor
 ·rintro⟨h1,h2,m⟩;exact⟨by omega,λj d=>⟨h2 j d,h1 j d⟩⟩
 ·rintro⟨h1,h2⟩;exact⟨λj d=>(h2 j d).2,λj d=>(h2 j d).1,by omega⟩
theorem qgt (N:Nd)(h:N.lvl=0)(d:¬N.kids.length=0):N.may=false:=by
 unfold Nd.may;rw[if_pos h,decide_eq_false (by omega),Bool.and_false,Bool.and_false]
theorem qel (N:Nd)(h:¬N.lvl=0)(m:1<=N.lvl/\N.lvl<=7)(hi:N.items.length=0):N.may=Dw N.kids 2 12:=by
 have e:N.keys=N.kids.map (·.k):=by unfold Nd.keys;rw[List.eq_nil_of_length_eq_zero hi];simp
 unfold Nd.may Dw;rw[if_neg h,e,Bool.eq_iff_iff];simp only[Bool.and_eq_true,decide_eq_true_eq,ql4,rises,okK,qd1,List.length_map];constructor
 ·rintro⟨h1,h2,f⟩;exact⟨by omega,λj d=>⟨h2 j d,h1 j d⟩⟩
 ·rintro⟨h1,h2⟩;exact⟨λj d=>(h2 j d).2,λj d=>(h2 j d).1,by omega⟩
theorem q87 (N:Nd)(h:¬N.lvl=0)(d:¬((1<=N.lvl/\N.lvl<=7)/\N.items.length=0)):N.may=false:=by
 unfold Nd.may;rw[if_neg h,decide_eq_false (by omega),Bool.and_false,Bool.and_false]
theorem q1z (N:Nd)(r:Bool)(J:N.may=r)(A:Option Addr)(n c:Nat)(B:Option Addr)(m d:Nat)(w:World)(Q:Jg w A n c N.items)(R:Zk w B m d N.kids)(hn:n<=1000)(hm:m<=1000) :
  Calls Tryz.prog 147 #[.agg #[.int .i64 N.lvl,.slice A n c,.slice B m d]] w λe Z=>e=.returned (.bool r)/\Below w.1.size w Z:=by
 have H:=Lib.hid Q.len;have I:=Lib.hid R.len;go_enter Tryz.func147,Tryz.ntmps147
 go_wp2_with fail
 have y:NB (w.alloc (.cells #[.int .i64 N.lvl,.slice A n c,.slice B m d] 77)) w.1.size N.lvl A n c B m d:=NB.new w _ _ _ _ _ _ _ _;have E:Below w.1.size w (w.alloc (.cells #[.int .i64 N.lvl,.slice A n c,.slice B m d] 77)):=Qk;generalize w.alloc (.cells #[.int .i64 N.lvl,.slice A n c,.slice B m d] 77)=T at y E ⊢;by_cases G:N.lvl=0
 ·refine (Pm N.lvl true (decide_eq_true G) A n c B m d T).mono ?_;rintro e U ⟨rfl,p⟩;have D:=y.below p y.lt;have u:=E.trans (p.mono E.size);have W:=D.c0;have X:=D.c1;have Y:=D.c2;clear y E p;by_cases M:m=0
  ·have f:=Lib.hid (show r=Dv N.items 1 6 by rw[<-J];exact qiq N G (by rw[I.out];exact M));subst M;go_wp2_with fail
   refine (qnh N.items A n c 1 6 U (Q.below u) (by omega)).mono ?_;rintro e P ⟨rfl,F⟩;have K:=u.trans (F.mono u.size);go_wp2;go_ret;exact⟨by rw[f.out];rfl,K⟩
  ·have f:=Lib.hid (show r=false by rw[<-J];exact qgt N G (by rw[I.out];exact M));have h1:((m:Int)==0)=false:=by simp;omega
   have h2:decide ((m:Int)=0)=false:=decide_eq_false (by omega);go_wp2;go_ret;exact⟨by rw[f.out];rfl,u⟩
 ·refine (Pm N.lvl false (decide_eq_false G) A n c B m d T).mono ?_;rintro e U ⟨rfl,p⟩;have D:=y.below p y.lt;have u:=E.trans (p.mono E.size);have W:=D.c0;have X:=D.c1;have Y:=D.c2;clear y E p;go_wp2_with fail
  by_cases O:1<=N.lvl/\N.lvl<=7
  ·refine (q2r N.lvl 1 7 true (decide_eq_true O) _).mono ?_;rintro e P ⟨rfl,rfl⟩;by_cases hi:n=0
   ·have f:=Lib.hid (show r=Dw N.kids 2 12 by rw[<-J];exact qel N G O (by rw[H.out];exact hi));subst hi;go_wp2_with fail
    refine (qni N.kids B m d 2 12 _ (R.below u) (by omega)).mono ?_;rintro e P ⟨rfl,F⟩;have K:=u.trans (F.mono u.size);go_wp2;go_ret;exact⟨by rw[f.out];rfl,K⟩
   ·have f:=Lib.hid (show r=false by rw[<-J];exact q87 N G (by rw[H.out];omega));have h1:((n:Int)==0)=false:=by simp;omega
    have h2:decide ((n:Int)=0)=false:=decide_eq_false (by omega);go_wp2;go_ret;exact⟨by rw[f.out];rfl,u⟩
  ·refine (q2r N.lvl 1 7 false (decide_eq_false O) _).mono ?_;rintro e P ⟨rfl,rfl⟩;have f:=Lib.hid (show r=false by rw[<-J];exact q87 N G (by omega));go_wp2;go_ret;exact⟨by rw[f.out];rfl,u⟩
def Nd.fit (N:Nd):Prop:=(N.lvl=0->N.kids=[])/\(¬N.lvl=0->N.items=[])
theorem Me {N:Nd}(hm:N.may=true):N.fit:=by
 constructor
 ·intro d;refine List.eq_nil_of_length_eq_zero ?_;unfold Nd.may at hm;rw[if_pos d,Bool.and_eq_true,Bool.and_eq_true] at hm;exact (of_decide_eq_true hm.2.2).1
 ·intro d;refine List.eq_nil_of_length_eq_zero ?_;unfold Nd.may at hm;rw[if_neg d,Bool.and_eq_true,Bool.and_eq_true] at hm;exact (of_decide_eq_true hm.2.2).2.2.1
theorem qir {N:Nd}(h:N.fit)(d:N.lvl=0):N.keys=N.items.map (·.k):=by unfold Nd.keys;rw[h.1 d];simp
theorem qem {N:Nd}(h:N.fit)(d:¬N.lvl=0):N.keys=N.kids.map (·.k):=by unfold Nd.keys;rw[h.2 d];simp
theorem q2i (N:Nd)(G:N.fit)(k:Kd)(t:Nat)(X:N.Zc k=t)(r:Bool)(W:Vd N.keys k t=r)(A:Option Addr)(n c:Nat)(B:Option Addr)(m d:Nat)(w:World)(hI:Jg w A n c N.items)(hK:Zk w B m d N.kids)(hn:n<=1000)(hm:m<=1000) :
  Calls Tryz.prog 97 #[.agg #[.int .i64 N.lvl,.slice A n c,.slice B m d],.agg #[.int .i64 k.obj,.int .i64 k.kind,.int .i64 k.off]] w λe w'=>e=.returned (.tuple #[.int .i64 (t:Int),.bool r])/\Below w.1.size w w':=by
 have Z:=Lib.hid hK.len;go_enter Tryz.func97,Tryz.ntmps97
 go_wp2_with fail
 have O:NB ((w.alloc (.cells #[.int .i64 N.lvl,.slice A n c,.slice B m d] 77)).alloc (.cells #[.int .i64 k.obj,.int .i64 k.kind,.int .i64 k.off] 45)) w.1.size N.lvl A n c B m d:=(NB.new w _ _ _ _ _ _ _ _).below (Qk) (by simp);have K:KB ((w.alloc (.cells #[.int .i64 N.lvl,.slice A n c,.slice B m d] 77)).alloc (.cells #[.int .i64 k.obj,.int .i64 k.kind,.int .i64 k.off] 45)) (w.1.size+1) k:=KB.new2 w _ k.obj k.kind k.off _;have P:Below w.1.size w ((w.alloc (.cells #[.int .i64 N.lvl,.slice A n c,.slice B m d] 77)).alloc (.cells #[.int .i64 k.obj,.int .i64 k.kind,.int .i64 k.off] 45)):=(Qk).alloc (by simp) _;generalize (w.alloc (.cells #[.int .i64 N.lvl,.slice A n c,.slice B m d] 77)).alloc (.cells #[.int .i64 k.obj,.int .i64 k.kind,.int .i64 k.off] 45)=w1 at O K P ⊢;by_cases H:N.lvl=0
 ·have D:=qir G H;have y:=Lib.hid (show lead (N.items.map (·.k)) k=t by rw[<-X];unfold Nd.Zc;rw[if_pos H,D]);have f:=Lib.hid (show Vd (N.items.map (·.k)) k t=r by rw[<-W,D]);refine (Pm N.lvl true (decide_eq_true H) A n c B m d w1).mono ?_;rintro e w2 ⟨rfl,p⟩;have F:=O.below p O.lt;have E:=K.below p K.lt;have I:=P.trans (p.mono P.size);have q1:=F.c1;have R:=E.c0;have T:=E.c1;have U:=E.c2;clear H D X W O K P p;go_wp2_with fail
  refine (qrw N.items k A n c w2 (hI.below I) (by omega)).mono ?_;rw[y.out];rintro e w3 ⟨rfl,u⟩;have N3:=F.below u F.lt;have M:=E.below u E.lt;have J:=I.trans (u.mono I.size);clear q1 R T U;have q1:=N3.c1;have R:=M.c0;have T:=M.c1;have U:=M.c2;clear F E u;go_wp2_with fail
  refine (qgg N.items t k r f.out A n c w3 (hI.below J) (by omega)).mono ?_;rintro e w4 ⟨rfl,Q⟩;have Y:=J.trans (Q.mono J.size);go_wp2;go_ret2;exact⟨rfl,Y⟩
 ·have D:=qem G H;have y:=Lib.hid (show lastTo (N.kids.map (·.k)) k m=t by rw[<-X];unfold Nd.Zc;rw[if_neg H,D,List.length_map,Z.out]);have f:=Lib.hid (show Vd (N.kids.map (·.k)) k t=r by rw[<-W,D]);refine (Pm N.lvl false (decide_eq_false H) A n c B m d w1).mono ?_;rintro e w2 ⟨rfl,p⟩;have F:=O.below p O.lt;have E:=K.below p K.lt;have I:=P.trans (p.mono P.size);have q2:=F.c2;have R:=E.c0;have T:=E.c1;have U:=E.c2;clear H D X W O K P p;go_wp2_with fail
  refine (qrx N.kids k B m d w2 (hK.below I) (by omega)).mono ?_;rw[y.out];rintro e w3 ⟨rfl,u⟩;have N3:=F.below u F.lt;have M:=E.below u E.lt;have J:=I.trans (u.mono I.size);clear q2 R T U;have q2:=N3.c2;have R:=M.c0;have T:=M.c1;have U:=M.c2;clear F E u;go_wp2_with fail
  refine (qgh N.kids t k r f.out B m d w3 (hK.below J) (by omega)).mono ?_;rintro e w4 ⟨rfl,Q⟩;have Y:=J.trans (Q.mono J.size);go_wp2;go_ret2;exact⟨rfl,Y⟩
theorem qgu (xs:List Qb)(z:Kd)(y:(if (xs.map (·.k)).length=0 then ⟨0,0,0⟩ else keyAt (xs.map (·.k)) 0)=z)(A:Option Addr)(n c:Nat)(w:World)(E:Jg w A n c xs) :
  Calls Tryz.prog 275 #[.slice A n c,.func (.func 170) #[] #[]] w λe Q=>e=.returned (.agg #[.int .i64 z.obj,.int .i64 z.kind,.int .i64 z.off])/\Below w.1.size w Q:=by
 have d:=E.len;obtain⟨M,F⟩:=E.bounds;unfold maxLen at F;have p:KB (w.alloc (.cells #[.int .i64 0,.int .i64 0,.int .i64 0] 45)) w.1.size ⟨0,0,0⟩:=KB.new w 0 0 0 _;have u:Below w.1.size w (w.alloc (.cells #[.int .i64 0,.int .i64 0,.int .i64 0] 45)):=Qk;by_cases h0:n=0
 ·obtain rfl:(⟨0,0,0⟩:Kd)=z:=by rw[<-y,if_pos (by rw[List.length_map,d];exact h0)]
  subst h0;clear y d;go_enter Tryz.func275,Tryz.ntmps275
  go_wp2_with (first
   |(refine q1d rfl (.tmp 4) (.tmp 8) rfl w.1.size rfl ⟨0,0,0⟩ _ rfl p ?_;intro T B D)
   |fail)
  refine bodyPost_ret (Ny Tryz.results275 rfl (Tm B)) rfl ?_;exact⟨rfl,u.trans ((D.Q9 p.lt).mono (Nat.le_refl _))⟩
 ·have m:keyAt (xs.map (·.k)) 0=z:=by rw[<-y,if_neg (by rw[List.length_map,d];exact h0)]
  rw[qrv] at m;obtain⟨g,o,H,P,J,K,O,c0,c1,c2,c3,_⟩:=(E.below u).cell (show 0<n by omega);subst K;rw[Nat.zero_mul,Nat.add_zero] at c0 c1 c2 c3;rw[m] at c0 c1 c2;clear y m d;have h1:((n:Int)==0)=false:=by simp;omega
  have h2:decide ((n:Int)=0)=false:=decide_eq_false (by omega);have U:(0:Int)<(n:Int):=by omega
  go_enter Tryz.func275,Tryz.ntmps275
  go_wp2_with fail
  generalize w.alloc (.cells #[.int .i64 0,.int .i64 0,.int .i64 0] 45)=R at p u O c0 c1 c2 c3 ⊢;go_wp2_with fail
  refine (q28 z H P J R).mono ?_;rintro e W ⟨rfl,f⟩;have G:=p.below f p.lt;have I:=u.trans (f.mono u.size);go_wp2_with (first
   |(refine q1d rfl (.tmp 4) (.tmp 13) rfl w.1.size rfl z _ rfl G ?_;intro T B D)
   |fail)
  refine bodyPost_ret (Ny Tryz.results275 rfl (Tm B)) rfl ?_;exact⟨rfl,I.trans ((D.Q9 G.lt).mono (Nat.le_refl _))⟩
theorem qgv (xs:List Qj)(z:Kd)(y:(if (xs.map (·.k)).length=0 then ⟨0,0,0⟩ else keyAt (xs.map (·.k)) 0)=z)(A:Option Addr)(n c:Nat)(w:World)(E:Zk w A n c xs) :
  Calls Tryz.prog 276 #[.slice A n c,.func (.func 173) #[] #[]] w λe O=>e=.returned (.agg #[.int .i64 z.obj,.int .i64 z.kind,.int .i64 z.off])/\Below w.1.size w O:=by
 have d:=E.len;obtain⟨K,F⟩:=E.bounds;unfold maxLen at F;have p:KB (w.alloc (.cells #[.int .i64 0,.int .i64 0,.int .i64 0] 45)) w.1.size ⟨0,0,0⟩:=KB.new w 0 0 0 _;have u:Below w.1.size w (w.alloc (.cells #[.int .i64 0,.int .i64 0,.int .i64 0] 45)):=Qk;by_cases h0:n=0
 ·obtain rfl:(⟨0,0,0⟩:Kd)=z:=by rw[<-y,if_pos (by rw[List.length_map,d];exact h0)]
  subst h0;clear y d;go_enter Tryz.func276,Tryz.ntmps276
  go_wp2_with (first
   |(refine q1d rfl (.tmp 4) (.tmp 8) rfl w.1.size rfl ⟨0,0,0⟩ _ rfl p ?_;intro Q B D)
   |fail)
  refine bodyPost_ret (Ny Tryz.results276 rfl (Tm B)) rfl ?_;exact⟨rfl,u.trans ((D.Q9 p.lt).mono (Nat.le_refl _))⟩
 ·have m:keyAt (xs.map (·.k)) 0=z:=by rw[<-y,if_neg (by rw[List.length_map,d];exact h0)]
  rw[qib] at m;obtain⟨g,o,J,M,c0,c1,c2,c3⟩:=(E.below u).cell (show 0<n by omega);subst J;rw[Nat.zero_mul,Nat.add_zero] at c0 c1 c2 c3;obtain⟨v,H⟩:∃v,(Qe xs 0).a=v:=⟨_,rfl⟩;rw[H] at c3;clear H;rw[m] at c0 c1 c2;clear y m d;have h1:((n:Int)==0)=false:=by simp;omega
  have h2:decide ((n:Int)=0)=false:=decide_eq_false (by omega);have R:(0:Int)<(n:Int):=by omega
  go_enter Tryz.func276,Tryz.ntmps276
  go_wp2_with fail
  generalize w.alloc (.cells #[.int .i64 0,.int .i64 0,.int .i64 0] 45)=P at p u M c0 c1 c2 c3 ⊢;go_wp2_with fail
  refine (q29 z v P).mono ?_;rintro e T ⟨rfl,f⟩;have G:=p.below f p.lt;have I:=u.trans (f.mono u.size);go_wp2_with (first
   |(refine q1d rfl (.tmp 4) (.tmp 13) rfl w.1.size rfl z _ rfl G ?_;intro Q B D)
   |fail)
  refine bodyPost_ret (Ny Tryz.results276 rfl (Tm B)) rfl ?_;exact⟨rfl,I.trans ((D.Q9 G.lt).mono (Nat.le_refl _))⟩
theorem qgw (N:Nd)(u:N.fit)(z:Kd)(J:N.least=z)(A:Option Addr)(n c:Nat)(B:Option Addr)(m d:Nat)(w:World)(U:Jg w A n c N.items)(W:Zk w B m d N.kids) :
  Calls Tryz.prog 253 #[.agg #[.int .i64 N.lvl,.slice A n c,.slice B m d]] w λe X=>e=.returned (.agg #[.int .i64 z.obj,.int .i64 z.kind,.int .i64 z.off])/\Below w.1.size w X:=by
 go_enter Tryz.func253,Tryz.ntmps253
 go_wp2_with fail
 have D:NB ((w.alloc (.cells #[.int .i64 N.lvl,.slice A n c,.slice B m d] 77)).alloc (.cells #[.int .i64 0,.int .i64 0,.int .i64 0] 45)) w.1.size N.lvl A n c B m d:=(NB.new w _ _ _ _ _ _ _ _).below (Qk) (by simp);have E:KB ((w.alloc (.cells #[.int .i64 N.lvl,.slice A n c,.slice B m d] 77)).alloc (.cells #[.int .i64 0,.int .i64 0,.int .i64 0] 45)) (w.1.size+1) ⟨0,0,0⟩:=KB.new2 w _ 0 0 0 _;have F:Below w.1.size w ((w.alloc (.cells #[.int .i64 N.lvl,.slice A n c,.slice B m d] 77)).alloc (.cells #[.int .i64 0,.int .i64 0,.int .i64 0] 45)):=(Qk).alloc (by simp) _;generalize (w.alloc (.cells #[.int .i64 N.lvl,.slice A n c,.slice B m d] 77)).alloc (.cells #[.int .i64 0,.int .i64 0,.int .i64 0] 45)=T at D E F ⊢;by_cases G:N.lvl=0
 ·have M:=Lib.hid (show (if (N.items.map (·.k)).length=0 then ⟨0,0,0⟩ else keyAt (N.items.map (·.k)) 0)=z by rw[<-J,<-qir u G];rfl);refine (Pm N.lvl true (decide_eq_true G) A n c B m d T).mono ?_;rintro e R ⟨rfl,f⟩;have O:=D.below f D.lt;have H:=E.below f E.lt;have y:=F.trans (f.mono F.size);have q1:=O.c1;clear G J D E F f;go_wp2_with fail
  refine (qgu N.items z M.out A n c R (U.below y)).mono ?_;rintro e Y ⟨rfl,p⟩;have I:=H.below p H.lt;have K:=y.trans (p.mono y.size);go_wp2_with (first
   |(refine q1d rfl (.tmp 2) (.tmp 7) rfl (w.1.size+1) rfl z _ rfl I ?_;intro Z P Q)
   |fail)
  refine bodyPost_ret (Ny Tryz.results253 rfl (Tm P)) rfl ?_;exact⟨rfl,K.trans ((Q.Q9 I.lt).mono (by omega))⟩
 ·have M:=Lib.hid (show (if (N.kids.map (·.k)).length=0 then ⟨0,0,0⟩ else keyAt (N.kids.map (·.k)) 0)=z by rw[<-J,<-qem u G];rfl);refine (Pm N.lvl false (decide_eq_false G) A n c B m d T).mono ?_;rintro e R ⟨rfl,f⟩;have O:=D.below f D.lt;have H:=E.below f E.lt;have y:=F.trans (f.mono F.size);have q2:=O.c2;clear G J D E F f;go_wp2_with fail
  refine (qgv N.kids z M.out B m d R (W.below y)).mono ?_;rintro e Y ⟨rfl,p⟩;have I:=H.below p H.lt;have K:=y.trans (p.mono y.size);go_wp2_with (first
   |(refine q1d rfl (.tmp 2) (.tmp 10) rfl (w.1.size+1) rfl z _ rfl I ?_;intro Z P Q)
   |fail)
  refine bodyPost_ret (Ny Tryz.results253 rfl (Tm P)) rfl ?_;exact⟨rfl,K.trans ((Q.Q9 I.lt).mono (by omega))⟩
theorem qsf (v:List UInt8)(h:v.length=3):(Qw ((v.drop 1).take 2):Int)=256*(Ku v 1:Int)+(Ku v 2:Int):=by
 match v,h with
 |[a,b,c],_=>simp[Qw,Ku]
theorem qbe (x:Qb)(r:Bool)(E:(Uc x).isSome=r)(B:Option Addr)(m d:Nat)(w:World)(K:Sl w B m d x.v) :
  Calls Tryz.prog 150 #[.agg #[.int .i64 x.k.obj,.int .i64 x.k.kind,.int .i64 x.k.off,.slice B m d]] w λe P=>e=.returned (.bool r)/\Below w.1.size w P:=by
 have u:=K.len;have F:∀o,Below w.1.size w (w.alloc o):=λo=>(Below.refl _ _).alloc (Nat.le_refl _) o
 by_cases f:x.k.kind=3
 ·rw[f];by_cases J:m=3
  ·subst J;obtain⟨I,rfl,G,v0⟩:=K.cell (k:=0) (by omega);have H:∀o,(w.alloc o).cell? I=some (.int .u8 (Ku x.v 0:Int)):=λo=>((F o).cell (p:=I) G).trans v0
   by_cases y:Ku x.v 0=1
   ·obtain rfl:r=true:=by rw[<-E];unfold Uc;rw[if_pos ⟨f,u,y⟩];rfl
    rw[y] at H;clear y v0 E u f;go_enter Tryz.func150,Tryz.ntmps150
    go_wp2;go_ret;exact⟨rfl,F _⟩
   ·obtain rfl:r=false:=by rw[<-E];unfold Uc;rw[if_neg (λh=>y h.2.2)];rfl
    obtain⟨D,A⟩:∃D,Ku x.v 0=D:=⟨_,rfl⟩;rw[A] at H y;have M:((D:Int)==1)=false:=by simp;omega
    have O:decide ((D:Int)=1)=false:=decide_eq_false (by omega);clear A v0 E u f;go_enter Tryz.func150,Tryz.ntmps150
    go_wp2;go_ret;exact⟨rfl,F _⟩
  ·obtain rfl:r=false:=by rw[<-E];unfold Uc;rw[if_neg (λh=>J (by rw[<-u];exact h.2.1))];rfl
   have M:((m:Int)==3)=false:=by simp;omega
   have O:decide ((m:Int)=3)=false:=decide_eq_false (by omega);clear E u f;go_enter Tryz.func150,Tryz.ntmps150
   go_wp2;go_ret;exact⟨rfl,F _⟩
 ·obtain rfl:r=false:=by rw[<-E];unfold Uc;rw[if_neg (λh=>f h.1)];rfl
  obtain⟨D,A⟩:∃D,x.k.kind=D:=⟨_,rfl⟩;rw[A] at f ⊢;have M:(D==3)=false:=by simp;omega
  have O:decide (D=3)=false:=decide_eq_false (by omega);clear A E u;go_enter Tryz.func150,Tryz.ntmps150
  go_wp2;go_ret;exact⟨rfl,F _⟩
theorem qbf (N:Nd)(a1:N.fit)(A:Option Addr)(n c:Nat)(B:Option Addr)(m d:Nat)(w:World)(hI:Jg w A n c N.items)(hK:Zk w B m d N.kids)(hn:n<=1000)(hm:m<=1000) :
  Calls Tryz.prog 87 #[.agg #[.int .i64 N.lvl,.slice A n c,.slice B m d]] w λe w'=>∃F n' G,e=.returned (.slice F n' G)/\Qr w' w.1.size 3 1 F n' G (N.named.map iv)/\Below w.1.size w w':=by
 have a2:=Lib.hid hI.len;have b7:=Lib.hid hK.len;go_enter Tryz.func87,Tryz.ntmps87
 go_wp2_with fail
 have N1:NB (w.alloc (.cells #[.int .i64 N.lvl,.slice A n c,.slice B m d] 77)) w.1.size N.lvl A n c B m d:=NB.new w _ _ _ _ _ _ _ _;have b1:Below w.1.size w (w.alloc (.cells #[.int .i64 N.lvl,.slice A n c,.slice B m d] 77)):=Qk;generalize w.alloc (.cells #[.int .i64 N.lvl,.slice A n c,.slice B m d] 77)=w1 at N1 b1 ⊢;by_cases hl:N.lvl=0
 ·have c7:N.kids.length=0:=by rw[a1.1 hl];rfl
  have b6:=Lib.hid (show Uj N 0=Xr N 0 by have:=qcs N;rw[c7] at this;exact this);refine (Pm N.lvl true (decide_eq_true hl) A n c B m d w1).mono ?_;rintro e w2 ⟨rfl,H⟩;have N2:=N1.below H N1.lt;have B2:=b1.trans (H.mono b1.size);have q1:=N2.c1;have zN:=N2.lt;have Ot:Qr w2 (w.1.size+1) 3 1 none 0 0 (Xr N 0):=by rw[<-b6.out];exact Lu _ _ _ _
  clear hl c7 N1 b1 H b6;go_wp2_with fail
  clear q1;go_loopw [3,31] (λl i wr=>∃(j q:Nat) (F:Option Addr) (G:Nat),j<=n/\q<=j/\i=.int .i64 (j:Int)/\l=.slice F q G/\Qr wr (w.1.size+1) 3 1 F q G (Xr N j)/\Below w.1.size w wr/\w.1.size<wr.1.size) (λ_ i _=>n-(intOf i).toNat)
  case atStart=>exact⟨0,0,_,_,Nat.zero_le _,Nat.le_refl _,rfl,rfl,Ot,B2,zN⟩
  case round=>
   obtain⟨j,q,F,G,hj,hq,rfl,rfl,own,R,hz⟩:=hrel;by_cases M:j<n
   ·obtain⟨g,o,Y,X,K,hA,hg,c0,c1,c2,c3,b0⟩:=(hI.below R).cell M;subst hA;have I:=λz h=>Lib.hid (qn4 N j (by rw[a2.out];exact M) z h)
    have T:=λh=>Lib.hid (qry N j (by rw[a2.out];exact M) h)
    obtain⟨x,hx⟩:∃x,Zb N.items j=x:=⟨_,rfl⟩;rw[hx] at c0 c1 c2 b0 I T;clear hx;have Z:Below wr.1.size wr (wr.alloc (.cells #[.int .i64 x.k.obj,.int .i64 x.k.kind,.int .i64 x.k.off,.slice Y X K] 50)):=Qk;have x0:(wr.alloc (.cells #[.int .i64 x.k.obj,.int .i64 x.k.kind,.int .i64 x.k.off,.slice Y X K] 50)).1[wr.1.size]?=some (.cells #[.int .i64 x.k.obj,.int .i64 x.k.kind,.int .i64 x.k.off,.slice Y X K] 50 (0,0)):=heap_alloc_new wr _;have zx:wr.1.size<(wr.alloc (.cells #[.int .i64 x.k.obj,.int .i64 x.k.kind,.int .i64 x.k.off,.slice Y X K] 50)).1.size:=by simp
    go_wp2_with fail
    generalize wr.alloc (.cells #[.int .i64 x.k.obj,.int .i64 x.k.kind,.int .i64 x.k.off,.slice Y X K] 50)=wx at Z x0 zx ⊢;have x3:wx.cell? ⟨wr.1.size,3,none⟩=some (.slice Y X K):=by rw[cell_of_row _ _ _ _ _ _ x0];rfl
    have Q:=own.below Z;have J:=b0.below Z;have W:=R.trans (Z.mono R.size);obtain⟨d5,d6⟩:=(hI.below R).bounds;clear c0 c1 c2 c3 x0 own b0
    cases f:Uc x
    ·have hN:=T f;refine (qbe x false (by rw[f];rfl) Y X K wx J).mono ?_;rintro e w3 ⟨rfl,y⟩;have D:=Q.below y;rw[<-hN.out] at D;have U:=W.trans (y.mono W.size);have c9:w.1.size<w3.1.size:=by have:=y.size;omega
     clear I T hN f;go_wp2;exact⟨⟨j+1,q,F,G,by omega,by omega,by go_num,rfl,D,U,c9⟩,by simp[intOf];omega⟩
    ·rename_i z;have hN:=I z f;refine (qbe x true (by rw[f];rfl) Y X K wx J).mono ?_;rintro e w3 ⟨rfl,y⟩;have D:=Q.below y;have U:=W.trans (y.mono W.size);have c9:w.1.size<w3.1.size:=by have:=y.size;omega
     have y3:=(y.cell (p:=⟨wr.1.size,3,none⟩) zx).trans x3;have u:=J.below y;have c8:=u.len;have d7:=u.cap;have d4:=u.max;unfold maxLen at d4;have b2:x.v.length=3/\(Qw ((x.v.drop 1).take 2):Int)=z:=by
      unfold Uc at f;split at f
      ·rename_i h;exact⟨h.2.1,by rw[qsf _ h.2.1];exact Option.some.inj f⟩
      ·cases f
     obtain rfl:3=X:=by rw[<-c8];exact b2.1.symm
     have d0:=Lib.hid b2.2;obtain⟨b4,o4,rfl,_,_⟩:=qjn u (by omega);have hd:=u.drop (k:=1) (by omega);rw[if_neg (by omega:¬K=1)] at hd;have b9:Sl w3 (some ⟨b4,o4+1,none⟩) 2 (K-1) (x.v.drop 1):=hd;have d9:(1:Int)<=(K:Int):=by omega
     have d8:¬K=1:=by omega
     clear hd I T f b2 c8 Z x3 Q J R hz zx;go_wp2_with fail
     refine (q5d (some ⟨b4,o4+1,none⟩) 2 (K-1) _ 2 0 w3 b9 (by omega) (by omega) (by omega) (by omega) (by decide)).mono ?_;rintro e w4 ⟨A4,c4,rfl,_,a7⟩;rw[show (2:Int).toNat=2 from rfl,d0.out];have d1:=D.below a7;have d3:=U.trans (a7.mono U.size);have e0:w.1.size<w4.1.size:=by have:=a7.size;omega
     have b5:Below w4.1.size w4 (w4.alloc (.cells #[.int .i64 z] 3)):=Qk;clear D y3 b9 u d0;go_wp2_with (first
      |(at_builtin;refine qa9 _ Qbu rfl _ _ rfl (w.1.size+1) F q G (Xr N j) rfl (d1.below b5) (some ⟨w4.1.size,0,none⟩) 1 1 [iv z] rfl (qkw w4 z) (by omega) (qw6 z) (by omega) (by omega) (by have:=b5.size;omega) ?_)
      |fail)
     intro A5 c5 w5 E a8;have O:Below (w.1.size+1) w4 w5:=(b5.mono (by omega)).trans a8;have a6:=d3.trans (O.mono (by omega));have b3:w.1.size<w5.1.size:=by have:=O.size;omega
     rw[<-hN.out] at E;go_wp2;exact⟨⟨j+1,q+1,_,_,by omega,by omega,by go_num,rfl,E,a6,b3⟩,by simp[intOf];omega⟩
   ·obtain rfl:n=j:=by omega
    have P:Qr wr (w.1.size+1) 3 1 F q G (N.named.map iv):=by rw[<-qct,a2.out];exact own
    go_wp2;go_ret;exact⟨_,_,_,rfl,P.less (by omega),R⟩
 ·have c6:N.items.length=0:=by rw[a1.2 hl];rfl
  have d2:=Lib.hid (show Xr N 0=N.named.map iv by have:=qct N;rw[c6] at this;exact this);refine (Pm N.lvl false (decide_eq_false hl) A n c B m d w1).mono ?_;rintro e w2 ⟨rfl,H⟩;have N2:=N1.below H N1.lt;have B2:=b1.trans (H.mono b1.size);have q2:=N2.c2;have zN:=N2.lt;clear hl c6 N1 b1 H;go_wp2_with fail
  clear q2;go_loopw [3,17] (λl i wr=>∃(j:Nat) (F:Option Addr) (G:Nat),j<=m/\i=.int .i64 (j:Int)/\l=.slice F j G/\Qr wr (w.1.size+1) 3 1 F j G (Uj N j)/\Below w.1.size w wr/\w.1.size<wr.1.size) (λ_ i _=>m-(intOf i).toNat)
  case atStart=>exact⟨0,_,_,Nat.zero_le _,rfl,rfl,Lu _ _ _ _,B2,zN⟩
  case round=>
   obtain⟨j,F,G,hj,rfl,rfl,own,R,hz⟩:=hrel;by_cases M:j<m
   ·obtain⟨g,o,hA,hg,c0,c1,c2,c3⟩:=(hK.below R).cell M;subst hA;have e2:=qic N j (by rw[b7.out];exact M);obtain⟨x,hx⟩:∃x,Qe N.kids j=x:=⟨_,rfl⟩;rw[hx] at c0 c1 c2 c3 e2;have E2:=Lib.hid e2;clear e2 hx;have Z:Below wr.1.size wr (wr.alloc (.cells #[.int .i64 x.k.obj,.int .i64 x.k.kind,.int .i64 x.k.off,.int .i64 x.a] 148)):=Qk;have b5:Below wr.1.size wr ((wr.alloc (.cells #[.int .i64 x.k.obj,.int .i64 x.k.kind,.int .i64 x.k.off,.int .i64 x.a] 148)).alloc (.cells #[.int .i64 x.a] 3)):=Z.alloc Z.size _;have b8:Jq ((wr.alloc (.cells #[.int .i64 x.k.obj,.int .i64 x.k.kind,.int .i64 x.k.off,.int .i64 x.a] 148)).alloc (.cells #[.int .i64 x.a] 3)) 1 (some ⟨wr.1.size+1,0,none⟩) 1 1 [iv x.a]:=by
     have:=qkw (wr.alloc (.cells #[.int .i64 x.k.obj,.int .i64 x.k.kind,.int .i64 x.k.off,.int .i64 x.a] 148)) x.a;rwa [World.size_alloc] at this
    go_wp2_with (first
     |(at_builtin;refine qa9 _ Qbu rfl _ _ rfl (w.1.size+1) F j G (Uj N j) rfl (own.below b5) (some ⟨wr.1.size+1,0,none⟩) 1 1 [iv x.a] rfl b8 (by omega) (qw6 x.a) (by omega) (by omega) (by have:=b5.size;omega) ?_)
     |fail)
    intro A5 c5 w5 E a8;have O:Below (w.1.size+1) wr w5:=(b5.mono (by omega)).trans a8;have a6:=R.trans (O.mono (by omega));have b3:w.1.size<w5.1.size:=by have:=O.size;omega
    rw[<-E2.out] at E;clear b8;go_wp2;exact⟨⟨j+1,_,_,by omega,by go_num,rfl,E,a6,b3⟩,by simp[intOf];omega⟩
   ·obtain rfl:m=j:=by omega
    have P:Qr wr (w.1.size+1) 3 1 F m G (N.named.map iv):=by
     rw[<-d2.out,<-qcs,b7.out];exact own
    go_wp2;go_ret;exact⟨_,_,_,rfl,P.less (by omega),R⟩
