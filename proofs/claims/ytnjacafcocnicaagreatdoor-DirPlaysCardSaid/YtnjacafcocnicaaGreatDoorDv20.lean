/- The code's node: may, for items and for kids -/
import Derived.Test.YtnjacafcocnicaaGreatDoorDv10
namespace Go.Proofs.YtnjacafcocnicaaGreatDoor
open Go Go.RowKit Go.Proofs Tryz
set_option maxHeartbeats 8000000
set_option maxRecDepth 100000
def Rx (x:Qc):Bool:=decide (x.v.length<=28)
def Ry (x:Qn):Bool:=decide (1<=x.a/\x.a<=2047)
def okI (xs:List Qc)(j:Nat):Bool:=Kz (xs.map (·.k)) j&&Rx (Zc xs j)
def okK (xs:List Qn)(j:Nat):Bool:=Kz (xs.map (·.k)) j&&Ry (Qk xs j)
def Es (xs:List Qc)(lo hi:Int):Bool:=decide (lo<=(xs.length:Int)/\(xs.length:Int)<=hi)&&(List.range xs.length).all (okI xs)
def Et (xs:List Qn)(lo hi:Int):Bool:=decide (lo<=(xs.length:Int)/\(xs.length:Int)<=hi)&&(List.range xs.length).all (okK xs)
theorem qyr {n:Nat}{f:Nat->Bool}{j:Nat}(e:j<n)(h:f j=false):(List.range n).all f=false:=by
 rw[List.all_eq_false];exact⟨j,List.mem_range.2 e,by rw[h];simp⟩
theorem qqz {n:Nat}{f:Nat->Bool}(h:∀j,j<n->f j=true):(List.range n).all f=true:=by
 rw[List.all_eq_true];exact λj e=>h j (List.mem_range.1 e)
theorem qeo (xs:List Qc)(j:Nat):keyAt (xs.map (·.k)) j=(Zc xs j).k:=by
 unfold keyAt Zc;rw[AG,AG,BA]
 cases xs[j]?<;>rfl
theorem qas (xs:List Qn)(j:Nat):keyAt (xs.map (·.k)) j=(Qk xs j).k:=by
 unfold keyAt Qk;rw[AG,AG,BA]
 cases xs[j]?<;>rfl
theorem qr0 (xs:List Qc)(A:OA)(n c:Nat)(lo hi:Int)(w:WD)(hI:J3 w A n c xs)(hn:n<=100000) :
  Calls prog 164 #[.slice A n c,.int .i64 lo,.int .i64 hi,.func (.func 116) #[] #[],.func (.func 165) #[] #[]] w λe w'=>e=.returned (.bool (Es xs lo hi))/\Below w.1.size w w':=by
 have M:=HI hI.len;obtain⟨b2,b0⟩:=hI.bounds;unfold maxLen at b0;go_enter func164,ntmps164
 go_wp2_with fail
 refine (q3f (n:Int) lo hi _ rfl _).mono ?_
 cases hr:decide (lo<=(n:Int)/\(n:Int)<=hi)
 ·rintro e w1 ⟨rfl,rfl⟩;go_wp2;go_ret;exact⟨by unfold Es;rw[M.out,hr];rfl,AI _ _⟩
 ·rintro e w1 ⟨rfl,rfl⟩;have O:=HI (show Es xs lo hi=(List.range n).all (okI xs) by unfold Es;rw[M.out,hr];rfl);clear hr;go_wp2_with fail
  go_loopw [21] (λi wr=>∃j:Nat,j<=n/\i=.int .i64 (j:Int)/\(∀q,q<j->okI xs q=true)/\Below w.1.size w wr) (λi _=>n-(intOf i).toNat)
  case atStart=>exact⟨0,AW _,rfl,λq hq=>by omega,AI _ _⟩
  case round=>
   obtain⟨j,hj,rfl,P,hB⟩:=hrel;by_cases Y:j<n
   ·have X:=hI.below hB;obtain⟨g,o,F,E,G,hA,hg,c0,c1,c2,c3,Z⟩:=X.cell Y;subst hA;obtain⟨x,hx⟩:∃x,Zc xs j=x:=⟨_,rfl⟩;have J:=HI (show okI xs j=((x.k.may&&(decide (j=0)||(Zc xs (j-1)).k.less x.k))&&Rx x) by unfold okI Kz;rw[qeo,qeo,hx]);rw[hx] at c0 c1 c2 Z;have a6:=Z.len;obtain⟨f,D⟩:∃f,decide (E<=28)=f:=⟨_,rfl⟩;have H:=HI (show Rx x=f by unfold Rx;rw[a6,D]);clear a6;obtain⟨k,hk⟩:∃k,x.k=k:=⟨_,rfl⟩;rw[hk] at c0 c1 c2;obtain⟨r,hm⟩:∃r,k.may=r:=⟨_,rfl⟩;have Hk:=HI hk;clear hk hx;go_wp2_with fail
    have T:Below wr.1.size wr (wr.alloc (.cells #[.int .i64 k.obj,.int .i64 k.kind,.int .i64 k.off,.slice F E G] 50)):=Qi;have W:(wr.alloc (.cells #[.int .i64 k.obj,.int .i64 k.kind,.int .i64 k.off,.slice F E G] 50)).1[wr.1.size]?=some (.cells #[.int .i64 k.obj,.int .i64 k.kind,.int .i64 k.off,.slice F E G] 50 (0,0)):=BE wr _;have zx:wr.1.size<(wr.alloc (.cells #[.int .i64 k.obj,.int .i64 k.kind,.int .i64 k.off,.slice F E G] 50)).1.size:=by simp
    generalize wr.alloc (.cells #[.int .i64 k.obj,.int .i64 k.kind,.int .i64 k.off,.slice F E G] 50)=K at T W zx ⊢;have q0:∀u:Grown K,u.to.cell? ⟨wr.1.size,0,none⟩=some (.int .i64 k.obj):=Grown.cell (by rw[cell_of_row _ _ _ _ _ _ W];rfl) zx;have q1:∀u:Grown K,u.to.cell? ⟨wr.1.size,1,none⟩=some (.int .i64 k.kind):=Grown.cell (by rw[cell_of_row _ _ _ _ _ _ W];rfl) zx;have q2:∀u:Grown K,u.to.cell? ⟨wr.1.size,2,none⟩=some (.int .i64 k.off):=Grown.cell (by rw[cell_of_row _ _ _ _ _ _ W];rfl) zx;have q3:∀u:Grown K,u.to.cell? ⟨wr.1.size,3,none⟩=some (.slice F E G):=Grown.cell (by rw[cell_of_row _ _ _ _ _ _ W];rfl) zx;have B:=hB.trans (T.mono hB.size);clear c0 c1 c2 c3 W;have fin:∀b,okI xs j=b->b=false->Es xs lo hi=false:=λb h1 h2=>by rw[O.out];exact qyr Y (h1.trans h2)
    have R:=HI fin;clear fin
    cases r
    ·refine Ux (by kernel_rfl) (by kernel_rfl) ?_;repeat (go_big_quiet_step (first
      |(go_at_call 116;exact Calls.grown (q2o k F E G _))
      |(go_at_call 69;exact Calls.grown (q2x k false hm _))
      |fail))
     refine wpQuiet_nil ?_;rintro _ ⟨u,rfl⟩;have m:=B.trans (u.ok.mono B.size);go_wp2;go_ret;exact⟨by rw[R.out _ J.out (by rw[Hk.out,hm];rfl)];rfl,m⟩
    ·cases f
     ·refine Ux (by kernel_rfl) (by kernel_rfl) ?_;repeat (go_big_quiet_step (first
       |(go_at_call 116;exact Calls.grown (q2o k F E G _))
       |(go_at_call 165;exact Calls.grown (qc1 k F E G _ D _))
       |(go_at_call 69;exact Calls.grown (q2x k true hm _))
       |fail))
      refine wpQuiet_nil ?_;rintro _ ⟨u,rfl⟩;have m:=B.trans (u.ok.mono B.size);go_wp2;go_ret;exact⟨by rw[R.out _ J.out (by rw[H.out,Bool.and_false])];rfl,m⟩
     ·rcases j with _|q
      ·refine Ux (by kernel_rfl) (by kernel_rfl) ?_;repeat (go_big_quiet_step (first
        |(go_at_call 116;exact Calls.grown (q2o k F E G _))
        |(go_at_call 165;exact Calls.grown (qc1 k F E G _ D _))
        |(go_at_call 69;exact Calls.grown (q2x k true hm _))
        |fail))
       refine wpQuiet_nil ?_;rintro _ ⟨u,rfl⟩;have m:=B.trans (u.ok.mono B.size);go_wp2;refine⟨⟨1,by omega,rfl,λq hq=>?_,m⟩,by simp[intOf];omega⟩;obtain rfl:q=0:=by omega
       rw[J.out,Hk.out,hm,H.out];rfl
      ·obtain⟨g',o',B2,m2,d2,U,_,a0,a1,a2,a3,_⟩:=X.cell (show q<n by omega);injection U with U;injection U with e1 e2;subst e1 e2;obtain⟨y,hy⟩:∃y,Zc xs q=y:=⟨_,rfl⟩;rw[hy] at a0 a1 a2;obtain⟨l,V⟩:∃l,y.k=l:=⟨_,rfl⟩;rw[V] at a0 a1 a2;obtain⟨s,hl⟩:∃s,l.less k=s:=⟨_,rfl⟩;have Q:=HI (show okI xs (q+1)=s by rw[J.out,Hk.out,hm,H.out,show q+1-1=q by omega,hy,V,hl];simp);clear hy V;have I:g<K.1.size:=by have:=T.size;omega
       have p0:∀u:Grown K,u.to.cell? ⟨g,o+q*4,none⟩=some (.int .i64 l.obj):=Grown.cell ((T.cell (p:=⟨g,_,none⟩) hg).trans a0) I;have p1:∀u:Grown K,u.to.cell? ⟨g,o+q*4+1,none⟩=some (.int .i64 l.kind):=Grown.cell ((T.cell (p:=⟨g,_,none⟩) hg).trans a1) I;have p2:∀u:Grown K,u.to.cell? ⟨g,o+q*4+2,none⟩=some (.int .i64 l.off):=Grown.cell ((T.cell (p:=⟨g,_,none⟩) hg).trans a2) I;have p3:∀u:Grown K,u.to.cell? ⟨g,o+q*4+3,none⟩=some (.slice B2 m2 d2):=Grown.cell ((T.cell (p:=⟨g,_,none⟩) hg).trans a3) I;clear a0 a1 a2 a3;have b3:(0:Int)<=(q:Int):=by omega
       have b4:(q:Int)<(n:Int):=by omega
       have b1:(0:Int)<(q:Int)+1:=by omega
       have a7:IntKind.i64.wrap (q:Int)=(q:Int):=IntWalk.i64_in _ (by omega);have b6:IntKind.i64.wrap ((q:Int)+1-1)=(q:Int):=by rw[Int.add_sub_cancel];exact a7
       have b5:IntKind.i64.wrap (((q+1:Nat):Int)-1)=(q:Int):=by rw[show ((q+1:Nat):Int)-1=(q:Int) by omega];exact a7
       refine Ux (by kernel_rfl) (by kernel_rfl) ?_;repeat (go_big_quiet_step (first
        |(go_at_call 116;exact Calls.grown (q2o k F E G _))
        |(go_at_call 116;exact Calls.grown (q2o l B2 m2 d2 _))
        |(go_at_call 165;exact Calls.grown (qc1 k F E G _ D _))
        |(go_at_call 69;exact Calls.grown (q2x k true hm _))
        |(go_at_call 33;exact Calls.grown (q7m l k s hl _))
        |fail))
       refine wpQuiet_nil ?_;rintro _ ⟨u,rfl⟩;have m:=B.trans (u.ok.mono B.size)
       cases s
       ·go_wp2;go_ret;exact⟨by rw[R.out _ Q.out rfl];rfl,m⟩
       ·go_wp2;refine⟨⟨q+2,by omega,by go_num,λp hp=>?_,m⟩,by simp[intOf];omega⟩;rcases (by omega:p<q+1\/p=q+1) with h1|rfl
        ·exact P p h1
        ·exact Q.out
   ·obtain rfl:j=n:=by omega
    have a8:=HI (show Es xs lo hi=true by rw[O.out];exact qqz P);go_wp2;go_ret;exact⟨by rw[a8.out];rfl,hB⟩
theorem qr1 (xs:List Qn)(A:OA)(n c:Nat)(lo hi:Int)(w:WD)(hI:Zr w A n c xs)(hn:n<=100000) :
  Calls prog 167 #[.slice A n c,.int .i64 lo,.int .i64 hi,.func (.func 119) #[] #[],.func (.func 168) #[] #[]] w λe w'=>e=.returned (.bool (Et xs lo hi))/\Below w.1.size w w':=by
 have I:=HI hI.len;obtain⟨a8,a6⟩:=hI.bounds;unfold maxLen at a6;go_enter func167,ntmps167
 go_wp2_with fail
 refine (q3f (n:Int) lo hi _ rfl _).mono ?_
 cases hr:decide (lo<=(n:Int)/\(n:Int)<=hi)
 ·rintro e w1 ⟨rfl,rfl⟩;go_wp2;go_ret;exact⟨by unfold Et;rw[I.out,hr];rfl,AI _ _⟩
 ·rintro e w1 ⟨rfl,rfl⟩;have J:=HI (show Et xs lo hi=(List.range n).all (okK xs) by unfold Et;rw[I.out,hr];rfl);clear hr;go_wp2_with fail
  go_loopw [21] (λi wr=>∃j:Nat,j<=n/\i=.int .i64 (j:Int)/\(∀q,q<j->okK xs q=true)/\Below w.1.size w wr) (λi _=>n-(intOf i).toNat)
  case atStart=>exact⟨0,AW _,rfl,λq hq=>by omega,AI _ _⟩
  case round=>
   obtain⟨j,hj,rfl,K,hB⟩:=hrel;by_cases V:j<n
   ·have U:=hI.below hB;obtain⟨g,o,hA,hg,c0,c1,c2,c3⟩:=U.cell V;subst hA;obtain⟨x,hx⟩:∃x,Qk xs j=x:=⟨_,rfl⟩;have G:=HI (show okK xs j=((x.k.may&&(decide (j=0)||(Qk xs (j-1)).k.less x.k))&&Ry x) by unfold okK Kz;rw[qas,qas,hx]);rw[hx] at c0 c1 c2 c3;obtain⟨v,hv⟩:∃v,x.a=v:=⟨_,rfl⟩;rw[hv] at c3;obtain⟨f,D⟩:∃f,decide (1<=v/\v<=2047)=f:=⟨_,rfl⟩;have E:=HI (show Ry x=f by unfold Ry;rw[hv,D]);clear hv;obtain⟨k,hk⟩:∃k,x.k=k:=⟨_,rfl⟩;rw[hk] at c0 c1 c2;obtain⟨r,hm⟩:∃r,k.may=r:=⟨_,rfl⟩;have Hk:=HI hk;clear hk hx;go_wp2_with fail
    have P:Below wr.1.size wr (wr.alloc (.cells #[.int .i64 k.obj,.int .i64 k.kind,.int .i64 k.off,.int .i64 v] 125)):=Qi;have T:(wr.alloc (.cells #[.int .i64 k.obj,.int .i64 k.kind,.int .i64 k.off,.int .i64 v] 125)).1[wr.1.size]?=some (.cells #[.int .i64 k.obj,.int .i64 k.kind,.int .i64 k.off,.int .i64 v] 125 (0,0)):=BE wr _;have Z:wr.1.size<(wr.alloc (.cells #[.int .i64 k.obj,.int .i64 k.kind,.int .i64 k.off,.int .i64 v] 125)).1.size:=by simp
    generalize wr.alloc (.cells #[.int .i64 k.obj,.int .i64 k.kind,.int .i64 k.off,.int .i64 v] 125)=H at P T Z ⊢;have q0:∀u:Grown H,u.to.cell? ⟨wr.1.size,0,none⟩=some (.int .i64 k.obj):=Grown.cell (by rw[cell_of_row _ _ _ _ _ _ T];rfl) Z;have q1:∀u:Grown H,u.to.cell? ⟨wr.1.size,1,none⟩=some (.int .i64 k.kind):=Grown.cell (by rw[cell_of_row _ _ _ _ _ _ T];rfl) Z;have q2:∀u:Grown H,u.to.cell? ⟨wr.1.size,2,none⟩=some (.int .i64 k.off):=Grown.cell (by rw[cell_of_row _ _ _ _ _ _ T];rfl) Z;have q3:∀u:Grown H,u.to.cell? ⟨wr.1.size,3,none⟩=some (.int .i64 v):=Grown.cell (by rw[cell_of_row _ _ _ _ _ _ T];rfl) Z;have B:=hB.trans (P.mono hB.size);clear c0 c1 c2 c3 T;have fin:∀b,okK xs j=b->b=false->Et xs lo hi=false:=λb h1 h2=>by rw[J.out];exact qyr V (h1.trans h2)
    have O:=HI fin;clear fin
    cases r
    ·refine Ux (by kernel_rfl) (by kernel_rfl) ?_;repeat (go_big_quiet_step (first
      |(go_at_call 119;exact Calls.grown (q2p k v _))
      |(go_at_call 69;exact Calls.grown (q2x k false hm _))
      |fail))
     refine wpQuiet_nil ?_;rintro _ ⟨u,rfl⟩;have m:=B.trans (u.ok.mono B.size);go_wp2;go_ret;exact⟨by rw[O.out _ G.out (by rw[Hk.out,hm];rfl)];rfl,m⟩
    ·cases f
     ·refine Ux (by kernel_rfl) (by kernel_rfl) ?_;repeat (go_big_quiet_step (first
       |(go_at_call 119;exact Calls.grown (q2p k v _))
       |(go_at_call 168;exact Calls.grown (qc2 k v _ D _))
       |(go_at_call 69;exact Calls.grown (q2x k true hm _))
       |fail))
      refine wpQuiet_nil ?_;rintro _ ⟨u,rfl⟩;have m:=B.trans (u.ok.mono B.size);go_wp2;go_ret;exact⟨by rw[O.out _ G.out (by rw[E.out,Bool.and_false])];rfl,m⟩
     ·rcases j with _|q
      ·refine Ux (by kernel_rfl) (by kernel_rfl) ?_;repeat (go_big_quiet_step (first
        |(go_at_call 119;exact Calls.grown (q2p k v _))
        |(go_at_call 168;exact Calls.grown (qc2 k v _ D _))
        |(go_at_call 69;exact Calls.grown (q2x k true hm _))
        |fail))
       refine wpQuiet_nil ?_;rintro _ ⟨u,rfl⟩;have m:=B.trans (u.ok.mono B.size);go_wp2;refine⟨⟨1,by omega,rfl,λq hq=>?_,m⟩,by simp[intOf];omega⟩;obtain rfl:q=0:=by omega
       rw[G.out,Hk.out,hm,E.out];rfl
      ·obtain⟨g',o',Q,_,a0,a1,a2,a3⟩:=U.cell (show q<n by omega);injection Q with Q;injection Q with e1 e2;subst e1 e2;obtain⟨y,hy⟩:∃y,Qk xs q=y:=⟨_,rfl⟩;rw[hy] at a0 a1 a2 a3;obtain⟨v2,W⟩:∃v2,y.a=v2:=⟨_,rfl⟩;rw[W] at a3;clear W;obtain⟨l,R⟩:∃l,y.k=l:=⟨_,rfl⟩;rw[R] at a0 a1 a2;obtain⟨s,hl⟩:∃s,l.less k=s:=⟨_,rfl⟩;have M:=HI (show okK xs (q+1)=s by rw[G.out,Hk.out,hm,E.out,show q+1-1=q by omega,hy,R,hl];simp);clear hy R;have F:g<H.1.size:=by have:=P.size;omega
       have p0:∀u:Grown H,u.to.cell? ⟨g,o+q*4,none⟩=some (.int .i64 l.obj):=Grown.cell ((P.cell (p:=⟨g,_,none⟩) hg).trans a0) F;have p1:∀u:Grown H,u.to.cell? ⟨g,o+q*4+1,none⟩=some (.int .i64 l.kind):=Grown.cell ((P.cell (p:=⟨g,_,none⟩) hg).trans a1) F;have p2:∀u:Grown H,u.to.cell? ⟨g,o+q*4+2,none⟩=some (.int .i64 l.off):=Grown.cell ((P.cell (p:=⟨g,_,none⟩) hg).trans a2) F;have p3:∀u:Grown H,u.to.cell? ⟨g,o+q*4+3,none⟩=some (.int .i64 v2):=Grown.cell ((P.cell (p:=⟨g,_,none⟩) hg).trans a3) F;clear a0 a1 a2 a3;have b0:(0:Int)<=(q:Int):=by omega
       have b1:(q:Int)<(n:Int):=by omega
       have a7:(0:Int)<(q:Int)+1:=by omega
       have X:IntKind.i64.wrap (q:Int)=(q:Int):=IntWalk.i64_in _ (by omega);have b3:IntKind.i64.wrap ((q:Int)+1-1)=(q:Int):=by rw[Int.add_sub_cancel];exact X
       have b2:IntKind.i64.wrap (((q+1:Nat):Int)-1)=(q:Int):=by rw[show ((q+1:Nat):Int)-1=(q:Int) by omega];exact X
       refine Ux (by kernel_rfl) (by kernel_rfl) ?_;repeat (go_big_quiet_step (first
        |(go_at_call 119;exact Calls.grown (q2p k v _))
        |(go_at_call 119;exact Calls.grown (q2p l v2 _))
        |(go_at_call 168;exact Calls.grown (qc2 k v _ D _))
        |(go_at_call 69;exact Calls.grown (q2x k true hm _))
        |(go_at_call 33;exact Calls.grown (q7m l k s hl _))
        |fail))
       refine wpQuiet_nil ?_;rintro _ ⟨u,rfl⟩;have m:=B.trans (u.ok.mono B.size)
       cases s
       ·go_wp2;go_ret;exact⟨by rw[O.out _ M.out rfl];rfl,m⟩
       ·go_wp2;refine⟨⟨q+2,by omega,by go_num,λp hp=>?_,m⟩,by simp[intOf];omega⟩;rcases (by omega:p<q+1\/p=q+1) with h1|rfl
        ·exact K p h1
        ·exact M.out
   ·obtain rfl:j=n:=by omega
    have Y:=HI (show Et xs lo hi=true by rw[J.out];exact qqz K);go_wp2;go_ret;exact⟨by rw[Y.out];rfl,hB⟩
theorem qep {n:Nat}{f:Nat->Bool}:(List.range n).all f=true↔∀j,j<n->f j=true:=by
 rw[List.all_eq_true];exact⟨λh j e=>h j (List.mem_range.2 e),λh j e=>h j (List.mem_range.1 e)⟩
theorem qjg (N:Nd):q6a N=true↔∀j,j<N.items.length->Rx (Zc N.items j)=true:=by
 constructor
 ·intro h j e;unfold q6a at h;exact List.all_eq_true.1 h _ (List.mem_of_getElem? (q22 e))
 ·intro h;exact qiv λj e=>AK (h j e)
theorem qo6 (N:Nd):Az N=true↔∀j,j<N.kids.length->Ry (Qk N.kids j)=true:=by
 constructor
 ·intro h j e;unfold Az at h;have:=AK (List.all_eq_true.1 h _ (List.mem_of_getElem? (q16 e)));exact AL (by omega)
 ·intro h;refine qnj λj e=>?_
  have:=AK (h j e);omega
theorem qlm (N:Nd)(h:N.lvl=0)(m:N.kids.length=0):N.may=Es N.items 1 6:=by
 have f:N.keys=N.items.map (·.k):=by unfold Nd.keys;rw[BF m];simp
 unfold Nd.may Es;rw[AA h,f,Bool.eq_iff_iff];simp only[BN,decide_eq_true_eq,qjg,rises,okI,qep,AF];constructor
 ·rintro⟨h1,h2,p⟩;exact⟨by omega,λj e=>⟨h2 j e,h1 j e⟩⟩
 ·rintro⟨h1,h2⟩;exact⟨λj e=>(h2 j e).2,λj e=>(h2 j e).1,by omega⟩
theorem qjh (N:Nd)(h:N.lvl=0)(e:¬N.kids.length=0):N.may=false:=by
 unfold Nd.may;rw[AA h,AH (by omega),Bool.and_false,Bool.and_false]
theorem qgs (N:Nd)(h:¬N.lvl=0)(p:1<=N.lvl/\N.lvl<=7)(hi:N.items.length=0):N.may=Et N.kids 2 12:=by
 have f:N.keys=N.kids.map (·.k):=by unfold Nd.keys;rw[BF hi];simp
 unfold Nd.may Et;rw[AB h,f,Bool.eq_iff_iff];simp only[BN,decide_eq_true_eq,qo6,rises,okK,qep,AF];constructor
 ·rintro⟨h1,h2,m⟩;exact⟨by omega,λj e=>⟨h2 j e,h1 j e⟩⟩
 ·rintro⟨h1,h2⟩;exact⟨λj e=>(h2 j e).2,λj e=>(h2 j e).1,by omega⟩
theorem q95 (N:Nd)(h:¬N.lvl=0)(e:¬((1<=N.lvl/\N.lvl<=7)/\N.items.length=0)):N.may=false:=by
 unfold Nd.may;rw[AB h,AH (by omega),Bool.and_false,Bool.and_false]
theorem q2g (N:Nd)(r:Bool)(I:N.may=r)(A:OA)(n c:Nat)(B:OA)(m d:Nat)(w:WD)(P:J3 w A n c N.items)(Q:Zr w B m d N.kids)(hn:n<=1000)(hm:m<=1000) :
  Calls prog 114 #[.agg #[.int .i64 N.lvl,.slice A n c,.slice B m d]] w λe X=>e=.returned (.bool r)/\Below w.1.size w X:=by
 have G:=HI P.len;have H:=HI Q.len;go_enter func114,ntmps114
 go_wp2_with fail
 have u:NB (w.alloc (.cells #[.int .i64 N.lvl,.slice A n c,.slice B m d] 74)) w.1.size N.lvl A n c B m d:=NB.new w _ _ _ _ _ _ _ _;have D:Below w.1.size w (w.alloc (.cells #[.int .i64 N.lvl,.slice A n c,.slice B m d] 74)):=Qi;generalize w.alloc (.cells #[.int .i64 N.lvl,.slice A n c,.slice B m d] 74)=R at u D ⊢;by_cases F:N.lvl=0
 ·refine (q1c N.lvl true (AL F) A n c B m d R).mono ?_;rintro e T ⟨rfl,p⟩;have y:=u.below p u.lt;have q:=D.trans (p.mono D.size);have U:=y.c0;have V:=y.c1;have W:=y.c2;clear u D p;by_cases K:m=0
  ·have f:=HI (show r=Es N.items 1 6 by rw[<-I];exact qlm N F (by rw[H.out];exact K));subst K;go_wp2_with fail
   refine (qr0 N.items A n c 1 6 T (P.below q) (by omega)).mono ?_;rintro e O ⟨rfl,E⟩;have J:=q.trans (E.mono q.size);go_wp2;go_ret;exact⟨by rw[f.out];rfl,J⟩
  ·have f:=HI (show r=false by rw[<-I];exact qjh N F (by rw[H.out];exact K));have h1:((m:Int)==0)=false:=by simp;omega
   have h2:decide ((m:Int)=0)=false:=AH (by omega);go_wp2;go_ret;exact⟨by rw[f.out];rfl,q⟩
 ·refine (q1c N.lvl false (AH F) A n c B m d R).mono ?_;rintro e T ⟨rfl,p⟩;have y:=u.below p u.lt;have q:=D.trans (p.mono D.size);have U:=y.c0;have V:=y.c1;have W:=y.c2;clear u D p;go_wp2_with fail
  by_cases M:1<=N.lvl/\N.lvl<=7
  ·refine (q3f N.lvl 1 7 true (AL M) _).mono ?_;rintro e O ⟨rfl,rfl⟩;by_cases hi:n=0
   ·have f:=HI (show r=Et N.kids 2 12 by rw[<-I];exact qgs N F M (by rw[G.out];exact hi));subst hi;go_wp2_with fail
    refine (qr1 N.kids B m d 2 12 _ (Q.below q) (by omega)).mono ?_;rintro e O ⟨rfl,E⟩;have J:=q.trans (E.mono q.size);go_wp2;go_ret;exact⟨by rw[f.out];rfl,J⟩
   ·have f:=HI (show r=false by rw[<-I];exact q95 N F (by rw[G.out];omega));have h1:((n:Int)==0)=false:=by simp;omega
    have h2:decide ((n:Int)=0)=false:=AH (by omega);go_wp2;go_ret;exact⟨by rw[f.out];rfl,q⟩
  ·refine (q3f N.lvl 1 7 false (AH M) _).mono ?_;rintro e O ⟨rfl,rfl⟩;have f:=HI (show r=false by rw[<-I];exact q95 N F (by omega));go_wp2;go_ret;exact⟨by rw[f.out];rfl,q⟩
def Nd.fit (N:Nd):Prop:=(N.lvl=0->N.kids=[])/\(¬N.lvl=0->N.items=[])
theorem Tc {N:Nd}(hm:N.may=true):N.fit:=by
 constructor
 ·intro e;refine BF ?_;unfold Nd.may at hm;rw[AA e,BN,BN] at hm;exact (AK hm.2.2).1
 ·intro e;refine BF ?_;unfold Nd.may at hm;rw[AB e,BN,BN] at hm;exact (AK hm.2.2).2.2.1
theorem qln {N:Nd}(h:N.fit)(e:N.lvl=0):N.keys=N.items.map (·.k):=by unfold Nd.keys;rw[h.1 e];simp
theorem qgt {N:Nd}(h:N.fit)(e:¬N.lvl=0):N.keys=N.kids.map (·.k):=by unfold Nd.keys;rw[h.2 e];simp
theorem q4r (N:Nd)(F:N.fit)(k:Kd)(t:Nat)(V:N.Zw k=t)(r:Bool)(U:U6 N.keys k t=r)(A:OA)(n c:Nat)(B:OA)(m d:Nat)(w:WD)(hI:J3 w A n c N.items)(Z:Zr w B m d N.kids)(hn:n<=1000)(hm:m<=1000) :
  Calls prog 60 #[.agg #[.int .i64 N.lvl,.slice A n c,.slice B m d],.agg #[.int .i64 k.obj,.int .i64 k.kind,.int .i64 k.off]] w λe w'=>e=.returned (.tuple #[.int .i64 (t:Int),.bool r])/\Below w.1.size w w':=by
 have X:=HI Z.len;go_enter func60,ntmps60
 go_wp2_with fail
 have M:NB ((w.alloc (.cells #[.int .i64 N.lvl,.slice A n c,.slice B m d] 74)).alloc (.cells #[.int .i64 k.obj,.int .i64 k.kind,.int .i64 k.off] 45)) w.1.size N.lvl A n c B m d:=(NB.new w _ _ _ _ _ _ _ _).below (Qi) (by simp);have J:KB ((w.alloc (.cells #[.int .i64 N.lvl,.slice A n c,.slice B m d] 74)).alloc (.cells #[.int .i64 k.obj,.int .i64 k.kind,.int .i64 k.off] 45)) (w.1.size+1) k:=KB.new2 w _ k.obj k.kind k.off _;have O:Below w.1.size w ((w.alloc (.cells #[.int .i64 N.lvl,.slice A n c,.slice B m d] 74)).alloc (.cells #[.int .i64 k.obj,.int .i64 k.kind,.int .i64 k.off] 45)):=(Qi).alloc (by simp) _;generalize (w.alloc (.cells #[.int .i64 N.lvl,.slice A n c,.slice B m d] 74)).alloc (.cells #[.int .i64 k.obj,.int .i64 k.kind,.int .i64 k.off] 45)=w1 at M J O ⊢;by_cases G:N.lvl=0
 ·have y:=qln F G;have u:=HI (show lead (N.items.map (·.k)) k=t by rw[<-V];unfold Nd.Zw;rw[AA G,y]);have f:=HI (show U6 (N.items.map (·.k)) k t=r by rw[<-U,y]);refine (q1c N.lvl true (AL G) A n c B m d w1).mono ?_;rintro e w2 ⟨rfl,p⟩;have E:=M.below p M.lt;have D:=J.below p J.lt;have H:=O.trans (p.mono O.size);have q1:=E.c1;have Q:=D.c0;have R:=D.c1;have T:=D.c2;clear G y V U M J O p;go_wp2_with fail
  refine (quc N.items k A n c w2 (hI.below H) (by omega)).mono ?_;rw[u.out];rintro e w3 ⟨rfl,q⟩;have Y:=E.below q E.lt;have K:=D.below q D.lt;have I:=H.trans (q.mono H.size);clear q1 Q R T;have q1:=Y.c1;have Q:=K.c0;have R:=K.c1;have T:=K.c2;clear E D q;go_wp2_with fail
  refine (qim N.items t k r f.out A n c w3 (hI.below I) (by omega)).mono ?_;rintro e w4 ⟨rfl,P⟩;have W:=I.trans (P.mono I.size);go_wp2;go_ret2;exact⟨rfl,W⟩
 ·have y:=qgt F G;have u:=HI (show lastTo (N.kids.map (·.k)) k m=t by rw[<-V];unfold Nd.Zw;rw[AB G,y,AF,X.out]);have f:=HI (show U6 (N.kids.map (·.k)) k t=r by rw[<-U,y]);refine (q1c N.lvl false (AH G) A n c B m d w1).mono ?_;rintro e w2 ⟨rfl,p⟩;have E:=M.below p M.lt;have D:=J.below p J.lt;have H:=O.trans (p.mono O.size);have q2:=E.c2;have Q:=D.c0;have R:=D.c1;have T:=D.c2;clear G y V U M J O p;go_wp2_with fail
  refine (qud N.kids k B m d w2 (Z.below H) (by omega)).mono ?_;rw[u.out];rintro e w3 ⟨rfl,q⟩;have Y:=E.below q E.lt;have K:=D.below q D.lt;have I:=H.trans (q.mono H.size);clear q2 Q R T;have q2:=Y.c2;have Q:=K.c0;have R:=K.c1;have T:=K.c2;clear E D q;go_wp2_with fail
  refine (qin N.kids t k r f.out B m d w3 (Z.below I) (by omega)).mono ?_;rintro e w4 ⟨rfl,P⟩;have W:=I.trans (P.mono I.size);go_wp2;go_ret2;exact⟨rfl,W⟩
theorem qji (xs:List Qc)(z:Kd)(y:(if (xs.map (·.k)).length=0 then ⟨0,0,0⟩ else keyAt (xs.map (·.k)) 0)=z)(A:OA)(n c:Nat)(w:WD)(E:J3 w A n c xs) :
  Calls prog 225 #[.slice A n c,.func (.func 116) #[] #[]] w λe Q=>e=.returned (.agg #[.int .i64 z.obj,.int .i64 z.kind,.int .i64 z.off])/\Below w.1.size w Q:=by
 have f:=E.len;obtain⟨M,F⟩:=E.bounds;unfold maxLen at F;have q:KB (w.alloc (.cells #[.int .i64 0,.int .i64 0,.int .i64 0] 45)) w.1.size ⟨0,0,0⟩:=KB.new w 0 0 0 _;have u:Below w.1.size w (w.alloc (.cells #[.int .i64 0,.int .i64 0,.int .i64 0] 45)):=Qi;by_cases h0:n=0
 ·obtain rfl:(⟨0,0,0⟩:Kd)=z:=by rw[<-y,AA (by rw[AF,f];exact h0)]
  subst h0;clear y f;go_enter func225,ntmps225
  go_wp2_with (first
   |(refine q1i rfl (.tmp 4) (.tmp 8) rfl w.1.size rfl ⟨0,0,0⟩ _ rfl q ?_;intro T B D)
   |fail)
  refine bodyPost_ret (Rh Tryz.results225 rfl (q3e B)) rfl ?_;exact⟨rfl,u.trans ((D.Za q.lt).mono (AE _))⟩
 ·have p:keyAt (xs.map (·.k)) 0=z:=by rw[<-y,AB (by rw[AF,f];exact h0)]
  rw[qub] at p;obtain⟨g,o,H,P,J,K,O,c0,c1,c2,c3,_⟩:=(E.below u).cell (show 0<n by omega);subst K;rw[Nat.zero_mul,Nat.add_zero] at c0 c1 c2 c3;rw[p] at c0 c1 c2;clear y p f;have h1:((n:Int)==0)=false:=by simp;omega
  have h2:decide ((n:Int)=0)=false:=AH (by omega);have U:(0:Int)<(n:Int):=by omega
  go_enter func225,ntmps225
  go_wp2_with fail
  generalize w.alloc (.cells #[.int .i64 0,.int .i64 0,.int .i64 0] 45)=R at q u O c0 c1 c2 c3 ⊢;go_wp2_with fail
  refine (q2o z H P J R).mono ?_;rintro e V ⟨rfl,m⟩;have G:=q.below m q.lt;have I:=u.trans (m.mono u.size);go_wp2_with (first
   |(refine q1i rfl (.tmp 4) (.tmp 13) rfl w.1.size rfl z _ rfl G ?_;intro T B D)
   |fail)
  refine bodyPost_ret (Rh Tryz.results225 rfl (q3e B)) rfl ?_;exact⟨rfl,I.trans ((D.Za G.lt).mono (AE _))⟩
theorem qjj (xs:List Qn)(z:Kd)(y:(if (xs.map (·.k)).length=0 then ⟨0,0,0⟩ else keyAt (xs.map (·.k)) 0)=z)(A:OA)(n c:Nat)(w:WD)(E:Zr w A n c xs) :
  Calls prog 226 #[.slice A n c,.func (.func 119) #[] #[]] w λe O=>e=.returned (.agg #[.int .i64 z.obj,.int .i64 z.kind,.int .i64 z.off])/\Below w.1.size w O:=by
 have f:=E.len;obtain⟨K,F⟩:=E.bounds;unfold maxLen at F;have q:KB (w.alloc (.cells #[.int .i64 0,.int .i64 0,.int .i64 0] 45)) w.1.size ⟨0,0,0⟩:=KB.new w 0 0 0 _;have u:Below w.1.size w (w.alloc (.cells #[.int .i64 0,.int .i64 0,.int .i64 0] 45)):=Qi;by_cases h0:n=0
 ·obtain rfl:(⟨0,0,0⟩:Kd)=z:=by rw[<-y,AA (by rw[AF,f];exact h0)]
  subst h0;clear y f;go_enter func226,ntmps226
  go_wp2_with (first
   |(refine q1i rfl (.tmp 4) (.tmp 8) rfl w.1.size rfl ⟨0,0,0⟩ _ rfl q ?_;intro Q B D)
   |fail)
  refine bodyPost_ret (Rh Tryz.results226 rfl (q3e B)) rfl ?_;exact⟨rfl,u.trans ((D.Za q.lt).mono (AE _))⟩
 ·have p:keyAt (xs.map (·.k)) 0=z:=by rw[<-y,AB (by rw[AF,f];exact h0)]
  rw[qkq] at p;obtain⟨g,o,J,M,c0,c1,c2,c3⟩:=(E.below u).cell (show 0<n by omega);subst J;rw[Nat.zero_mul,Nat.add_zero] at c0 c1 c2 c3;obtain⟨v,H⟩:∃v,(Qk xs 0).a=v:=⟨_,rfl⟩;rw[H] at c3;clear H;rw[p] at c0 c1 c2;clear y p f;have h1:((n:Int)==0)=false:=by simp;omega
  have h2:decide ((n:Int)=0)=false:=AH (by omega);have R:(0:Int)<(n:Int):=by omega
  go_enter func226,ntmps226
  go_wp2_with fail
  generalize w.alloc (.cells #[.int .i64 0,.int .i64 0,.int .i64 0] 45)=P at q u M c0 c1 c2 c3 ⊢;go_wp2_with fail
  refine (q2p z v P).mono ?_;rintro e T ⟨rfl,m⟩;have G:=q.below m q.lt;have I:=u.trans (m.mono u.size);go_wp2_with (first
   |(refine q1i rfl (.tmp 4) (.tmp 13) rfl w.1.size rfl z _ rfl G ?_;intro Q B D)
   |fail)
  refine bodyPost_ret (Rh Tryz.results226 rfl (q3e B)) rfl ?_;exact⟨rfl,I.trans ((D.Za G.lt).mono (AE _))⟩
theorem qjk (N:Nd)(q:N.fit)(z:Kd)(I:N.least=z)(A:OA)(n c:Nat)(B:OA)(m d:Nat)(w:WD)(T:J3 w A n c N.items)(U:Zr w B m d N.kids) :
  Calls prog 197 #[.agg #[.int .i64 N.lvl,.slice A n c,.slice B m d]] w λe V=>e=.returned (.agg #[.int .i64 z.obj,.int .i64 z.kind,.int .i64 z.off])/\Below w.1.size w V:=by
 go_enter func197,ntmps197
 go_wp2_with fail
 have y:NB ((w.alloc (.cells #[.int .i64 N.lvl,.slice A n c,.slice B m d] 74)).alloc (.cells #[.int .i64 0,.int .i64 0,.int .i64 0] 45)) w.1.size N.lvl A n c B m d:=(NB.new w _ _ _ _ _ _ _ _).below (Qi) (by simp);have D:KB ((w.alloc (.cells #[.int .i64 N.lvl,.slice A n c,.slice B m d] 74)).alloc (.cells #[.int .i64 0,.int .i64 0,.int .i64 0] 45)) (w.1.size+1) ⟨0,0,0⟩:=KB.new2 w _ 0 0 0 _;have E:Below w.1.size w ((w.alloc (.cells #[.int .i64 N.lvl,.slice A n c,.slice B m d] 74)).alloc (.cells #[.int .i64 0,.int .i64 0,.int .i64 0] 45)):=(Qi).alloc (by simp) _;generalize (w.alloc (.cells #[.int .i64 N.lvl,.slice A n c,.slice B m d] 74)).alloc (.cells #[.int .i64 0,.int .i64 0,.int .i64 0] 45)=R at y D E ⊢;by_cases F:N.lvl=0
 ·have K:=HI (show (if (N.items.map (·.k)).length=0 then ⟨0,0,0⟩ else keyAt (N.items.map (·.k)) 0)=z by rw[<-I,<-qln q F];rfl);refine (q1c N.lvl true (AL F) A n c B m d R).mono ?_;rintro e Q ⟨rfl,f⟩;have M:=y.below f y.lt;have G:=D.below f D.lt;have u:=E.trans (f.mono E.size);have Y:=M.c1;clear F I y D E f;go_wp2_with fail
  refine (qji N.items z K.out A n c Q (T.below u)).mono ?_;rintro e W ⟨rfl,p⟩;have H:=G.below p G.lt;have J:=u.trans (p.mono u.size);go_wp2_with (first
   |(refine q1i rfl (.tmp 2) (.tmp 7) rfl (w.1.size+1) rfl z _ rfl H ?_;intro X O P)
   |fail)
  refine bodyPost_ret (Rh Tryz.results197 rfl (q3e O)) rfl ?_;exact⟨rfl,J.trans ((P.Za H.lt).mono (by omega))⟩
 ·have K:=HI (show (if (N.kids.map (·.k)).length=0 then ⟨0,0,0⟩ else keyAt (N.kids.map (·.k)) 0)=z by rw[<-I,<-qgt q F];rfl);refine (q1c N.lvl false (AH F) A n c B m d R).mono ?_;rintro e Q ⟨rfl,f⟩;have M:=y.below f y.lt;have G:=D.below f D.lt;have u:=E.trans (f.mono E.size);have Z:=M.c2;clear F I y D E f;go_wp2_with fail
  refine (qjj N.kids z K.out B m d Q (U.below u)).mono ?_;rintro e W ⟨rfl,p⟩;have H:=G.below p G.lt;have J:=u.trans (p.mono u.size);go_wp2_with (first
   |(refine q1i rfl (.tmp 2) (.tmp 10) rfl (w.1.size+1) rfl z _ rfl H ?_;intro X O P)
   |fail)
  refine bodyPost_ret (Rh Tryz.results197 rfl (q3e O)) rfl ?_;exact⟨rfl,J.trans ((P.Za H.lt).mono (by omega))⟩
theorem qvt (v:LU)(h:v.length=3):(Qq ((v.drop 1).take 2):Int)=256*(Vd v 1:Int)+(Vd v 2:Int):=by
 match v,h with
 |[a,b,c],_=>simp[Qq,Vd]
theorem qd2 (x:Qc)(r:Bool)(D:(Vz x).isSome=r)(B:OA)(m d:Nat)(w:WD)(J:Sl w B m d x.v) :
  Calls prog 217 #[.agg #[.int .i64 x.k.obj,.int .i64 x.k.kind,.int .i64 x.k.off,.slice B m d]] w λe O=>e=.returned (.bool r)/\Below w.1.size w O:=by
 have q:=J.len;have E:∀o,Below w.1.size w (w.alloc o):=λo=>(AI _ _).alloc (AE _) o
 by_cases f:x.k.kind=3
 ·rw[f];by_cases I:m=3
  ·subst I;obtain⟨H,rfl,F,v0⟩:=J.cell (k:=0) (by omega);have G:∀o,(w.alloc o).cell? H=some (.int .u8 (Vd x.v 0:Int)):=λo=>((E o).cell (p:=H) F).trans v0
   by_cases u:Vd x.v 0=1
   ·obtain rfl:r=true:=by rw[<-D];unfold Vz;rw[AA ⟨f,q,u⟩];rfl
    rw[u] at G;clear u v0 D q f;go_enter func217,ntmps217
    go_wp2;go_ret;exact⟨rfl,E _⟩
   ·obtain rfl:r=false:=by rw[<-D];unfold Vz;rw[AB (λh=>u h.2.2)];rfl
    obtain⟨A,y⟩:∃A,Vd x.v 0=A:=⟨_,rfl⟩;rw[y] at G u;have K:((A:Int)==1)=false:=by simp;omega
    have M:decide ((A:Int)=1)=false:=AH (by omega);clear y v0 D q f;go_enter func217,ntmps217
    go_wp2;go_ret;exact⟨rfl,E _⟩
  ·obtain rfl:r=false:=by rw[<-D];unfold Vz;rw[AB (λh=>I (by rw[<-q];exact h.2.1))];rfl
   have K:((m:Int)==3)=false:=by simp;omega
   have M:decide ((m:Int)=3)=false:=AH (by omega);clear D q f;go_enter func217,ntmps217
   go_wp2;go_ret;exact⟨rfl,E _⟩
 ·obtain rfl:r=false:=by rw[<-D];unfold Vz;rw[AB (λh=>f h.1)];rfl
  obtain⟨A,y⟩:∃A,x.k.kind=A:=⟨_,rfl⟩;rw[y] at f ⊢;have K:(A==3)=false:=by simp;omega
  have M:decide (A=3)=false:=AH (by omega);clear y D q;go_enter func217,ntmps217
  go_wp2;go_ret;exact⟨rfl,E _⟩
theorem qd3 (N:Nd)(Z:N.fit)(A:OA)(n c:Nat)(B:OA)(m d:Nat)(w:WD)(hI:J3 w A n c N.items)(hK:Zr w B m d N.kids)(hn:n<=1000)(hm:m<=1000) :
  Calls prog 191 #[.agg #[.int .i64 N.lvl,.slice A n c,.slice B m d]] w λe w'=>∃F n' G,e=.returned (.slice F n' G)/\Q8 w' w.1.size 3 1 F n' G (N.named.map iv)/\Below w.1.size w w':=by
 have a1:=HI hI.len;have b6:=HI hK.len;go_enter func191,ntmps191
 go_wp2_with fail
 have N1:NB (w.alloc (.cells #[.int .i64 N.lvl,.slice A n c,.slice B m d] 74)) w.1.size N.lvl A n c B m d:=NB.new w _ _ _ _ _ _ _ _;have b1:Below w.1.size w (w.alloc (.cells #[.int .i64 N.lvl,.slice A n c,.slice B m d] 74)):=Qi;generalize w.alloc (.cells #[.int .i64 N.lvl,.slice A n c,.slice B m d] 74)=w1 at N1 b1 ⊢;by_cases hl:N.lvl=0
 ·have c6:N.kids.length=0:=by rw[Z.1 hl];rfl
  have b3:=HI (show U4 N 0=Yf N 0 by have:=qe4 N;rw[c6] at this;exact this);refine (q1c N.lvl true (AL hl) A n c B m d w1).mono ?_;rintro e w2 ⟨rfl,H⟩;have N2:=N1.below H N1.lt;have B2:=b1.trans (H.mono b1.size);have q1:=N2.c1;have zN:=N2.lt;have Pg:Q8 w2 (w.1.size+1) 3 1 none 0 0 (Yf N 0):=by rw[<-b3.out];exact q0z _ _ _ _
  clear hl c6 N1 b1 H b3;go_wp2_with fail
  clear q1;go_loopw [3,31] (λl i wr=>∃(j q:Nat) (F:OA) (G:Nat),j<=n/\q<=j/\i=.int .i64 (j:Int)/\l=.slice F q G/\Q8 wr (w.1.size+1) 3 1 F q G (Yf N j)/\Below w.1.size w wr/\w.1.size<wr.1.size) (λ_ i _=>n-(intOf i).toNat)
  case atStart=>exact⟨0,0,_,_,AW _,AE _,rfl,rfl,Pg,B2,zN⟩
  case round=>
   obtain⟨j,q,F,G,hj,hq,rfl,rfl,own,R,hz⟩:=hrel;by_cases M:j<n
   ·obtain⟨g,o,X,W,K,hA,hg,c0,c1,c2,c3,a8⟩:=(hI.below R).cell M;subst hA;have I:=λz h=>HI (qpl N j (by rw[a1.out];exact M) z h)
    have T:=λh=>HI (qua N j (by rw[a1.out];exact M) h)
    obtain⟨x,hx⟩:∃x,Zc N.items j=x:=⟨_,rfl⟩;rw[hx] at c0 c1 c2 a8 I T;clear hx;have Y:Below wr.1.size wr (wr.alloc (.cells #[.int .i64 x.k.obj,.int .i64 x.k.kind,.int .i64 x.k.off,.slice X W K] 50)):=Qi;have x0:(wr.alloc (.cells #[.int .i64 x.k.obj,.int .i64 x.k.kind,.int .i64 x.k.off,.slice X W K] 50)).1[wr.1.size]?=some (.cells #[.int .i64 x.k.obj,.int .i64 x.k.kind,.int .i64 x.k.off,.slice X W K] 50 (0,0)):=BE wr _;have zx:wr.1.size<(wr.alloc (.cells #[.int .i64 x.k.obj,.int .i64 x.k.kind,.int .i64 x.k.off,.slice X W K] 50)).1.size:=by simp
    go_wp2_with fail
    generalize wr.alloc (.cells #[.int .i64 x.k.obj,.int .i64 x.k.kind,.int .i64 x.k.off,.slice X W K] 50)=wx at Y x0 zx ⊢;have x3:wx.cell? ⟨wr.1.size,3,none⟩=some (.slice X W K):=by rw[cell_of_row _ _ _ _ _ _ x0];rfl
    have Q:=own.below Y;have J:=a8.below Y;have V:=R.trans (Y.mono R.size);obtain⟨d4,d5⟩:=(hI.below R).bounds;clear c0 c1 c2 c3 x0 own a8
    cases f:Vz x
    ·have hN:=T f;refine (qd2 x false (by rw[f];rfl) X W K wx J).mono ?_;rintro e w3 ⟨rfl,y⟩;have D:=Q.below y;rw[<-hN.out] at D;have U:=V.trans (y.mono V.size);have c8:w.1.size<w3.1.size:=by have:=y.size;omega
     clear I T hN f;go_wp2;exact⟨⟨j+1,q,F,G,by omega,by omega,by go_num,rfl,D,U,c8⟩,by simp[intOf];omega⟩
    ·rename_i z;have hN:=I z f;refine (qd2 x true (by rw[f];rfl) X W K wx J).mono ?_;rintro e w3 ⟨rfl,y⟩;have D:=Q.below y;have U:=V.trans (y.mono V.size);have c8:w.1.size<w3.1.size:=by have:=y.size;omega
     have y3:=(y.cell (p:=⟨wr.1.size,3,none⟩) zx).trans x3;have u:=J.below y;have c7:=u.len;have d6:=u.cap;have d3:=u.max;unfold maxLen at d3;have b0:x.v.length=3/\(Qq ((x.v.drop 1).take 2):Int)=z:=by
      unfold Vz at f;split at f
      ·rename_i h;exact⟨h.2.1,by rw[qvt _ h.2.1];exact OI f⟩
      ·cases f
     obtain rfl:3=W:=by rw[<-c7];exact b0.1.symm
     have c9:=HI b0.2;obtain⟨b4,o4,rfl,_,_⟩:=qn4 u (by omega);have hd:=u.drop (k:=1) (by omega);rw[AB (by omega:¬K=1)] at hd;have b8:Sl w3 (some ⟨b4,o4+1,none⟩) 2 (K-1) (x.v.drop 1):=hd;have d8:(1:Int)<=(K:Int):=by omega
     have d7:¬K=1:=by omega
     clear hd I T f b0 c7 Y x3 Q J R hz zx;go_wp2_with fail
     refine (q5z (some ⟨b4,o4+1,none⟩) 2 (K-1) _ 2 0 w3 b8 (by omega) (by omega) (by omega) (by omega) (by decide)).mono ?_;rintro e w4 ⟨A4,c4,rfl,_,a6⟩;rw[show (2:Int).toNat=2 from rfl,c9.out];have d0:=D.below a6;have d2:=U.trans (a6.mono U.size);have d9:w.1.size<w4.1.size:=by have:=a6.size;omega
     have b5:Below w4.1.size w4 (w4.alloc (.cells #[.int .i64 z] 3)):=Qi;clear D y3 b8 u c9;go_wp2_with (first
      |(at_builtin;refine qbt _ Qch rfl _ _ rfl (w.1.size+1) F q G (Yf N j) rfl (d0.below b5) (some ⟨w4.1.size,0,none⟩) 1 1 [iv z] rfl (qnd w4 z) (by omega) (qz6 z) (by omega) (by omega) (by have:=b5.size;omega) ?_)
      |fail)
     intro A5 c5 w5 E a7;have O:Below (w.1.size+1) w4 w5:=(b5.mono (by omega)).trans a7;have a2:=d2.trans (O.mono (by omega));have b2:w.1.size<w5.1.size:=by have:=O.size;omega
     rw[<-hN.out] at E;go_wp2;exact⟨⟨j+1,q+1,_,_,by omega,by omega,by go_num,rfl,E,a2,b2⟩,by simp[intOf];omega⟩
   ·obtain rfl:n=j:=by omega
    have P:Q8 wr (w.1.size+1) 3 1 F q G (N.named.map iv):=by rw[<-qe5,a1.out];exact own
    go_wp2;go_ret;exact⟨_,_,_,rfl,P.less (by omega),R⟩
 ·have b9:N.items.length=0:=by rw[Z.2 hl];rfl
  have d1:=HI (show Yf N 0=N.named.map iv by have:=qe5 N;rw[b9] at this;exact this);refine (q1c N.lvl false (AH hl) A n c B m d w1).mono ?_;rintro e w2 ⟨rfl,H⟩;have N2:=N1.below H N1.lt;have B2:=b1.trans (H.mono b1.size);have q2:=N2.c2;have zN:=N2.lt;clear hl b9 N1 b1 H;go_wp2_with fail
  clear q2;go_loopw [3,17] (λl i wr=>∃(j:Nat) (F:OA) (G:Nat),j<=m/\i=.int .i64 (j:Int)/\l=.slice F j G/\Q8 wr (w.1.size+1) 3 1 F j G (U4 N j)/\Below w.1.size w wr/\w.1.size<wr.1.size) (λ_ i _=>m-(intOf i).toNat)
  case atStart=>exact⟨0,_,_,AW _,rfl,rfl,q0z _ _ _ _,B2,zN⟩
  case round=>
   obtain⟨j,F,G,hj,rfl,rfl,own,R,hz⟩:=hrel;by_cases M:j<m
   ·obtain⟨g,o,hA,hg,c0,c1,c2,c3⟩:=(hK.below R).cell M;subst hA;have e2:=qkn N j (by rw[b6.out];exact M);obtain⟨x,hx⟩:∃x,Qk N.kids j=x:=⟨_,rfl⟩;rw[hx] at c0 c1 c2 c3 e2;have E2:=HI e2;clear e2 hx;have Y:Below wr.1.size wr (wr.alloc (.cells #[.int .i64 x.k.obj,.int .i64 x.k.kind,.int .i64 x.k.off,.int .i64 x.a] 125)):=Qi;have b5:Below wr.1.size wr ((wr.alloc (.cells #[.int .i64 x.k.obj,.int .i64 x.k.kind,.int .i64 x.k.off,.int .i64 x.a] 125)).alloc (.cells #[.int .i64 x.a] 3)):=Y.alloc Y.size _;have b7:Jp ((wr.alloc (.cells #[.int .i64 x.k.obj,.int .i64 x.k.kind,.int .i64 x.k.off,.int .i64 x.a] 125)).alloc (.cells #[.int .i64 x.a] 3)) 1 (some ⟨wr.1.size+1,0,none⟩) 1 1 [iv x.a]:=by
     have:=qnd (wr.alloc (.cells #[.int .i64 x.k.obj,.int .i64 x.k.kind,.int .i64 x.k.off,.int .i64 x.a] 125)) x.a;rwa [BH] at this
    go_wp2_with (first
     |(at_builtin;refine qbt _ Qch rfl _ _ rfl (w.1.size+1) F j G (U4 N j) rfl (own.below b5) (some ⟨wr.1.size+1,0,none⟩) 1 1 [iv x.a] rfl b7 (by omega) (qz6 x.a) (by omega) (by omega) (by have:=b5.size;omega) ?_)
     |fail)
    intro A5 c5 w5 E a7;have O:Below (w.1.size+1) wr w5:=(b5.mono (by omega)).trans a7;have a2:=R.trans (O.mono (by omega));have b2:w.1.size<w5.1.size:=by have:=O.size;omega
    rw[<-E2.out] at E;clear b7;go_wp2;exact⟨⟨j+1,_,_,by omega,by go_num,rfl,E,a2,b2⟩,by simp[intOf];omega⟩
   ·obtain rfl:m=j:=by omega
    have P:Q8 wr (w.1.size+1) 3 1 F m G (N.named.map iv):=by
     rw[<-d1.out,<-qe4,b6.out];exact own
    go_wp2;go_ret;exact⟨_,_,_,rfl,P.less (by omega),R⟩
