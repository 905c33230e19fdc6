/- The code's node: may, for items and for kids -/
import Derived.Test.YthkfkhejjmhomaaGreatDoorDz9
namespace Go.Proofs.YthkfkhejjmhomaaGreatDoor
open Go Go.RowKit Go.Proofs
set_option maxHeartbeats 8000000
set_option maxRecDepth 100000
def Qvf (x:Qq):Bool:=decide (x.v.length<=28)
def Qvg (x:Qk):Bool:=decide (1<=x.a/\x.a<=2047)
def okI (xs:List Qq)(j:Nat):Bool:=Ja (xs.map (·.k)) j&&Qvf (Qx xs j)
def okK (xs:List Qk)(j:Nat):Bool:=Ja (xs.map (·.k)) j&&Qvg (Ql xs j)
def Qkk (xs:List Qq)(lo hi:Int):Bool:=decide (lo<=(xs.length:Int)/\(xs.length:Int)<=hi)&&(List.range xs.length).all (okI xs)
def Qkl (xs:List Qk)(lo hi:Int):Bool:=decide (lo<=(xs.length:Int)/\(xs.length:Int)<=hi)&&(List.range xs.length).all (okK xs)
theorem Qxn {n:Nat}{f:Nat->Bool}{j:Nat}(d:j<n)(h:f j=false):(List.range n).all f=false:=by
 rw[List.all_eq_false];exact⟨j,List.mem_range.2 d,by rw[h];simp⟩
theorem Qtd {n:Nat}{f:Nat->Bool}(h:∀j,j<n->f j=true):(List.range n).all f=true:=by
 rw[List.all_eq_true];exact λj d=>h j (List.mem_range.1 d)
theorem Qis (xs:List Qq)(j:Nat):keyAt (xs.map (·.k)) j=(Qx xs j).k:=by
 unfold keyAt Qx;rw[List.getD_eq_getElem?_getD,List.getD_eq_getElem?_getD,List.getElem?_map]
 cases xs[j]?<;>rfl
theorem Qgk (xs:List Qk)(j:Nat):keyAt (xs.map (·.k)) j=(Ql xs j).k:=by
 unfold keyAt Ql;rw[List.getD_eq_getElem?_getD,List.getD_eq_getElem?_getD,List.getElem?_map]
 cases xs[j]?<;>rfl
theorem Quu (xs:List Qq)(A:Option Addr)(n c:Nat)(lo hi:Int)(w:World)(hI:Je w A n c xs)(hn:n<=100000) :
  Calls Tryz.prog 214 #[.slice A n c,.int .i64 lo,.int .i64 hi,.func (.func 170) #[] #[],.func (.func 215) #[] #[]] w λe w'=>e=.returned (.bool (Qkk xs lo hi))/\Below w.1.size w w':=by
 have J:=Lib.hid hI.len;obtain⟨b0,a7⟩:=hI.bounds;unfold maxLen at a7;go_enter Tryz.func214,Tryz.ntmps214
 go_wp2_with fail
 refine (Tc (n:Int) lo hi _ rfl _).mono ?_
 cases hr:decide (lo<=(n:Int)/\(n:Int)<=hi)
 ·rintro e w1 ⟨rfl,rfl⟩;go_wp2;go_ret;exact⟨by unfold Qkk;rw[J.out,hr];rfl,Below.refl _ _⟩
 ·rintro e w1 ⟨rfl,rfl⟩;have K:=Lib.hid (show Qkk xs lo hi=(List.range n).all (okI xs) by unfold Qkk;rw[J.out,hr];rfl);clear hr;go_wp2_with fail
  go_loopw [21] (λi wr=>∃j:Nat,j<=n/\i=.int .i64 (j:Int)/\(∀q,q<j->okI xs q=true)/\Below w.1.size w wr) (λi _=>n-(intOf i).toNat)
  case atStart=>exact⟨0,Nat.zero_le _,rfl,λq hq=>by omega,Below.refl _ _⟩
  case round=>
   obtain⟨j,hj,rfl,M,hB⟩:=hrel;by_cases W:j<n
   ·have V:=hI.below hB;obtain⟨g,o,D,B,E,hA,hg,c0,c1,c2,c3,X⟩:=V.cell W;subst hA;obtain⟨x,hx⟩:∃x,Qx xs j=x:=⟨_,rfl⟩;have H:=Lib.hid (show okI xs j=((x.k.may&&(decide (j=0)||(Qx xs (j-1)).k.less x.k))&&Qvf x) by unfold okI Ja;rw[Qis,Qis,hx]);rw[hx] at c0 c1 c2 X;have Y:=X.len;obtain⟨f,z⟩:∃f,decide (B<=28)=f:=⟨_,rfl⟩;have F:=Lib.hid (show Qvf x=f by unfold Qvf;rw[Y,z]);clear Y;obtain⟨k,hk⟩:∃k,x.k=k:=⟨_,rfl⟩;rw[hk] at c0 c1 c2;obtain⟨r,hm⟩:∃r,k.may=r:=⟨_,rfl⟩;have Hk:=Lib.hid hk;clear hk hx;go_wp2_with fail
    have Q:Below wr.1.size wr (wr.alloc (.cells #[.int .i64 k.obj,.int .i64 k.kind,.int .i64 k.off,.slice D B E] 50)):=Ib;have U:(wr.alloc (.cells #[.int .i64 k.obj,.int .i64 k.kind,.int .i64 k.off,.slice D B E] 50)).1[wr.1.size]?=some (.cells #[.int .i64 k.obj,.int .i64 k.kind,.int .i64 k.off,.slice D B E] 50 (0,0)):=heap_alloc_new wr _;have zx:wr.1.size<(wr.alloc (.cells #[.int .i64 k.obj,.int .i64 k.kind,.int .i64 k.off,.slice D B E] 50)).1.size:=by simp
    generalize wr.alloc (.cells #[.int .i64 k.obj,.int .i64 k.kind,.int .i64 k.off,.slice D B E] 50)=I at Q U zx ⊢;have q0:∀u:Grown I,u.to.cell? ⟨wr.1.size,0,none⟩=some (.int .i64 k.obj):=Grown.cell (by rw[cell_of_row _ _ _ _ _ _ U];rfl) zx;have q1:∀u:Grown I,u.to.cell? ⟨wr.1.size,1,none⟩=some (.int .i64 k.kind):=Grown.cell (by rw[cell_of_row _ _ _ _ _ _ U];rfl) zx;have q2:∀u:Grown I,u.to.cell? ⟨wr.1.size,2,none⟩=some (.int .i64 k.off):=Grown.cell (by rw[cell_of_row _ _ _ _ _ _ U];rfl) zx;have q3:∀u:Grown I,u.to.cell? ⟨wr.1.size,3,none⟩=some (.slice D B E):=Grown.cell (by rw[cell_of_row _ _ _ _ _ _ U];rfl) zx;have m:=hB.trans (Q.mono hB.size);clear c0 c1 c2 c3 U;have fin:∀b,okI xs j=b->b=false->Qkk xs lo hi=false:=λb h1 h2=>by rw[K.out];exact Qxn W (h1.trans h2)
    have P:=Lib.hid fin;clear fin
    cases r
    ·refine Iq (by kernel_rfl) (by kernel_rfl) ?_;repeat (go_big_quiet_step (first
      |(go_at_call 170;exact Calls.grown (Pg k D B E _))
      |(go_at_call 107;exact Calls.grown (Rj k false hm _))
      |fail))
     refine wpQuiet_nil ?_;rintro _ ⟨u,rfl⟩;have d:=m.trans (u.ok.mono m.size);go_wp2;go_ret;exact⟨by rw[P.out _ H.out (by rw[Hk.out,hm];rfl)];rfl,d⟩
    ·cases f
     ·refine Iq (by kernel_rfl) (by kernel_rfl) ?_;repeat (go_big_quiet_step (first
       |(go_at_call 170;exact Calls.grown (Pg k D B E _))
       |(go_at_call 215;exact Calls.grown (Qgd k D B E _ z _))
       |(go_at_call 107;exact Calls.grown (Rj k true hm _))
       |fail))
      refine wpQuiet_nil ?_;rintro _ ⟨u,rfl⟩;have d:=m.trans (u.ok.mono m.size);go_wp2;go_ret;exact⟨by rw[P.out _ H.out (by rw[F.out,Bool.and_false])];rfl,d⟩
     ·rcases j with _|q
      ·refine Iq (by kernel_rfl) (by kernel_rfl) ?_;repeat (go_big_quiet_step (first
        |(go_at_call 170;exact Calls.grown (Pg k D B E _))
        |(go_at_call 215;exact Calls.grown (Qgd k D B E _ z _))
        |(go_at_call 107;exact Calls.grown (Rj k true hm _))
        |fail))
       refine wpQuiet_nil ?_;rintro _ ⟨u,rfl⟩;have d:=m.trans (u.ok.mono m.size);go_wp2;refine⟨⟨1,by omega,rfl,λq hq=>?_,d⟩,by simp[intOf];omega⟩;obtain rfl:q=0:=by omega
       rw[H.out,Hk.out,hm,F.out];rfl
      ·obtain⟨g',o',B2,m2,d2,R,_,a0,a1,a2,a3,_⟩:=V.cell (show q<n by omega);injection R with R;injection R with e1 e2;subst e1 e2;obtain⟨y,hy⟩:∃y,Qx xs q=y:=⟨_,rfl⟩;rw[hy] at a0 a1 a2;obtain⟨l,T⟩:∃l,y.k=l:=⟨_,rfl⟩;rw[T] at a0 a1 a2;obtain⟨s,hl⟩:∃s,l.less k=s:=⟨_,rfl⟩;have O:=Lib.hid (show okI xs (q+1)=s by rw[H.out,Hk.out,hm,F.out,show q+1-1=q by omega,hy,T,hl];simp);clear hy T;have G:g<I.1.size:=by have:=Q.size;omega
       have p0:∀u:Grown I,u.to.cell? ⟨g,o+q*4,none⟩=some (.int .i64 l.obj):=Grown.cell ((Q.cell (p:=⟨g,_,none⟩) hg).trans a0) G;have p1:∀u:Grown I,u.to.cell? ⟨g,o+q*4+1,none⟩=some (.int .i64 l.kind):=Grown.cell ((Q.cell (p:=⟨g,_,none⟩) hg).trans a1) G;have p2:∀u:Grown I,u.to.cell? ⟨g,o+q*4+2,none⟩=some (.int .i64 l.off):=Grown.cell ((Q.cell (p:=⟨g,_,none⟩) hg).trans a2) G;have p3:∀u:Grown I,u.to.cell? ⟨g,o+q*4+3,none⟩=some (.slice B2 m2 d2):=Grown.cell ((Q.cell (p:=⟨g,_,none⟩) hg).trans a3) G;clear a0 a1 a2 a3;have b1:(0:Int)<=(q:Int):=by omega
       have b2:(q:Int)<(n:Int):=by omega
       have a8:(0:Int)<(q:Int)+1:=by omega
       have Z:IntKind.i64.wrap (q:Int)=(q:Int):=IntWalk.i64_in _ (by omega);have b4:IntKind.i64.wrap ((q:Int)+1-1)=(q:Int):=by rw[Int.add_sub_cancel];exact Z
       have b3:IntKind.i64.wrap (((q+1:Nat):Int)-1)=(q:Int):=by rw[show ((q+1:Nat):Int)-1=(q:Int) by omega];exact Z
       refine Iq (by kernel_rfl) (by kernel_rfl) ?_;repeat (go_big_quiet_step (first
        |(go_at_call 170;exact Calls.grown (Pg k D B E _))
        |(go_at_call 170;exact Calls.grown (Pg l B2 m2 d2 _))
        |(go_at_call 215;exact Calls.grown (Qgd k D B E _ z _))
        |(go_at_call 107;exact Calls.grown (Rj k true hm _))
        |(go_at_call 55;exact Calls.grown (Qdo l k s hl _))
        |fail))
       refine wpQuiet_nil ?_;rintro _ ⟨u,rfl⟩;have d:=m.trans (u.ok.mono m.size)
       cases s
       ·go_wp2;go_ret;exact⟨by rw[P.out _ O.out rfl];rfl,d⟩
       ·go_wp2;refine⟨⟨q+2,by omega,by go_num,λp hp=>?_,d⟩,by simp[intOf];omega⟩;rcases (by omega:p<q+1\/p=q+1) with h1|rfl
        ·exact M p h1
        ·exact O.out
   ·obtain rfl:j=n:=by omega
    have a6:=Lib.hid (show Qkk xs lo hi=true by rw[K.out];exact Qtd M);go_wp2;go_ret;exact⟨by rw[a6.out];rfl,hB⟩
theorem Quv (xs:List Qk)(A:Option Addr)(n c:Nat)(lo hi:Int)(w:World)(hI:Q7 w A n c xs)(hn:n<=100000) :
  Calls Tryz.prog 217 #[.slice A n c,.int .i64 lo,.int .i64 hi,.func (.func 173) #[] #[],.func (.func 218) #[] #[]] w λe w'=>e=.returned (.bool (Qkl xs lo hi))/\Below w.1.size w w':=by
 have G:=Lib.hid hI.len;obtain⟨a8,a6⟩:=hI.bounds;unfold maxLen at a6;go_enter Tryz.func217,Tryz.ntmps217
 go_wp2_with fail
 refine (Tc (n:Int) lo hi _ rfl _).mono ?_
 cases hr:decide (lo<=(n:Int)/\(n:Int)<=hi)
 ·rintro e w1 ⟨rfl,rfl⟩;go_wp2;go_ret;exact⟨by unfold Qkl;rw[G.out,hr];rfl,Below.refl _ _⟩
 ·rintro e w1 ⟨rfl,rfl⟩;have H:=Lib.hid (show Qkl xs lo hi=(List.range n).all (okK xs) by unfold Qkl;rw[G.out,hr];rfl);clear hr;go_wp2_with fail
  go_loopw [21] (λi wr=>∃j:Nat,j<=n/\i=.int .i64 (j:Int)/\(∀q,q<j->okK xs q=true)/\Below w.1.size w wr) (λi _=>n-(intOf i).toNat)
  case atStart=>exact⟨0,Nat.zero_le _,rfl,λq hq=>by omega,Below.refl _ _⟩
  case round=>
   obtain⟨j,hj,rfl,I,hB⟩:=hrel;by_cases T:j<n
   ·have R:=hI.below hB;obtain⟨g,o,hA,hg,c0,c1,c2,c3⟩:=R.cell T;subst hA;obtain⟨x,hx⟩:∃x,Ql xs j=x:=⟨_,rfl⟩;have E:=Lib.hid (show okK xs j=((x.k.may&&(decide (j=0)||(Ql xs (j-1)).k.less x.k))&&Qvg x) by unfold okK Ja;rw[Qgk,Qgk,hx]);rw[hx] at c0 c1 c2 c3;obtain⟨v,hv⟩:∃v,x.a=v:=⟨_,rfl⟩;rw[hv] at c3;obtain⟨f,z⟩:∃f,decide (1<=v/\v<=2047)=f:=⟨_,rfl⟩;have B:=Lib.hid (show Qvg x=f by unfold Qvg;rw[hv,z]);clear hv;obtain⟨k,hk⟩:∃k,x.k=k:=⟨_,rfl⟩;rw[hk] at c0 c1 c2;obtain⟨r,hm⟩:∃r,k.may=r:=⟨_,rfl⟩;have Hk:=Lib.hid hk;clear hk hx;go_wp2_with fail
    have M:Below wr.1.size wr (wr.alloc (.cells #[.int .i64 k.obj,.int .i64 k.kind,.int .i64 k.off,.int .i64 v] 148)):=Ib;have Q:(wr.alloc (.cells #[.int .i64 k.obj,.int .i64 k.kind,.int .i64 k.off,.int .i64 v] 148)).1[wr.1.size]?=some (.cells #[.int .i64 k.obj,.int .i64 k.kind,.int .i64 k.off,.int .i64 v] 148 (0,0)):=heap_alloc_new wr _;have X:wr.1.size<(wr.alloc (.cells #[.int .i64 k.obj,.int .i64 k.kind,.int .i64 k.off,.int .i64 v] 148)).1.size:=by simp
    generalize wr.alloc (.cells #[.int .i64 k.obj,.int .i64 k.kind,.int .i64 k.off,.int .i64 v] 148)=F at M Q X ⊢;have q0:∀u:Grown F,u.to.cell? ⟨wr.1.size,0,none⟩=some (.int .i64 k.obj):=Grown.cell (by rw[cell_of_row _ _ _ _ _ _ Q];rfl) X;have q1:∀u:Grown F,u.to.cell? ⟨wr.1.size,1,none⟩=some (.int .i64 k.kind):=Grown.cell (by rw[cell_of_row _ _ _ _ _ _ Q];rfl) X;have q2:∀u:Grown F,u.to.cell? ⟨wr.1.size,2,none⟩=some (.int .i64 k.off):=Grown.cell (by rw[cell_of_row _ _ _ _ _ _ Q];rfl) X;have q3:∀u:Grown F,u.to.cell? ⟨wr.1.size,3,none⟩=some (.int .i64 v):=Grown.cell (by rw[cell_of_row _ _ _ _ _ _ Q];rfl) X;have m:=hB.trans (M.mono hB.size);clear c0 c1 c2 c3 Q;have fin:∀b,okK xs j=b->b=false->Qkl xs lo hi=false:=λb h1 h2=>by rw[H.out];exact Qxn T (h1.trans h2)
    have K:=Lib.hid fin;clear fin
    cases r
    ·refine Iq (by kernel_rfl) (by kernel_rfl) ?_;repeat (go_big_quiet_step (first
      |(go_at_call 173;exact Calls.grown (Ph k v _))
      |(go_at_call 107;exact Calls.grown (Rj k false hm _))
      |fail))
     refine wpQuiet_nil ?_;rintro _ ⟨u,rfl⟩;have d:=m.trans (u.ok.mono m.size);go_wp2;go_ret;exact⟨by rw[K.out _ E.out (by rw[Hk.out,hm];rfl)];rfl,d⟩
    ·cases f
     ·refine Iq (by kernel_rfl) (by kernel_rfl) ?_;repeat (go_big_quiet_step (first
       |(go_at_call 173;exact Calls.grown (Ph k v _))
       |(go_at_call 218;exact Calls.grown (Qge k v _ z _))
       |(go_at_call 107;exact Calls.grown (Rj k true hm _))
       |fail))
      refine wpQuiet_nil ?_;rintro _ ⟨u,rfl⟩;have d:=m.trans (u.ok.mono m.size);go_wp2;go_ret;exact⟨by rw[K.out _ E.out (by rw[B.out,Bool.and_false])];rfl,d⟩
     ·rcases j with _|q
      ·refine Iq (by kernel_rfl) (by kernel_rfl) ?_;repeat (go_big_quiet_step (first
        |(go_at_call 173;exact Calls.grown (Ph k v _))
        |(go_at_call 218;exact Calls.grown (Qge k v _ z _))
        |(go_at_call 107;exact Calls.grown (Rj k true hm _))
        |fail))
       refine wpQuiet_nil ?_;rintro _ ⟨u,rfl⟩;have d:=m.trans (u.ok.mono m.size);go_wp2;refine⟨⟨1,by omega,rfl,λq hq=>?_,d⟩,by simp[intOf];omega⟩;obtain rfl:q=0:=by omega
       rw[E.out,Hk.out,hm,B.out];rfl
      ·obtain⟨g',o',O,_,a0,Y,Z,a3⟩:=R.cell (show q<n by omega);injection O with O;injection O with e1 e2;subst e1 e2;obtain⟨y,hy⟩:∃y,Ql xs q=y:=⟨_,rfl⟩;rw[hy] at a0 Y Z a3;obtain⟨v2,U⟩:∃v2,y.a=v2:=⟨_,rfl⟩;rw[U] at a3;clear U;obtain⟨l,P⟩:∃l,y.k=l:=⟨_,rfl⟩;rw[P] at a0 Y Z;obtain⟨s,hl⟩:∃s,l.less k=s:=⟨_,rfl⟩;have J:=Lib.hid (show okK xs (q+1)=s by rw[E.out,Hk.out,hm,B.out,show q+1-1=q by omega,hy,P,hl];simp);clear hy P;have D:g<F.1.size:=by have:=M.size;omega
       have p0:∀u:Grown F,u.to.cell? ⟨g,o+q*4,none⟩=some (.int .i64 l.obj):=Grown.cell ((M.cell (p:=⟨g,_,none⟩) hg).trans a0) D;have p1:∀u:Grown F,u.to.cell? ⟨g,o+q*4+1,none⟩=some (.int .i64 l.kind):=Grown.cell ((M.cell (p:=⟨g,_,none⟩) hg).trans Y) D;have p2:∀u:Grown F,u.to.cell? ⟨g,o+q*4+2,none⟩=some (.int .i64 l.off):=Grown.cell ((M.cell (p:=⟨g,_,none⟩) hg).trans Z) D;have p3:∀u:Grown F,u.to.cell? ⟨g,o+q*4+3,none⟩=some (.int .i64 v2):=Grown.cell ((M.cell (p:=⟨g,_,none⟩) hg).trans a3) D;clear a0 Y Z a3;have b0:(0:Int)<=(q:Int):=by omega
       have b1:(q:Int)<(n:Int):=by omega
       have a7:(0:Int)<(q:Int)+1:=by omega
       have V:IntKind.i64.wrap (q:Int)=(q:Int):=IntWalk.i64_in _ (by omega);have b3:IntKind.i64.wrap ((q:Int)+1-1)=(q:Int):=by rw[Int.add_sub_cancel];exact V
       have b2:IntKind.i64.wrap (((q+1:Nat):Int)-1)=(q:Int):=by rw[show ((q+1:Nat):Int)-1=(q:Int) by omega];exact V
       refine Iq (by kernel_rfl) (by kernel_rfl) ?_;repeat (go_big_quiet_step (first
        |(go_at_call 173;exact Calls.grown (Ph k v _))
        |(go_at_call 173;exact Calls.grown (Ph l v2 _))
        |(go_at_call 218;exact Calls.grown (Qge k v _ z _))
        |(go_at_call 107;exact Calls.grown (Rj k true hm _))
        |(go_at_call 55;exact Calls.grown (Qdo l k s hl _))
        |fail))
       refine wpQuiet_nil ?_;rintro _ ⟨u,rfl⟩;have d:=m.trans (u.ok.mono m.size)
       cases s
       ·go_wp2;go_ret;exact⟨by rw[K.out _ J.out rfl];rfl,d⟩
       ·go_wp2;refine⟨⟨q+2,by omega,by go_num,λp hp=>?_,d⟩,by simp[intOf];omega⟩;rcases (by omega:p<q+1\/p=q+1) with h1|rfl
        ·exact I p h1
        ·exact J.out
   ·obtain rfl:j=n:=by omega
    have W:=Lib.hid (show Qkl xs lo hi=true by rw[H.out];exact Qtd I);go_wp2;go_ret;exact⟨by rw[W.out];rfl,hB⟩
theorem Qhs {n:Nat}{f:Nat->Bool}:(List.range n).all f=true↔∀j,j<n->f j=true:=by
 rw[List.all_eq_true];exact⟨λh j d=>h j (List.mem_range.2 d),λh j d=>h j (List.mem_range.1 d)⟩
theorem Qoz (N:Nd):Ah N=true↔∀j,j<N.items.length->Qvf (Qx N.items j)=true:=by
 constructor
 ·intro h j d;unfold Ah at h;exact List.all_eq_true.1 h _ (List.mem_of_getElem? (Ae d))
 ·intro h;exact Qo0 λj d=>of_decide_eq_true (h j d)
theorem Qrx (N:Nd):Xl N=true↔∀j,j<N.kids.length->Qvg (Ql N.kids j)=true:=by
 constructor
 ·intro h j d;unfold Xl at h;have:=of_decide_eq_true (List.all_eq_true.1 h _ (List.mem_of_getElem? (q32 d)));exact decide_eq_true (by omega)
 ·intro h;refine Qry λj d=>?_
  have:=of_decide_eq_true (h j d);omega
theorem Qph (N:Nd)(h:N.lvl=0)(f:N.kids.length=0):N.may=Qkk N.items 1 6:=by
 have e:N.keys=N.items.map (·.k):=by unfold Nd.keys;rw[List.eq_nil_of_length_eq_zero f];simp
 unfold Nd.may Qkk;rw[if_pos h,e,Bool.eq_iff_iff];simp only[Bool.and_eq_true,decide_eq_true_eq,Qoz,rises,okI,Qhs,List.length_map];constructor
 ·rintro⟨h1,h2,g⟩;exact⟨by omega,λj d=>⟨h2 j d,h1 j d⟩⟩
 ·rintro⟨h1,h2⟩;exact⟨λj d=>(h2 j d).2,λj d=>(h2 j d).1,by omega⟩
theorem Qpi (N:Nd)(h:N.lvl=0)(d:¬N.kids.length=0):N.may=false:=by
 unfold Nd.may;rw[if_pos h,decide_eq_false (by omega),Bool.and_false,Bool.and_false]
theorem Qlm (N:Nd)(h:¬N.lvl=0)(g:1<=N.lvl/\N.lvl<=7)(hi:N.items.length=0):N.may=Qkl N.kids 2 12:=by
 have e:N.keys=N.kids.map (·.k):=by unfold Nd.keys;rw[List.eq_nil_of_length_eq_zero hi];simp
 unfold Nd.may Qkl;rw[if_neg h,e,Bool.eq_iff_iff];simp only[Bool.and_eq_true,decide_eq_true_eq,Qrx,rises,okK,Qhs,List.length_map];constructor
 ·rintro⟨h1,h2,f⟩;exact⟨by omega,λj d=>⟨h2 j d,h1 j d⟩⟩
 ·rintro⟨h1,h2⟩;exact⟨λj d=>(h2 j d).2,λj d=>(h2 j d).1,by omega⟩
theorem Qfo (N:Nd)(h:¬N.lvl=0)(d:¬((1<=N.lvl/\N.lvl<=7)/\N.items.length=0)):N.may=false:=by
 unfold Nd.may;rw[if_neg h,decide_eq_false (by omega),Bool.and_false,Bool.and_false]
theorem Pm (N:Nd)(r:Bool)(G:N.may=r)(A:Option Addr)(n c:Nat)(B:Option Addr)(m d:Nat)(w:World)(M:Je w A n c N.items)(O:Q7 w B m d N.kids)(hn:n<=1000)(hm:m<=1000) :
  Calls Tryz.prog 147 #[.agg #[.int .i64 N.lvl,.slice A n c,.slice B m d]] w λe V=>e=.returned (.bool r)/\Below w.1.size w V:=by
 have E:=Lib.hid M.len;have F:=Lib.hid O.len;go_enter Tryz.func147,Tryz.ntmps147
 go_wp2_with fail
 have q:NB (w.alloc (.cells #[.int .i64 N.lvl,.slice A n c,.slice B m d] 77)) w.1.size N.lvl A n c B m d:=NB.new w _ _ _ _ _ _ _ _;have y:Below w.1.size w (w.alloc (.cells #[.int .i64 N.lvl,.slice A n c,.slice B m d] 77)):=Ib;generalize w.alloc (.cells #[.int .i64 N.lvl,.slice A n c,.slice B m d] 77)=P at q y ⊢;by_cases D:N.lvl=0
 ·refine (Nl N.lvl true (decide_eq_true D) A n c B m d P).mono ?_;rintro e Q ⟨rfl,g⟩;have u:=q.below g q.lt;have p:=y.trans (g.mono y.size);have R:=u.c0;have T:=u.c1;have U:=u.c2;clear q y g;by_cases I:m=0
  ·have f:=Lib.hid (show r=Qkk N.items 1 6 by rw[<-G];exact Qph N D (by rw[F.out];exact I));subst I;go_wp2_with fail
   refine (Quu N.items A n c 1 6 Q (M.below p) (by omega)).mono ?_;rintro e K ⟨rfl,z⟩;have H:=p.trans (z.mono p.size);go_wp2;go_ret;exact⟨by rw[f.out];rfl,H⟩
  ·have f:=Lib.hid (show r=false by rw[<-G];exact Qpi N D (by rw[F.out];exact I));have h1:((m:Int)==0)=false:=by simp;omega
   have h2:decide ((m:Int)=0)=false:=decide_eq_false (by omega);go_wp2;go_ret;exact⟨by rw[f.out];rfl,p⟩
 ·refine (Nl N.lvl false (decide_eq_false D) A n c B m d P).mono ?_;rintro e Q ⟨rfl,g⟩;have u:=q.below g q.lt;have p:=y.trans (g.mono y.size);have R:=u.c0;have T:=u.c1;have U:=u.c2;clear q y g;go_wp2_with fail
  by_cases J:1<=N.lvl/\N.lvl<=7
  ·refine (Tc N.lvl 1 7 true (decide_eq_true J) _).mono ?_;rintro e K ⟨rfl,rfl⟩;by_cases hi:n=0
   ·have f:=Lib.hid (show r=Qkl N.kids 2 12 by rw[<-G];exact Qlm N D J (by rw[E.out];exact hi));subst hi;go_wp2_with fail
    refine (Quv N.kids B m d 2 12 _ (O.below p) (by omega)).mono ?_;rintro e K ⟨rfl,z⟩;have H:=p.trans (z.mono p.size);go_wp2;go_ret;exact⟨by rw[f.out];rfl,H⟩
   ·have f:=Lib.hid (show r=false by rw[<-G];exact Qfo N D (by rw[E.out];omega));have h1:((n:Int)==0)=false:=by simp;omega
    have h2:decide ((n:Int)=0)=false:=decide_eq_false (by omega);go_wp2;go_ret;exact⟨by rw[f.out];rfl,p⟩
  ·refine (Tc N.lvl 1 7 false (decide_eq_false J) _).mono ?_;rintro e K ⟨rfl,rfl⟩;have f:=Lib.hid (show r=false by rw[<-G];exact Qfo N D (by omega));go_wp2;go_ret;exact⟨by rw[f.out];rfl,p⟩
def Nd.fit (N:Nd):Prop:=(N.lvl=0->N.kids=[])/\(¬N.lvl=0->N.items=[])
theorem U0 {N:Nd}(hm:N.may=true):N.fit:=by
 constructor
 ·intro d;refine List.eq_nil_of_length_eq_zero ?_;unfold Nd.may at hm;rw[if_pos d,Bool.and_eq_true,Bool.and_eq_true] at hm;exact (of_decide_eq_true hm.2.2).1
 ·intro d;refine List.eq_nil_of_length_eq_zero ?_;unfold Nd.may at hm;rw[if_neg d,Bool.and_eq_true,Bool.and_eq_true] at hm;exact (of_decide_eq_true hm.2.2).2.2.1
theorem Qoq {N:Nd}(h:N.fit)(d:N.lvl=0):N.keys=N.items.map (·.k):=by unfold Nd.keys;rw[h.1 d];simp
theorem Qlc {N:Nd}(h:N.fit)(d:¬N.lvl=0):N.keys=N.kids.map (·.k):=by unfold Nd.keys;rw[h.2 d];simp
theorem Qbn (N:Nd)(D:N.fit)(k:Kd)(t:Nat)(T:N.Xv k=t)(r:Bool)(R:foundAt N.keys k t=r)(A:Option Addr)(n c:Nat)(B:Option Addr)(m d:Nat)(w:World)(hI:Je w A n c N.items)(X:Q7 w B m d N.kids)(hn:n<=1000)(hm:m<=1000) :
  Calls Tryz.prog 97 #[.agg #[.int .i64 N.lvl,.slice A n c,.slice B m d],.agg #[.int .i64 k.obj,.int .i64 k.kind,.int .i64 k.off]] w λe w'=>e=.returned (.tuple #[.int .i64 (t:Int),.bool r])/\Below w.1.size w w':=by
 have V:=Lib.hid X.len;go_enter Tryz.func97,Tryz.ntmps97
 go_wp2_with fail
 have J:NB ((w.alloc (.cells #[.int .i64 N.lvl,.slice A n c,.slice B m d] 77)).alloc (.cells #[.int .i64 k.obj,.int .i64 k.kind,.int .i64 k.off] 45)) w.1.size N.lvl A n c B m d:=(NB.new w _ _ _ _ _ _ _ _).below (Ib) (by simp);have H:KB ((w.alloc (.cells #[.int .i64 N.lvl,.slice A n c,.slice B m d] 77)).alloc (.cells #[.int .i64 k.obj,.int .i64 k.kind,.int .i64 k.off] 45)) (w.1.size+1) k:=KB.new2 w _ k.obj k.kind k.off _;have K:Below w.1.size w ((w.alloc (.cells #[.int .i64 N.lvl,.slice A n c,.slice B m d] 77)).alloc (.cells #[.int .i64 k.obj,.int .i64 k.kind,.int .i64 k.off] 45)):=(Ib).alloc (by simp) _;generalize (w.alloc (.cells #[.int .i64 N.lvl,.slice A n c,.slice B m d] 77)).alloc (.cells #[.int .i64 k.obj,.int .i64 k.kind,.int .i64 k.off] 45)=w1 at J H K ⊢;by_cases E:N.lvl=0
 ·have u:=Qoq D E;have q:=Lib.hid (show lead (N.items.map (·.k)) k=t by rw[<-T];unfold Nd.Xv;rw[if_pos E,u]);have f:=Lib.hid (show foundAt (N.items.map (·.k)) k t=r by rw[<-R,u]);refine (Nl N.lvl true (decide_eq_true E) A n c B m d w1).mono ?_;rintro e Y ⟨rfl,g⟩;have z:=J.below g J.lt;have y:=H.below g H.lt;have F:=K.trans (g.mono K.size);have q1:=z.c1;have O:=y.c0;have P:=y.c1;have Q:=y.c2;clear E u T R J H K g;go_wp2_with fail
  refine (Qur N.items k A n c Y (hI.below F) (by omega)).mono ?_;rw[q.out];rintro e Z ⟨rfl,p⟩;have W:=z.below p z.lt;have I:=y.below p y.lt;have G:=F.trans (p.mono F.size);clear q1 O P Q;have q1:=W.c1;have O:=I.c0;have P:=I.c1;have Q:=I.c2;clear z y p;go_wp2_with fail
  refine (Qmp N.items t k r f.out A n c Z (hI.below G) (by omega)).mono ?_;rintro e w4 ⟨rfl,M⟩;have U:=G.trans (M.mono G.size);go_wp2;go_ret2;exact⟨rfl,U⟩
 ·have u:=Qlc D E;have q:=Lib.hid (show lastTo (N.kids.map (·.k)) k m=t by rw[<-T];unfold Nd.Xv;rw[if_neg E,u,List.length_map,V.out]);have f:=Lib.hid (show foundAt (N.kids.map (·.k)) k t=r by rw[<-R,u]);refine (Nl N.lvl false (decide_eq_false E) A n c B m d w1).mono ?_;rintro e Y ⟨rfl,g⟩;have z:=J.below g J.lt;have y:=H.below g H.lt;have F:=K.trans (g.mono K.size);have q2:=z.c2;have O:=y.c0;have P:=y.c1;have Q:=y.c2;clear E u T R J H K g;go_wp2_with fail
  refine (Quq N.kids k B m d Y (X.below F) (by omega)).mono ?_;rw[q.out];rintro e Z ⟨rfl,p⟩;have W:=z.below p z.lt;have I:=y.below p y.lt;have G:=F.trans (p.mono F.size);clear q2 O P Q;have q2:=W.c2;have O:=I.c0;have P:=I.c1;have Q:=I.c2;clear z y p;go_wp2_with fail
  refine (Qmq N.kids t k r f.out B m d Z (X.below G) (by omega)).mono ?_;rintro e w4 ⟨rfl,M⟩;have U:=G.trans (M.mono G.size);go_wp2;go_ret2;exact⟨rfl,U⟩
theorem Qny (xs:List Qq)(z:Kd)(u:(if (xs.map (·.k)).length=0 then ⟨0,0,0⟩ else keyAt (xs.map (·.k)) 0)=z)(A:Option Addr)(n c:Nat)(w:World)(D:Je w A n c xs) :
  Calls Tryz.prog 275 #[.slice A n c,.func (.func 170) #[] #[]] w λe P=>e=.returned (.agg #[.int .i64 z.obj,.int .i64 z.kind,.int .i64 z.off])/\Below w.1.size w P:=by
 have d:=D.len;obtain⟨K,E⟩:=D.bounds;unfold maxLen at E;have p:KB (w.alloc (.cells #[.int .i64 0,.int .i64 0,.int .i64 0] 45)) w.1.size ⟨0,0,0⟩:=KB.new w 0 0 0 _;have q:Below w.1.size w (w.alloc (.cells #[.int .i64 0,.int .i64 0,.int .i64 0] 45)):=Ib;by_cases h0:n=0
 ·obtain rfl:(⟨0,0,0⟩:Kd)=z:=by rw[<-u,if_pos (by rw[List.length_map,d];exact h0)]
  subst h0;clear u d;go_enter Tryz.func275,Tryz.ntmps275
  go_wp2_with (first
   |(refine Nz rfl (.tmp 4) (.tmp 8) rfl w.1.size rfl ⟨0,0,0⟩ _ rfl p ?_;intro R y B)
   |fail)
  refine bodyPost_ret (Rl Tryz.results275 rfl (Ri y)) rfl ?_;exact⟨rfl,q.trans ((B.I9 p.lt).mono (Nat.le_refl _))⟩
 ·have m:keyAt (xs.map (·.k)) 0=z:=by rw[<-u,if_neg (by rw[List.length_map,d];exact h0)]
  rw[Qru] at m;obtain⟨g,o,G,O,I,J,M,c0,c1,c2,c3,_⟩:=(D.below q).cell (show 0<n by omega);subst J;rw[Nat.zero_mul,Nat.add_zero] at c0 c1 c2 c3;rw[m] at c0 c1 c2;clear u m d;have h1:((n:Int)==0)=false:=by simp;omega
  have h2:decide ((n:Int)=0)=false:=decide_eq_false (by omega);have T:(0:Int)<(n:Int):=by omega
  go_enter Tryz.func275,Tryz.ntmps275
  go_wp2_with fail
  generalize w.alloc (.cells #[.int .i64 0,.int .i64 0,.int .i64 0] 45)=Q at p q M c0 c1 c2 c3 ⊢;go_wp2_with fail
  refine (Pg z G O I Q).mono ?_;rintro e U ⟨rfl,f⟩;have F:=p.below f p.lt;have H:=q.trans (f.mono q.size);go_wp2_with (first
   |(refine Nz rfl (.tmp 4) (.tmp 13) rfl w.1.size rfl z _ rfl F ?_;intro R y B)
   |fail)
  refine bodyPost_ret (Rl Tryz.results275 rfl (Ri y)) rfl ?_;exact⟨rfl,H.trans ((B.I9 F.lt).mono (Nat.le_refl _))⟩
theorem Qnz (xs:List Qk)(z:Kd)(u:(if (xs.map (·.k)).length=0 then ⟨0,0,0⟩ else keyAt (xs.map (·.k)) 0)=z)(A:Option Addr)(n c:Nat)(w:World)(D:Q7 w A n c xs) :
  Calls Tryz.prog 276 #[.slice A n c,.func (.func 173) #[] #[]] w λe M=>e=.returned (.agg #[.int .i64 z.obj,.int .i64 z.kind,.int .i64 z.off])/\Below w.1.size w M:=by
 have d:=D.len;obtain⟨J,E⟩:=D.bounds;unfold maxLen at E;have p:KB (w.alloc (.cells #[.int .i64 0,.int .i64 0,.int .i64 0] 45)) w.1.size ⟨0,0,0⟩:=KB.new w 0 0 0 _;have q:Below w.1.size w (w.alloc (.cells #[.int .i64 0,.int .i64 0,.int .i64 0] 45)):=Ib;by_cases h0:n=0
 ·obtain rfl:(⟨0,0,0⟩:Kd)=z:=by rw[<-u,if_pos (by rw[List.length_map,d];exact h0)]
  subst h0;clear u d;go_enter Tryz.func276,Tryz.ntmps276
  go_wp2_with (first
   |(refine Nz rfl (.tmp 4) (.tmp 8) rfl w.1.size rfl ⟨0,0,0⟩ _ rfl p ?_;intro P y B)
   |fail)
  refine bodyPost_ret (Rl Tryz.results276 rfl (Ri y)) rfl ?_;exact⟨rfl,q.trans ((B.I9 p.lt).mono (Nat.le_refl _))⟩
 ·have m:keyAt (xs.map (·.k)) 0=z:=by rw[<-u,if_neg (by rw[List.length_map,d];exact h0)]
  rw[Qmu] at m;obtain⟨g,o,I,K,c0,c1,c2,c3⟩:=(D.below q).cell (show 0<n by omega);subst I;rw[Nat.zero_mul,Nat.add_zero] at c0 c1 c2 c3;obtain⟨v,G⟩:∃v,(Ql xs 0).a=v:=⟨_,rfl⟩;rw[G] at c3;clear G;rw[m] at c0 c1 c2;clear u m d;have h1:((n:Int)==0)=false:=by simp;omega
  have h2:decide ((n:Int)=0)=false:=decide_eq_false (by omega);have Q:(0:Int)<(n:Int):=by omega
  go_enter Tryz.func276,Tryz.ntmps276
  go_wp2_with fail
  generalize w.alloc (.cells #[.int .i64 0,.int .i64 0,.int .i64 0] 45)=O at p q K c0 c1 c2 c3 ⊢;go_wp2_with fail
  refine (Ph z v O).mono ?_;rintro e R ⟨rfl,f⟩;have F:=p.below f p.lt;have H:=q.trans (f.mono q.size);go_wp2_with (first
   |(refine Nz rfl (.tmp 4) (.tmp 13) rfl w.1.size rfl z _ rfl F ?_;intro P y B)
   |fail)
  refine bodyPost_ret (Rl Tryz.results276 rfl (Ri y)) rfl ?_;exact⟨rfl,H.trans ((B.I9 F.lt).mono (Nat.le_refl _))⟩
theorem Qn0 (N:Nd)(p:N.fit)(z:Kd)(H:N.least=z)(A:Option Addr)(n c:Nat)(B:Option Addr)(m d:Nat)(w:World)(Q:Je w A n c N.items)(R:Q7 w B m d N.kids) :
  Calls Tryz.prog 253 #[.agg #[.int .i64 N.lvl,.slice A n c,.slice B m d]] w λe T=>e=.returned (.agg #[.int .i64 z.obj,.int .i64 z.kind,.int .i64 z.off])/\Below w.1.size w T:=by
 go_enter Tryz.func253,Tryz.ntmps253
 go_wp2_with fail
 have u:NB ((w.alloc (.cells #[.int .i64 N.lvl,.slice A n c,.slice B m d] 77)).alloc (.cells #[.int .i64 0,.int .i64 0,.int .i64 0] 45)) w.1.size N.lvl A n c B m d:=(NB.new w _ _ _ _ _ _ _ _).below (Ib) (by simp);have y:KB ((w.alloc (.cells #[.int .i64 N.lvl,.slice A n c,.slice B m d] 77)).alloc (.cells #[.int .i64 0,.int .i64 0,.int .i64 0] 45)) (w.1.size+1) ⟨0,0,0⟩:=KB.new2 w _ 0 0 0 _;have D:Below w.1.size w ((w.alloc (.cells #[.int .i64 N.lvl,.slice A n c,.slice B m d] 77)).alloc (.cells #[.int .i64 0,.int .i64 0,.int .i64 0] 45)):=(Ib).alloc (by simp) _;generalize (w.alloc (.cells #[.int .i64 N.lvl,.slice A n c,.slice B m d] 77)).alloc (.cells #[.int .i64 0,.int .i64 0,.int .i64 0] 45)=P at u y D ⊢;by_cases E:N.lvl=0
 ·have Hz:=Lib.hid (show (if (N.items.map (·.k)).length=0 then ⟨0,0,0⟩ else keyAt (N.items.map (·.k)) 0)=z by rw[<-H,<-Qoq p E];rfl);refine (Nl N.lvl true (decide_eq_true E) A n c B m d P).mono ?_;rintro e O ⟨rfl,f⟩;have J:=u.below f u.lt;have F:=y.below f y.lt;have q:=D.trans (f.mono D.size);have W:=J.c1;clear E H u y D f;go_wp2_with fail
  refine (Qny N.items z Hz.out A n c O (Q.below q)).mono ?_;rintro e U ⟨rfl,g⟩;have G:=F.below g F.lt;have I:=q.trans (g.mono q.size);go_wp2_with (first
   |(refine Nz rfl (.tmp 2) (.tmp 7) rfl (w.1.size+1) rfl z _ rfl G ?_;intro V K M)
   |fail)
  refine bodyPost_ret (Rl Tryz.results253 rfl (Ri K)) rfl ?_;exact⟨rfl,I.trans ((M.I9 G.lt).mono (by omega))⟩
 ·have Hz:=Lib.hid (show (if (N.kids.map (·.k)).length=0 then ⟨0,0,0⟩ else keyAt (N.kids.map (·.k)) 0)=z by rw[<-H,<-Qlc p E];rfl);refine (Nl N.lvl false (decide_eq_false E) A n c B m d P).mono ?_;rintro e O ⟨rfl,f⟩;have J:=u.below f u.lt;have F:=y.below f y.lt;have q:=D.trans (f.mono D.size);have X:=J.c2;clear E H u y D f;go_wp2_with fail
  refine (Qnz N.kids z Hz.out B m d O (R.below q)).mono ?_;rintro e U ⟨rfl,g⟩;have G:=F.below g F.lt;have I:=q.trans (g.mono q.size);go_wp2_with (first
   |(refine Nz rfl (.tmp 2) (.tmp 10) rfl (w.1.size+1) rfl z _ rfl G ?_;intro V K M)
   |fail)
  refine bodyPost_ret (Rl Tryz.results253 rfl (Ri K)) rfl ?_;exact⟨rfl,I.trans ((M.I9 G.lt).mono (by omega))⟩
theorem Qz0 (v:List UInt8)(h:v.length=3):(Zo ((v.drop 1).take 2):Int)=256*(Xy v 1:Int)+(Xy v 2:Int):=by
 match v,h with
 |[a,b,c],_=>simp[Zo,Xy]
theorem Qh8 (x:Qq)(r:Bool)(z:(Vy x).isSome=r)(B:Option Addr)(m d:Nat)(w:World)(H:Sl w B m d x.v) :
  Calls Tryz.prog 150 #[.agg #[.int .i64 x.k.obj,.int .i64 x.k.kind,.int .i64 x.k.off,.slice B m d]] w λe K=>e=.returned (.bool r)/\Below w.1.size w K:=by
 have g:=H.len;have A:∀o,Below w.1.size w (w.alloc o):=λo=>(Below.refl _ _).alloc (Nat.le_refl _) o
 by_cases f:x.k.kind=3
 ·rw[f];by_cases G:m=3
  ·subst G;obtain⟨F,rfl,D,v0⟩:=H.cell (k:=0) (by omega);have E:∀o,(w.alloc o).cell? F=some (.int .u8 (Xy x.v 0:Int)):=λo=>((A o).cell (p:=F) D).trans v0
   by_cases q:Xy x.v 0=1
   ·obtain rfl:r=true:=by rw[<-z];unfold Vy;rw[if_pos ⟨f,g,q⟩];rfl
    rw[q] at E;clear q v0 z g f;go_enter Tryz.func150,Tryz.ntmps150
    go_wp2;go_ret;exact⟨rfl,A _⟩
   ·obtain rfl:r=false:=by rw[<-z];unfold Vy;rw[if_neg (λh=>q h.2.2)];rfl
    obtain⟨y,u⟩:∃y,Xy x.v 0=y:=⟨_,rfl⟩;rw[u] at E q;have I:((y:Int)==1)=false:=by simp;omega
    have J:decide ((y:Int)=1)=false:=decide_eq_false (by omega);clear u v0 z g f;go_enter Tryz.func150,Tryz.ntmps150
    go_wp2;go_ret;exact⟨rfl,A _⟩
  ·obtain rfl:r=false:=by rw[<-z];unfold Vy;rw[if_neg (λh=>G (by rw[<-g];exact h.2.1))];rfl
   have I:((m:Int)==3)=false:=by simp;omega
   have J:decide ((m:Int)=3)=false:=decide_eq_false (by omega);clear z g f;go_enter Tryz.func150,Tryz.ntmps150
   go_wp2;go_ret;exact⟨rfl,A _⟩
 ·obtain rfl:r=false:=by rw[<-z];unfold Vy;rw[if_neg (λh=>f h.1)];rfl
  obtain⟨y,u⟩:∃y,x.k.kind=y:=⟨_,rfl⟩;rw[u] at f ⊢;have I:(y==3)=false:=by simp;omega
  have J:decide (y=3)=false:=decide_eq_false (by omega);clear u z g;go_enter Tryz.func150,Tryz.ntmps150
  go_wp2;go_ret;exact⟨rfl,A _⟩
theorem Qia (N:Nd)(Z:N.fit)(A:Option Addr)(n c:Nat)(B:Option Addr)(m d:Nat)(w:World)(hI:Je w A n c N.items)(hK:Q7 w B m d N.kids)(hn:n<=1000)(hm:m<=1000) :
  Calls Tryz.prog 87 #[.agg #[.int .i64 N.lvl,.slice A n c,.slice B m d]] w λe w'=>∃F n' G,e=.returned (.slice F n' G)/\Qr w' w.1.size 3 1 F n' G (N.named.map iv)/\Below w.1.size w w':=by
 have a1:=Lib.hid hI.len;have b6:=Lib.hid hK.len;go_enter Tryz.func87,Tryz.ntmps87
 go_wp2_with fail
 have N1:NB (w.alloc (.cells #[.int .i64 N.lvl,.slice A n c,.slice B m d] 77)) w.1.size N.lvl A n c B m d:=NB.new w _ _ _ _ _ _ _ _;have b1:Below w.1.size w (w.alloc (.cells #[.int .i64 N.lvl,.slice A n c,.slice B m d] 77)):=Ib;generalize w.alloc (.cells #[.int .i64 N.lvl,.slice A n c,.slice B m d] 77)=w1 at N1 b1 ⊢;by_cases hl:N.lvl=0
 ·have c6:N.kids.length=0:=by rw[Z.1 hl];rfl
  have b3:=Lib.hid (show Qc9 N 0=O8 N 0 by have:=Qi9 N;rw[c6] at this;exact this);refine (Nl N.lvl true (decide_eq_true hl) A n c B m d w1).mono ?_;rintro e w2 ⟨rfl,H⟩;have N2:=N1.below H N1.lt;have B2:=b1.trans (H.mono b1.size);have q1:=N2.c1;have zN:=N2.lt;have Qwk:Qr w2 (w.1.size+1) 3 1 none 0 0 (O8 N 0):=by rw[<-b3.out];exact Lp _ _ _ _
  clear hl c6 N1 b1 H b3;go_wp2_with fail
  clear q1;go_loopw [3,31] (λl i wr=>∃(j q:Nat) (F:Option Addr) (G:Nat),j<=n/\q<=j/\i=.int .i64 (j:Int)/\l=.slice F q G/\Qr wr (w.1.size+1) 3 1 F q G (O8 N j)/\Below w.1.size w wr/\w.1.size<wr.1.size) (λ_ i _=>n-(intOf i).toNat)
  case atStart=>exact⟨0,0,_,_,Nat.zero_le _,Nat.le_refl _,rfl,rfl,Qwk,B2,zN⟩
  case round=>
   obtain⟨j,q,F,G,hj,hq,rfl,rfl,own,R,hz⟩:=hrel;by_cases M:j<n
   ·obtain⟨g,o,X,W,K,hA,hg,c0,c1,c2,c3,a8⟩:=(hI.below R).cell M;subst hA;have I:=λz h=>Lib.hid (Qr4 N j (by rw[a1.out];exact M) z h)
    have T:=λh=>Lib.hid (Qwc N j (by rw[a1.out];exact M) h)
    obtain⟨x,hx⟩:∃x,Qx N.items j=x:=⟨_,rfl⟩;rw[hx] at c0 c1 c2 a8 I T;clear hx;have Y:Below wr.1.size wr (wr.alloc (.cells #[.int .i64 x.k.obj,.int .i64 x.k.kind,.int .i64 x.k.off,.slice X W K] 50)):=Ib;have x0:(wr.alloc (.cells #[.int .i64 x.k.obj,.int .i64 x.k.kind,.int .i64 x.k.off,.slice X W K] 50)).1[wr.1.size]?=some (.cells #[.int .i64 x.k.obj,.int .i64 x.k.kind,.int .i64 x.k.off,.slice X W K] 50 (0,0)):=heap_alloc_new wr _;have zx:wr.1.size<(wr.alloc (.cells #[.int .i64 x.k.obj,.int .i64 x.k.kind,.int .i64 x.k.off,.slice X W K] 50)).1.size:=by simp
    go_wp2_with fail
    generalize wr.alloc (.cells #[.int .i64 x.k.obj,.int .i64 x.k.kind,.int .i64 x.k.off,.slice X W K] 50)=wx at Y x0 zx ⊢;have x3:wx.cell? ⟨wr.1.size,3,none⟩=some (.slice X W K):=by rw[cell_of_row _ _ _ _ _ _ x0];rfl
    have Q:=own.below Y;have J:=a8.below Y;have V:=R.trans (Y.mono R.size);obtain⟨d4,d5⟩:=(hI.below R).bounds;clear c0 c1 c2 c3 x0 own a8
    cases f:Vy x
    ·have hN:=T f;refine (Qh8 x false (by rw[f];rfl) X W K wx J).mono ?_;rintro e w3 ⟨rfl,y⟩;have D:=Q.below y;rw[<-hN.out] at D;have U:=V.trans (y.mono V.size);have c8:w.1.size<w3.1.size:=by have:=y.size;omega
     clear I T hN f;go_wp2;exact⟨⟨j+1,q,F,G,by omega,by omega,by go_num,rfl,D,U,c8⟩,by simp[intOf];omega⟩
    ·rename_i z;have hN:=I z f;refine (Qh8 x true (by rw[f];rfl) X W K wx J).mono ?_;rintro e w3 ⟨rfl,y⟩;have D:=Q.below y;have U:=V.trans (y.mono V.size);have c8:w.1.size<w3.1.size:=by have:=y.size;omega
     have y3:=(y.cell (p:=⟨wr.1.size,3,none⟩) zx).trans x3;have u:=J.below y;have c7:=u.len;have d6:=u.cap;have d3:=u.max;unfold maxLen at d3;have b0:x.v.length=3/\(Zo ((x.v.drop 1).take 2):Int)=z:=by
      unfold Vy at f;split at f
      ·rename_i h;exact⟨h.2.1,by rw[Qz0 _ h.2.1];exact Option.some.inj f⟩
      ·cases f
     obtain rfl:3=W:=by rw[<-c7];exact b0.1.symm
     have c9:=Lib.hid b0.2;obtain⟨b4,o4,rfl,_,_⟩:=Qp1 u (by omega);have hd:=u.drop (k:=1) (by omega);rw[if_neg (by omega:¬K=1)] at hd;have b8:Sl w3 (some ⟨b4,o4+1,none⟩) 2 (K-1) (x.v.drop 1):=hd;have d8:(1:Int)<=(K:Int):=by omega
     have d7:¬K=1:=by omega
     clear hd I T f b0 c7 Y x3 Q J R hz zx;go_wp2_with fail
     refine (Qb6 (some ⟨b4,o4+1,none⟩) 2 (K-1) _ 2 0 w3 b8 (by omega) (by omega) (by omega) (by omega) (by decide)).mono ?_;rintro e w4 ⟨A4,c4,rfl,_,a6⟩;rw[show (2:Int).toNat=2 from rfl,c9.out];have d0:=D.below a6;have d2:=U.trans (a6.mono U.size);have d9:w.1.size<w4.1.size:=by have:=a6.size;omega
     have b5:Below w4.1.size w4 (w4.alloc (.cells #[.int .i64 z] 3)):=Ib;clear D y3 b8 u c9;go_wp2_with (first
      |(at_builtin;refine Qhl _ Zfl rfl _ _ rfl (w.1.size+1) F q G (O8 N j) rfl (d0.below b5) (some ⟨w4.1.size,0,none⟩) 1 1 [iv z] rfl (Qpc w4 z) (by omega) (Qy2 z) (by omega) (by omega) (by have:=b5.size;omega) ?_)
      |fail)
     intro A5 c5 w5 E a7;have O:Below (w.1.size+1) w4 w5:=(b5.mono (by omega)).trans a7;have a2:=d2.trans (O.mono (by omega));have b2:w.1.size<w5.1.size:=by have:=O.size;omega
     rw[<-hN.out] at E;go_wp2;exact⟨⟨j+1,q+1,_,_,by omega,by omega,by go_num,rfl,E,a2,b2⟩,by simp[intOf];omega⟩
   ·obtain rfl:n=j:=by omega
    have P:Qr wr (w.1.size+1) 3 1 F q G (N.named.map iv):=by rw[<-Qi8,a1.out];exact own
    go_wp2;go_ret;exact⟨_,_,_,rfl,P.less (by omega),R⟩
 ·have b9:N.items.length=0:=by rw[Z.2 hl];rfl
  have d1:=Lib.hid (show O8 N 0=N.named.map iv by have:=Qi8 N;rw[b9] at this;exact this);refine (Nl N.lvl false (decide_eq_false hl) A n c B m d w1).mono ?_;rintro e w2 ⟨rfl,H⟩;have N2:=N1.below H N1.lt;have B2:=b1.trans (H.mono b1.size);have q2:=N2.c2;have zN:=N2.lt;clear hl b9 N1 b1 H;go_wp2_with fail
  clear q2;go_loopw [3,17] (λl i wr=>∃(j:Nat) (F:Option Addr) (G:Nat),j<=m/\i=.int .i64 (j:Int)/\l=.slice F j G/\Qr wr (w.1.size+1) 3 1 F j G (Qc9 N j)/\Below w.1.size w wr/\w.1.size<wr.1.size) (λ_ i _=>m-(intOf i).toNat)
  case atStart=>exact⟨0,_,_,Nat.zero_le _,rfl,rfl,Lp _ _ _ _,B2,zN⟩
  case round=>
   obtain⟨j,F,G,hj,rfl,rfl,own,R,hz⟩:=hrel;by_cases M:j<m
   ·obtain⟨g,o,hA,hg,c0,c1,c2,c3⟩:=(hK.below R).cell M;subst hA;have e2:=Qpl N j (by rw[b6.out];exact M);obtain⟨x,hx⟩:∃x,Ql N.kids j=x:=⟨_,rfl⟩;rw[hx] at c0 c1 c2 c3 e2;have E2:=Lib.hid e2;clear e2 hx;have Y:Below wr.1.size wr (wr.alloc (.cells #[.int .i64 x.k.obj,.int .i64 x.k.kind,.int .i64 x.k.off,.int .i64 x.a] 148)):=Ib;have b5:Below wr.1.size wr ((wr.alloc (.cells #[.int .i64 x.k.obj,.int .i64 x.k.kind,.int .i64 x.k.off,.int .i64 x.a] 148)).alloc (.cells #[.int .i64 x.a] 3)):=Y.alloc Y.size _;have b7:Zg ((wr.alloc (.cells #[.int .i64 x.k.obj,.int .i64 x.k.kind,.int .i64 x.k.off,.int .i64 x.a] 148)).alloc (.cells #[.int .i64 x.a] 3)) 1 (some ⟨wr.1.size+1,0,none⟩) 1 1 [iv x.a]:=by
     have:=Qpc (wr.alloc (.cells #[.int .i64 x.k.obj,.int .i64 x.k.kind,.int .i64 x.k.off,.int .i64 x.a] 148)) x.a;rwa [World.size_alloc] at this
    go_wp2_with (first
     |(at_builtin;refine Qhl _ Zfl rfl _ _ rfl (w.1.size+1) F j G (Qc9 N j) rfl (own.below b5) (some ⟨wr.1.size+1,0,none⟩) 1 1 [iv x.a] rfl b7 (by omega) (Qy2 x.a) (by omega) (by omega) (by have:=b5.size;omega) ?_)
     |fail)
    intro A5 c5 w5 E a7;have O:Below (w.1.size+1) wr w5:=(b5.mono (by omega)).trans a7;have a2:=R.trans (O.mono (by omega));have b2:w.1.size<w5.1.size:=by have:=O.size;omega
    rw[<-E2.out] at E;clear b7;go_wp2;exact⟨⟨j+1,_,_,by omega,by go_num,rfl,E,a2,b2⟩,by simp[intOf];omega⟩
   ·obtain rfl:m=j:=by omega
    have P:Qr wr (w.1.size+1) 3 1 F m G (N.named.map iv):=by
     rw[<-d1.out,<-Qi9,b6.out];exact own
    go_wp2;go_ret;exact⟨_,_,_,rfl,P.less (by omega),R⟩
