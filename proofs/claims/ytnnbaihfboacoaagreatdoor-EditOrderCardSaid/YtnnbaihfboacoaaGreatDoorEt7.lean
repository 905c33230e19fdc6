/- The code's node: Seek and Least -/
import Derived.Test.YtnnbaihfboacoaaGreatDoorEt6
namespace Go.Proofs.YtnnbaihfboacoaaGreatDoor
open Go Go.RowKit Go.Proofs
set_option maxHeartbeats 8000000
set_option maxRecDepth 100000
theorem qrg (xs:List Qc)(j:Nat):keyAt (xs.map (·.k)) j=(Qj xs j).k:=by
 unfold keyAt Qj;rw[List.getD_eq_getElem?_getD,List.getD_eq_getElem?_getD,List.getElem?_map]
 cases xs[j]?<;>rfl
theorem qis (xs:List Ql)(j:Nat):keyAt (xs.map (·.k)) j=(Qg xs j).k:=by
 unfold keyAt Qg;rw[List.getD_eq_getElem?_getD,List.getD_eq_getElem?_getD,List.getElem?_map]
 cases xs[j]?<;>rfl
theorem qh4 (xs:List Qc)(i:Nat)(k:Kd)(r:Bool)(G:Vb (xs.map (·.k)) k i=r)(A:Option Addr)(n c:Nat)(w:World)(H:Zl w A n c xs)(_:n<=100000) :
  Calls Tryz.prog 76 #[.slice A n c,.int .i64 (i:Int),.func (.func 75) #[] #[],.agg #[.int .i64 k.obj,.int .i64 k.kind,.int .i64 k.off]] w λe X=>e=.returned (.bool r)/\Below w.1.size w X:=by
 have U:=q5r;have b:=H.len;obtain⟨Q,I⟩:=H.bounds;unfold maxLen at I;have m:=(Xb w k).2;have J:=(Xb w k).1;have p:=H.below m;by_cases y:i<n
 ·obtain⟨s,F⟩:∃s,(keyAt (xs.map (·.k)) i).same k=s:=⟨_,rfl⟩;obtain rfl:s=r:=by rw[<-G,<-F];unfold Vb;rw[decide_eq_true (by rw[List.length_map,b];exact y),Bool.true_and]
  clear G b;go_enter Tryz.func76,Tryz.ntmps76
  go_wp2_with fail
  generalize w.alloc (.cells #[.int .i64 k.obj,.int .i64 k.kind,.int .i64 k.off] 30)=wr at m J p ⊢;have B:=J;obtain⟨g,o,P,M,O,Y,E,c0,c1,c2,c3,_⟩:=p.cell y;subst Y;have f:=qrg xs i;obtain⟨a,K⟩:∃a,(Qj xs i).k=a:=⟨_,rfl⟩;rw[K] at c0 c1 c2 f;have R:=Lib.hid f;clear K f;rw[R.out] at F;have hq:=O9 a k _ F;clear F;have p0:∀u:Grown wr,u.to.cell? ⟨g,o+i*4,none⟩=some (.int .i64 a.obj):=Grown.cell c0 E;have Z:∀u:Grown wr,u.to.cell? ⟨g,o+i*4+1,none⟩=some (.int .i64 a.kind):=Grown.cell c1 E;have p2:∀u:Grown wr,u.to.cell? ⟨g,o+i*4+2,none⟩=some (.int .i64 a.off):=Grown.cell c2 E;have p3:∀u:Grown wr,u.to.cell? ⟨g,o+i*4+3,none⟩=some (.slice P M O):=Grown.cell c3 E;have q0:∀u:Grown wr,u.to.cell? ⟨w.1.size,0,none⟩=some (.int .i64 k.obj):=Grown.cell B.c0 B.lt;have q1:∀u:Grown wr,u.to.cell? ⟨w.1.size,1,none⟩=some (.int .i64 k.kind):=Grown.cell B.c1 B.lt;have q2:∀u:Grown wr,u.to.cell? ⟨w.1.size,2,none⟩=some (.int .i64 k.off):=Grown.cell B.c2 B.lt;clear c0 c1 c2 c3;have T:(0:Int)<=(i:Int):=by omega
  have D:(i:Int)<(n:Int):=by omega
  refine Yc (by kernel_rfl) (by kernel_rfl) ?_;repeat (go_big_quiet_step (first
   |(go_at_call 75;exact Calls.grown (q2j a P M O _))
   |fail))
  refine wpQuiet_nil ?_;rintro _ ⟨u,rfl⟩;have d:=m.trans (u.ok.mono m.size);go_wp2;go_ret;exact⟨rfl,d⟩
 ·obtain rfl:r=false:=by rw[<-G];unfold Vb;rw[decide_eq_false (by rw[List.length_map,b];exact y),Bool.false_and]
  clear G b J p;have D:¬(i:Int)<(n:Int):=by omega
  have W:decide ((i:Int)<(n:Int))=false:=decide_eq_false D;go_enter Tryz.func76,Tryz.ntmps76
  go_wp2_with fail
  generalize w.alloc (.cells #[.int .i64 k.obj,.int .i64 k.kind,.int .i64 k.off] 30)=wr at m ⊢;refine Yc (by kernel_rfl) (by kernel_rfl) ?_;repeat (go_big_quiet_step (fail))
  refine wpQuiet_nil ?_;rintro _ ⟨u,rfl⟩;have d:=m.trans (u.ok.mono m.size);go_wp2;go_ret;exact⟨rfl,d⟩
theorem qh5 (xs:List Ql)(i:Nat)(k:Kd)(r:Bool)(G:Vb (xs.map (·.k)) k i=r)(A:Option Addr)(n c:Nat)(w:World)(H:Zm w A n c xs)(_:n<=100000) :
  Calls Tryz.prog 79 #[.slice A n c,.int .i64 (i:Int),.func (.func 78) #[] #[],.agg #[.int .i64 k.obj,.int .i64 k.kind,.int .i64 k.off]] w λe U=>e=.returned (.bool r)/\Below w.1.size w U:=by
 have R:=q5r;have b:=H.len;obtain⟨O,I⟩:=H.bounds;unfold maxLen at I;have m:=(Xb w k).2;have J:=(Xb w k).1;have p:=H.below m;by_cases y:i<n
 ·obtain⟨s,F⟩:∃s,(keyAt (xs.map (·.k)) i).same k=s:=⟨_,rfl⟩;obtain rfl:s=r:=by rw[<-G,<-F];unfold Vb;rw[decide_eq_true (by rw[List.length_map,b];exact y),Bool.true_and]
  clear G b;go_enter Tryz.func79,Tryz.ntmps79
  go_wp2_with fail
  generalize w.alloc (.cells #[.int .i64 k.obj,.int .i64 k.kind,.int .i64 k.off] 30)=wr at m J p ⊢;have B:=J;obtain⟨g,o,W,E,c0,c1,c2,c3⟩:=p.cell y;subst W;obtain⟨v,M⟩:∃v,(Qg xs i).a=v:=⟨_,rfl⟩;rw[M] at c3;clear M;have f:=qis xs i;obtain⟨a,K⟩:∃a,(Qg xs i).k=a:=⟨_,rfl⟩;rw[K] at c0 c1 c2 f;have P:=Lib.hid f;clear K f;rw[P.out] at F;have hq:=O9 a k _ F;clear F;have p0:∀u:Grown wr,u.to.cell? ⟨g,o+i*4,none⟩=some (.int .i64 a.obj):=Grown.cell c0 E;have X:∀u:Grown wr,u.to.cell? ⟨g,o+i*4+1,none⟩=some (.int .i64 a.kind):=Grown.cell c1 E;have p2:∀u:Grown wr,u.to.cell? ⟨g,o+i*4+2,none⟩=some (.int .i64 a.off):=Grown.cell c2 E;have p3:∀u:Grown wr,u.to.cell? ⟨g,o+i*4+3,none⟩=some (.int .i64 v):=Grown.cell c3 E;have q0:∀u:Grown wr,u.to.cell? ⟨w.1.size,0,none⟩=some (.int .i64 k.obj):=Grown.cell B.c0 B.lt;have Y:∀u:Grown wr,u.to.cell? ⟨w.1.size,1,none⟩=some (.int .i64 k.kind):=Grown.cell B.c1 B.lt;have Z:∀u:Grown wr,u.to.cell? ⟨w.1.size,2,none⟩=some (.int .i64 k.off):=Grown.cell B.c2 B.lt;clear c0 c1 c2 c3;have Q:(0:Int)<=(i:Int):=by omega
  have D:(i:Int)<(n:Int):=by omega
  refine Yc (by kernel_rfl) (by kernel_rfl) ?_;repeat (go_big_quiet_step (first
   |(go_at_call 78;exact Calls.grown (q2k a v _))
   |fail))
  refine wpQuiet_nil ?_;rintro _ ⟨u,rfl⟩;have d:=m.trans (u.ok.mono m.size);go_wp2;go_ret;exact⟨rfl,d⟩
 ·obtain rfl:r=false:=by rw[<-G];unfold Vb;rw[decide_eq_false (by rw[List.length_map,b];exact y),Bool.false_and]
  clear G b J p;have D:¬(i:Int)<(n:Int):=by omega
  have T:decide ((i:Int)<(n:Int))=false:=decide_eq_false D;go_enter Tryz.func79,Tryz.ntmps79
  go_wp2_with fail
  generalize w.alloc (.cells #[.int .i64 k.obj,.int .i64 k.kind,.int .i64 k.off] 30)=wr at m ⊢;refine Yc (by kernel_rfl) (by kernel_rfl) ?_;repeat (go_big_quiet_step (fail))
  refine wpQuiet_nil ?_;rintro _ ⟨u,rfl⟩;have d:=m.trans (u.ok.mono m.size);go_wp2;go_ret;exact⟨rfl,d⟩
theorem qrh (xs:List Qc)(k:Kd)(A:Option Addr)(n c:Nat)(w:World)(G:Zl w A n c xs)(_:n<=100000) :
  Calls Tryz.prog 74 #[.slice A n c,.func (.func 75) #[] #[],.agg #[.int .i64 k.obj,.int .i64 k.kind,.int .i64 k.off]] w λe w'=>e=.returned (.int .i64 (lead (xs.map (·.k)) k:Nat))/\Below w.1.size w w':=by
 have f:=Lib.hid (show (xs.map (·.k)).length=n by rw[List.length_map];exact G.len);obtain⟨Z,H⟩:=G.bounds;unfold maxLen at H;have K:=(Xb w k).2;have M:=(Xb w k).1;go_enter Tryz.func74,Tryz.ntmps74
 go_wp2_with fail
 generalize w.alloc (.cells #[.int .i64 k.obj,.int .i64 k.kind,.int .i64 k.off] 30)=W at K M ⊢;go_loopw [7] (λi wr=>∃j:Nat,j<=n/\i=.int .i64 (j:Int)/\(∀q,q<j->(keyAt (xs.map (·.k)) q).less k=true)/\Below W.1.size W wr) (λi _=>n-(intOf i).toNat)
 case atStart=>exact⟨0,Nat.zero_le _,rfl,λq hq=>by omega,Below.refl _ _⟩
 case round=>
  obtain⟨j,T,rfl,m,F⟩:=hrel;have D:=M.below F M.lt;have d:=K.trans (F.mono K.size);by_cases O:j<n
  ·have P:=G.below d;obtain⟨g,o,Y,R,X,hA,E,c0,c1,c2,c3,_⟩:=P.cell O;subst hA;have B:=qrg xs j;obtain⟨a,Q⟩:∃a,(Qj xs j).k=a:=⟨_,rfl⟩;rw[Q] at c0 c1 c2 B;have U:=Lib.hid B;clear Q B;obtain⟨r,J⟩:∃r,a.less k=r:=⟨_,rfl⟩;have p0:∀u:Grown wr,u.to.cell? ⟨g,o+j*4,none⟩=some (.int .i64 a.obj):=Grown.cell c0 E;have p1:∀u:Grown wr,u.to.cell? ⟨g,o+j*4+1,none⟩=some (.int .i64 a.kind):=Grown.cell c1 E;have p2:∀u:Grown wr,u.to.cell? ⟨g,o+j*4+2,none⟩=some (.int .i64 a.off):=Grown.cell c2 E;have p3:∀u:Grown wr,u.to.cell? ⟨g,o+j*4+3,none⟩=some (.slice Y R X):=Grown.cell c3 E;have q0:∀u:Grown wr,u.to.cell? ⟨w.1.size,0,none⟩=some (.int .i64 k.obj):=Grown.cell D.c0 D.lt;have q1:∀u:Grown wr,u.to.cell? ⟨w.1.size,1,none⟩=some (.int .i64 k.kind):=Grown.cell D.c1 D.lt;have q2:∀u:Grown wr,u.to.cell? ⟨w.1.size,2,none⟩=some (.int .i64 k.off):=Grown.cell D.c2 D.lt;clear c0 c1 c2 c3;have a1:(0:Int)<=(j:Int):=by omega
   have a2:(j:Int)<(n:Int):=by omega
   go_wp2_with fail
   refine Yc (by kernel_rfl) (by kernel_rfl) ?_;repeat (go_big_quiet_step (first
    |(go_at_call 75;exact Calls.grown (q2j a Y R X _))
    |(go_at_call 44;exact Calls.grown (q74 a k r J _))
    |fail))
   refine wpQuiet_nil ?_;rintro _ ⟨u,rfl⟩;have I:=F.trans (u.ok.mono F.size);have y:=d.trans (u.ok.mono d.size)
   cases r
   ·have b:=Lib.hid (qih (xs.map (·.k)) k j m (by rw[f.out];exact T) (.inr (by rw[U.out];exact J)));go_wp2;go_ret;exact⟨by rw[b.out];rfl,y⟩
   ·go_wp2;refine⟨⟨j+1,by omega,by go_num,λp hp=>?_,I⟩,by simp[intOf];omega⟩;rcases (by omega:p<j\/p=j) with h1|rfl
    ·exact m p h1
    ·rw[U.out];exact J
  ·obtain rfl:n=j:=by omega
   have b:=Lib.hid (qih (xs.map (·.k)) k n m (by rw[f.out];exact T) (.inl f.out.symm));go_wp2_with fail
   refine Yc (by kernel_rfl) (by kernel_rfl) ?_;repeat (go_big_quiet_step (fail))
   refine wpQuiet_nil ?_;rintro _ ⟨u,rfl⟩;have y:=d.trans (u.ok.mono d.size);go_wp2;go_ret;exact⟨by rw[b.out];rfl,y⟩
theorem qri (xs:List Ql)(k:Kd)(A:Option Addr)(n c:Nat)(w:World)(hI:Zm w A n c xs)(_:n<=100000) :
  Calls Tryz.prog 77 #[.slice A n c,.func (.func 78) #[] #[],.agg #[.int .i64 k.obj,.int .i64 k.kind,.int .i64 k.off]] w λe w'=>e=.returned (.int .i64 (lastTo (xs.map (·.k)) k n:Nat))/\Below w.1.size w w':=by
 obtain⟨a2,R⟩:=hI.bounds;unfold maxLen at R;have I:=(Xb w k).2;have P:=(Xb w k).1;obtain⟨T,Q⟩:∃T,lastTo (xs.map (·.k)) k n=T:=⟨_,rfl⟩;have HT:=Lib.hid Q;rw[Q];clear Q;rcases n with _|p
 ·have K:IntKind.i64.wrap (((0:Nat):Int)-1)=-1:=by decide
  have E:T=0:=by rw[<-HT.out];rfl
  subst E;go_enter Tryz.func77,Tryz.ntmps77
  go_wp2_with fail
  generalize w.alloc (.cells #[.int .i64 k.obj,.int .i64 k.kind,.int .i64 k.off] 30)=M at I P ⊢;go_loopw [7] (λi wr=>i=.int .i64 0/\Below M.1.size M wr) (λi _=>(intOf i).toNat)
  case atStart=>exact⟨rfl,Below.refl _ _⟩
  case round=>
   obtain⟨rfl,H⟩:=hrel;have b:=I.trans (H.mono I.size);go_wp2_with fail
   refine Yc (by kernel_rfl) (by kernel_rfl) ?_;repeat (go_big_quiet_step (fail))
   refine wpQuiet_nil ?_;rintro _ ⟨u,rfl⟩;have d:=b.trans (u.ok.mono b.size);go_wp2;go_ret;exact⟨rfl,d⟩
 ·have K:IntKind.i64.wrap (((p+1:Nat):Int)-1)=(p:Int):=by rw[show ((p+1:Nat):Int)-1=(p:Int) by omega];exact IntWalk.i64_in _ (by omega)
  have a8:(0:Int)<=(p:Int):=by omega
  go_enter Tryz.func77,Tryz.ntmps77
  go_wp2_with fail
  generalize w.alloc (.cells #[.int .i64 k.obj,.int .i64 k.kind,.int .i64 k.off] 30)=M at I P ⊢;clear K;go_loopw [7] (λi wr=>∃j:Nat,j<=p/\i=.int .i64 (j:Int)/\lastTo (xs.map (·.k)) k (j+1)=T/\Below M.1.size M wr) (λi _=>(intOf i).toNat)
  case atStart=>exact⟨p,Nat.le_refl _,rfl,HT.out,Below.refl _ _⟩
  case round=>
   obtain⟨j,hj,rfl,y,H⟩:=hrel;have G:=P.below H P.lt;have b:=I.trans (H.mono I.size);have f:=Lib.hid y;clear y;rcases j with _|q
   ·have E:T=0:=by rw[<-f.out];show (if _ then _ else _)=_;split<;>rfl
    subst E;go_wp2_with fail
    refine Yc (by kernel_rfl) (by kernel_rfl) ?_;repeat (go_big_quiet_step (fail))
    refine wpQuiet_nil ?_;rintro _ ⟨u,rfl⟩;have d:=b.trans (u.ok.mono b.size);go_wp2;go_ret;exact⟨rfl,d⟩
   ·have Y:=hI.below b;obtain⟨j,F⟩:∃j,q+1=j:=⟨_,rfl⟩;rw[F] at f hj ⊢;obtain⟨g,o,hA,O,c0,c1,c2,c3⟩:=Y.cell (show j<p+1 by omega);subst hA;obtain⟨v,hv⟩:∃v,(Qg xs j).a=v:=⟨_,rfl⟩;rw[hv] at c3;clear hv;have D:=qis xs j;obtain⟨a,Z⟩:∃a,(Qg xs j).k=a:=⟨_,rfl⟩;rw[Z] at c0 c1 c2 D;have Ha:=Lib.hid D;clear Z D;obtain⟨r,hr⟩:∃r,k.less a=r:=⟨_,rfl⟩;have m:=Lib.hid (show (if r=true then lastTo (xs.map (·.k)) k j else j)=T by rw[<-f.out];show _=(if k.less (keyAt (xs.map (·.k)) j)=true then lastTo (xs.map (·.k)) k j else j);rw[Ha.out,hr]);have p0:∀u:Grown wr,u.to.cell? ⟨g,o+j*4,none⟩=some (.int .i64 a.obj):=Grown.cell c0 O;have p1:∀u:Grown wr,u.to.cell? ⟨g,o+j*4+1,none⟩=some (.int .i64 a.kind):=Grown.cell c1 O;have p2:∀u:Grown wr,u.to.cell? ⟨g,o+j*4+2,none⟩=some (.int .i64 a.off):=Grown.cell c2 O;have p3:∀u:Grown wr,u.to.cell? ⟨g,o+j*4+3,none⟩=some (.int .i64 v):=Grown.cell c3 O;have q0:∀u:Grown wr,u.to.cell? ⟨w.1.size,0,none⟩=some (.int .i64 k.obj):=Grown.cell G.c0 G.lt;have q1:∀u:Grown wr,u.to.cell? ⟨w.1.size,1,none⟩=some (.int .i64 k.kind):=Grown.cell G.c1 G.lt;have q2:∀u:Grown wr,u.to.cell? ⟨w.1.size,2,none⟩=some (.int .i64 k.off):=Grown.cell G.c2 G.lt;clear c0 c1 c2 c3;have a1:(0:Int)<(j:Int):=by omega
    have X:0<j:=by omega
    have a7:decide (0<j)=true:=decide_eq_true X;have b2:(0:Int)<=(j:Int):=by omega
    have b3:(j:Int)<((p+1:Nat):Int):=by omega
    have a6:(j:Int)<(p:Int)+1:=by omega
    have b0:IntKind.i64.wrap ((j:Int)-1)=(q:Int):=by rw[show (j:Int)-1=(q:Int) by omega];exact IntWalk.i64_in _ (by omega)
    have B:=Lib.hid F;clear F;go_wp2_with fail
    refine Yc (by kernel_rfl) (by kernel_rfl) ?_;repeat (go_big_quiet_step (first
     |(go_at_call 78;exact Calls.grown (q2k a v _))
     |(go_at_call 44;exact Calls.grown (q74 k a r hr _))
     |fail))
    refine wpQuiet_nil ?_;rintro _ ⟨u,rfl⟩;have W:=H.trans (u.ok.mono H.size);have d:=b.trans (u.ok.mono b.size)
    cases r
    ·obtain rfl:j=T:=m.out;go_wp2;go_ret;exact⟨rfl,d⟩
    ·have J:lastTo (xs.map (·.k)) k j=T:=m.out;have U:=Lib.hid J;clear J;go_wp2;exact⟨⟨q,by have:=B.out;omega,rfl,by rw[B.out];exact U.out,W⟩,by have:=B.out;simp[intOf];omega⟩
def Ot (x:Qc):Bool:=decide (x.v.length<=28)
def Ou (x:Ql):Bool:=decide (1<=x.a/\x.a<=2047)
def okI (xs:List Qc)(j:Nat):Bool:=Wx (xs.map (·.k)) j&&Ot (Qj xs j)
def okK (xs:List Ql)(j:Nat):Bool:=Wx (xs.map (·.k)) j&&Ou (Qg xs j)
def Dp (xs:List Qc)(lo hi:Int):Bool:=decide (lo<=(xs.length:Int)/\(xs.length:Int)<=hi)&&(List.range xs.length).all (okI xs)
def Du (xs:List Ql)(lo hi:Int):Bool:=decide (lo<=(xs.length:Int)/\(xs.length:Int)<=hi)&&(List.range xs.length).all (okK xs)
theorem qvi {n:Nat}{f:Nat->Bool}{j:Nat}(b:j<n)(h:f j=false):(List.range n).all f=false:=by
 rw[List.all_eq_false];exact⟨j,List.mem_range.2 b,by rw[h];simp⟩
theorem qrj {n:Nat}{f:Nat->Bool}(h:∀j,j<n->f j=true):(List.range n).all f=true:=by
 rw[List.all_eq_true];exact λj b=>h j (List.mem_range.1 b)
theorem qet (xs:List Qc)(j:Nat):keyAt (xs.map (·.k)) j=(Qj xs j).k:=by
 unfold keyAt Qj;rw[List.getD_eq_getElem?_getD,List.getD_eq_getElem?_getD,List.getElem?_map]
 cases xs[j]?<;>rfl
theorem qbc (xs:List Ql)(j:Nat):keyAt (xs.map (·.k)) j=(Qg xs j).k:=by
 unfold keyAt Qg;rw[List.getD_eq_getElem?_getD,List.getD_eq_getElem?_getD,List.getElem?_map]
 cases xs[j]?<;>rfl
theorem qrk (xs:List Qc)(A:Option Addr)(n c:Nat)(lo hi:Int)(w:World)(hI:Zl w A n c xs)(hn:n<=100000) :
  Calls Tryz.prog 151 #[.slice A n c,.int .i64 lo,.int .i64 hi,.func (.func 75) #[] #[],.func (.func 152) #[] #[]] w λe w'=>e=.returned (.bool (Dp xs lo hi))/\Below w.1.size w w':=by
 have K:=Lib.hid hI.len;obtain⟨b2,b0⟩:=hI.bounds;unfold maxLen at b0;go_enter Tryz.func151,Tryz.ntmps151
 go_wp2_with fail
 refine (q35 (n:Int) lo hi _ rfl _).mono ?_
 cases hr:decide (lo<=(n:Int)/\(n:Int)<=hi)
 ·rintro e w1 ⟨rfl,rfl⟩;go_wp2;go_ret;exact⟨by unfold Dp;rw[K.out,hr];rfl,Below.refl _ _⟩
 ·rintro e w1 ⟨rfl,rfl⟩;have P:=Lib.hid (show Dp xs lo hi=(List.range n).all (okI xs) by unfold Dp;rw[K.out,hr];rfl);clear hr;go_wp2_with fail
  go_loopw [21] (λi wr=>∃j:Nat,j<=n/\i=.int .i64 (j:Int)/\(∀q,q<j->okI xs q=true)/\Below w.1.size w wr) (λi _=>n-(intOf i).toNat)
  case atStart=>exact⟨0,Nat.zero_le _,rfl,λq hq=>by omega,Below.refl _ _⟩
  case round=>
   obtain⟨j,hj,rfl,O,hB⟩:=hrel;by_cases a8:j<n
   ·have a7:=hI.below hB;obtain⟨g,o,F,B,E,hA,hg,c0,c1,c2,c3,X⟩:=a7.cell a8;subst hA;obtain⟨x,hx⟩:∃x,Qj xs j=x:=⟨_,rfl⟩;have I:=Lib.hid (show okI xs j=((x.k.may&&(decide (j=0)||(Qj xs (j-1)).k.less x.k))&&Ot x) by unfold okI Wx;rw[qet,qet,hx]);rw[hx] at c0 c1 c2 X;have a6:=X.len;obtain⟨f,D⟩:∃f,decide (B<=28)=f:=⟨_,rfl⟩;have G:=Lib.hid (show Ot x=f by unfold Ot;rw[a6,D]);clear a6;obtain⟨k,hk⟩:∃k,x.k=k:=⟨_,rfl⟩;rw[hk] at c0 c1 c2;obtain⟨r,hm⟩:∃r,k.may=r:=⟨_,rfl⟩;have Hk:=Lib.hid hk;clear hk hx;go_wp2_with fail
    have T:Below wr.1.size wr (wr.alloc (.cells #[.int .i64 k.obj,.int .i64 k.kind,.int .i64 k.off,.slice F B E] 68)):=Qm;have W:(wr.alloc (.cells #[.int .i64 k.obj,.int .i64 k.kind,.int .i64 k.off,.slice F B E] 68)).1[wr.1.size]?=some (.cells #[.int .i64 k.obj,.int .i64 k.kind,.int .i64 k.off,.slice F B E] 68 (0,0)):=heap_alloc_new wr _;have zx:wr.1.size<(wr.alloc (.cells #[.int .i64 k.obj,.int .i64 k.kind,.int .i64 k.off,.slice F B E] 68)).1.size:=by simp
    generalize wr.alloc (.cells #[.int .i64 k.obj,.int .i64 k.kind,.int .i64 k.off,.slice F B E] 68)=H at T W zx ⊢;have q0:∀u:Grown H,u.to.cell? ⟨wr.1.size,0,none⟩=some (.int .i64 k.obj):=Grown.cell (by rw[cell_of_row _ _ _ _ _ _ W];rfl) zx;have q1:∀u:Grown H,u.to.cell? ⟨wr.1.size,1,none⟩=some (.int .i64 k.kind):=Grown.cell (by rw[cell_of_row _ _ _ _ _ _ W];rfl) zx;have q2:∀u:Grown H,u.to.cell? ⟨wr.1.size,2,none⟩=some (.int .i64 k.off):=Grown.cell (by rw[cell_of_row _ _ _ _ _ _ W];rfl) zx;have q3:∀u:Grown H,u.to.cell? ⟨wr.1.size,3,none⟩=some (.slice F B E):=Grown.cell (by rw[cell_of_row _ _ _ _ _ _ W];rfl) zx;have m:=hB.trans (T.mono hB.size);clear c0 c1 c2 c3 W;have fin:∀b,okI xs j=b->b=false->Dp xs lo hi=false:=λb h1 h2=>by rw[P.out];exact qvi a8 (h1.trans h2)
    have R:=Lib.hid fin;clear fin
    cases r
    ·refine Yc (by kernel_rfl) (by kernel_rfl) ?_;repeat (go_big_quiet_step (first
      |(go_at_call 75;exact Calls.grown (q2j k F B E _))
      |(go_at_call 62;exact Calls.grown (q20 k false hm _))
      |fail))
     refine wpQuiet_nil ?_;rintro _ ⟨u,rfl⟩;have d:=m.trans (u.ok.mono m.size);go_wp2;go_ret;exact⟨by rw[R.out _ I.out (by rw[Hk.out,hm];rfl)];rfl,d⟩
    ·cases f
     ·refine Yc (by kernel_rfl) (by kernel_rfl) ?_;repeat (go_big_quiet_step (first
       |(go_at_call 75;exact Calls.grown (q2j k F B E _))
       |(go_at_call 152;exact Calls.grown (qb0 k F B E _ D _))
       |(go_at_call 62;exact Calls.grown (q20 k true hm _))
       |fail))
      refine wpQuiet_nil ?_;rintro _ ⟨u,rfl⟩;have d:=m.trans (u.ok.mono m.size);go_wp2;go_ret;exact⟨by rw[R.out _ I.out (by rw[G.out,Bool.and_false])];rfl,d⟩
     ·rcases j with _|q
      ·refine Yc (by kernel_rfl) (by kernel_rfl) ?_;repeat (go_big_quiet_step (first
        |(go_at_call 75;exact Calls.grown (q2j k F B E _))
        |(go_at_call 152;exact Calls.grown (qb0 k F B E _ D _))
        |(go_at_call 62;exact Calls.grown (q20 k true hm _))
        |fail))
       refine wpQuiet_nil ?_;rintro _ ⟨u,rfl⟩;have d:=m.trans (u.ok.mono m.size);go_wp2;refine⟨⟨1,by omega,rfl,λq hq=>?_,d⟩,by simp[intOf];omega⟩;obtain rfl:q=0:=by omega
       rw[I.out,Hk.out,hm,G.out];rfl
      ·obtain⟨g',o',B2,m2,d2,U,_,a0,a1,a2,a3,_⟩:=a7.cell (show q<n by omega);injection U with U;injection U with e1 e2;subst e1 e2;obtain⟨y,hy⟩:∃y,Qj xs q=y:=⟨_,rfl⟩;rw[hy] at a0 a1 a2;obtain⟨l,Q⟩:∃l,y.k=l:=⟨_,rfl⟩;rw[Q] at a0 a1 a2;obtain⟨s,hl⟩:∃s,l.less k=s:=⟨_,rfl⟩;have M:=Lib.hid (show okI xs (q+1)=s by rw[I.out,Hk.out,hm,G.out,show q+1-1=q by omega,hy,Q,hl];simp);clear hy Q;have J:g<H.1.size:=by have:=T.size;omega
       have p0:∀u:Grown H,u.to.cell? ⟨g,o+q*4,none⟩=some (.int .i64 l.obj):=Grown.cell ((T.cell (p:=⟨g,_,none⟩) hg).trans a0) J;have p1:∀u:Grown H,u.to.cell? ⟨g,o+q*4+1,none⟩=some (.int .i64 l.kind):=Grown.cell ((T.cell (p:=⟨g,_,none⟩) hg).trans a1) J;have p2:∀u:Grown H,u.to.cell? ⟨g,o+q*4+2,none⟩=some (.int .i64 l.off):=Grown.cell ((T.cell (p:=⟨g,_,none⟩) hg).trans a2) J;have p3:∀u:Grown H,u.to.cell? ⟨g,o+q*4+3,none⟩=some (.slice B2 m2 d2):=Grown.cell ((T.cell (p:=⟨g,_,none⟩) hg).trans a3) J;clear a0 a1 a2 a3;have b6:(0:Int)<=(q:Int):=by omega
       have b4:(q:Int)<(n:Int):=by omega
       have b1:(0:Int)<(q:Int)+1:=by omega
       have Z:IntKind.i64.wrap (q:Int)=(q:Int):=IntWalk.i64_in _ (by omega);have b3:IntKind.i64.wrap ((q:Int)+1-1)=(q:Int):=by rw[Int.add_sub_cancel];exact Z
       have b5:IntKind.i64.wrap (((q+1:Nat):Int)-1)=(q:Int):=by rw[show ((q+1:Nat):Int)-1=(q:Int) by omega];exact Z
       refine Yc (by kernel_rfl) (by kernel_rfl) ?_;repeat (go_big_quiet_step (first
        |(go_at_call 75;exact Calls.grown (q2j k F B E _))
        |(go_at_call 75;exact Calls.grown (q2j l B2 m2 d2 _))
        |(go_at_call 152;exact Calls.grown (qb0 k F B E _ D _))
        |(go_at_call 62;exact Calls.grown (q20 k true hm _))
        |(go_at_call 44;exact Calls.grown (q74 l k s hl _))
        |fail))
       refine wpQuiet_nil ?_;rintro _ ⟨u,rfl⟩;have d:=m.trans (u.ok.mono m.size)
       cases s
       ·go_wp2;go_ret;exact⟨by rw[R.out _ M.out rfl];rfl,d⟩
       ·go_wp2;refine⟨⟨q+2,by omega,by go_num,λp hp=>?_,d⟩,by simp[intOf];omega⟩;rcases (by omega:p<q+1\/p=q+1) with h1|rfl
        ·exact O p h1
        ·exact M.out
   ·obtain rfl:j=n:=by omega
    have Y:=Lib.hid (show Dp xs lo hi=true by rw[P.out];exact qrj O);go_wp2;go_ret;exact⟨by rw[Y.out];rfl,hB⟩
theorem qrl (xs:List Ql)(A:Option Addr)(n c:Nat)(lo hi:Int)(w:World)(hI:Zm w A n c xs)(hn:n<=100000) :
  Calls Tryz.prog 154 #[.slice A n c,.int .i64 lo,.int .i64 hi,.func (.func 78) #[] #[],.func (.func 155) #[] #[]] w λe w'=>e=.returned (.bool (Du xs lo hi))/\Below w.1.size w w':=by
 have H:=Lib.hid hI.len;obtain⟨a8,a6⟩:=hI.bounds;unfold maxLen at a6;go_enter Tryz.func154,Tryz.ntmps154
 go_wp2_with fail
 refine (q35 (n:Int) lo hi _ rfl _).mono ?_
 cases hr:decide (lo<=(n:Int)/\(n:Int)<=hi)
 ·rintro e w1 ⟨rfl,rfl⟩;go_wp2;go_ret;exact⟨by unfold Du;rw[H.out,hr];rfl,Below.refl _ _⟩
 ·rintro e w1 ⟨rfl,rfl⟩;have K:=Lib.hid (show Du xs lo hi=(List.range n).all (okK xs) by unfold Du;rw[H.out,hr];rfl);clear hr;go_wp2_with fail
  go_loopw [21] (λi wr=>∃j:Nat,j<=n/\i=.int .i64 (j:Int)/\(∀q,q<j->okK xs q=true)/\Below w.1.size w wr) (λi _=>n-(intOf i).toNat)
  case atStart=>exact⟨0,Nat.zero_le _,rfl,λq hq=>by omega,Below.refl _ _⟩
  case round=>
   obtain⟨j,hj,rfl,J,hB⟩:=hrel;by_cases Z:j<n
   ·have Y:=hI.below hB;obtain⟨g,o,hA,hg,c0,c1,c2,c3⟩:=Y.cell Z;subst hA;obtain⟨x,hx⟩:∃x,Qg xs j=x:=⟨_,rfl⟩;have F:=Lib.hid (show okK xs j=((x.k.may&&(decide (j=0)||(Qg xs (j-1)).k.less x.k))&&Ou x) by unfold okK Wx;rw[qbc,qbc,hx]);rw[hx] at c0 c1 c2 c3;obtain⟨v,hv⟩:∃v,x.a=v:=⟨_,rfl⟩;rw[hv] at c3;obtain⟨f,B⟩:∃f,decide (1<=v/\v<=2047)=f:=⟨_,rfl⟩;have D:=Lib.hid (show Ou x=f by unfold Ou;rw[hv,B]);clear hv;obtain⟨k,hk⟩:∃k,x.k=k:=⟨_,rfl⟩;rw[hk] at c0 c1 c2;obtain⟨r,hm⟩:∃r,k.may=r:=⟨_,rfl⟩;have Hk:=Lib.hid hk;clear hk hx;go_wp2_with fail
    have P:Below wr.1.size wr (wr.alloc (.cells #[.int .i64 k.obj,.int .i64 k.kind,.int .i64 k.off,.int .i64 v] 81)):=Qm;have R:(wr.alloc (.cells #[.int .i64 k.obj,.int .i64 k.kind,.int .i64 k.off,.int .i64 v] 81)).1[wr.1.size]?=some (.cells #[.int .i64 k.obj,.int .i64 k.kind,.int .i64 k.off,.int .i64 v] 81 (0,0)):=heap_alloc_new wr _;have X:wr.1.size<(wr.alloc (.cells #[.int .i64 k.obj,.int .i64 k.kind,.int .i64 k.off,.int .i64 v] 81)).1.size:=by simp
    generalize wr.alloc (.cells #[.int .i64 k.obj,.int .i64 k.kind,.int .i64 k.off,.int .i64 v] 81)=E at P R X ⊢;have q0:∀u:Grown E,u.to.cell? ⟨wr.1.size,0,none⟩=some (.int .i64 k.obj):=Grown.cell (by rw[cell_of_row _ _ _ _ _ _ R];rfl) X;have q1:∀u:Grown E,u.to.cell? ⟨wr.1.size,1,none⟩=some (.int .i64 k.kind):=Grown.cell (by rw[cell_of_row _ _ _ _ _ _ R];rfl) X;have q2:∀u:Grown E,u.to.cell? ⟨wr.1.size,2,none⟩=some (.int .i64 k.off):=Grown.cell (by rw[cell_of_row _ _ _ _ _ _ R];rfl) X;have q3:∀u:Grown E,u.to.cell? ⟨wr.1.size,3,none⟩=some (.int .i64 v):=Grown.cell (by rw[cell_of_row _ _ _ _ _ _ R];rfl) X;have m:=hB.trans (P.mono hB.size);clear c0 c1 c2 c3 R;have fin:∀b,okK xs j=b->b=false->Du xs lo hi=false:=λb h1 h2=>by rw[K.out];exact qvi Z (h1.trans h2)
    have O:=Lib.hid fin;clear fin
    cases r
    ·refine Yc (by kernel_rfl) (by kernel_rfl) ?_;repeat (go_big_quiet_step (first
      |(go_at_call 78;exact Calls.grown (q2k k v _))
      |(go_at_call 62;exact Calls.grown (q20 k false hm _))
      |fail))
     refine wpQuiet_nil ?_;rintro _ ⟨u,rfl⟩;have d:=m.trans (u.ok.mono m.size);go_wp2;go_ret;exact⟨by rw[O.out _ F.out (by rw[Hk.out,hm];rfl)];rfl,d⟩
    ·cases f
     ·refine Yc (by kernel_rfl) (by kernel_rfl) ?_;repeat (go_big_quiet_step (first
       |(go_at_call 78;exact Calls.grown (q2k k v _))
       |(go_at_call 155;exact Calls.grown (qb1 k v _ B _))
       |(go_at_call 62;exact Calls.grown (q20 k true hm _))
       |fail))
      refine wpQuiet_nil ?_;rintro _ ⟨u,rfl⟩;have d:=m.trans (u.ok.mono m.size);go_wp2;go_ret;exact⟨by rw[O.out _ F.out (by rw[D.out,Bool.and_false])];rfl,d⟩
     ·rcases j with _|q
      ·refine Yc (by kernel_rfl) (by kernel_rfl) ?_;repeat (go_big_quiet_step (first
        |(go_at_call 78;exact Calls.grown (q2k k v _))
        |(go_at_call 155;exact Calls.grown (qb1 k v _ B _))
        |(go_at_call 62;exact Calls.grown (q20 k true hm _))
        |fail))
       refine wpQuiet_nil ?_;rintro _ ⟨u,rfl⟩;have d:=m.trans (u.ok.mono m.size);go_wp2;refine⟨⟨1,by omega,rfl,λq hq=>?_,d⟩,by simp[intOf];omega⟩;obtain rfl:q=0:=by omega
       rw[F.out,Hk.out,hm,D.out];rfl
      ·obtain⟨g',o',Q,_,a0,a1,a2,a3⟩:=Y.cell (show q<n by omega);injection Q with Q;injection Q with e1 e2;subst e1 e2;obtain⟨y,hy⟩:∃y,Qg xs q=y:=⟨_,rfl⟩;rw[hy] at a0 a1 a2 a3;obtain⟨v2,T⟩:∃v2,y.a=v2:=⟨_,rfl⟩;rw[T] at a3;clear T;obtain⟨l,M⟩:∃l,y.k=l:=⟨_,rfl⟩;rw[M] at a0 a1 a2;obtain⟨s,hl⟩:∃s,l.less k=s:=⟨_,rfl⟩;have I:=Lib.hid (show okK xs (q+1)=s by rw[F.out,Hk.out,hm,D.out,show q+1-1=q by omega,hy,M,hl];simp);clear hy M;have G:g<E.1.size:=by have:=P.size;omega
       have p0:∀u:Grown E,u.to.cell? ⟨g,o+q*4,none⟩=some (.int .i64 l.obj):=Grown.cell ((P.cell (p:=⟨g,_,none⟩) hg).trans a0) G;have p1:∀u:Grown E,u.to.cell? ⟨g,o+q*4+1,none⟩=some (.int .i64 l.kind):=Grown.cell ((P.cell (p:=⟨g,_,none⟩) hg).trans a1) G;have p2:∀u:Grown E,u.to.cell? ⟨g,o+q*4+2,none⟩=some (.int .i64 l.off):=Grown.cell ((P.cell (p:=⟨g,_,none⟩) hg).trans a2) G;have p3:∀u:Grown E,u.to.cell? ⟨g,o+q*4+3,none⟩=some (.int .i64 v2):=Grown.cell ((P.cell (p:=⟨g,_,none⟩) hg).trans a3) G;clear a0 a1 a2 a3;have b3:(0:Int)<=(q:Int):=by omega
       have b1:(q:Int)<(n:Int):=by omega
       have a7:(0:Int)<(q:Int)+1:=by omega
       have W:IntKind.i64.wrap (q:Int)=(q:Int):=IntWalk.i64_in _ (by omega);have b0:IntKind.i64.wrap ((q:Int)+1-1)=(q:Int):=by rw[Int.add_sub_cancel];exact W
       have b2:IntKind.i64.wrap (((q+1:Nat):Int)-1)=(q:Int):=by rw[show ((q+1:Nat):Int)-1=(q:Int) by omega];exact W
       refine Yc (by kernel_rfl) (by kernel_rfl) ?_;repeat (go_big_quiet_step (first
        |(go_at_call 78;exact Calls.grown (q2k k v _))
        |(go_at_call 78;exact Calls.grown (q2k l v2 _))
        |(go_at_call 155;exact Calls.grown (qb1 k v _ B _))
        |(go_at_call 62;exact Calls.grown (q20 k true hm _))
        |(go_at_call 44;exact Calls.grown (q74 l k s hl _))
        |fail))
       refine wpQuiet_nil ?_;rintro _ ⟨u,rfl⟩;have d:=m.trans (u.ok.mono m.size)
       cases s
       ·go_wp2;go_ret;exact⟨by rw[O.out _ I.out rfl];rfl,d⟩
       ·go_wp2;refine⟨⟨q+2,by omega,by go_num,λp hp=>?_,d⟩,by simp[intOf];omega⟩;rcases (by omega:p<q+1\/p=q+1) with h1|rfl
        ·exact J p h1
        ·exact I.out
   ·obtain rfl:j=n:=by omega
    have U:=Lib.hid (show Du xs lo hi=true by rw[K.out];exact qrj J);go_wp2;go_ret;exact⟨by rw[U.out];rfl,hB⟩
theorem qeu {n:Nat}{f:Nat->Bool}:(List.range n).all f=true↔∀j,j<n->f j=true:=by
 rw[List.all_eq_true];exact⟨λh j b=>h j (List.mem_range.2 b),λh j b=>h j (List.mem_range.1 b)⟩
theorem qit (N:Nd):q6e N=true↔∀j,j<N.items.length->Ot (Qj N.items j)=true:=by
 constructor
 ·intro h j b;unfold q6e at h;exact List.all_eq_true.1 h _ (List.mem_of_getElem? (q11 b))
 ·intro h;exact qin λj b=>of_decide_eq_true (h j b)
theorem qn5 (N:Nd):G7 N=true↔∀j,j<N.kids.length->Ou (Qg N.kids j)=true:=by
 constructor
 ·intro h j b;unfold G7 at h;have:=of_decide_eq_true (List.all_eq_true.1 h _ (List.mem_of_getElem? (Rf b)));exact decide_eq_true (by omega)
 ·intro h;refine qn1 λj b=>?_
  have:=of_decide_eq_true (h j b);omega
theorem ql4 (N:Nd)(h:N.lvl=0)(e:N.kids.length=0):N.may=Dp N.items 1 6:=by
 have d:N.keys=N.items.map (·.k):=by unfold Nd.keys;rw[List.eq_nil_of_length_eq_zero e];simp
 unfold Nd.may Dp;rw[if_pos h,d,Bool.eq_iff_iff];simp only[Bool.and_eq_true,decide_eq_true_eq,qit,rises,okI,qeu,List.length_map];constructor
 ·rintro⟨h1,h2,f⟩;exact⟨by omega,λj b=>⟨h2 j b,h1 j b⟩⟩
 ·rintro⟨h1,h2⟩;exact⟨λj b=>(h2 j b).2,λj b=>(h2 j b).1,by omega⟩
theorem qiu (N:Nd)(h:N.lvl=0)(b:¬N.kids.length=0):N.may=false:=by
 unfold Nd.may;rw[if_pos h,decide_eq_false (by omega),Bool.and_false,Bool.and_false]
theorem qh6 (N:Nd)(h:¬N.lvl=0)(e:1<=N.lvl/\N.lvl<=7)(hi:N.items.length=0):N.may=Du N.kids 2 12:=by
 have d:N.keys=N.kids.map (·.k):=by unfold Nd.keys;rw[List.eq_nil_of_length_eq_zero hi];simp
 unfold Nd.may Du;rw[if_neg h,d,Bool.eq_iff_iff];simp only[Bool.and_eq_true,decide_eq_true_eq,qn5,rises,okK,qeu,List.length_map];constructor
 ·rintro⟨h1,h2,f⟩;exact⟨by omega,λj b=>⟨h2 j b,h1 j b⟩⟩
 ·rintro⟨h1,h2⟩;exact⟨λj b=>(h2 j b).2,λj b=>(h2 j b).1,by omega⟩
theorem q8t (N:Nd)(h:¬N.lvl=0)(b:¬((1<=N.lvl/\N.lvl<=7)/\N.items.length=0)):N.may=false:=by
 unfold Nd.may;rw[if_neg h,decide_eq_false (by omega),Bool.and_false,Bool.and_false]
theorem q2l (N:Nd)(r:Bool)(I:N.may=r)(A:Option Addr)(n c:Nat)(B:Option Addr)(m d:Nat)(w:World)(P:Zl w A n c N.items)(U:Zm w B m d N.kids)(hn:n<=1000)(hm:m<=1000) :
  Calls Tryz.prog 118 #[.agg #[.int .i64 N.lvl,.slice A n c,.slice B m d]] w λe Z=>e=.returned (.bool r)/\Below w.1.size w Z:=by
 have H:=Lib.hid P.len;have G:=Lib.hid U.len;go_enter Tryz.func118,Tryz.ntmps118
 go_wp2_with fail
 have E:NB (w.alloc (.cells #[.int .i64 N.lvl,.slice A n c,.slice B m d] 75)) w.1.size N.lvl A n c B m d:=NB.new w _ _ _ _ _ _ _ _;have F:Below w.1.size w (w.alloc (.cells #[.int .i64 N.lvl,.slice A n c,.slice B m d] 75)):=Qm;generalize w.alloc (.cells #[.int .i64 N.lvl,.slice A n c,.slice B m d] 75)=T at E F ⊢;by_cases D:N.lvl=0
 ·refine (Rh N.lvl true (decide_eq_true D) A n c B m d T).mono ?_;rintro e R ⟨rfl,f⟩;have y:=E.below f E.lt;have p:=F.trans (f.mono F.size);have Y:=y.c0;have W:=y.c1;have X:=y.c2;clear E F f;by_cases O:m=0
  ·have b:=Lib.hid (show r=Dp N.items 1 6 by rw[<-I];exact ql4 N D (by rw[G.out];exact O));subst O;go_wp2_with fail
   refine (qrk N.items A n c 1 6 R (P.below p) (by omega)).mono ?_;rintro e M ⟨rfl,u⟩;have K:=p.trans (u.mono p.size);go_wp2;go_ret;exact⟨by rw[b.out];rfl,K⟩
  ·have b:=Lib.hid (show r=false by rw[<-I];exact qiu N D (by rw[G.out];exact O));have h1:((m:Int)==0)=false:=by simp;omega
   have h2:decide ((m:Int)=0)=false:=decide_eq_false (by omega);go_wp2;go_ret;exact⟨by rw[b.out];rfl,p⟩
 ·refine (Rh N.lvl false (decide_eq_false D) A n c B m d T).mono ?_;rintro e R ⟨rfl,f⟩;have y:=E.below f E.lt;have p:=F.trans (f.mono F.size);have Y:=y.c0;have W:=y.c1;have X:=y.c2;clear E F f;go_wp2_with fail
  by_cases J:1<=N.lvl/\N.lvl<=7
  ·refine (q35 N.lvl 1 7 true (decide_eq_true J) _).mono ?_;rintro e M ⟨rfl,rfl⟩;by_cases Q:n=0
   ·have b:=Lib.hid (show r=Du N.kids 2 12 by rw[<-I];exact qh6 N D J (by rw[H.out];exact Q));subst Q;go_wp2_with fail
    refine (qrl N.kids B m d 2 12 _ (U.below p) (by omega)).mono ?_;rintro e M ⟨rfl,u⟩;have K:=p.trans (u.mono p.size);go_wp2;go_ret;exact⟨by rw[b.out];rfl,K⟩
   ·have b:=Lib.hid (show r=false by rw[<-I];exact q8t N D (by rw[H.out];omega));have h1:((n:Int)==0)=false:=by simp;omega
    have h2:decide ((n:Int)=0)=false:=decide_eq_false (by omega);go_wp2;go_ret;exact⟨by rw[b.out];rfl,p⟩
  ·refine (q35 N.lvl 1 7 false (decide_eq_false J) _).mono ?_;rintro e M ⟨rfl,rfl⟩;have b:=Lib.hid (show r=false by rw[<-I];exact q8t N D (by omega));go_wp2;go_ret;exact⟨by rw[b.out];rfl,p⟩
def Nd.fit (N:Nd):Prop:=(N.lvl=0->N.kids=[])/\(¬N.lvl=0->N.items=[])
theorem Nj {N:Nd}(hm:N.may=true):N.fit:=by
 constructor
 ·intro b;refine List.eq_nil_of_length_eq_zero ?_;unfold Nd.may at hm;rw[if_pos b,Bool.and_eq_true,Bool.and_eq_true] at hm;exact (of_decide_eq_true hm.2.2).1
 ·intro b;refine List.eq_nil_of_length_eq_zero ?_;unfold Nd.may at hm;rw[if_neg b,Bool.and_eq_true,Bool.and_eq_true] at hm;exact (of_decide_eq_true hm.2.2).2.2.1
theorem ql5 {N:Nd}(h:N.fit)(b:N.lvl=0):N.keys=N.items.map (·.k):=by unfold Nd.keys;rw[h.1 b];simp
theorem qh7 {N:Nd}(h:N.fit)(b:¬N.lvl=0):N.keys=N.kids.map (·.k):=by unfold Nd.keys;rw[h.2 b];simp
theorem q22 (N:Nd)(G:N.fit)(k:Kd)(t:Nat)(U:N.Za k=t)(r:Bool)(W:Vb N.keys k t=r)(A:Option Addr)(n c:Nat)(B:Option Addr)(m d:Nat)(w:World)(hI:Zl w A n c N.items)(hK:Zm w B m d N.kids)(hn:n<=1000)(hm:m<=1000) :
  Calls Tryz.prog 42 #[.agg #[.int .i64 N.lvl,.slice A n c,.slice B m d],.agg #[.int .i64 k.obj,.int .i64 k.kind,.int .i64 k.off]] w λe w'=>e=.returned (.tuple #[.int .i64 (t:Int),.bool r])/\Below w.1.size w w':=by
 have Y:=Lib.hid hK.len;go_enter Tryz.func42,Tryz.ntmps42
 go_wp2_with fail
 have K:NB ((w.alloc (.cells #[.int .i64 N.lvl,.slice A n c,.slice B m d] 75)).alloc (.cells #[.int .i64 k.obj,.int .i64 k.kind,.int .i64 k.off] 30)) w.1.size N.lvl A n c B m d:=(NB.new w _ _ _ _ _ _ _ _).below (Qm) (by simp);have P:KB ((w.alloc (.cells #[.int .i64 N.lvl,.slice A n c,.slice B m d] 75)).alloc (.cells #[.int .i64 k.obj,.int .i64 k.kind,.int .i64 k.off] 30)) (w.1.size+1) k:=KB.new2 w _ k.obj k.kind k.off _;have O:Below w.1.size w ((w.alloc (.cells #[.int .i64 N.lvl,.slice A n c,.slice B m d] 75)).alloc (.cells #[.int .i64 k.obj,.int .i64 k.kind,.int .i64 k.off] 30)):=(Qm).alloc (by simp) _;generalize (w.alloc (.cells #[.int .i64 N.lvl,.slice A n c,.slice B m d] 75)).alloc (.cells #[.int .i64 k.obj,.int .i64 k.kind,.int .i64 k.off] 30)=w1 at K P O ⊢;by_cases F:N.lvl=0
 ·have u:=ql5 G F;have y:=Lib.hid (show lead (N.items.map (·.k)) k=t by rw[<-U];unfold Nd.Za;rw[if_pos F,u]);have p:=Lib.hid (show Vb (N.items.map (·.k)) k t=r by rw[<-W,u]);refine (Rh N.lvl true (decide_eq_true F) A n c B m d w1).mono ?_;rintro e w2 ⟨rfl,f⟩;have E:=K.below f K.lt;have D:=P.below f P.lt;have I:=O.trans (f.mono O.size);have q1:=E.c1;have Q:=D.c0;have R:=D.c1;have T:=D.c2;clear F u U W K P O f;go_wp2_with fail
  refine (qrh N.items k A n c w2 (hI.below I) (by omega)).mono ?_;rw[y.out];rintro e w3 ⟨rfl,b⟩;have Z:=E.below b E.lt;have M:=D.below b D.lt;have H:=I.trans (b.mono I.size);clear q1 Q R T;have q1:=Z.c1;have Q:=M.c0;have R:=M.c1;have T:=M.c2;clear E D b;go_wp2_with fail
  refine (qh4 N.items t k r p.out A n c w3 (hI.below H) (by omega)).mono ?_;rintro e w4 ⟨rfl,J⟩;have X:=H.trans (J.mono H.size);go_wp2;go_ret2;exact⟨rfl,X⟩
 ·have u:=qh7 G F;have y:=Lib.hid (show lastTo (N.kids.map (·.k)) k m=t by rw[<-U];unfold Nd.Za;rw[if_neg F,u,List.length_map,Y.out]);have p:=Lib.hid (show Vb (N.kids.map (·.k)) k t=r by rw[<-W,u]);refine (Rh N.lvl false (decide_eq_false F) A n c B m d w1).mono ?_;rintro e w2 ⟨rfl,f⟩;have E:=K.below f K.lt;have D:=P.below f P.lt;have I:=O.trans (f.mono O.size);have q2:=E.c2;have Q:=D.c0;have R:=D.c1;have T:=D.c2;clear F u U W K P O f;go_wp2_with fail
  refine (qri N.kids k B m d w2 (hK.below I) (by omega)).mono ?_;rw[y.out];rintro e w3 ⟨rfl,b⟩;have Z:=E.below b E.lt;have M:=D.below b D.lt;have H:=I.trans (b.mono I.size);clear q2 Q R T;have q2:=Z.c2;have Q:=M.c0;have R:=M.c1;have T:=M.c2;clear E D b;go_wp2_with fail
  refine (qh5 N.kids t k r p.out B m d w3 (hK.below H) (by omega)).mono ?_;rintro e w4 ⟨rfl,J⟩;have X:=H.trans (J.mono H.size);go_wp2;go_ret2;exact⟨rfl,X⟩
theorem qiv (xs:List Qc)(z:Kd)(u:(if (xs.map (·.k)).length=0 then ⟨0,0,0⟩ else keyAt (xs.map (·.k)) 0)=z)(A:Option Addr)(n c:Nat)(w:World)(y:Zl w A n c xs) :
  Calls Tryz.prog 195 #[.slice A n c,.func (.func 75) #[] #[]] w λe Q=>e=.returned (.agg #[.int .i64 z.obj,.int .i64 z.kind,.int .i64 z.off])/\Below w.1.size w Q:=by
 have b:=y.len;obtain⟨I,B⟩:=y.bounds;unfold maxLen at B;have p:KB (w.alloc (.cells #[.int .i64 0,.int .i64 0,.int .i64 0] 30)) w.1.size ⟨0,0,0⟩:=KB.new w 0 0 0 _;have m:Below w.1.size w (w.alloc (.cells #[.int .i64 0,.int .i64 0,.int .i64 0] 30)):=Qm;by_cases h0:n=0
 ·obtain rfl:(⟨0,0,0⟩:Kd)=z:=by rw[<-u,if_pos (by rw[List.length_map,b];exact h0)]
  subst h0;clear u b;go_enter Tryz.func195,Tryz.ntmps195
  go_wp2_with (first
   |(refine q0x rfl (.tmp 4) (.tmp 8) rfl w.1.size rfl ⟨0,0,0⟩ _ rfl p ?_;intro O D E)
   |fail)
  refine bodyPost_ret (Og Tryz.results195 rfl (q34 D)) rfl ?_;exact⟨rfl,m.trans ((E.Qw p.lt).mono (Nat.le_refl _))⟩
 ·have f:keyAt (xs.map (·.k)) 0=z:=by rw[<-u,if_neg (by rw[List.length_map,b];exact h0)]
  rw[qrg] at f;obtain⟨g,o,K,G,P,R,H,c0,c1,c2,c3,_⟩:=(y.below m).cell (show 0<n by omega);subst R;rw[Nat.zero_mul,Nat.add_zero] at c0 c1 c2 c3;rw[f] at c0 c1 c2;clear u f b;have h1:((n:Int)==0)=false:=by simp;omega
  have h2:decide ((n:Int)=0)=false:=decide_eq_false (by omega);have U:(0:Int)<(n:Int):=by omega
  go_enter Tryz.func195,Tryz.ntmps195
  go_wp2_with fail
  generalize w.alloc (.cells #[.int .i64 0,.int .i64 0,.int .i64 0] 30)=M at p m H c0 c1 c2 c3 ⊢;go_wp2_with fail
  refine (q2j z K G P M).mono ?_;rintro e T ⟨rfl,d⟩;have F:=p.below d p.lt;have J:=m.trans (d.mono m.size);go_wp2_with (first
   |(refine q0x rfl (.tmp 4) (.tmp 13) rfl w.1.size rfl z _ rfl F ?_;intro O D E)
   |fail)
  refine bodyPost_ret (Og Tryz.results195 rfl (q34 D)) rfl ?_;exact⟨rfl,J.trans ((E.Qw F.lt).mono (Nat.le_refl _))⟩
theorem qiw (xs:List Ql)(z:Kd)(u:(if (xs.map (·.k)).length=0 then ⟨0,0,0⟩ else keyAt (xs.map (·.k)) 0)=z)(A:Option Addr)(n c:Nat)(w:World)(y:Zm w A n c xs) :
  Calls Tryz.prog 196 #[.slice A n c,.func (.func 78) #[] #[]] w λe O=>e=.returned (.agg #[.int .i64 z.obj,.int .i64 z.kind,.int .i64 z.off])/\Below w.1.size w O:=by
 have b:=y.len;obtain⟨I,B⟩:=y.bounds;unfold maxLen at B;have p:KB (w.alloc (.cells #[.int .i64 0,.int .i64 0,.int .i64 0] 30)) w.1.size ⟨0,0,0⟩:=KB.new w 0 0 0 _;have m:Below w.1.size w (w.alloc (.cells #[.int .i64 0,.int .i64 0,.int .i64 0] 30)):=Qm;by_cases h0:n=0
 ·obtain rfl:(⟨0,0,0⟩:Kd)=z:=by rw[<-u,if_pos (by rw[List.length_map,b];exact h0)]
  subst h0;clear u b;go_enter Tryz.func196,Tryz.ntmps196
  go_wp2_with (first
   |(refine q0x rfl (.tmp 4) (.tmp 8) rfl w.1.size rfl ⟨0,0,0⟩ _ rfl p ?_;intro P D E)
   |fail)
  refine bodyPost_ret (Og Tryz.results196 rfl (q34 D)) rfl ?_;exact⟨rfl,m.trans ((E.Qw p.lt).mono (Nat.le_refl _))⟩
 ·have f:keyAt (xs.map (·.k)) 0=z:=by rw[<-u,if_neg (by rw[List.length_map,b];exact h0)]
  rw[qis] at f;obtain⟨g,o,M,H,c0,c1,c2,c3⟩:=(y.below m).cell (show 0<n by omega);subst M;rw[Nat.zero_mul,Nat.add_zero] at c0 c1 c2 c3;obtain⟨v,F⟩:∃v,(Qg xs 0).a=v:=⟨_,rfl⟩;rw[F] at c3;clear F;rw[f] at c0 c1 c2;clear u f b;have h1:((n:Int)==0)=false:=by simp;omega
  have h2:decide ((n:Int)=0)=false:=decide_eq_false (by omega);have R:(0:Int)<(n:Int):=by omega
  go_enter Tryz.func196,Tryz.ntmps196
  go_wp2_with fail
  generalize w.alloc (.cells #[.int .i64 0,.int .i64 0,.int .i64 0] 30)=K at p m H c0 c1 c2 c3 ⊢;go_wp2_with fail
  refine (q2k z v K).mono ?_;rintro e Q ⟨rfl,d⟩;have G:=p.below d p.lt;have J:=m.trans (d.mono m.size);go_wp2_with (first
   |(refine q0x rfl (.tmp 4) (.tmp 13) rfl w.1.size rfl z _ rfl G ?_;intro P D E)
   |fail)
  refine bodyPost_ret (Og Tryz.results196 rfl (q34 D)) rfl ?_;exact⟨rfl,J.trans ((E.Qw G.lt).mono (Nat.le_refl _))⟩
theorem qix (N:Nd)(p:N.fit)(z:Kd)(I:N.least=z)(A:Option Addr)(n c:Nat)(B:Option Addr)(m d:Nat)(w:World)(T:Zl w A n c N.items)(X:Zm w B m d N.kids) :
  Calls Tryz.prog 170 #[.agg #[.int .i64 N.lvl,.slice A n c,.slice B m d]] w λe W=>e=.returned (.agg #[.int .i64 z.obj,.int .i64 z.kind,.int .i64 z.off])/\Below w.1.size w W:=by
 go_enter Tryz.func170,Tryz.ntmps170
 go_wp2_with fail
 have y:NB ((w.alloc (.cells #[.int .i64 N.lvl,.slice A n c,.slice B m d] 75)).alloc (.cells #[.int .i64 0,.int .i64 0,.int .i64 0] 30)) w.1.size N.lvl A n c B m d:=(NB.new w _ _ _ _ _ _ _ _).below (Qm) (by simp);have E:KB ((w.alloc (.cells #[.int .i64 N.lvl,.slice A n c,.slice B m d] 75)).alloc (.cells #[.int .i64 0,.int .i64 0,.int .i64 0] 30)) (w.1.size+1) ⟨0,0,0⟩:=KB.new2 w _ 0 0 0 _;have D:Below w.1.size w ((w.alloc (.cells #[.int .i64 N.lvl,.slice A n c,.slice B m d] 75)).alloc (.cells #[.int .i64 0,.int .i64 0,.int .i64 0] 30)):=(Qm).alloc (by simp) _;generalize (w.alloc (.cells #[.int .i64 N.lvl,.slice A n c,.slice B m d] 75)).alloc (.cells #[.int .i64 0,.int .i64 0,.int .i64 0] 30)=R at y E D ⊢;by_cases F:N.lvl=0
 ·have K:=Lib.hid (show (if (N.items.map (·.k)).length=0 then ⟨0,0,0⟩ else keyAt (N.items.map (·.k)) 0)=z by rw[<-I,<-ql5 p F];rfl);refine (Rh N.lvl true (decide_eq_true F) A n c B m d R).mono ?_;rintro e P ⟨rfl,b⟩;have M:=y.below b y.lt;have H:=E.below b E.lt;have u:=D.trans (b.mono D.size);have Z:=M.c1;clear F I y E D b;go_wp2_with fail
  refine (qiv N.items z K.out A n c P (T.below u)).mono ?_;rintro e U ⟨rfl,f⟩;have G:=H.below f H.lt;have J:=u.trans (f.mono u.size);go_wp2_with (first
   |(refine q0x rfl (.tmp 2) (.tmp 7) rfl (w.1.size+1) rfl z _ rfl G ?_;intro Y O Q)
   |fail)
  refine bodyPost_ret (Og Tryz.results170 rfl (q34 O)) rfl ?_;exact⟨rfl,J.trans ((Q.Qw G.lt).mono (by omega))⟩
 ·have K:=Lib.hid (show (if (N.kids.map (·.k)).length=0 then ⟨0,0,0⟩ else keyAt (N.kids.map (·.k)) 0)=z by rw[<-I,<-qh7 p F];rfl);refine (Rh N.lvl false (decide_eq_false F) A n c B m d R).mono ?_;rintro e P ⟨rfl,b⟩;have M:=y.below b y.lt;have H:=E.below b E.lt;have u:=D.trans (b.mono D.size);have q2:=M.c2;clear F I y E D b;go_wp2_with fail
  refine (qiw N.kids z K.out B m d P (X.below u)).mono ?_;rintro e U ⟨rfl,f⟩;have G:=H.below f H.lt;have J:=u.trans (f.mono u.size);go_wp2_with (first
   |(refine q0x rfl (.tmp 2) (.tmp 10) rfl (w.1.size+1) rfl z _ rfl G ?_;intro Y O Q)
   |fail)
  refine bodyPost_ret (Og Tryz.results170 rfl (q34 O)) rfl ?_;exact⟨rfl,J.trans ((Q.Qw G.lt).mono (by omega))⟩
