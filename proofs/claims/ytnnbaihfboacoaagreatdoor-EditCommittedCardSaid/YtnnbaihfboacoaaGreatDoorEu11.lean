/- The code's node: Seek and Least -/
import Derived.Test.YtnnbaihfboacoaaGreatDoorEu10
namespace Go.Proofs.YtnnbaihfboacoaaGreatDoor
open Go Go.RowKit Go.Proofs
set_option maxHeartbeats 8000000
set_option maxRecDepth 100000
theorem qrg (xs:List Qc)(j:Nat):keyAt (xs.map (·.k)) j=(Qj xs j).k:=by
 unfold keyAt Qj;rw[List.getD_eq_getElem?_getD,List.getD_eq_getElem?_getD,List.getElem?_map]
 cases xs[j]?<;>rfl
theorem qis (xs:List Ql)(j:Nat):keyAt (xs.map (·.k)) j=(Qg xs j).k:=by
 unfold keyAt Qg;rw[List.getD_eq_getElem?_getD,List.getD_eq_getElem?_getD,List.getElem?_map]
 cases xs[j]?<;>rfl
theorem qh4 (xs:List Qc)(i:Nat)(k:Kd)(r:Bool)(F:Vb (xs.map (·.k)) k i=r)(A:Option Addr)(n c:Nat)(w:World)(I:Zl w A n c xs)(_:n<=100000) :
  Calls Tryz.prog 76 #[.slice A n c,.int .i64 (i:Int),.func (.func 75) #[] #[],.agg #[.int .i64 k.obj,.int .i64 k.kind,.int .i64 k.off]] w λe Y=>e=.returned (.bool r)/\Below w.1.size w Y:=by
 have U:=q5r;have b:=I.len;obtain⟨T,J⟩:=I.bounds;unfold maxLen at J;have d:=(Xb w k).2;have H:=(Xb w k).1;have m:=I.below d;by_cases y:i<n
 ·obtain⟨s,G⟩:∃s,(keyAt (xs.map (·.k)) i).same k=s:=⟨_,rfl⟩;obtain rfl:s=r:=by rw[<-F,<-G];unfold Vb;rw[decide_eq_true (by rw[List.length_map,b];exact y),Bool.true_and]
  clear F b;go_enter Tryz.func76,Tryz.ntmps76
  go_wp2_with fail
  generalize w.alloc (.cells #[.int .i64 k.obj,.int .i64 k.kind,.int .i64 k.off] 30)=wr at d H m ⊢;have B:=H;obtain⟨g,o,K,P,M,R,E,c0,c1,c2,c3,_⟩:=m.cell y;subst R;have p:=qrg xs i;obtain⟨a,O⟩:∃a,(Qj xs i).k=a:=⟨_,rfl⟩;rw[O] at c0 c1 c2 p;have Q:=Lib.hid p;clear O p;rw[Q.out] at G;have Z:=O9 a k _ G;clear G;have p0:∀u:Grown wr,u.to.cell? ⟨g,o+i*4,none⟩=some (.int .i64 a.obj):=Grown.cell c0 E;have p1:∀u:Grown wr,u.to.cell? ⟨g,o+i*4+1,none⟩=some (.int .i64 a.kind):=Grown.cell c1 E;have p2:∀u:Grown wr,u.to.cell? ⟨g,o+i*4+2,none⟩=some (.int .i64 a.off):=Grown.cell c2 E;have p3:∀u:Grown wr,u.to.cell? ⟨g,o+i*4+3,none⟩=some (.slice K P M):=Grown.cell c3 E;have q0:∀u:Grown wr,u.to.cell? ⟨w.1.size,0,none⟩=some (.int .i64 k.obj):=Grown.cell B.c0 B.lt;have q1:∀u:Grown wr,u.to.cell? ⟨w.1.size,1,none⟩=some (.int .i64 k.kind):=Grown.cell B.c1 B.lt;have q2:∀u:Grown wr,u.to.cell? ⟨w.1.size,2,none⟩=some (.int .i64 k.off):=Grown.cell B.c2 B.lt;clear c0 c1 c2 c3;have W:(0:Int)<=(i:Int):=by omega
  have D:(i:Int)<(n:Int):=by omega
  refine Yc (by kernel_rfl) (by kernel_rfl) ?_;repeat (go_big_quiet_step (first
   |(go_at_call 75;exact Calls.grown (q2j a K P M _))
   |fail))
  refine wpQuiet_nil ?_;rintro _ ⟨u,rfl⟩;have f:=d.trans (u.ok.mono d.size);go_wp2;go_ret;exact⟨rfl,f⟩
 ·obtain rfl:r=false:=by rw[<-F];unfold Vb;rw[decide_eq_false (by rw[List.length_map,b];exact y),Bool.false_and]
  clear F b H m;have D:¬(i:Int)<(n:Int):=by omega
  have X:decide ((i:Int)<(n:Int))=false:=decide_eq_false D;go_enter Tryz.func76,Tryz.ntmps76
  go_wp2_with fail
  generalize w.alloc (.cells #[.int .i64 k.obj,.int .i64 k.kind,.int .i64 k.off] 30)=wr at d ⊢;refine Yc (by kernel_rfl) (by kernel_rfl) ?_;repeat (go_big_quiet_step (fail))
  refine wpQuiet_nil ?_;rintro _ ⟨u,rfl⟩;have f:=d.trans (u.ok.mono d.size);go_wp2;go_ret;exact⟨rfl,f⟩
theorem qh5 (xs:List Ql)(i:Nat)(k:Kd)(r:Bool)(F:Vb (xs.map (·.k)) k i=r)(A:Option Addr)(n c:Nat)(w:World)(I:Zm w A n c xs)(_:n<=100000) :
  Calls Tryz.prog 79 #[.slice A n c,.int .i64 (i:Int),.func (.func 78) #[] #[],.agg #[.int .i64 k.obj,.int .i64 k.kind,.int .i64 k.off]] w λe W=>e=.returned (.bool r)/\Below w.1.size w W:=by
 have R:=q5r;have b:=I.len;obtain⟨Q,J⟩:=I.bounds;unfold maxLen at J;have d:=(Xb w k).2;have H:=(Xb w k).1;have m:=I.below d;by_cases y:i<n
 ·obtain⟨s,G⟩:∃s,(keyAt (xs.map (·.k)) i).same k=s:=⟨_,rfl⟩;obtain rfl:s=r:=by rw[<-F,<-G];unfold Vb;rw[decide_eq_true (by rw[List.length_map,b];exact y),Bool.true_and]
  clear F b;go_enter Tryz.func79,Tryz.ntmps79
  go_wp2_with fail
  generalize w.alloc (.cells #[.int .i64 k.obj,.int .i64 k.kind,.int .i64 k.off] 30)=wr at d H m ⊢;have B:=H;obtain⟨g,o,P,E,c0,c1,c2,c3⟩:=m.cell y;subst P;obtain⟨v,M⟩:∃v,(Qg xs i).a=v:=⟨_,rfl⟩;rw[M] at c3;clear M;have p:=qis xs i;obtain⟨a,K⟩:∃a,(Qg xs i).k=a:=⟨_,rfl⟩;rw[K] at c0 c1 c2 p;have O:=Lib.hid p;clear K p;rw[O.out] at G;have X:=O9 a k _ G;clear G;have Y:∀u:Grown wr,u.to.cell? ⟨g,o+i*4,none⟩=some (.int .i64 a.obj):=Grown.cell c0 E;have Z:∀u:Grown wr,u.to.cell? ⟨g,o+i*4+1,none⟩=some (.int .i64 a.kind):=Grown.cell c1 E;have p2:∀u:Grown wr,u.to.cell? ⟨g,o+i*4+2,none⟩=some (.int .i64 a.off):=Grown.cell c2 E;have p3:∀u:Grown wr,u.to.cell? ⟨g,o+i*4+3,none⟩=some (.int .i64 v):=Grown.cell c3 E;have q0:∀u:Grown wr,u.to.cell? ⟨w.1.size,0,none⟩=some (.int .i64 k.obj):=Grown.cell B.c0 B.lt;have q1:∀u:Grown wr,u.to.cell? ⟨w.1.size,1,none⟩=some (.int .i64 k.kind):=Grown.cell B.c1 B.lt;have q2:∀u:Grown wr,u.to.cell? ⟨w.1.size,2,none⟩=some (.int .i64 k.off):=Grown.cell B.c2 B.lt;clear c0 c1 c2 c3;have T:(0:Int)<=(i:Int):=by omega
  have D:(i:Int)<(n:Int):=by omega
  refine Yc (by kernel_rfl) (by kernel_rfl) ?_;repeat (go_big_quiet_step (first
   |(go_at_call 78;exact Calls.grown (q2k a v _))
   |fail))
  refine wpQuiet_nil ?_;rintro _ ⟨u,rfl⟩;have f:=d.trans (u.ok.mono d.size);go_wp2;go_ret;exact⟨rfl,f⟩
 ·obtain rfl:r=false:=by rw[<-F];unfold Vb;rw[decide_eq_false (by rw[List.length_map,b];exact y),Bool.false_and]
  clear F b H m;have D:¬(i:Int)<(n:Int):=by omega
  have U:decide ((i:Int)<(n:Int))=false:=decide_eq_false D;go_enter Tryz.func79,Tryz.ntmps79
  go_wp2_with fail
  generalize w.alloc (.cells #[.int .i64 k.obj,.int .i64 k.kind,.int .i64 k.off] 30)=wr at d ⊢;refine Yc (by kernel_rfl) (by kernel_rfl) ?_;repeat (go_big_quiet_step (fail))
  refine wpQuiet_nil ?_;rintro _ ⟨u,rfl⟩;have f:=d.trans (u.ok.mono d.size);go_wp2;go_ret;exact⟨rfl,f⟩
theorem qrh (xs:List Qc)(k:Kd)(A:Option Addr)(n c:Nat)(w:World)(J:Zl w A n c xs)(_:n<=100000) :
  Calls Tryz.prog 74 #[.slice A n c,.func (.func 75) #[] #[],.agg #[.int .i64 k.obj,.int .i64 k.kind,.int .i64 k.off]] w λe w'=>e=.returned (.int .i64 (lead (xs.map (·.k)) k:Nat))/\Below w.1.size w w':=by
 have d:=Lib.hid (show (xs.map (·.k)).length=n by rw[List.length_map];exact J.len);obtain⟨a1,M⟩:=J.bounds;unfold maxLen at M;have H:=(Xb w k).2;have G:=(Xb w k).1;go_enter Tryz.func74,Tryz.ntmps74
 go_wp2_with fail
 generalize w.alloc (.cells #[.int .i64 k.obj,.int .i64 k.kind,.int .i64 k.off] 30)=Y at H G ⊢;go_loopw [7] (λi wr=>∃j:Nat,j<=n/\i=.int .i64 (j:Int)/\(∀q,q<j->(keyAt (xs.map (·.k)) q).less k=true)/\Below Y.1.size Y wr) (λi _=>n-(intOf i).toNat)
 case atStart=>exact⟨0,Nat.zero_le _,rfl,λq hq=>by omega,Below.refl _ _⟩
 case round=>
  obtain⟨j,W,rfl,y,E⟩:=hrel;have D:=G.below E G.lt;have f:=H.trans (E.mono H.size);by_cases O:j<n
  ·have K:=J.below f;obtain⟨g,o,Q,X,T,Z,F,c0,c1,c2,c3,_⟩:=K.cell O;subst Z;have B:=qrg xs j;obtain⟨a,U⟩:∃a,(Qj xs j).k=a:=⟨_,rfl⟩;rw[U] at c0 c1 c2 B;have R:=Lib.hid B;clear U B;obtain⟨r,P⟩:∃r,a.less k=r:=⟨_,rfl⟩;have p0:∀u:Grown wr,u.to.cell? ⟨g,o+j*4,none⟩=some (.int .i64 a.obj):=Grown.cell c0 F;have p1:∀u:Grown wr,u.to.cell? ⟨g,o+j*4+1,none⟩=some (.int .i64 a.kind):=Grown.cell c1 F;have p2:∀u:Grown wr,u.to.cell? ⟨g,o+j*4+2,none⟩=some (.int .i64 a.off):=Grown.cell c2 F;have p3:∀u:Grown wr,u.to.cell? ⟨g,o+j*4+3,none⟩=some (.slice Q X T):=Grown.cell c3 F;have q0:∀u:Grown wr,u.to.cell? ⟨w.1.size,0,none⟩=some (.int .i64 k.obj):=Grown.cell D.c0 D.lt;have q1:∀u:Grown wr,u.to.cell? ⟨w.1.size,1,none⟩=some (.int .i64 k.kind):=Grown.cell D.c1 D.lt;have q2:∀u:Grown wr,u.to.cell? ⟨w.1.size,2,none⟩=some (.int .i64 k.off):=Grown.cell D.c2 D.lt;clear c0 c1 c2 c3;have a2:(0:Int)<=(j:Int):=by omega
   have a6:(j:Int)<(n:Int):=by omega
   go_wp2_with fail
   refine Yc (by kernel_rfl) (by kernel_rfl) ?_;repeat (go_big_quiet_step (first
    |(go_at_call 75;exact Calls.grown (q2j a Q X T _))
    |(go_at_call 44;exact Calls.grown (q74 a k r P _))
    |fail))
   refine wpQuiet_nil ?_;rintro _ ⟨u,rfl⟩;have I:=E.trans (u.ok.mono E.size);have m:=f.trans (u.ok.mono f.size)
   cases r
   ·have b:=Lib.hid (qih (xs.map (·.k)) k j y (by rw[d.out];exact W) (.inr (by rw[R.out];exact P)));go_wp2;go_ret;exact⟨by rw[b.out];rfl,m⟩
   ·go_wp2;refine⟨⟨j+1,by omega,by go_num,λp hp=>?_,I⟩,by simp[intOf];omega⟩;rcases (by omega:p<j\/p=j) with h1|rfl
    ·exact y p h1
    ·rw[R.out];exact P
  ·obtain rfl:n=j:=by omega
   have b:=Lib.hid (qih (xs.map (·.k)) k n y (by rw[d.out];exact W) (.inl d.out.symm));go_wp2_with fail
   refine Yc (by kernel_rfl) (by kernel_rfl) ?_;repeat (go_big_quiet_step (fail))
   refine wpQuiet_nil ?_;rintro _ ⟨u,rfl⟩;have m:=f.trans (u.ok.mono f.size);go_wp2;go_ret;exact⟨by rw[b.out];rfl,m⟩
theorem qri (xs:List Ql)(k:Kd)(A:Option Addr)(n c:Nat)(w:World)(hI:Zm w A n c xs)(_:n<=100000) :
  Calls Tryz.prog 77 #[.slice A n c,.func (.func 78) #[] #[],.agg #[.int .i64 k.obj,.int .i64 k.kind,.int .i64 k.off]] w λe w'=>e=.returned (.int .i64 (lastTo (xs.map (·.k)) k n:Nat))/\Below w.1.size w w':=by
 obtain⟨a1,X⟩:=hI.bounds;unfold maxLen at X;have H:=(Xb w k).2;have O:=(Xb w k).1;obtain⟨T,W⟩:∃T,lastTo (xs.map (·.k)) k n=T:=⟨_,rfl⟩;have Z:=Lib.hid W;rw[W];clear W;rcases n with _|p
 ·have K:IntKind.i64.wrap (((0:Nat):Int)-1)=-1:=by decide
  have D:T=0:=by rw[<-Z.out];rfl
  subst D;go_enter Tryz.func77,Tryz.ntmps77
  go_wp2_with fail
  generalize w.alloc (.cells #[.int .i64 k.obj,.int .i64 k.kind,.int .i64 k.off] 30)=M at H O ⊢;go_loopw [7] (λi wr=>i=.int .i64 0/\Below M.1.size M wr) (λi _=>(intOf i).toNat)
  case atStart=>exact⟨rfl,Below.refl _ _⟩
  case round=>
   obtain⟨rfl,I⟩:=hrel;have b:=H.trans (I.mono H.size);go_wp2_with fail
   refine Yc (by kernel_rfl) (by kernel_rfl) ?_;repeat (go_big_quiet_step (fail))
   refine wpQuiet_nil ?_;rintro _ ⟨u,rfl⟩;have d:=b.trans (u.ok.mono b.size);go_wp2;go_ret;exact⟨rfl,d⟩
 ·have K:IntKind.i64.wrap (((p+1:Nat):Int)-1)=(p:Int):=by rw[show ((p+1:Nat):Int)-1=(p:Int) by omega];exact IntWalk.i64_in _ (by omega)
  have b2:(0:Int)<=(p:Int):=by omega
  go_enter Tryz.func77,Tryz.ntmps77
  go_wp2_with fail
  generalize w.alloc (.cells #[.int .i64 k.obj,.int .i64 k.kind,.int .i64 k.off] 30)=M at H O ⊢;clear K;go_loopw [7] (λi wr=>∃j:Nat,j<=p/\i=.int .i64 (j:Int)/\lastTo (xs.map (·.k)) k (j+1)=T/\Below M.1.size M wr) (λi _=>(intOf i).toNat)
  case atStart=>exact⟨p,Nat.le_refl _,rfl,Z.out,Below.refl _ _⟩
  case round=>
   obtain⟨j,hj,rfl,y,I⟩:=hrel;have G:=O.below I O.lt;have b:=H.trans (I.mono H.size);have f:=Lib.hid y;clear y;rcases j with _|q
   ·have D:T=0:=by rw[<-f.out];show (if _ then _ else _)=_;split<;>rfl
    subst D;go_wp2_with fail
    refine Yc (by kernel_rfl) (by kernel_rfl) ?_;repeat (go_big_quiet_step (fail))
    refine wpQuiet_nil ?_;rintro _ ⟨u,rfl⟩;have d:=b.trans (u.ok.mono b.size);go_wp2;go_ret;exact⟨rfl,d⟩
   ·have U:=hI.below b;obtain⟨j,F⟩:∃j,q+1=j:=⟨_,rfl⟩;rw[F] at f hj ⊢;obtain⟨g,o,hA,P,c0,c1,c2,c3⟩:=U.cell (show j<p+1 by omega);subst hA;obtain⟨v,hv⟩:∃v,(Qg xs j).a=v:=⟨_,rfl⟩;rw[hv] at c3;clear hv;have E:=qis xs j;obtain⟨a,ha⟩:∃a,(Qg xs j).k=a:=⟨_,rfl⟩;rw[ha] at c0 c1 c2 E;have Ha:=Lib.hid E;clear ha E;obtain⟨r,hr⟩:∃r,k.less a=r:=⟨_,rfl⟩;have m:=Lib.hid (show (if r=true then lastTo (xs.map (·.k)) k j else j)=T by rw[<-f.out];show _=(if k.less (keyAt (xs.map (·.k)) j)=true then lastTo (xs.map (·.k)) k j else j);rw[Ha.out,hr]);have p0:∀u:Grown wr,u.to.cell? ⟨g,o+j*4,none⟩=some (.int .i64 a.obj):=Grown.cell c0 P;have p1:∀u:Grown wr,u.to.cell? ⟨g,o+j*4+1,none⟩=some (.int .i64 a.kind):=Grown.cell c1 P;have p2:∀u:Grown wr,u.to.cell? ⟨g,o+j*4+2,none⟩=some (.int .i64 a.off):=Grown.cell c2 P;have p3:∀u:Grown wr,u.to.cell? ⟨g,o+j*4+3,none⟩=some (.int .i64 v):=Grown.cell c3 P;have q0:∀u:Grown wr,u.to.cell? ⟨w.1.size,0,none⟩=some (.int .i64 k.obj):=Grown.cell G.c0 G.lt;have q1:∀u:Grown wr,u.to.cell? ⟨w.1.size,1,none⟩=some (.int .i64 k.kind):=Grown.cell G.c1 G.lt;have q2:∀u:Grown wr,u.to.cell? ⟨w.1.size,2,none⟩=some (.int .i64 k.off):=Grown.cell G.c2 G.lt;clear c0 c1 c2 c3;have a2:(0:Int)<(j:Int):=by omega
    have Y:0<j:=by omega
    have b0:decide (0<j)=true:=decide_eq_true Y;have a6:(0:Int)<=(j:Int):=by omega
    have a7:(j:Int)<((p+1:Nat):Int):=by omega
    have a8:(j:Int)<(p:Int)+1:=by omega
    have b3:IntKind.i64.wrap ((j:Int)-1)=(q:Int):=by rw[show (j:Int)-1=(q:Int) by omega];exact IntWalk.i64_in _ (by omega)
    have B:=Lib.hid F;clear F;go_wp2_with fail
    refine Yc (by kernel_rfl) (by kernel_rfl) ?_;repeat (go_big_quiet_step (first
     |(go_at_call 78;exact Calls.grown (q2k a v _))
     |(go_at_call 44;exact Calls.grown (q74 k a r hr _))
     |fail))
    refine wpQuiet_nil ?_;rintro _ ⟨u,rfl⟩;have R:=I.trans (u.ok.mono I.size);have d:=b.trans (u.ok.mono b.size)
    cases r
    ·obtain rfl:j=T:=m.out;go_wp2;go_ret;exact⟨rfl,d⟩
    ·have J:lastTo (xs.map (·.k)) k j=T:=m.out;have Q:=Lib.hid J;clear J;go_wp2;exact⟨⟨q,by have:=B.out;omega,rfl,by rw[B.out];exact Q.out,R⟩,by have:=B.out;simp[intOf];omega⟩
theorem qeu {n:Nat}{f:Nat->Bool}:(List.range n).all f=true↔∀j,j<n->f j=true:=by
 rw[List.all_eq_true];exact⟨λh j b=>h j (List.mem_range.2 b),λh j b=>h j (List.mem_range.1 b)⟩
theorem qit (N:Nd):q6e N=true↔∀j,j<N.items.length->Ot (Qj N.items j)=true:=by
 constructor
 ·intro h j b;unfold q6e at h;exact List.all_eq_true.1 h _ (List.mem_of_getElem? (q11 b))
 ·intro h;exact qin λj b=>of_decide_eq_true (h j b)
theorem qn5 (N:Nd):G7 N=true↔∀j,j<N.kids.length->Ou (Qg N.kids j)=true:=by
 constructor
 ·intro h j b;unfold G7 at h;have:=of_decide_eq_true (List.all_eq_true.1 h _ (List.mem_of_getElem? (Rf b)));exact decide_eq_true (by omega)
 ·intro h;refine qn1 λj b=>?_
  have:=of_decide_eq_true (h j b);omega
theorem ql4 (N:Nd)(h:N.lvl=0)(e:N.kids.length=0):N.may=Dp N.items 1 6:=by
 have d:N.keys=N.items.map (·.k):=by unfold Nd.keys;rw[List.eq_nil_of_length_eq_zero e];simp
 unfold Nd.may Dp;rw[if_pos h,d,Bool.eq_iff_iff];simp only[Bool.and_eq_true,decide_eq_true_eq,qit,rises,okI,qeu,List.length_map];constructor
 ·rintro⟨h1,h2,f⟩;exact⟨by omega,λj b=>⟨h2 j b,h1 j b⟩⟩
 ·rintro⟨h1,h2⟩;exact⟨λj b=>(h2 j b).2,λj b=>(h2 j b).1,by omega⟩
theorem qiu (N:Nd)(h:N.lvl=0)(b:¬N.kids.length=0):N.may=false:=by
 unfold Nd.may;rw[if_pos h,decide_eq_false (by omega),Bool.and_false,Bool.and_false]
theorem qh6 (N:Nd)(h:¬N.lvl=0)(m:1<=N.lvl/\N.lvl<=7)(e:N.items.length=0):N.may=Du N.kids 2 12:=by
 have d:N.keys=N.kids.map (·.k):=by unfold Nd.keys;rw[List.eq_nil_of_length_eq_zero e];simp
 unfold Nd.may Du;rw[if_neg h,d,Bool.eq_iff_iff];simp only[Bool.and_eq_true,decide_eq_true_eq,qn5,rises,okK,qeu,List.length_map];constructor
 ·rintro⟨h1,h2,f⟩;exact⟨by omega,λj b=>⟨h2 j b,h1 j b⟩⟩
 ·rintro⟨h1,h2⟩;exact⟨λj b=>(h2 j b).2,λj b=>(h2 j b).1,by omega⟩
theorem q8t (N:Nd)(h:¬N.lvl=0)(b:¬((1<=N.lvl/\N.lvl<=7)/\N.items.length=0)):N.may=false:=by
 unfold Nd.may;rw[if_neg h,decide_eq_false (by omega),Bool.and_false,Bool.and_false]
theorem q2l (N:Nd)(r:Bool)(I:N.may=r)(A:Option Addr)(n c:Nat)(B:Option Addr)(m d:Nat)(w:World)(P:Zl w A n c N.items)(Q:Zm w B m d N.kids)(hn:n<=1000)(hm:m<=1000) :
  Calls Tryz.prog 118 #[.agg #[.int .i64 N.lvl,.slice A n c,.slice B m d]] w λe Z=>e=.returned (.bool r)/\Below w.1.size w Z:=by
 have G:=Lib.hid P.len;have H:=Lib.hid Q.len;go_enter Tryz.func118,Tryz.ntmps118
 go_wp2_with fail
 have u:NB (w.alloc (.cells #[.int .i64 N.lvl,.slice A n c,.slice B m d] 75)) w.1.size N.lvl A n c B m d:=NB.new w _ _ _ _ _ _ _ _;have D:Below w.1.size w (w.alloc (.cells #[.int .i64 N.lvl,.slice A n c,.slice B m d] 75)):=Qm;generalize w.alloc (.cells #[.int .i64 N.lvl,.slice A n c,.slice B m d] 75)=T at u D ⊢;by_cases F:N.lvl=0
 ·refine (Rh N.lvl true (decide_eq_true F) A n c B m d T).mono ?_;rintro e U ⟨rfl,f⟩;have y:=u.below f u.lt;have p:=D.trans (f.mono D.size);have W:=y.c0;have X:=y.c1;have Y:=y.c2;clear u D f;by_cases K:m=0
  ·have b:=Lib.hid (show r=Dp N.items 1 6 by rw[<-I];exact ql4 N F (by rw[H.out];exact K));subst K;go_wp2_with fail
   refine (qrk N.items A n c 1 6 U (P.below p) (by omega)).mono ?_;rintro e O ⟨rfl,E⟩;have J:=p.trans (E.mono p.size);go_wp2;go_ret;exact⟨by rw[b.out];rfl,J⟩
  ·have b:=Lib.hid (show r=false by rw[<-I];exact qiu N F (by rw[H.out];exact K));have h1:((m:Int)==0)=false:=by simp;omega
   have h2:decide ((m:Int)=0)=false:=decide_eq_false (by omega);go_wp2;go_ret;exact⟨by rw[b.out];rfl,p⟩
 ·refine (Rh N.lvl false (decide_eq_false F) A n c B m d T).mono ?_;rintro e U ⟨rfl,f⟩;have y:=u.below f u.lt;have p:=D.trans (f.mono D.size);have W:=y.c0;have X:=y.c1;have Y:=y.c2;clear u D f;go_wp2_with fail
  by_cases M:1<=N.lvl/\N.lvl<=7
  ·refine (q35 N.lvl 1 7 true (decide_eq_true M) _).mono ?_;rintro e O ⟨rfl,rfl⟩;by_cases R:n=0
   ·have b:=Lib.hid (show r=Du N.kids 2 12 by rw[<-I];exact qh6 N F M (by rw[G.out];exact R));subst R;go_wp2_with fail
    refine (qrl N.kids B m d 2 12 _ (Q.below p) (by omega)).mono ?_;rintro e O ⟨rfl,E⟩;have J:=p.trans (E.mono p.size);go_wp2;go_ret;exact⟨by rw[b.out];rfl,J⟩
   ·have b:=Lib.hid (show r=false by rw[<-I];exact q8t N F (by rw[G.out];omega));have h1:((n:Int)==0)=false:=by simp;omega
    have h2:decide ((n:Int)=0)=false:=decide_eq_false (by omega);go_wp2;go_ret;exact⟨by rw[b.out];rfl,p⟩
  ·refine (q35 N.lvl 1 7 false (decide_eq_false M) _).mono ?_;rintro e O ⟨rfl,rfl⟩;have b:=Lib.hid (show r=false by rw[<-I];exact q8t N F (by omega));go_wp2;go_ret;exact⟨by rw[b.out];rfl,p⟩
def Nd.fit (N:Nd):Prop:=(N.lvl=0->N.kids=[])/\(¬N.lvl=0->N.items=[])
theorem Nj {N:Nd}(hm:N.may=true):N.fit:=by
 constructor
 ·intro b;refine List.eq_nil_of_length_eq_zero ?_;unfold Nd.may at hm;rw[if_pos b,Bool.and_eq_true,Bool.and_eq_true] at hm;exact (of_decide_eq_true hm.2.2).1
 ·intro b;refine List.eq_nil_of_length_eq_zero ?_;unfold Nd.may at hm;rw[if_neg b,Bool.and_eq_true,Bool.and_eq_true] at hm;exact (of_decide_eq_true hm.2.2).2.2.1
theorem ql5 {N:Nd}(h:N.fit)(b:N.lvl=0):N.keys=N.items.map (·.k):=by unfold Nd.keys;rw[h.1 b];simp
theorem qh7 {N:Nd}(h:N.fit)(b:¬N.lvl=0):N.keys=N.kids.map (·.k):=by unfold Nd.keys;rw[h.2 b];simp
theorem q22 (N:Nd)(F:N.fit)(k:Kd)(t:Nat)(W:N.Za k=t)(r:Bool)(U:Vb N.keys k t=r)(A:Option Addr)(n c:Nat)(B:Option Addr)(m d:Nat)(w:World)(hI:Zl w A n c N.items)(hK:Zm w B m d N.kids)(hn:n<=1000)(hm:m<=1000) :
  Calls Tryz.prog 42 #[.agg #[.int .i64 N.lvl,.slice A n c,.slice B m d],.agg #[.int .i64 k.obj,.int .i64 k.kind,.int .i64 k.off]] w λe w'=>e=.returned (.tuple #[.int .i64 (t:Int),.bool r])/\Below w.1.size w w':=by
 have Y:=Lib.hid hK.len;go_enter Tryz.func42,Tryz.ntmps42
 go_wp2_with fail
 have M:NB ((w.alloc (.cells #[.int .i64 N.lvl,.slice A n c,.slice B m d] 75)).alloc (.cells #[.int .i64 k.obj,.int .i64 k.kind,.int .i64 k.off] 30)) w.1.size N.lvl A n c B m d:=(NB.new w _ _ _ _ _ _ _ _).below (Qm) (by simp);have J:KB ((w.alloc (.cells #[.int .i64 N.lvl,.slice A n c,.slice B m d] 75)).alloc (.cells #[.int .i64 k.obj,.int .i64 k.kind,.int .i64 k.off] 30)) (w.1.size+1) k:=KB.new2 w _ k.obj k.kind k.off _;have O:Below w.1.size w ((w.alloc (.cells #[.int .i64 N.lvl,.slice A n c,.slice B m d] 75)).alloc (.cells #[.int .i64 k.obj,.int .i64 k.kind,.int .i64 k.off] 30)):=(Qm).alloc (by simp) _;generalize (w.alloc (.cells #[.int .i64 N.lvl,.slice A n c,.slice B m d] 75)).alloc (.cells #[.int .i64 k.obj,.int .i64 k.kind,.int .i64 k.off] 30)=w1 at M J O ⊢;by_cases G:N.lvl=0
 ·have y:=ql5 F G;have u:=Lib.hid (show lead (N.items.map (·.k)) k=t by rw[<-W];unfold Nd.Za;rw[if_pos G,y]);have b:=Lib.hid (show Vb (N.items.map (·.k)) k t=r by rw[<-U,y]);refine (Rh N.lvl true (decide_eq_true G) A n c B m d w1).mono ?_;rintro e w2 ⟨rfl,f⟩;have E:=M.below f M.lt;have D:=J.below f J.lt;have H:=O.trans (f.mono O.size);have q1:=E.c1;have Q:=D.c0;have R:=D.c1;have T:=D.c2;clear G y W U M J O f;go_wp2_with fail
  refine (qrh N.items k A n c w2 (hI.below H) (by omega)).mono ?_;rw[u.out];rintro e w3 ⟨rfl,p⟩;have Z:=E.below p E.lt;have K:=D.below p D.lt;have I:=H.trans (p.mono H.size);clear q1 Q R T;have q1:=Z.c1;have Q:=K.c0;have R:=K.c1;have T:=K.c2;clear E D p;go_wp2_with fail
  refine (qh4 N.items t k r b.out A n c w3 (hI.below I) (by omega)).mono ?_;rintro e w4 ⟨rfl,P⟩;have X:=I.trans (P.mono I.size);go_wp2;go_ret2;exact⟨rfl,X⟩
 ·have y:=qh7 F G;have u:=Lib.hid (show lastTo (N.kids.map (·.k)) k m=t by rw[<-W];unfold Nd.Za;rw[if_neg G,y,List.length_map,Y.out]);have b:=Lib.hid (show Vb (N.kids.map (·.k)) k t=r by rw[<-U,y]);refine (Rh N.lvl false (decide_eq_false G) A n c B m d w1).mono ?_;rintro e w2 ⟨rfl,f⟩;have E:=M.below f M.lt;have D:=J.below f J.lt;have H:=O.trans (f.mono O.size);have q2:=E.c2;have Q:=D.c0;have R:=D.c1;have T:=D.c2;clear G y W U M J O f;go_wp2_with fail
  refine (qri N.kids k B m d w2 (hK.below H) (by omega)).mono ?_;rw[u.out];rintro e w3 ⟨rfl,p⟩;have Z:=E.below p E.lt;have K:=D.below p D.lt;have I:=H.trans (p.mono H.size);clear q2 Q R T;have q2:=Z.c2;have Q:=K.c0;have R:=K.c1;have T:=K.c2;clear E D p;go_wp2_with fail
  refine (qh5 N.kids t k r b.out B m d w3 (hK.below I) (by omega)).mono ?_;rintro e w4 ⟨rfl,P⟩;have X:=I.trans (P.mono I.size);go_wp2;go_ret2;exact⟨rfl,X⟩
theorem qiv (xs:List Qc)(z:Kd)(u:(if (xs.map (·.k)).length=0 then ⟨0,0,0⟩ else keyAt (xs.map (·.k)) 0)=z)(A:Option Addr)(n c:Nat)(w:World)(D:Zl w A n c xs) :
  Calls Tryz.prog 195 #[.slice A n c,.func (.func 75) #[] #[]] w λe P=>e=.returned (.agg #[.int .i64 z.obj,.int .i64 z.kind,.int .i64 z.off])/\Below w.1.size w P:=by
 have b:=D.len;obtain⟨K,E⟩:=D.bounds;unfold maxLen at E;have m:KB (w.alloc (.cells #[.int .i64 0,.int .i64 0,.int .i64 0] 30)) w.1.size ⟨0,0,0⟩:=KB.new w 0 0 0 _;have p:Below w.1.size w (w.alloc (.cells #[.int .i64 0,.int .i64 0,.int .i64 0] 30)):=Qm;by_cases h0:n=0
 ·obtain rfl:(⟨0,0,0⟩:Kd)=z:=by rw[<-u,if_pos (by rw[List.length_map,b];exact h0)]
  subst h0;clear u b;go_enter Tryz.func195,Tryz.ntmps195
  go_wp2_with (first
   |(refine q0x rfl (.tmp 4) (.tmp 8) rfl w.1.size rfl ⟨0,0,0⟩ _ rfl m ?_;intro R y B)
   |fail)
  refine bodyPost_ret (Og Tryz.results195 rfl (q34 y)) rfl ?_;exact⟨rfl,p.trans ((B.Qw m.lt).mono (Nat.le_refl _))⟩
 ·have f:keyAt (xs.map (·.k)) 0=z:=by rw[<-u,if_neg (by rw[List.length_map,b];exact h0)]
  rw[qrg] at f;obtain⟨g,o,G,O,I,J,M,c0,c1,c2,c3,_⟩:=(D.below p).cell (show 0<n by omega);subst J;rw[Nat.zero_mul,Nat.add_zero] at c0 c1 c2 c3;rw[f] at c0 c1 c2;clear u f b;have h1:((n:Int)==0)=false:=by simp;omega
  have h2:decide ((n:Int)=0)=false:=decide_eq_false (by omega);have T:(0:Int)<(n:Int):=by omega
  go_enter Tryz.func195,Tryz.ntmps195
  go_wp2_with fail
  generalize w.alloc (.cells #[.int .i64 0,.int .i64 0,.int .i64 0] 30)=Q at m p M c0 c1 c2 c3 ⊢;go_wp2_with fail
  refine (q2j z G O I Q).mono ?_;rintro e U ⟨rfl,d⟩;have F:=m.below d m.lt;have H:=p.trans (d.mono p.size);go_wp2_with (first
   |(refine q0x rfl (.tmp 4) (.tmp 13) rfl w.1.size rfl z _ rfl F ?_;intro R y B)
   |fail)
  refine bodyPost_ret (Og Tryz.results195 rfl (q34 y)) rfl ?_;exact⟨rfl,H.trans ((B.Qw F.lt).mono (Nat.le_refl _))⟩
theorem qiw (xs:List Ql)(z:Kd)(u:(if (xs.map (·.k)).length=0 then ⟨0,0,0⟩ else keyAt (xs.map (·.k)) 0)=z)(A:Option Addr)(n c:Nat)(w:World)(D:Zm w A n c xs) :
  Calls Tryz.prog 196 #[.slice A n c,.func (.func 78) #[] #[]] w λe M=>e=.returned (.agg #[.int .i64 z.obj,.int .i64 z.kind,.int .i64 z.off])/\Below w.1.size w M:=by
 have b:=D.len;obtain⟨J,E⟩:=D.bounds;unfold maxLen at E;have m:KB (w.alloc (.cells #[.int .i64 0,.int .i64 0,.int .i64 0] 30)) w.1.size ⟨0,0,0⟩:=KB.new w 0 0 0 _;have p:Below w.1.size w (w.alloc (.cells #[.int .i64 0,.int .i64 0,.int .i64 0] 30)):=Qm;by_cases h0:n=0
 ·obtain rfl:(⟨0,0,0⟩:Kd)=z:=by rw[<-u,if_pos (by rw[List.length_map,b];exact h0)]
  subst h0;clear u b;go_enter Tryz.func196,Tryz.ntmps196
  go_wp2_with (first
   |(refine q0x rfl (.tmp 4) (.tmp 8) rfl w.1.size rfl ⟨0,0,0⟩ _ rfl m ?_;intro P y B)
   |fail)
  refine bodyPost_ret (Og Tryz.results196 rfl (q34 y)) rfl ?_;exact⟨rfl,p.trans ((B.Qw m.lt).mono (Nat.le_refl _))⟩
 ·have f:keyAt (xs.map (·.k)) 0=z:=by rw[<-u,if_neg (by rw[List.length_map,b];exact h0)]
  rw[qis] at f;obtain⟨g,o,I,K,c0,c1,c2,c3⟩:=(D.below p).cell (show 0<n by omega);subst I;rw[Nat.zero_mul,Nat.add_zero] at c0 c1 c2 c3;obtain⟨v,G⟩:∃v,(Qg xs 0).a=v:=⟨_,rfl⟩;rw[G] at c3;clear G;rw[f] at c0 c1 c2;clear u f b;have h1:((n:Int)==0)=false:=by simp;omega
  have h2:decide ((n:Int)=0)=false:=decide_eq_false (by omega);have Q:(0:Int)<(n:Int):=by omega
  go_enter Tryz.func196,Tryz.ntmps196
  go_wp2_with fail
  generalize w.alloc (.cells #[.int .i64 0,.int .i64 0,.int .i64 0] 30)=O at m p K c0 c1 c2 c3 ⊢;go_wp2_with fail
  refine (q2k z v O).mono ?_;rintro e R ⟨rfl,d⟩;have F:=m.below d m.lt;have H:=p.trans (d.mono p.size);go_wp2_with (first
   |(refine q0x rfl (.tmp 4) (.tmp 13) rfl w.1.size rfl z _ rfl F ?_;intro P y B)
   |fail)
  refine bodyPost_ret (Og Tryz.results196 rfl (q34 y)) rfl ?_;exact⟨rfl,H.trans ((B.Qw F.lt).mono (Nat.le_refl _))⟩
theorem qix (N:Nd)(p:N.fit)(z:Kd)(I:N.least=z)(A:Option Addr)(n c:Nat)(B:Option Addr)(m d:Nat)(w:World)(T:Zl w A n c N.items)(U:Zm w B m d N.kids) :
  Calls Tryz.prog 170 #[.agg #[.int .i64 N.lvl,.slice A n c,.slice B m d]] w λe W=>e=.returned (.agg #[.int .i64 z.obj,.int .i64 z.kind,.int .i64 z.off])/\Below w.1.size w W:=by
 go_enter Tryz.func170,Tryz.ntmps170
 go_wp2_with fail
 have y:NB ((w.alloc (.cells #[.int .i64 N.lvl,.slice A n c,.slice B m d] 75)).alloc (.cells #[.int .i64 0,.int .i64 0,.int .i64 0] 30)) w.1.size N.lvl A n c B m d:=(NB.new w _ _ _ _ _ _ _ _).below (Qm) (by simp);have D:KB ((w.alloc (.cells #[.int .i64 N.lvl,.slice A n c,.slice B m d] 75)).alloc (.cells #[.int .i64 0,.int .i64 0,.int .i64 0] 30)) (w.1.size+1) ⟨0,0,0⟩:=KB.new2 w _ 0 0 0 _;have E:Below w.1.size w ((w.alloc (.cells #[.int .i64 N.lvl,.slice A n c,.slice B m d] 75)).alloc (.cells #[.int .i64 0,.int .i64 0,.int .i64 0] 30)):=(Qm).alloc (by simp) _;generalize (w.alloc (.cells #[.int .i64 N.lvl,.slice A n c,.slice B m d] 75)).alloc (.cells #[.int .i64 0,.int .i64 0,.int .i64 0] 30)=R at y D E ⊢;by_cases F:N.lvl=0
 ·have K:=Lib.hid (show (if (N.items.map (·.k)).length=0 then ⟨0,0,0⟩ else keyAt (N.items.map (·.k)) 0)=z by rw[<-I,<-ql5 p F];rfl);refine (Rh N.lvl true (decide_eq_true F) A n c B m d R).mono ?_;rintro e Q ⟨rfl,b⟩;have M:=y.below b y.lt;have G:=D.below b D.lt;have u:=E.trans (b.mono E.size);have Z:=M.c1;clear F I y D E b;go_wp2_with fail
  refine (qiv N.items z K.out A n c Q (T.below u)).mono ?_;rintro e X ⟨rfl,f⟩;have H:=G.below f G.lt;have J:=u.trans (f.mono u.size);go_wp2_with (first
   |(refine q0x rfl (.tmp 2) (.tmp 7) rfl (w.1.size+1) rfl z _ rfl H ?_;intro Y O P)
   |fail)
  refine bodyPost_ret (Og Tryz.results170 rfl (q34 O)) rfl ?_;exact⟨rfl,J.trans ((P.Qw H.lt).mono (by omega))⟩
 ·have K:=Lib.hid (show (if (N.kids.map (·.k)).length=0 then ⟨0,0,0⟩ else keyAt (N.kids.map (·.k)) 0)=z by rw[<-I,<-qh7 p F];rfl);refine (Rh N.lvl false (decide_eq_false F) A n c B m d R).mono ?_;rintro e Q ⟨rfl,b⟩;have M:=y.below b y.lt;have G:=D.below b D.lt;have u:=E.trans (b.mono E.size);have q2:=M.c2;clear F I y D E b;go_wp2_with fail
  refine (qiw N.kids z K.out B m d Q (U.below u)).mono ?_;rintro e X ⟨rfl,f⟩;have H:=G.below f G.lt;have J:=u.trans (f.mono u.size);go_wp2_with (first
   |(refine q0x rfl (.tmp 2) (.tmp 10) rfl (w.1.size+1) rfl z _ rfl H ?_;intro Y O P)
   |fail)
  refine bodyPost_ret (Og Tryz.results170 rfl (q34 O)) rfl ?_;exact⟨rfl,J.trans ((P.Qw H.lt).mono (by omega))⟩
theorem qsj (v:List UInt8)(h:v.length=3):(Q8 ((v.drop 1).take 2):Int)=256*(Wh v 1:Int)+(Wh v 2:Int):=by
 match v,h with
 |[a,b,c],_=>simp[Q8,Wh]
theorem qc2 (x:Qc)(r:Bool)(D:(Ko x).isSome=r)(B:Option Addr)(m d:Nat)(w:World)(J:Sl w B m d x.v) :
  Calls Tryz.prog 189 #[.agg #[.int .i64 x.k.obj,.int .i64 x.k.kind,.int .i64 x.k.off,.slice B m d]] w λe O=>e=.returned (.bool r)/\Below w.1.size w O:=by
 have f:=J.len;have E:∀o,Below w.1.size w (w.alloc o):=λo=>(Below.refl _ _).alloc (Nat.le_refl _) o
 by_cases b:x.k.kind=3
 ·rw[b];by_cases I:m=3
  ·subst I;obtain⟨H,rfl,F,v0⟩:=J.cell (k:=0) (by omega);have G:∀o,(w.alloc o).cell? H=some (.int .u8 (Wh x.v 0:Int)):=λo=>((E o).cell (p:=H) F).trans v0
   by_cases u:Wh x.v 0=1
   ·obtain rfl:r=true:=by rw[<-D];unfold Ko;rw[if_pos ⟨b,f,u⟩];rfl
    rw[u] at G;clear u v0 D f b;go_enter Tryz.func189,Tryz.ntmps189
    go_wp2;go_ret;exact⟨rfl,E _⟩
   ·obtain rfl:r=false:=by rw[<-D];unfold Ko;rw[if_neg (λh=>u h.2.2)];rfl
    obtain⟨A,y⟩:∃A,Wh x.v 0=A:=⟨_,rfl⟩;rw[y] at G u;have K:((A:Int)==1)=false:=by simp;omega
    have M:decide ((A:Int)=1)=false:=decide_eq_false (by omega);clear y v0 D f b;go_enter Tryz.func189,Tryz.ntmps189
    go_wp2;go_ret;exact⟨rfl,E _⟩
  ·obtain rfl:r=false:=by rw[<-D];unfold Ko;rw[if_neg (λh=>I (by rw[<-f];exact h.2.1))];rfl
   have K:((m:Int)==3)=false:=by simp;omega
   have M:decide ((m:Int)=3)=false:=decide_eq_false (by omega);clear D f b;go_enter Tryz.func189,Tryz.ntmps189
   go_wp2;go_ret;exact⟨rfl,E _⟩
 ·obtain rfl:r=false:=by rw[<-D];unfold Ko;rw[if_neg (λh=>b h.1)];rfl
  obtain⟨A,y⟩:∃A,x.k.kind=A:=⟨_,rfl⟩;rw[y] at b ⊢;have K:(A==3)=false:=by simp;omega
  have M:decide (A=3)=false:=decide_eq_false (by omega);clear y D f;go_enter Tryz.func189,Tryz.ntmps189
  go_wp2;go_ret;exact⟨rfl,E _⟩
theorem qc3 (N:Nd)(Z:N.fit)(A:Option Addr)(n c:Nat)(B:Option Addr)(m d:Nat)(w:World)(hI:Zl w A n c N.items)(hK:Zm w B m d N.kids)(hn:n<=1000)(hm:m<=1000) :
  Calls Tryz.prog 165 #[.agg #[.int .i64 N.lvl,.slice A n c,.slice B m d]] w λe w'=>∃E n' F,e=.returned (.slice E n' F)/\Qs w' w.1.size 3 1 E n' F (N.named.map iv)/\Below w.1.size w w':=by
 have a1:=Lib.hid hI.len;have b6:=Lib.hid hK.len;go_enter Tryz.func165,Tryz.ntmps165
 go_wp2_with fail
 have N1:NB (w.alloc (.cells #[.int .i64 N.lvl,.slice A n c,.slice B m d] 75)) w.1.size N.lvl A n c B m d:=NB.new w _ _ _ _ _ _ _ _;have b1:Below w.1.size w (w.alloc (.cells #[.int .i64 N.lvl,.slice A n c,.slice B m d] 75)):=Qm;generalize w.alloc (.cells #[.int .i64 N.lvl,.slice A n c,.slice B m d] 75)=w1 at N1 b1 ⊢;by_cases hl:N.lvl=0
 ·have c6:N.kids.length=0:=by rw[Z.1 hl];rfl
  have b3:=Lib.hid (show Uk N 0=Xx N 0 by have:=qc0 N;rw[c6] at this;exact this);refine (Rh N.lvl true (decide_eq_true hl) A n c B m d w1).mono ?_;rintro e w2 ⟨rfl,G⟩;have N2:=N1.below G N1.lt;have B2:=b1.trans (G.mono b1.size);have q1:=N2.c1;have zN:=N2.lt;have Ic:Qs w2 (w.1.size+1) 3 1 none 0 0 (Xx N 0):=by rw[<-b3.out];exact q10 _ _ _ _
  clear hl c6 N1 b1 G b3;go_wp2_with fail
  clear q1;go_loopw [3,31] (λl i wr=>∃(j q:Nat) (E:Option Addr) (F:Nat),j<=n/\q<=j/\i=.int .i64 (j:Int)/\l=.slice E q F/\Qs wr (w.1.size+1) 3 1 E q F (Xx N j)/\Below w.1.size w wr/\w.1.size<wr.1.size) (λ_ i _=>n-(intOf i).toNat)
  case atStart=>exact⟨0,0,_,_,Nat.zero_le _,Nat.le_refl _,rfl,rfl,Ic,B2,zN⟩
  case round=>
   obtain⟨j,q,E,F,hj,hq,rfl,rfl,own,Q,hz⟩:=hrel;by_cases K:j<n
   ·obtain⟨g,o,X,W,J,hA,hg,c0,c1,c2,c3,a8⟩:=(hI.below Q).cell K;subst hA;have H:=λz h=>Lib.hid (qlj N j (by rw[a1.out];exact K) z h)
    have R:=λh=>Lib.hid (qo4 N j (by rw[a1.out];exact K) h)
    obtain⟨x,hx⟩:∃x,Qj N.items j=x:=⟨_,rfl⟩;rw[hx] at c0 c1 c2 a8 H R;clear hx;have Y:Below wr.1.size wr (wr.alloc (.cells #[.int .i64 x.k.obj,.int .i64 x.k.kind,.int .i64 x.k.off,.slice X W J] 68)):=Qm;have x0:(wr.alloc (.cells #[.int .i64 x.k.obj,.int .i64 x.k.kind,.int .i64 x.k.off,.slice X W J] 68)).1[wr.1.size]?=some (.cells #[.int .i64 x.k.obj,.int .i64 x.k.kind,.int .i64 x.k.off,.slice X W J] 68 (0,0)):=heap_alloc_new wr _;have zx:wr.1.size<(wr.alloc (.cells #[.int .i64 x.k.obj,.int .i64 x.k.kind,.int .i64 x.k.off,.slice X W J] 68)).1.size:=by simp
    go_wp2_with fail
    generalize wr.alloc (.cells #[.int .i64 x.k.obj,.int .i64 x.k.kind,.int .i64 x.k.off,.slice X W J] 68)=wx at Y x0 zx ⊢;have x3:wx.cell? ⟨wr.1.size,3,none⟩=some (.slice X W J):=by rw[cell_of_row _ _ _ _ _ _ x0];rfl
    have P:=own.below Y;have I:=a8.below Y;have U:=Q.trans (Y.mono Q.size);obtain⟨d4,d5⟩:=(hI.below Q).bounds;clear c0 c1 c2 c3 x0 own a8
    cases b:Ko x
    ·have hN:=R b;refine (qc2 x false (by rw[b];rfl) X W J wx I).mono ?_;rintro e w3 ⟨rfl,u⟩;have y:=P.below u;rw[<-hN.out] at y;have T:=U.trans (u.mono U.size);have c8:w.1.size<w3.1.size:=by have:=u.size;omega
     clear H R hN b;go_wp2;exact⟨⟨j+1,q,E,F,by omega,by omega,by go_num,rfl,y,T,c8⟩,by simp[intOf];omega⟩
    ·rename_i z;have hN:=H z b;refine (qc2 x true (by rw[b];rfl) X W J wx I).mono ?_;rintro e w3 ⟨rfl,u⟩;have y:=P.below u;have T:=U.trans (u.mono U.size);have c8:w.1.size<w3.1.size:=by have:=u.size;omega
     have y3:=(u.cell (p:=⟨wr.1.size,3,none⟩) zx).trans x3;have f:=I.below u;have c7:=f.len;have d6:=f.cap;have d3:=f.max;unfold maxLen at d3;have b0:x.v.length=3/\(Q8 ((x.v.drop 1).take 2):Int)=z:=by
      unfold Ko at b;split at b
      ·rename_i h;exact⟨h.2.1,by rw[qsj _ h.2.1];exact Option.some.inj b⟩
      ·cases b
     obtain rfl:3=W:=by rw[<-c7];exact b0.1.symm
     have c9:=Lib.hid b0.2;obtain⟨b4,o4,rfl,_,_⟩:=qjt f (by omega);have hd:=f.drop (k:=1) (by omega);rw[if_neg (by omega:¬J=1)] at hd;have b8:Sl w3 (some ⟨b4,o4+1,none⟩) 2 (J-1) (x.v.drop 1):=hd;have d8:(1:Int)<=(J:Int):=by omega
     have d7:¬J=1:=by omega
     clear hd H R b b0 c7 Y x3 P I Q hz zx;go_wp2_with fail
     refine (q5q (some ⟨b4,o4+1,none⟩) 2 (J-1) _ 2 0 w3 b8 (by omega) (by omega) (by omega) (by omega) (by decide)).mono ?_;rintro e w4 ⟨A4,c4,rfl,_,a6⟩;rw[show (2:Int).toNat=2 from rfl,c9.out];have d0:=y.below a6;have d2:=T.trans (a6.mono T.size);have d9:w.1.size<w4.1.size:=by have:=a6.size;omega
     have b5:Below w4.1.size w4 (w4.alloc (.cells #[.int .i64 z] 3)):=Qm;clear y y3 b8 f c9;go_wp2_with (first
      |(at_builtin;refine qa2 _ Qbu rfl _ _ rfl (w.1.size+1) E q F (Xx N j) rfl (d0.below b5) (some ⟨w4.1.size,0,none⟩) 1 1 [iv z] rfl (qjf w4 z) (by omega) (qv2 z) (by omega) (by omega) (by have:=b5.size;omega) ?_)
      |fail)
     intro A5 c5 w5 D a7;have M:Below (w.1.size+1) w4 w5:=(b5.mono (by omega)).trans a7;have a2:=d2.trans (M.mono (by omega));have b2:w.1.size<w5.1.size:=by have:=M.size;omega
     rw[<-hN.out] at D;go_wp2;exact⟨⟨j+1,q+1,_,_,by omega,by omega,by go_num,rfl,D,a2,b2⟩,by simp[intOf];omega⟩
   ·obtain rfl:n=j:=by omega
    have O:Qs wr (w.1.size+1) 3 1 E q F (N.named.map iv):=by rw[<-qc1,a1.out];exact own
    go_wp2;go_ret;exact⟨_,_,_,rfl,O.less (by omega),Q⟩
 ·have b9:N.items.length=0:=by rw[Z.2 hl];rfl
  have d1:=Lib.hid (show Xx N 0=N.named.map iv by have:=qc1 N;rw[b9] at this;exact this);refine (Rh N.lvl false (decide_eq_false hl) A n c B m d w1).mono ?_;rintro e w2 ⟨rfl,G⟩;have N2:=N1.below G N1.lt;have B2:=b1.trans (G.mono b1.size);have q2:=N2.c2;have zN:=N2.lt;clear hl b9 N1 b1 G;go_wp2_with fail
  clear q2;go_loopw [3,17] (λl i wr=>∃(j:Nat) (E:Option Addr) (F:Nat),j<=m/\i=.int .i64 (j:Int)/\l=.slice E j F/\Qs wr (w.1.size+1) 3 1 E j F (Uk N j)/\Below w.1.size w wr/\w.1.size<wr.1.size) (λ_ i _=>m-(intOf i).toNat)
  case atStart=>exact⟨0,_,_,Nat.zero_le _,rfl,rfl,q10 _ _ _ _,B2,zN⟩
  case round=>
   obtain⟨j,E,F,hj,rfl,rfl,own,Q,hz⟩:=hrel;by_cases K:j<m
   ·obtain⟨g,o,hA,hg,c0,c1,c2,c3⟩:=(hK.below Q).cell K;subst hA;have e2:=qhm N j (by rw[b6.out];exact K);obtain⟨x,hx⟩:∃x,Qg N.kids j=x:=⟨_,rfl⟩;rw[hx] at c0 c1 c2 c3 e2;have E2:=Lib.hid e2;clear e2 hx;have Y:Below wr.1.size wr (wr.alloc (.cells #[.int .i64 x.k.obj,.int .i64 x.k.kind,.int .i64 x.k.off,.int .i64 x.a] 81)):=Qm;have b5:Below wr.1.size wr ((wr.alloc (.cells #[.int .i64 x.k.obj,.int .i64 x.k.kind,.int .i64 x.k.off,.int .i64 x.a] 81)).alloc (.cells #[.int .i64 x.a] 3)):=Y.alloc Y.size _;have b7:Jf ((wr.alloc (.cells #[.int .i64 x.k.obj,.int .i64 x.k.kind,.int .i64 x.k.off,.int .i64 x.a] 81)).alloc (.cells #[.int .i64 x.a] 3)) 1 (some ⟨wr.1.size+1,0,none⟩) 1 1 [iv x.a]:=by
     have:=qjf (wr.alloc (.cells #[.int .i64 x.k.obj,.int .i64 x.k.kind,.int .i64 x.k.off,.int .i64 x.a] 81)) x.a;rwa [World.size_alloc] at this
    go_wp2_with (first
     |(at_builtin;refine qa2 _ Qbu rfl _ _ rfl (w.1.size+1) E j F (Uk N j) rfl (own.below b5) (some ⟨wr.1.size+1,0,none⟩) 1 1 [iv x.a] rfl b7 (by omega) (qv2 x.a) (by omega) (by omega) (by have:=b5.size;omega) ?_)
     |fail)
    intro A5 c5 w5 D a7;have M:Below (w.1.size+1) wr w5:=(b5.mono (by omega)).trans a7;have a2:=Q.trans (M.mono (by omega));have b2:w.1.size<w5.1.size:=by have:=M.size;omega
    rw[<-E2.out] at D;clear b7;go_wp2;exact⟨⟨j+1,_,_,by omega,by go_num,rfl,D,a2,b2⟩,by simp[intOf];omega⟩
   ·obtain rfl:m=j:=by omega
    have O:Qs wr (w.1.size+1) 3 1 E m F (N.named.map iv):=by
     rw[<-d1.out,<-qc0,b6.out];exact own
    go_wp2;go_ret;exact⟨_,_,_,rfl,O.less (by omega),Q⟩
