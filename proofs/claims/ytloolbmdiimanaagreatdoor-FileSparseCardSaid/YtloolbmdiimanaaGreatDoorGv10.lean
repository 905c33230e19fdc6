/- The code's node: Seek and Least -/
import Derived.Test.YtloolbmdiimanaaGreatDoorGvNodeM
namespace Go.Proofs.YtloolbmdiimanaaGreatDoor
open Go Go.RowKit Go.Proofs Tryz
set_option maxHeartbeats 8000000
set_option maxRecDepth 100000
theorem qo0 (xs:List Qb)(j:Nat):keyAt (xs.map (·.k)) j=(Qu xs j).k:=by
 unfold keyAt Qu;rw[AG,AG,BA]
 cases xs[j]?<;>rfl
theorem qhh (xs:List Qk)(j:Nat):keyAt (xs.map (·.k)) j=(Qi xs j).k:=by
 unfold keyAt Qi;rw[AG,AG,BA]
 cases xs[j]?<;>rfl
theorem qfc (xs:List Qb)(i:Nat)(k:Kd)(r:Bool)(G:Uf (xs.map (·.k)) k i=r)(A:OA)(n c:Nat)(w:WD)(J:Ji w A n c xs)(_:n<=100000) :
  Calls prog 125 #[.slice A n c,.int .i64 (i:Int),.func (.func 124) #[] #[],.agg #[.int .i64 k.obj,.int .i64 k.kind,.int .i64 k.off]] w λe Z=>e=.returned (.bool r)/\Below w.1.size w Z:=by
 have W:=qdh;have d:=J.len;obtain⟨U,K⟩:=J.bounds;unfold maxLen at K;have f:=(Y3 w k).2;have I:=(Y3 w k).1;have p:=J.below f;by_cases B:i<n
 ·obtain⟨s,H⟩:∃s,(keyAt (xs.map (·.k)) i).same k=s:=⟨_,rfl⟩;obtain rfl:s=r:=by rw[<-G,<-H];unfold Uf;rw[AL (by rw[AF,d];exact B),Bool.true_and]
  clear G d;go_enter func125,ntmps125
  go_wp2_with fail
  generalize w.alloc (.cells #[.int .i64 k.obj,.int .i64 k.kind,.int .i64 k.off] 81)=wr at f I p ⊢;have D:=I;obtain⟨g,o,M,Q,O,T,F,c0,c1,c2,c3,_⟩:=p.cell B;subst T;have y:=qo0 xs i;obtain⟨a,P⟩:∃a,(Qu xs i).k=a:=⟨_,rfl⟩;rw[P] at c0 c1 c2 y;have R:=HI y;clear P y;rw[R.out] at H;have hq:=qle a k _ H;clear H;have p0:∀u:Grown wr,u.to.cell? ⟨g,o+i*4,none⟩=some (.int .i64 a.obj):=Grown.cell c0 F;have p1:∀u:Grown wr,u.to.cell? ⟨g,o+i*4+1,none⟩=some (.int .i64 a.kind):=Grown.cell c1 F;have p2:∀u:Grown wr,u.to.cell? ⟨g,o+i*4+2,none⟩=some (.int .i64 a.off):=Grown.cell c2 F;have p3:∀u:Grown wr,u.to.cell? ⟨g,o+i*4+3,none⟩=some (.slice M Q O):=Grown.cell c3 F;have q0:∀u:Grown wr,u.to.cell? ⟨w.1.size,0,none⟩=some (.int .i64 k.obj):=Grown.cell D.c0 D.lt;have q1:∀u:Grown wr,u.to.cell? ⟨w.1.size,1,none⟩=some (.int .i64 k.kind):=Grown.cell D.c1 D.lt;have q2:∀u:Grown wr,u.to.cell? ⟨w.1.size,2,none⟩=some (.int .i64 k.off):=Grown.cell D.c2 D.lt;clear c0 c1 c2 c3;have X:(0:Int)<=(i:Int):=by omega
  have E:(i:Int)<(n:Int):=by omega
  refine Ug (by kernel_rfl) (by kernel_rfl) ?_;repeat (go_big_quiet_step (first
   |(go_at_call 124;exact Calls.grown (q2f a M Q O _))
   |fail))
  refine wpQuiet_nil ?_;rintro _ ⟨u,rfl⟩;have m:=f.trans (u.ok.mono f.size);go_wp2;go_ret;exact⟨rfl,m⟩
 ·obtain rfl:r=false:=by rw[<-G];unfold Uf;rw[AH (by rw[AF,d];exact B),Bool.false_and]
  clear G d I p;have E:¬(i:Int)<(n:Int):=by omega
  have Y:decide ((i:Int)<(n:Int))=false:=AH E;go_enter func125,ntmps125
  go_wp2_with fail
  generalize w.alloc (.cells #[.int .i64 k.obj,.int .i64 k.kind,.int .i64 k.off] 81)=wr at f ⊢;refine Ug (by kernel_rfl) (by kernel_rfl) ?_;repeat (go_big_quiet_step (fail))
  refine wpQuiet_nil ?_;rintro _ ⟨u,rfl⟩;have m:=f.trans (u.ok.mono f.size);go_wp2;go_ret;exact⟨rfl,m⟩
theorem qfd (xs:List Qk)(i:Nat)(k:Kd)(r:Bool)(G:Uf (xs.map (·.k)) k i=r)(A:OA)(n c:Nat)(w:WD)(J:Zn w A n c xs)(_:n<=100000) :
  Calls prog 128 #[.slice A n c,.int .i64 (i:Int),.func (.func 127) #[] #[],.agg #[.int .i64 k.obj,.int .i64 k.kind,.int .i64 k.off]] w λe X=>e=.returned (.bool r)/\Below w.1.size w X:=by
 have T:=qdh;have d:=J.len;obtain⟨R,K⟩:=J.bounds;unfold maxLen at K;have f:=(Y3 w k).2;have I:=(Y3 w k).1;have p:=J.below f;by_cases B:i<n
 ·obtain⟨s,H⟩:∃s,(keyAt (xs.map (·.k)) i).same k=s:=⟨_,rfl⟩;obtain rfl:s=r:=by rw[<-G,<-H];unfold Uf;rw[AL (by rw[AF,d];exact B),Bool.true_and]
  clear G d;go_enter func128,ntmps128
  go_wp2_with fail
  generalize w.alloc (.cells #[.int .i64 k.obj,.int .i64 k.kind,.int .i64 k.off] 81)=wr at f I p ⊢;have D:=I;obtain⟨g,o,Q,F,c0,c1,c2,c3⟩:=p.cell B;subst Q;obtain⟨v,O⟩:∃v,(Qi xs i).a=v:=⟨_,rfl⟩;rw[O] at c3;clear O;have y:=qhh xs i;obtain⟨a,M⟩:∃a,(Qi xs i).k=a:=⟨_,rfl⟩;rw[M] at c0 c1 c2 y;have P:=HI y;clear M y;rw[P.out] at H;have Y:=qle a k _ H;clear H;have Z:∀u:Grown wr,u.to.cell? ⟨g,o+i*4,none⟩=some (.int .i64 a.obj):=Grown.cell c0 F;have p1:∀u:Grown wr,u.to.cell? ⟨g,o+i*4+1,none⟩=some (.int .i64 a.kind):=Grown.cell c1 F;have p2:∀u:Grown wr,u.to.cell? ⟨g,o+i*4+2,none⟩=some (.int .i64 a.off):=Grown.cell c2 F;have p3:∀u:Grown wr,u.to.cell? ⟨g,o+i*4+3,none⟩=some (.int .i64 v):=Grown.cell c3 F;have q0:∀u:Grown wr,u.to.cell? ⟨w.1.size,0,none⟩=some (.int .i64 k.obj):=Grown.cell D.c0 D.lt;have q1:∀u:Grown wr,u.to.cell? ⟨w.1.size,1,none⟩=some (.int .i64 k.kind):=Grown.cell D.c1 D.lt;have q2:∀u:Grown wr,u.to.cell? ⟨w.1.size,2,none⟩=some (.int .i64 k.off):=Grown.cell D.c2 D.lt;clear c0 c1 c2 c3;have U:(0:Int)<=(i:Int):=by omega
  have E:(i:Int)<(n:Int):=by omega
  refine Ug (by kernel_rfl) (by kernel_rfl) ?_;repeat (go_big_quiet_step (first
   |(go_at_call 127;exact Calls.grown (q2g a v _))
   |fail))
  refine wpQuiet_nil ?_;rintro _ ⟨u,rfl⟩;have m:=f.trans (u.ok.mono f.size);go_wp2;go_ret;exact⟨rfl,m⟩
 ·obtain rfl:r=false:=by rw[<-G];unfold Uf;rw[AH (by rw[AF,d];exact B),Bool.false_and]
  clear G d I p;have E:¬(i:Int)<(n:Int):=by omega
  have W:decide ((i:Int)<(n:Int))=false:=AH E;go_enter func128,ntmps128
  go_wp2_with fail
  generalize w.alloc (.cells #[.int .i64 k.obj,.int .i64 k.kind,.int .i64 k.off] 81)=wr at f ⊢;refine Ug (by kernel_rfl) (by kernel_rfl) ?_;repeat (go_big_quiet_step (fail))
  refine wpQuiet_nil ?_;rintro _ ⟨u,rfl⟩;have m:=f.trans (u.ok.mono f.size);go_wp2;go_ret;exact⟨rfl,m⟩
theorem qo1 (xs:List Qb)(k:Kd)(A:OA)(n c:Nat)(w:WD)(K:Ji w A n c xs)(_:n<=100000) :
  Calls prog 123 #[.slice A n c,.func (.func 124) #[] #[],.agg #[.int .i64 k.obj,.int .i64 k.kind,.int .i64 k.off]] w λe w'=>e=.returned (.int .i64 (lead (xs.map (·.k)) k:Nat))/\Below w.1.size w w':=by
 have f:=HI (show (xs.map (·.k)).length=n by rw[AF];exact K.len);obtain⟨a0,O⟩:=K.bounds;unfold maxLen at O;have I:=(Y3 w k).2;have H:=(Y3 w k).1;go_enter func123,ntmps123
 go_wp2_with fail
 generalize w.alloc (.cells #[.int .i64 k.obj,.int .i64 k.kind,.int .i64 k.off] 81)=Z at I H ⊢;go_loopw [7] (λi wr=>∃j:Nat,j<=n/\i=.int .i64 (j:Int)/\(∀q,q<j->(keyAt (xs.map (·.k)) q).less k=true)/\Below Z.1.size Z wr) (λi _=>n-(intOf i).toNat)
 case atStart=>exact⟨0,AW _,rfl,λq hq=>by omega,AI _ _⟩
 case round=>
  obtain⟨j,X,rfl,B,F⟩:=hrel;have E:=H.below F H.lt;have m:=I.trans (F.mono I.size);by_cases P:j<n
  ·have M:=K.below m;obtain⟨g,o,R,Y,U,hA,G,c0,c1,c2,c3,_⟩:=M.cell P;subst hA;have D:=qo0 xs j;obtain⟨a,W⟩:∃a,(Qu xs j).k=a:=⟨_,rfl⟩;rw[W] at c0 c1 c2 D;have T:=HI D;clear W D;obtain⟨r,Q⟩:∃r,a.less k=r:=⟨_,rfl⟩;have p0:∀u:Grown wr,u.to.cell? ⟨g,o+j*4,none⟩=some (.int .i64 a.obj):=Grown.cell c0 G;have p1:∀u:Grown wr,u.to.cell? ⟨g,o+j*4+1,none⟩=some (.int .i64 a.kind):=Grown.cell c1 G;have p2:∀u:Grown wr,u.to.cell? ⟨g,o+j*4+2,none⟩=some (.int .i64 a.off):=Grown.cell c2 G;have p3:∀u:Grown wr,u.to.cell? ⟨g,o+j*4+3,none⟩=some (.slice R Y U):=Grown.cell c3 G;have q0:∀u:Grown wr,u.to.cell? ⟨w.1.size,0,none⟩=some (.int .i64 k.obj):=Grown.cell E.c0 E.lt;have q1:∀u:Grown wr,u.to.cell? ⟨w.1.size,1,none⟩=some (.int .i64 k.kind):=Grown.cell E.c1 E.lt;have q2:∀u:Grown wr,u.to.cell? ⟨w.1.size,2,none⟩=some (.int .i64 k.off):=Grown.cell E.c2 E.lt;clear c0 c1 c2 c3;have a1:(0:Int)<=(j:Int):=by omega
   have a2:(j:Int)<(n:Int):=by omega
   go_wp2_with fail
   refine Ug (by kernel_rfl) (by kernel_rfl) ?_;repeat (go_big_quiet_step (first
    |(go_at_call 124;exact Calls.grown (q2f a R Y U _))
    |(go_at_call 51;exact Calls.grown (q79 a k r Q _))
    |fail))
   refine wpQuiet_nil ?_;rintro _ ⟨u,rfl⟩;have J:=F.trans (u.ok.mono F.size);have y:=m.trans (u.ok.mono m.size)
   cases r
   ·have d:=HI (qj3 (xs.map (·.k)) k j B (by rw[f.out];exact X) (.inr (by rw[T.out];exact Q)));go_wp2;go_ret;exact⟨by rw[d.out];rfl,y⟩
   ·go_wp2;refine⟨⟨j+1,by omega,by go_num,λp hp=>?_,J⟩,by simp[intOf];omega⟩;rcases (by omega:p<j\/p=j) with h1|rfl
    ·exact B p h1
    ·rw[T.out];exact Q
  ·obtain rfl:n=j:=by omega
   have d:=HI (qj3 (xs.map (·.k)) k n B (by rw[f.out];exact X) (.inl f.out.symm));go_wp2_with fail
   refine Ug (by kernel_rfl) (by kernel_rfl) ?_;repeat (go_big_quiet_step (fail))
   refine wpQuiet_nil ?_;rintro _ ⟨u,rfl⟩;have y:=m.trans (u.ok.mono m.size);go_wp2;go_ret;exact⟨by rw[d.out];rfl,y⟩
theorem qo2 (xs:List Qk)(k:Kd)(A:OA)(n c:Nat)(w:WD)(hI:Zn w A n c xs)(_:n<=100000) :
  Calls prog 126 #[.slice A n c,.func (.func 127) #[] #[],.agg #[.int .i64 k.obj,.int .i64 k.kind,.int .i64 k.off]] w λe w'=>e=.returned (.int .i64 (lastTo (xs.map (·.k)) k n:Nat))/\Below w.1.size w w':=by
 obtain⟨a0,Y⟩:=hI.bounds;unfold maxLen at Y;have I:=(Y3 w k).2;have P:=(Y3 w k).1;obtain⟨T,X⟩:∃T,lastTo (xs.map (·.k)) k n=T:=⟨_,rfl⟩;have HT:=HI X;rw[X];clear X;rcases n with _|p
 ·have M:IntKind.i64.wrap (((0:Nat):Int)-1)=-1:=by decide
  have E:T=0:=by rw[<-HT.out];rfl
  subst E;go_enter func126,ntmps126
  go_wp2_with fail
  generalize w.alloc (.cells #[.int .i64 k.obj,.int .i64 k.kind,.int .i64 k.off] 81)=O at I P ⊢;go_loopw [7] (λi wr=>i=.int .i64 0/\Below O.1.size O wr) (λi _=>(intOf i).toNat)
  case atStart=>exact⟨rfl,AI _ _⟩
  case round=>
   obtain⟨rfl,J⟩:=hrel;have d:=I.trans (J.mono I.size);go_wp2_with fail
   refine Ug (by kernel_rfl) (by kernel_rfl) ?_;repeat (go_big_quiet_step (fail))
   refine wpQuiet_nil ?_;rintro _ ⟨u,rfl⟩;have f:=d.trans (u.ok.mono d.size);go_wp2;go_ret;exact⟨rfl,f⟩
 ·have M:IntKind.i64.wrap (((p+1:Nat):Int)-1)=(p:Int):=by rw[show ((p+1:Nat):Int)-1=(p:Int) by omega];exact IntWalk.i64_in _ (by omega)
  have a6:(0:Int)<=(p:Int):=by omega
  go_enter func126,ntmps126
  go_wp2_with fail
  generalize w.alloc (.cells #[.int .i64 k.obj,.int .i64 k.kind,.int .i64 k.off] 81)=O at I P ⊢;clear M;go_loopw [7] (λi wr=>∃j:Nat,j<=p/\i=.int .i64 (j:Int)/\lastTo (xs.map (·.k)) k (j+1)=T/\Below O.1.size O wr) (λi _=>(intOf i).toNat)
  case atStart=>exact⟨p,AE _,rfl,HT.out,AI _ _⟩
  case round=>
   obtain⟨j,hj,rfl,B,J⟩:=hrel;have H:=P.below J P.lt;have d:=I.trans (J.mono I.size);have m:=HI B;clear B;rcases j with _|q
   ·have E:T=0:=by rw[<-m.out];show (if _ then _ else _)=_;split<;>rfl
    subst E;go_wp2_with fail
    refine Ug (by kernel_rfl) (by kernel_rfl) ?_;repeat (go_big_quiet_step (fail))
    refine wpQuiet_nil ?_;rintro _ ⟨u,rfl⟩;have f:=d.trans (u.ok.mono d.size);go_wp2;go_ret;exact⟨rfl,f⟩
   ·have W:=hI.below d;obtain⟨j,G⟩:∃j,q+1=j:=⟨_,rfl⟩;rw[G] at m hj ⊢;obtain⟨g,o,hA,Q,c0,c1,c2,c3⟩:=W.cell (show j<p+1 by omega);subst hA;obtain⟨v,hv⟩:∃v,(Qi xs j).a=v:=⟨_,rfl⟩;rw[hv] at c3;clear hv;have F:=qhh xs j;obtain⟨a,ha⟩:∃a,(Qi xs j).k=a:=⟨_,rfl⟩;rw[ha] at c0 c1 c2 F;have Ha:=HI F;clear ha F;obtain⟨r,hr⟩:∃r,k.less a=r:=⟨_,rfl⟩;have y:=HI (show (if r=true then lastTo (xs.map (·.k)) k j else j)=T by rw[<-m.out];show _=(if k.less (keyAt (xs.map (·.k)) j)=true then lastTo (xs.map (·.k)) k j else j);rw[Ha.out,hr]);have p0:∀u:Grown wr,u.to.cell? ⟨g,o+j*4,none⟩=some (.int .i64 a.obj):=Grown.cell c0 Q;have p1:∀u:Grown wr,u.to.cell? ⟨g,o+j*4+1,none⟩=some (.int .i64 a.kind):=Grown.cell c1 Q;have p2:∀u:Grown wr,u.to.cell? ⟨g,o+j*4+2,none⟩=some (.int .i64 a.off):=Grown.cell c2 Q;have p3:∀u:Grown wr,u.to.cell? ⟨g,o+j*4+3,none⟩=some (.int .i64 v):=Grown.cell c3 Q;have q0:∀u:Grown wr,u.to.cell? ⟨w.1.size,0,none⟩=some (.int .i64 k.obj):=Grown.cell H.c0 H.lt;have q1:∀u:Grown wr,u.to.cell? ⟨w.1.size,1,none⟩=some (.int .i64 k.kind):=Grown.cell H.c1 H.lt;have q2:∀u:Grown wr,u.to.cell? ⟨w.1.size,2,none⟩=some (.int .i64 k.off):=Grown.cell H.c2 H.lt;clear c0 c1 c2 c3;have a1:(0:Int)<(j:Int):=by omega
    have Z:0<j:=by omega
    have a5:decide (0<j)=true:=AL Z;have a2:(0:Int)<=(j:Int):=by omega
    have a3:(j:Int)<((p+1:Nat):Int):=by omega
    have a4:(j:Int)<(p:Int)+1:=by omega
    have a7:IntKind.i64.wrap ((j:Int)-1)=(q:Int):=by rw[show (j:Int)-1=(q:Int) by omega];exact IntWalk.i64_in _ (by omega)
    have D:=HI G;clear G;go_wp2_with fail
    refine Ug (by kernel_rfl) (by kernel_rfl) ?_;repeat (go_big_quiet_step (first
     |(go_at_call 127;exact Calls.grown (q2g a v _))
     |(go_at_call 51;exact Calls.grown (q79 k a r hr _))
     |fail))
    refine wpQuiet_nil ?_;rintro _ ⟨u,rfl⟩;have U:=J.trans (u.ok.mono J.size);have f:=d.trans (u.ok.mono d.size)
    cases r
    ·obtain rfl:j=T:=y.out;go_wp2;go_ret;exact⟨rfl,f⟩
    ·have K:lastTo (xs.map (·.k)) k j=T:=y.out;have R:=HI K;clear K;go_wp2;exact⟨⟨q,by have:=D.out;omega,rfl,by rw[D.out];exact R.out,U⟩,by have:=D.out;simp[intOf];omega⟩
theorem qdw {n:Nat}{f:Nat->Bool}:(List.range n).all f=true↔∀j,j<n->f j=true:=by
 rw[List.all_eq_true];exact⟨λh j d=>h j (List.mem_range.2 d),λh j d=>h j (List.mem_range.1 d)⟩
theorem qhi (N:Nd):q6h N=true↔∀j,j<N.items.length->Ot (Qu N.items j)=true:=by
 constructor
 ·intro h j d;unfold q6h at h;exact List.all_eq_true.1 h _ (List.mem_of_getElem? (Et d))
 ·intro h;exact qj6 λj d=>AK (h j d)
theorem qln (N:Nd):Gw N=true↔∀j,j<N.kids.length->Ou (Qi N.kids j)=true:=by
 constructor
 ·intro h j d;unfold Gw at h;have:=AK (List.all_eq_true.1 h _ (List.mem_of_getElem? (q16 d)));exact AL (by omega)
 ·intro h;refine qno λj d=>?_
  have:=AK (h j d);omega
theorem qjh (N:Nd)(h:N.lvl=0)(f:N.kids.length=0):N.may=Dj N.items 1 6:=by
 have e:N.keys=N.items.map (·.k):=by unfold Nd.keys;rw[BF f];simp
 unfold Nd.may Dj;rw[AA h,e,Bool.eq_iff_iff];simp only[BN,decide_eq_true_eq,qhi,rises,okI,qdw,AF];constructor
 ·rintro⟨h1,h2,g⟩;exact⟨by omega,λj d=>⟨h2 j d,h1 j d⟩⟩
 ·rintro⟨h1,h2⟩;exact⟨λj d=>(h2 j d).2,λj d=>(h2 j d).1,by omega⟩
theorem qhj (N:Nd)(h:N.lvl=0)(d:¬N.kids.length=0):N.may=false:=by
 unfold Nd.may;rw[AA h,AH (by omega),Bool.and_false,Bool.and_false]
theorem qfe (N:Nd)(h:¬N.lvl=0)(g:1<=N.lvl/\N.lvl<=7)(hi:N.items.length=0):N.may=Dk N.kids 2 12:=by
 have e:N.keys=N.kids.map (·.k):=by unfold Nd.keys;rw[BF hi];simp
 unfold Nd.may Dk;rw[AB h,e,Bool.eq_iff_iff];simp only[BN,decide_eq_true_eq,qln,rises,okK,qdw,AF];constructor
 ·rintro⟨h1,h2,f⟩;exact⟨by omega,λj d=>⟨h2 j d,h1 j d⟩⟩
 ·rintro⟨h1,h2⟩;exact⟨λj d=>(h2 j d).2,λj d=>(h2 j d).1,by omega⟩
theorem q8i (N:Nd)(h:¬N.lvl=0)(d:¬((1<=N.lvl/\N.lvl<=7)/\N.items.length=0)):N.may=false:=by
 unfold Nd.may;rw[AB h,AH (by omega),Bool.and_false,Bool.and_false]
theorem q28 (N:Nd)(r:Bool)(I:N.may=r)(A:OA)(n c:Nat)(B:OA)(m d:Nat)(w:WD)(P:Ji w A n c N.items)(Q:Zn w B m d N.kids)(hn:n<=1000)(hm:m<=1000) :
  Calls prog 122 #[.agg #[.int .i64 N.lvl,.slice A n c,.slice B m d]] w λe Y=>e=.returned (.bool r)/\Below w.1.size w Y:=by
 have G:=HI P.len;have H:=HI Q.len;go_enter func122,ntmps122
 go_wp2_with fail
 have u:NB (w.alloc (.cells #[.int .i64 N.lvl,.slice A n c,.slice B m d] 108)) w.1.size N.lvl A n c B m d:=NB.new w _ _ _ _ _ _ _ _;have D:Below w.1.size w (w.alloc (.cells #[.int .i64 N.lvl,.slice A n c,.slice B m d] 108)):=Ql;generalize w.alloc (.cells #[.int .i64 N.lvl,.slice A n c,.slice B m d] 108)=R at u D ⊢;by_cases F:N.lvl=0
 ·refine (Pz N.lvl true (AL F) A n c B m d R).mono ?_;rintro e T ⟨rfl,g⟩;have y:=u.below g u.lt;have p:=D.trans (g.mono D.size);have U:=y.c0;have W:=y.c1;have X:=y.c2;clear u D g;by_cases K:m=0
  ·have f:=HI (show r=Dj N.items 1 6 by rw[<-I];exact qjh N F (by rw[H.out];exact K));subst K;go_wp2_with fail
   refine (qs6 N.items A n c 1 6 T (P.below p) (by omega)).mono ?_;rintro e O ⟨rfl,E⟩;have J:=p.trans (E.mono p.size);go_wp2;go_ret;exact⟨by rw[f.out];rfl,J⟩
  ·have f:=HI (show r=false by rw[<-I];exact qhj N F (by rw[H.out];exact K));have h1:((m:Int)==0)=false:=by simp;omega
   have h2:decide ((m:Int)=0)=false:=AH (by omega);go_wp2;go_ret;exact⟨by rw[f.out];rfl,p⟩
 ·refine (Pz N.lvl false (AH F) A n c B m d R).mono ?_;rintro e T ⟨rfl,g⟩;have y:=u.below g u.lt;have p:=D.trans (g.mono D.size);have U:=y.c0;have W:=y.c1;have X:=y.c2;clear u D g;go_wp2_with fail
  by_cases M:1<=N.lvl/\N.lvl<=7
  ·refine (q2y N.lvl 1 7 true (AL M) _).mono ?_;rintro e O ⟨rfl,rfl⟩;by_cases hi:n=0
   ·have f:=HI (show r=Dk N.kids 2 12 by rw[<-I];exact qfe N F M (by rw[G.out];exact hi));subst hi;go_wp2_with fail
    refine (qs7 N.kids B m d 2 12 _ (Q.below p) (by omega)).mono ?_;rintro e O ⟨rfl,E⟩;have J:=p.trans (E.mono p.size);go_wp2;go_ret;exact⟨by rw[f.out];rfl,J⟩
   ·have f:=HI (show r=false by rw[<-I];exact q8i N F (by rw[G.out];omega));have h1:((n:Int)==0)=false:=by simp;omega
    have h2:decide ((n:Int)=0)=false:=AH (by omega);go_wp2;go_ret;exact⟨by rw[f.out];rfl,p⟩
  ·refine (q2y N.lvl 1 7 false (AH M) _).mono ?_;rintro e O ⟨rfl,rfl⟩;have f:=HI (show r=false by rw[<-I];exact q8i N F (by omega));go_wp2;go_ret;exact⟨by rw[f.out];rfl,p⟩
def Nd.fit (N:Nd):Prop:=(N.lvl=0->N.kids=[])/\(¬N.lvl=0->N.items=[])
theorem Pe {N:Nd}(hm:N.may=true):N.fit:=by
 constructor
 ·intro d;refine BF ?_;unfold Nd.may at hm;rw[AA d,BN,BN] at hm;exact (AK hm.2.2).1
 ·intro d;refine BF ?_;unfold Nd.may at hm;rw[AB d,BN,BN] at hm;exact (AK hm.2.2).2.2.1
theorem qji {N:Nd}(h:N.fit)(d:N.lvl=0):N.keys=N.items.map (·.k):=by unfold Nd.keys;rw[h.1 d];simp
theorem qff {N:Nd}(h:N.fit)(d:¬N.lvl=0):N.keys=N.kids.map (·.k):=by unfold Nd.keys;rw[h.2 d];simp
theorem q3h (N:Nd)(F:N.fit)(k:Kd)(t:Nat)(W:N.Zo k=t)(r:Bool)(U:Uf N.keys k t=r)(A:OA)(n c:Nat)(B:OA)(m d:Nat)(w:WD)(hI:Ji w A n c N.items)(hK:Zn w B m d N.kids)(hn:n<=1000)(hm:m<=1000) :
  Calls prog 87 #[.agg #[.int .i64 N.lvl,.slice A n c,.slice B m d],.agg #[.int .i64 k.obj,.int .i64 k.kind,.int .i64 k.off]] w λe w'=>e=.returned (.tuple #[.int .i64 (t:Int),.bool r])/\Below w.1.size w w':=by
 have Y:=HI hK.len;go_enter func87,ntmps87
 go_wp2_with fail
 have M:NB ((w.alloc (.cells #[.int .i64 N.lvl,.slice A n c,.slice B m d] 108)).alloc (.cells #[.int .i64 k.obj,.int .i64 k.kind,.int .i64 k.off] 81)) w.1.size N.lvl A n c B m d:=(NB.new w _ _ _ _ _ _ _ _).below (Ql) (by simp);have J:KB ((w.alloc (.cells #[.int .i64 N.lvl,.slice A n c,.slice B m d] 108)).alloc (.cells #[.int .i64 k.obj,.int .i64 k.kind,.int .i64 k.off] 81)) (w.1.size+1) k:=KB.new2 w _ k.obj k.kind k.off _;have O:Below w.1.size w ((w.alloc (.cells #[.int .i64 N.lvl,.slice A n c,.slice B m d] 108)).alloc (.cells #[.int .i64 k.obj,.int .i64 k.kind,.int .i64 k.off] 81)):=(Ql).alloc (by simp) _;generalize (w.alloc (.cells #[.int .i64 N.lvl,.slice A n c,.slice B m d] 108)).alloc (.cells #[.int .i64 k.obj,.int .i64 k.kind,.int .i64 k.off] 81)=w1 at M J O ⊢;by_cases G:N.lvl=0
 ·have y:=qji F G;have u:=HI (show lead (N.items.map (·.k)) k=t by rw[<-W];unfold Nd.Zo;rw[AA G,y]);have f:=HI (show Uf (N.items.map (·.k)) k t=r by rw[<-U,y]);refine (Pz N.lvl true (AL G) A n c B m d w1).mono ?_;rintro e w2 ⟨rfl,g⟩;have E:=M.below g M.lt;have D:=J.below g J.lt;have H:=O.trans (g.mono O.size);have q1:=E.c1;have Q:=D.c0;have R:=D.c1;have T:=D.c2;clear G y W U M J O g;go_wp2_with fail
  refine (qo1 N.items k A n c w2 (hI.below H) (by omega)).mono ?_;rw[u.out];rintro e w3 ⟨rfl,p⟩;have Z:=E.below p E.lt;have K:=D.below p D.lt;have I:=H.trans (p.mono H.size);clear q1 Q R T;have q1:=Z.c1;have Q:=K.c0;have R:=K.c1;have T:=K.c2;clear E D p;go_wp2_with fail
  refine (qfc N.items t k r f.out A n c w3 (hI.below I) (by omega)).mono ?_;rintro e w4 ⟨rfl,P⟩;have X:=I.trans (P.mono I.size);go_wp2;go_ret2;exact⟨rfl,X⟩
 ·have y:=qff F G;have u:=HI (show lastTo (N.kids.map (·.k)) k m=t by rw[<-W];unfold Nd.Zo;rw[AB G,y,AF,Y.out]);have f:=HI (show Uf (N.kids.map (·.k)) k t=r by rw[<-U,y]);refine (Pz N.lvl false (AH G) A n c B m d w1).mono ?_;rintro e w2 ⟨rfl,g⟩;have E:=M.below g M.lt;have D:=J.below g J.lt;have H:=O.trans (g.mono O.size);have q2:=E.c2;have Q:=D.c0;have R:=D.c1;have T:=D.c2;clear G y W U M J O g;go_wp2_with fail
  refine (qo2 N.kids k B m d w2 (hK.below H) (by omega)).mono ?_;rw[u.out];rintro e w3 ⟨rfl,p⟩;have Z:=E.below p E.lt;have K:=D.below p D.lt;have I:=H.trans (p.mono H.size);clear q2 Q R T;have q2:=Z.c2;have Q:=K.c0;have R:=K.c1;have T:=K.c2;clear E D p;go_wp2_with fail
  refine (qfd N.kids t k r f.out B m d w3 (hK.below I) (by omega)).mono ?_;rintro e w4 ⟨rfl,P⟩;have X:=I.trans (P.mono I.size);go_wp2;go_ret2;exact⟨rfl,X⟩
theorem qhk (xs:List Qb)(z:Kd)(y:(if (xs.map (·.k)).length=0 then ⟨0,0,0⟩ else keyAt (xs.map (·.k)) 0)=z)(A:OA)(n c:Nat)(w:WD)(E:Ji w A n c xs) :
  Calls prog 189 #[.slice A n c,.func (.func 124) #[] #[]] w λe Q=>e=.returned (.agg #[.int .i64 z.obj,.int .i64 z.kind,.int .i64 z.off])/\Below w.1.size w Q:=by
 have d:=E.len;obtain⟨M,F⟩:=E.bounds;unfold maxLen at F;have p:KB (w.alloc (.cells #[.int .i64 0,.int .i64 0,.int .i64 0] 81)) w.1.size ⟨0,0,0⟩:=KB.new w 0 0 0 _;have u:Below w.1.size w (w.alloc (.cells #[.int .i64 0,.int .i64 0,.int .i64 0] 81)):=Ql;by_cases h0:n=0
 ·obtain rfl:(⟨0,0,0⟩:Kd)=z:=by rw[<-y,AA (by rw[AF,d];exact h0)]
  subst h0;clear y d;go_enter func189,ntmps189
  go_wp2_with (first
   |(refine q1i rfl (.tmp 4) (.tmp 8) rfl w.1.size rfl ⟨0,0,0⟩ _ rfl p ?_;intro T B D)
   |fail)
  refine bodyPost_ret (Oc Tryz.results189 rfl (q2w B)) rfl ?_;exact⟨rfl,u.trans ((D.Q9 p.lt).mono (AE _))⟩
 ·have m:keyAt (xs.map (·.k)) 0=z:=by rw[<-y,AB (by rw[AF,d];exact h0)]
  rw[qo0] at m;obtain⟨g,o,H,P,J,K,O,c0,c1,c2,c3,_⟩:=(E.below u).cell (show 0<n by omega);subst K;rw[Nat.zero_mul,Nat.add_zero] at c0 c1 c2 c3;rw[m] at c0 c1 c2;clear y m d;have h1:((n:Int)==0)=false:=by simp;omega
  have h2:decide ((n:Int)=0)=false:=AH (by omega);have U:(0:Int)<(n:Int):=by omega
  go_enter func189,ntmps189
  go_wp2_with fail
  generalize w.alloc (.cells #[.int .i64 0,.int .i64 0,.int .i64 0] 81)=R at p u O c0 c1 c2 c3 ⊢;go_wp2_with fail
  refine (q2f z H P J R).mono ?_;rintro e W ⟨rfl,f⟩;have G:=p.below f p.lt;have I:=u.trans (f.mono u.size);go_wp2_with (first
   |(refine q1i rfl (.tmp 4) (.tmp 13) rfl w.1.size rfl z _ rfl G ?_;intro T B D)
   |fail)
  refine bodyPost_ret (Oc Tryz.results189 rfl (q2w B)) rfl ?_;exact⟨rfl,I.trans ((D.Q9 G.lt).mono (AE _))⟩
theorem qhl (xs:List Qk)(z:Kd)(y:(if (xs.map (·.k)).length=0 then ⟨0,0,0⟩ else keyAt (xs.map (·.k)) 0)=z)(A:OA)(n c:Nat)(w:WD)(E:Zn w A n c xs) :
  Calls prog 190 #[.slice A n c,.func (.func 127) #[] #[]] w λe O=>e=.returned (.agg #[.int .i64 z.obj,.int .i64 z.kind,.int .i64 z.off])/\Below w.1.size w O:=by
 have d:=E.len;obtain⟨K,F⟩:=E.bounds;unfold maxLen at F;have p:KB (w.alloc (.cells #[.int .i64 0,.int .i64 0,.int .i64 0] 81)) w.1.size ⟨0,0,0⟩:=KB.new w 0 0 0 _;have u:Below w.1.size w (w.alloc (.cells #[.int .i64 0,.int .i64 0,.int .i64 0] 81)):=Ql;by_cases h0:n=0
 ·obtain rfl:(⟨0,0,0⟩:Kd)=z:=by rw[<-y,AA (by rw[AF,d];exact h0)]
  subst h0;clear y d;go_enter func190,ntmps190
  go_wp2_with (first
   |(refine q1i rfl (.tmp 4) (.tmp 8) rfl w.1.size rfl ⟨0,0,0⟩ _ rfl p ?_;intro Q B D)
   |fail)
  refine bodyPost_ret (Oc Tryz.results190 rfl (q2w B)) rfl ?_;exact⟨rfl,u.trans ((D.Q9 p.lt).mono (AE _))⟩
 ·have m:keyAt (xs.map (·.k)) 0=z:=by rw[<-y,AB (by rw[AF,d];exact h0)]
  rw[qhh] at m;obtain⟨g,o,J,M,c0,c1,c2,c3⟩:=(E.below u).cell (show 0<n by omega);subst J;rw[Nat.zero_mul,Nat.add_zero] at c0 c1 c2 c3;obtain⟨v,H⟩:∃v,(Qi xs 0).a=v:=⟨_,rfl⟩;rw[H] at c3;clear H;rw[m] at c0 c1 c2;clear y m d;have h1:((n:Int)==0)=false:=by simp;omega
  have h2:decide ((n:Int)=0)=false:=AH (by omega);have R:(0:Int)<(n:Int):=by omega
  go_enter func190,ntmps190
  go_wp2_with fail
  generalize w.alloc (.cells #[.int .i64 0,.int .i64 0,.int .i64 0] 81)=P at p u M c0 c1 c2 c3 ⊢;go_wp2_with fail
  refine (q2g z v P).mono ?_;rintro e T ⟨rfl,f⟩;have G:=p.below f p.lt;have I:=u.trans (f.mono u.size);go_wp2_with (first
   |(refine q1i rfl (.tmp 4) (.tmp 13) rfl w.1.size rfl z _ rfl G ?_;intro Q B D)
   |fail)
  refine bodyPost_ret (Oc Tryz.results190 rfl (q2w B)) rfl ?_;exact⟨rfl,I.trans ((D.Q9 G.lt).mono (AE _))⟩
theorem qhm (N:Nd)(p:N.fit)(z:Kd)(I:N.least=z)(A:OA)(n c:Nat)(B:OA)(m d:Nat)(w:WD)(T:Ji w A n c N.items)(U:Zn w B m d N.kids) :
  Calls prog 181 #[.agg #[.int .i64 N.lvl,.slice A n c,.slice B m d]] w λe W=>e=.returned (.agg #[.int .i64 z.obj,.int .i64 z.kind,.int .i64 z.off])/\Below w.1.size w W:=by
 go_enter func181,ntmps181
 go_wp2_with fail
 have y:NB ((w.alloc (.cells #[.int .i64 N.lvl,.slice A n c,.slice B m d] 108)).alloc (.cells #[.int .i64 0,.int .i64 0,.int .i64 0] 81)) w.1.size N.lvl A n c B m d:=(NB.new w _ _ _ _ _ _ _ _).below (Ql) (by simp);have D:KB ((w.alloc (.cells #[.int .i64 N.lvl,.slice A n c,.slice B m d] 108)).alloc (.cells #[.int .i64 0,.int .i64 0,.int .i64 0] 81)) (w.1.size+1) ⟨0,0,0⟩:=KB.new2 w _ 0 0 0 _;have E:Below w.1.size w ((w.alloc (.cells #[.int .i64 N.lvl,.slice A n c,.slice B m d] 108)).alloc (.cells #[.int .i64 0,.int .i64 0,.int .i64 0] 81)):=(Ql).alloc (by simp) _;generalize (w.alloc (.cells #[.int .i64 N.lvl,.slice A n c,.slice B m d] 108)).alloc (.cells #[.int .i64 0,.int .i64 0,.int .i64 0] 81)=R at y D E ⊢;by_cases F:N.lvl=0
 ·have K:=HI (show (if (N.items.map (·.k)).length=0 then ⟨0,0,0⟩ else keyAt (N.items.map (·.k)) 0)=z by rw[<-I,<-qji p F];rfl);refine (Pz N.lvl true (AL F) A n c B m d R).mono ?_;rintro e Q ⟨rfl,f⟩;have M:=y.below f y.lt;have G:=D.below f D.lt;have u:=E.trans (f.mono E.size);have Z:=M.c1;clear F I y D E f;go_wp2_with fail
  refine (qhk N.items z K.out A n c Q (T.below u)).mono ?_;rintro e X ⟨rfl,g⟩;have H:=G.below g G.lt;have J:=u.trans (g.mono u.size);go_wp2_with (first
   |(refine q1i rfl (.tmp 2) (.tmp 7) rfl (w.1.size+1) rfl z _ rfl H ?_;intro Y O P)
   |fail)
  refine bodyPost_ret (Oc Tryz.results181 rfl (q2w O)) rfl ?_;exact⟨rfl,J.trans ((P.Q9 H.lt).mono (by omega))⟩
 ·have K:=HI (show (if (N.kids.map (·.k)).length=0 then ⟨0,0,0⟩ else keyAt (N.kids.map (·.k)) 0)=z by rw[<-I,<-qff p F];rfl);refine (Pz N.lvl false (AH F) A n c B m d R).mono ?_;rintro e Q ⟨rfl,f⟩;have M:=y.below f y.lt;have G:=D.below f D.lt;have u:=E.trans (f.mono E.size);have q2:=M.c2;clear F I y D E f;go_wp2_with fail
  refine (qhl N.kids z K.out B m d Q (U.below u)).mono ?_;rintro e X ⟨rfl,g⟩;have H:=G.below g G.lt;have J:=u.trans (g.mono u.size);go_wp2_with (first
   |(refine q1i rfl (.tmp 2) (.tmp 10) rfl (w.1.size+1) rfl z _ rfl H ?_;intro Y O P)
   |fail)
  refine bodyPost_ret (Oc Tryz.results181 rfl (q2w O)) rfl ?_;exact⟨rfl,J.trans ((P.Q9 H.lt).mono (by omega))⟩
theorem qso (v:LU)(h:v.length=3):(Qq ((v.drop 1).take 2):Int)=256*(Xr v 1:Int)+(Xr v 2:Int):=by
 match v,h with
 |[a,b,c],_=>simp[Qq,Xr]
theorem qc4 (x:Qb)(r:Bool)(D:(Ky x).isSome=r)(B:OA)(m d:Nat)(w:WD)(K:Sl w B m d x.v) :
  Calls prog 182 #[.agg #[.int .i64 x.k.obj,.int .i64 x.k.kind,.int .i64 x.k.off,.slice B m d]] w λe P=>e=.returned (.bool r)/\Below w.1.size w P:=by
 have g:=K.len;have E:∀o,Below w.1.size w (w.alloc o):=λo=>(AI _ _).alloc (AE _) o
 by_cases f:x.k.kind=3
 ·rw[f];by_cases J:m=3
  ·subst J;obtain⟨I,rfl,F,H⟩:=K.cell (k:=0) (by omega);have G:∀o,(w.alloc o).cell? I=some (.int .u8 (Xr x.v 0:Int)):=λo=>((E o).cell (p:=I) F).trans H
   by_cases u:Xr x.v 0=1
   ·obtain rfl:r=true:=by rw[<-D];unfold Ky;rw[AA ⟨f,g,u⟩];rfl
    rw[u] at G;clear u H D g f;go_enter func182,ntmps182
    go_wp2;go_ret;exact⟨rfl,E _⟩
   ·obtain rfl:r=false:=by rw[<-D];unfold Ky;rw[AB (λh=>u h.2.2)];rfl
    obtain⟨A,y⟩:∃A,Xr x.v 0=A:=⟨_,rfl⟩;rw[y] at G u;have M:((A:Int)==1)=false:=by simp;omega
    have O:decide ((A:Int)=1)=false:=AH (by omega);clear y H D g f;go_enter func182,ntmps182
    go_wp2;go_ret;exact⟨rfl,E _⟩
  ·obtain rfl:r=false:=by rw[<-D];unfold Ky;rw[AB (λh=>J (by rw[<-g];exact h.2.1))];rfl
   have M:((m:Int)==3)=false:=by simp;omega
   have O:decide ((m:Int)=3)=false:=AH (by omega);clear D g f;go_enter func182,ntmps182
   go_wp2;go_ret;exact⟨rfl,E _⟩
 ·obtain rfl:r=false:=by rw[<-D];unfold Ky;rw[AB (λh=>f h.1)];rfl
  obtain⟨A,y⟩:∃A,x.k.kind=A:=⟨_,rfl⟩;rw[y] at f ⊢;have M:(A==3)=false:=by simp;omega
  have O:decide (A=3)=false:=AH (by omega);clear y D g;go_enter func182,ntmps182
  go_wp2;go_ret;exact⟨rfl,E _⟩
theorem qc5 (N:Nd)(a0:N.fit)(A:OA)(n c:Nat)(B:OA)(m d:Nat)(w:WD)(hI:Ji w A n c N.items)(hK:Zn w B m d N.kids)(hn:n<=1000)(hm:m<=1000) :
  Calls prog 176 #[.agg #[.int .i64 N.lvl,.slice A n c,.slice B m d]] w λe w'=>∃F n' G,e=.returned (.slice F n' G)/\Qz w' w.1.size 3 1 F n' G (N.named.map iv)/\Below w.1.size w w':=by
 have a1:=HI hI.len;have a9:=HI hK.len;go_enter func176,ntmps176
 go_wp2_with fail
 have N1:NB (w.alloc (.cells #[.int .i64 N.lvl,.slice A n c,.slice B m d] 108)) w.1.size N.lvl A n c B m d:=NB.new w _ _ _ _ _ _ _ _;have b1:Below w.1.size w (w.alloc (.cells #[.int .i64 N.lvl,.slice A n c,.slice B m d] 108)):=Ql;generalize w.alloc (.cells #[.int .i64 N.lvl,.slice A n c,.slice B m d] 108)=w1 at N1 b1 ⊢;by_cases hl:N.lvl=0
 ·have b6:N.kids.length=0:=by rw[a0.1 hl];rfl
  have a8:=HI (show Ul N 0=Xw N 0 by have:=qdk N;rw[b6] at this;exact this);refine (Pz N.lvl true (AL hl) A n c B m d w1).mono ?_;rintro e w2 ⟨rfl,H⟩;have N2:=N1.below H N1.lt;have B2:=b1.trans (H.mono b1.size);have q1:=N2.c1;have zN:=N2.lt;have Ox:Qz w2 (w.1.size+1) 3 1 none 0 0 (Xw N 0):=by rw[<-a8.out];exact I5 _ _ _ _
  clear hl b6 N1 b1 H a8;go_wp2_with fail
  clear q1;go_loopw [3,31] (λl i wr=>∃(j q:Nat) (F:OA) (G:Nat),j<=n/\q<=j/\i=.int .i64 (j:Int)/\l=.slice F q G/\Qz wr (w.1.size+1) 3 1 F q G (Xw N j)/\Below w.1.size w wr/\w.1.size<wr.1.size) (λ_ i _=>n-(intOf i).toNat)
  case atStart=>exact⟨0,0,_,_,AW _,AE _,rfl,rfl,Ox,B2,zN⟩
  case round=>
   obtain⟨j,q,F,G,hj,hq,rfl,rfl,own,R,hz⟩:=hrel;by_cases M:j<n
   ·obtain⟨g,o,Y,X,K,hA,hg,c0,c1,c2,c3,a5⟩:=(hI.below R).cell M;subst hA;have I:=λz h=>HI (qnm N j (by rw[a1.out];exact M) z h)
    have T:=λh=>HI (qs0 N j (by rw[a1.out];exact M) h)
    obtain⟨x,hx⟩:∃x,Qu N.items j=x:=⟨_,rfl⟩;rw[hx] at c0 c1 c2 a5 I T;clear hx;have Z:Below wr.1.size wr (wr.alloc (.cells #[.int .i64 x.k.obj,.int .i64 x.k.kind,.int .i64 x.k.off,.slice Y X K] 84)):=Ql;have x0:(wr.alloc (.cells #[.int .i64 x.k.obj,.int .i64 x.k.kind,.int .i64 x.k.off,.slice Y X K] 84)).1[wr.1.size]?=some (.cells #[.int .i64 x.k.obj,.int .i64 x.k.kind,.int .i64 x.k.off,.slice Y X K] 84 (0,0)):=BE wr _;have zx:wr.1.size<(wr.alloc (.cells #[.int .i64 x.k.obj,.int .i64 x.k.kind,.int .i64 x.k.off,.slice Y X K] 84)).1.size:=by simp
    go_wp2_with fail
    generalize wr.alloc (.cells #[.int .i64 x.k.obj,.int .i64 x.k.kind,.int .i64 x.k.off,.slice Y X K] 84)=wx at Z x0 zx ⊢;have x3:wx.cell? ⟨wr.1.size,3,none⟩=some (.slice Y X K):=by rw[cell_of_row _ _ _ _ _ _ x0];rfl
    have Q:=own.below Z;have J:=a5.below Z;have W:=R.trans (Z.mono R.size);obtain⟨d3,d4⟩:=(hI.below R).bounds;clear c0 c1 c2 c3 x0 own a5
    cases f:Ky x
    ·have hN:=T f;refine (qc4 x false (by rw[f];rfl) Y X K wx J).mono ?_;rintro e w3 ⟨rfl,y⟩;have D:=Q.below y;rw[<-hN.out] at D;have U:=W.trans (y.mono W.size);have b8:w.1.size<w3.1.size:=by have:=y.size;omega
     clear I T hN f;go_wp2;exact⟨⟨j+1,q,F,G,by omega,by omega,by go_num,rfl,D,U,b8⟩,by simp[intOf];omega⟩
    ·rename_i z;have hN:=I z f;refine (qc4 x true (by rw[f];rfl) Y X K wx J).mono ?_;rintro e w3 ⟨rfl,y⟩;have D:=Q.below y;have U:=W.trans (y.mono W.size);have b8:w.1.size<w3.1.size:=by have:=y.size;omega
     have y3:=(y.cell (p:=⟨wr.1.size,3,none⟩) zx).trans x3;have u:=J.below y;have b7:=u.len;have d5:=u.cap;have d2:=u.max;unfold maxLen at d2;have a6:x.v.length=3/\(Qq ((x.v.drop 1).take 2):Int)=z:=by
      unfold Ky at f;split at f
      ·rename_i h;exact⟨h.2.1,by rw[qso _ h.2.1];exact OI f⟩
      ·cases f
     obtain rfl:3=X:=by rw[<-b7];exact a6.1.symm
     have b9:=HI a6.2;obtain⟨b4,o4,rfl,_,_⟩:=qkh u (by omega);have hd:=u.drop (k:=1) (by omega);rw[AB (by omega:¬K=1)] at hd;have b2:Sl w3 (some ⟨b4,o4+1,none⟩) 2 (K-1) (x.v.drop 1):=hd;have d7:(1:Int)<=(K:Int):=by omega
     have d6:¬K=1:=by omega
     clear hd I T f a6 b7 Z x3 Q J R hz zx;go_wp2_with fail
     refine (q5o (some ⟨b4,o4+1,none⟩) 2 (K-1) _ 2 0 w3 b2 (by omega) (by omega) (by omega) (by omega) (by decide)).mono ?_;rintro e w4 ⟨A4,c4,rfl,_,a3⟩;rw[show (2:Int).toNat=2 from rfl,b9.out];have c9:=D.below a3;have d1:=U.trans (a3.mono U.size);have d8:w.1.size<w4.1.size:=by have:=a3.size;omega
     have b5:Below w4.1.size w4 (w4.alloc (.cells #[.int .i64 z] 3)):=Ql;clear D y3 b2 u b9;go_wp2_with (first
      |(at_builtin;refine qap _ Qa8 rfl _ _ rfl (w.1.size+1) F q G (Xw N j) rfl (c9.below b5) (some ⟨w4.1.size,0,none⟩) 1 1 [iv z] rfl (qf2 w4 z) (by omega) (qrz z) (by omega) (by omega) (by have:=b5.size;omega) ?_)
      |fail)
     intro A5 c5 w5 E a4;have O:Below (w.1.size+1) w4 w5:=(b5.mono (by omega)).trans a4;have a2:=d1.trans (O.mono (by omega));have a7:w.1.size<w5.1.size:=by have:=O.size;omega
     rw[<-hN.out] at E;go_wp2;exact⟨⟨j+1,q+1,_,_,by omega,by omega,by go_num,rfl,E,a2,a7⟩,by simp[intOf];omega⟩
   ·obtain rfl:n=j:=by omega
    have P:Qz wr (w.1.size+1) 3 1 F q G (N.named.map iv):=by rw[<-qdl,a1.out];exact own
    go_wp2;go_ret;exact⟨_,_,_,rfl,P.less (by omega),R⟩
 ·have b3:N.items.length=0:=by rw[a0.2 hl];rfl
  have d0:=HI (show Xw N 0=N.named.map iv by have:=qdl N;rw[b3] at this;exact this);refine (Pz N.lvl false (AH hl) A n c B m d w1).mono ?_;rintro e w2 ⟨rfl,H⟩;have N2:=N1.below H N1.lt;have B2:=b1.trans (H.mono b1.size);have q2:=N2.c2;have zN:=N2.lt;clear hl b3 N1 b1 H;go_wp2_with fail
  clear q2;go_loopw [3,17] (λl i wr=>∃(j:Nat) (F:OA) (G:Nat),j<=m/\i=.int .i64 (j:Int)/\l=.slice F j G/\Qz wr (w.1.size+1) 3 1 F j G (Ul N j)/\Below w.1.size w wr/\w.1.size<wr.1.size) (λ_ i _=>m-(intOf i).toNat)
  case atStart=>exact⟨0,_,_,AW _,rfl,rfl,I5 _ _ _ _,B2,zN⟩
  case round=>
   obtain⟨j,F,G,hj,rfl,rfl,own,R,hz⟩:=hrel;by_cases M:j<m
   ·obtain⟨g,o,hA,hg,c0,c1,c2,c3⟩:=(hK.below R).cell M;subst hA;have e2:=qj4 N j (by rw[a9.out];exact M);obtain⟨x,hx⟩:∃x,Qi N.kids j=x:=⟨_,rfl⟩;rw[hx] at c0 c1 c2 c3 e2;have E2:=HI e2;clear e2 hx;have Z:Below wr.1.size wr (wr.alloc (.cells #[.int .i64 x.k.obj,.int .i64 x.k.kind,.int .i64 x.k.off,.int .i64 x.a] 159)):=Ql;have b5:Below wr.1.size wr ((wr.alloc (.cells #[.int .i64 x.k.obj,.int .i64 x.k.kind,.int .i64 x.k.off,.int .i64 x.a] 159)).alloc (.cells #[.int .i64 x.a] 3)):=Z.alloc Z.size _;have b0:Jy ((wr.alloc (.cells #[.int .i64 x.k.obj,.int .i64 x.k.kind,.int .i64 x.k.off,.int .i64 x.a] 159)).alloc (.cells #[.int .i64 x.a] 3)) 1 (some ⟨wr.1.size+1,0,none⟩) 1 1 [iv x.a]:=by
     have:=qf2 (wr.alloc (.cells #[.int .i64 x.k.obj,.int .i64 x.k.kind,.int .i64 x.k.off,.int .i64 x.a] 159)) x.a;rwa [BH] at this
    go_wp2_with (first
     |(at_builtin;refine qap _ Qa8 rfl _ _ rfl (w.1.size+1) F j G (Ul N j) rfl (own.below b5) (some ⟨wr.1.size+1,0,none⟩) 1 1 [iv x.a] rfl b0 (by omega) (qrz x.a) (by omega) (by omega) (by have:=b5.size;omega) ?_)
     |fail)
    intro A5 c5 w5 E a4;have O:Below (w.1.size+1) wr w5:=(b5.mono (by omega)).trans a4;have a2:=R.trans (O.mono (by omega));have a7:w.1.size<w5.1.size:=by have:=O.size;omega
    rw[<-E2.out] at E;clear b0;go_wp2;exact⟨⟨j+1,_,_,by omega,by go_num,rfl,E,a2,a7⟩,by simp[intOf];omega⟩
   ·obtain rfl:m=j:=by omega
    have P:Qz wr (w.1.size+1) 3 1 F m G (N.named.map iv):=by
     rw[<-d0.out,<-qdk,a9.out];exact own
    go_wp2;go_ret;exact⟨_,_,_,rfl,P.less (by omega),R⟩
