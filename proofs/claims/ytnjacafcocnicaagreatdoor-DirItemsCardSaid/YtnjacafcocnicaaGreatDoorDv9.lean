/- The reference's Seek and Least -/
import Derived.Test.YtnjacafcocnicaaGreatDoorDv8
namespace Go.Proofs.YtnjacafcocnicaaGreatDoor
open Go Go.RowKit Go.Proofs Tryz
set_option maxHeartbeats 8000000
set_option maxRecDepth 100000
def Nd.least (N:Nd):Kd:=if N.keys.length=0 then ⟨0,0,0⟩ else keyAt N.keys 0
def lead (ks:List Kd)(k:Kd):Nat:=(ks.takeWhile λx=>x.less k).length
def lastTo (ks:List Kd)(k:Kd):Nat->Nat
 |0=>0
 |j+1=>if k.less (keyAt ks j)=true then lastTo ks k j else j
def U6 (ks:List Kd)(k:Kd)(i:Nat):Bool:=decide (i<ks.length)&&(keyAt ks i).same k
def Nd.Zw (N:Nd)(k:Kd):Nat:=if N.lvl=0 then lead N.keys k else lastTo N.keys k N.keys.length
theorem qc4 (ks:List Kd)(k:Kd):lead ks k<=ks.length:=by
 unfold lead;induction ks with
 |nil=>simp
 |cons x ks ih=>rw[List.takeWhile_cons];split<;>simp<;>omega
theorem qkp:∀(e:List Kd) (k:Kd) (j:Nat),(∀q,q<j->(keyAt e q).less k=true)->j<=e.length->(j=e.length\/(keyAt e j).less k=false)->lead e k=j
 |[],k,j,_,h2,_=>by simp at h2;subst h2;rfl
 |x::e,k,0,_,_,h3=>by
  rcases h3 with h|h
  ·simp at h
  ·have h:x.less k=false:=h;unfold lead;rw[List.takeWhile_cons,h];rfl
 |x::e,k,j+1,h1,h2,h3=>by
  have h0:x.less k=true:=h1 0 (by omega);have:=qkp e k j (λq f=>h1 (q+1) (by omega)) (by simpa using h2) (by
   rcases h3 with h|h
   ·left;simpa using h
   ·right;exact h)
  unfold lead at this ⊢;rw[List.takeWhile_cons,h0];simpa using this
theorem qc5 (ks:List Kd)(k:Kd)(j:Nat):lastTo ks k j=0\/lastTo ks k j<j:=by
 induction j with
 |zero=>left;rfl
 |succ j ih=>unfold lastTo;split<;>omega
theorem q8x (ks:List Kd)(k:Kd):∀j,0<lastTo ks k j->k.less (keyAt ks (lastTo ks k j))=false
 |0,h=>by cases h
 |j+1,h=>by
  unfold lastTo at h ⊢;by_cases e:k.less (keyAt ks j)=true
  ·rw[AA e] at h ⊢;exact q8x ks k j h
  ·rw[AB e];simpa using e
theorem q9m (ks:List Kd)(k:Kd):∀j q,lastTo ks k j<q->q<j->k.less (keyAt ks q)=true
 |0,q,_,h=>by cases h
 |j+1,q,h,hq=>by
  unfold lastTo at h;by_cases e:k.less (keyAt ks j)=true
  ·rw[AA e] at h;rcases (by omega:q<j\/q=j) with h1|rfl
   ·exact q9m ks k j q h h1
   ·exact e
  ·rw[AB e] at h;omega
theorem q6r:∀(e:List Kd) (k:Kd) (q:Nat),q<lead e k->(keyAt e q).less k=true
 |[],k,q,h=>by cases h
 |x::e,k,q,h=>by
  unfold lead at h;rw[List.takeWhile_cons] at h;by_cases f:x.less k=true
  ·rw[AA f] at h;match q with
   |0=>exact f
   |q+1=>exact q6r e k q (by unfold lead;simpa using h)
  ·rw[AB f] at h
   cases h
theorem qc6:∀(e:List Kd) (k:Kd),lead e k<e.length->(keyAt e (lead e k)).less k=false
 |[],k,h=>by cases h
 |x::e,k,h=>by
  unfold lead at h ⊢;rw[List.takeWhile_cons] at h ⊢;by_cases f:x.less k=true
  ·rw[AA f] at h ⊢;exact qc6 e k (by unfold lead;simpa using h)
  ·rw[AB f];show x.less k=false;simpa using f
def Qo (its:List Qc):Prop:=its.Pairwise λx y=>x.k.less y.k=true
def Qs (R:Int->Nd × Int):Nat->Int->List Qc->Prop
 |0,a,its=>R a=(⟨0,its,[]⟩,0)/\its≠[]
 |l+1,a,its=>∃(kids:List Qn) (parts:List (List Qc)),R a=(⟨((l+1:Nat):Int),[],kids⟩,0)/\kids≠[]/\parts.length=kids.length/\its=parts.flatten/\∀j,j<kids.length->Qs R l (Qk kids j).a (parts.getD j [])/\∃x r,parts.getD j []=x::r/\(Qk kids j).k=x.k
def valOf (its:List Qc)(k:Kd):Option (LU):=(its.find? λx=>x.k.same k).map (·.v)
theorem q7n {a b k:Kd}(h:b.same k=true):a.less k=a.less b:=by
 rw[Kd.same_iff] at h;obtain⟨h1,h2,e⟩:=h;unfold Kd.less;rw[h1,h2,e]
theorem qc7 {a b k:Kd}(h:b.same k=true):k.less a=b.less a:=by
 rw[Kd.same_iff] at h;obtain⟨h1,h2,e⟩:=h;unfold Kd.less;rw[h1,h2,e]
theorem qil {a b:Kd}(h:a.less b=true):b.less a=false:=by
 rcases Kd.total a b with⟨_,h2,_⟩|⟨h1,_,_⟩|⟨h1,_,_⟩
 ·exact h2
 ·rw[h] at h1;cases h1
 ·rw[h] at h1;cases h1
theorem q60 (a:Kd):a.less a=false:=by
 rcases Kd.total a a with⟨h1,h2,e⟩|⟨_,_,e⟩|⟨h1,_,_⟩
 ·exact absurd rfl e
 ·exact absurd rfl e
 ·exact h1
theorem qe7 {a b c:Kd}(h1:a.less b=true)(h2:c.less b=false):a.less c=true:=by
 rcases Kd.total b c with⟨e,_,_⟩|⟨_,e,_⟩|⟨_,_,rfl⟩
 ·exact Kd.trans a b c h1 e
 ·rw[h2] at e;cases e
 ·exact h1
theorem getD_cons_succ {α:Type}(x:α)(l:List α)(d:α)(j:Nat):(x::l).getD (j+1) d=l.getD j d:=by
 rw[AG,AG,List.getElem?_cons_succ]
theorem q8y {parts:List (List Qc)}(h:Qo parts.flatten){i j:Nat}(e:i<j)(f:j<parts.length){x y:Qc}(m:x∈parts.getD i [])(p:y∈parts.getD j []):x.k.less y.k=true:=by
 unfold Qo at h;rw[List.pairwise_flatten] at h;have h2:=List.pairwise_iff_getElem.1 h.2 i j (by omega) f e;rw[AG,AC (by omega)] at m;rw[AG,AC f] at p;exact h2 x m y p
theorem qe8 {parts:List (List Qc)}(h:Qo parts.flatten)(j:Nat):Qo (parts.getD j []):=by
 unfold Qo at h ⊢;rw[List.pairwise_flatten] at h;rw[AG];by_cases e:j<parts.length
 ·rw[AC e];exact h.1 _ (List.getElem_mem e)
 ·rw[List.getElem?_eq_none (by omega)];exact List.Pairwise.nil
theorem q7o (l:Int)(kids:List Qn):(⟨l,[],kids⟩:Nd).keys=kids.map (·.k):=rfl
theorem q2z (its:List Qc):(⟨0,its,[]⟩:Nd).keys=its.map (·.k):=by unfold Nd.keys;simp
theorem qc8 (kids:List Qn){j:Nat}(e:j<kids.length):keyAt (kids.map (·.k)) j=(Qk kids j).k:=by
 unfold keyAt Qk;rw[AG,AG,BA,AC e];rfl
theorem q1b (its:List Qc){j:Nat}(e:j<its.length):keyAt (its.map (·.k)) j=(Zc its j).k:=by
 unfold keyAt Zc;rw[AG,AG,BA,AC e];rfl
theorem qy5 {its:List Qc}(I:Qo its)(k:Kd):valOf its k=if U6 (its.map (·.k)) k (lead (its.map (·.k)) k)=true then some (Zc its (lead (its.map (·.k)) k)).v else none:=by
 obtain⟨j,A⟩:∃j,lead (its.map (·.k)) k=j:=⟨_,rfl⟩;have H:j<=its.length:=by have:=qc4 (its.map (·.k)) k;rw[AF] at this;omega
 rw[A];have G:∀q,q<j->(Zc its q).k.less k=true:=λq p=>by
  have:=q6r (its.map (·.k)) k q (by omega);rwa [q1b its (by omega)] at this
 have f:∀q (p:q<its.length),q≠j\/(Zc its j).k.same k=false->(its[q]).k.same k=false:=λq p B=>by
  have e:Zc its q=its[q]:=by unfold Zc;rw[AG,AC p];rfl
  cases u:(its[q]).k.same k with
  |false=>rfl
  |true=>
   rcases Nat.lt_trichotomy q j with h1|h1|h1
   ·have h2:=G q h1;rw[e,q7n u,q60] at h2
    cases h2
   ·subst h1;rcases B with h2|h2
    ·exact absurd rfl h2
    ·rw[e,u] at h2;cases h2
   ·have E:(Zc its j).k.less k=false:=by
     have:=qc6 (its.map (·.k)) k (by rw[A,AF];omega);rwa [A,q1b its (by omega)] at this
    have F:=List.pairwise_iff_getElem.1 I j q (by omega) p h1;have y:Zc its j=its[j]'(by omega):=by unfold Zc;rw[AG,AC (by omega)];rfl
    rw[y,q7n u,F] at E
    cases E
 unfold valOf U6;rw[AF];by_cases m:j<its.length
 ·rw[AL m,Bool.true_and,q1b its m];have y:Zc its j=its[j]:=by unfold Zc;rw[AG,AC m];rfl
  cases u:(Zc its j).k.same k with
  |true=>
   rw[AA rfl];have:its.find? (λx=>x.k.same k)=some its[j]:=by
    rw[List.find?_eq_some_iff_getElem];refine⟨by rw[<-y];exact u,j,m,rfl,λq p=>?_⟩;rw[f q (by omega) (.inl (by omega))];rfl
   rw[this,y];rfl
  |false=>
   have:its.find? (λx=>x.k.same k)=none:=by
    rw[List.find?_eq_none];intro x D;obtain⟨q,p,e⟩:=List.getElem_of_mem D;rw[<-e,f q p (.inr u)];simp
   rw[this];rfl
 ·rw[AH m,Bool.false_and];have:its.find? (λx=>x.k.same k)=none:=by
   rw[List.find?_eq_none];intro x D;obtain⟨q,p,e⟩:=List.getElem_of_mem D;rw[<-e,f q p (.inl (by omega))];simp
  rw[this];rfl
theorem NB.range {w:WD}{b:Nat}{l:Int}{A B:OA}{n c m d:Nat}(H:NB w b l A n c B m d):w.rangeAt b 0 [.int .i64 l,.slice A n c,.slice B m d]:=λj v e=>by
 obtain⟨t,H⟩:=H;rw[cell_of_row _ _ _ _ _ _ H,AT];simpa using e
theorem Nh {w:WD}{b:Nat}{l:Int}{A B:OA}{n c m d:Nat}(H:NB w b l A n c B m d):(loadVar 74 ⟨b,0,none⟩).run prog w=.ok (.agg #[.int .i64 l,.slice A n c,.slice B m d]) w:=
 run_loadVar_mid w b 0 74 _ _ H.range underlying74 rfl (by kernel_rfl)
theorem NB.new2 (w:WD)(o:Obj)(l:Int)(A:OA)(n c:Nat)(B:OA)(m d:Nat)(t:TypeId):NB ((w.alloc o).alloc (.cells #[.int .i64 l,.slice A n c,.slice B m d] t)) (w.1.size+1) l A n c B m d:=by
 have:=NB.new (w.alloc o) l A n c B m d t;rwa [BH] at this
theorem qub (xs:List Qc)(j:Nat):keyAt (xs.map (·.k)) j=(Zc xs j).k:=by
 unfold keyAt Zc;rw[AG,AG,BA]
 cases xs[j]?<;>rfl
theorem qkq (xs:List Qn)(j:Nat):keyAt (xs.map (·.k)) j=(Qk xs j).k:=by
 unfold keyAt Qk;rw[AG,AG,BA]
 cases xs[j]?<;>rfl
theorem qim (xs:List Qc)(i:Nat)(k:Kd)(r:Bool)(G:U6 (xs.map (·.k)) k i=r)(A:OA)(n c:Nat)(w:WD)(J:J3 w A n c xs)(_:n<=100000) :
  Calls prog 117 #[.slice A n c,.int .i64 (i:Int),.func (.func 116) #[] #[],.agg #[.int .i64 k.obj,.int .i64 k.kind,.int .i64 k.off]] w λe Y=>e=.returned (.bool r)/\Below w.1.size w Y:=by
 have V:=qe3;have f:=J.len;obtain⟨U,K⟩:=J.bounds;unfold maxLen at K;have m:=(Ws w k).2;have I:=(Ws w k).1;have q:=J.below m;by_cases B:i<n
 ·obtain⟨s,H⟩:∃s,(keyAt (xs.map (·.k)) i).same k=s:=⟨_,rfl⟩;obtain rfl:s=r:=by rw[<-G,<-H];unfold U6;rw[AL (by rw[AF,f];exact B),Bool.true_and]
  clear G f;go_enter func117,ntmps117
  go_wp2_with fail
  generalize w.alloc (.cells #[.int .i64 k.obj,.int .i64 k.kind,.int .i64 k.off] 45)=wr at m I q ⊢;have D:=I;obtain⟨g,o,M,Q,O,T,F,c0,c1,c2,c3,_⟩:=q.cell B;subst T;have y:=qub xs i;obtain⟨a,P⟩:∃a,(Zc xs i).k=a:=⟨_,rfl⟩;rw[P] at c0 c1 c2 y;have R:=HI y;clear P y;rw[R.out] at H;have Z:=qnc a k _ H;clear H;have p0:∀u:Grown wr,u.to.cell? ⟨g,o+i*4,none⟩=some (.int .i64 a.obj):=Grown.cell c0 F;have p1:∀u:Grown wr,u.to.cell? ⟨g,o+i*4+1,none⟩=some (.int .i64 a.kind):=Grown.cell c1 F;have p2:∀u:Grown wr,u.to.cell? ⟨g,o+i*4+2,none⟩=some (.int .i64 a.off):=Grown.cell c2 F;have p3:∀u:Grown wr,u.to.cell? ⟨g,o+i*4+3,none⟩=some (.slice M Q O):=Grown.cell c3 F;have q0:∀u:Grown wr,u.to.cell? ⟨w.1.size,0,none⟩=some (.int .i64 k.obj):=Grown.cell D.c0 D.lt;have q1:∀u:Grown wr,u.to.cell? ⟨w.1.size,1,none⟩=some (.int .i64 k.kind):=Grown.cell D.c1 D.lt;have q2:∀u:Grown wr,u.to.cell? ⟨w.1.size,2,none⟩=some (.int .i64 k.off):=Grown.cell D.c2 D.lt;clear c0 c1 c2 c3;have W:(0:Int)<=(i:Int):=by omega
  have E:(i:Int)<(n:Int):=by omega
  refine Ux (by kernel_rfl) (by kernel_rfl) ?_;repeat (go_big_quiet_step (first
   |(go_at_call 116;exact Calls.grown (q2o a M Q O _))
   |fail))
  refine wpQuiet_nil ?_;rintro _ ⟨u,rfl⟩;have p:=m.trans (u.ok.mono m.size);go_wp2;go_ret;exact⟨rfl,p⟩
 ·obtain rfl:r=false:=by rw[<-G];unfold U6;rw[AH (by rw[AF,f];exact B),Bool.false_and]
  clear G f I q;have E:¬(i:Int)<(n:Int):=by omega
  have X:decide ((i:Int)<(n:Int))=false:=AH E;go_enter func117,ntmps117
  go_wp2_with fail
  generalize w.alloc (.cells #[.int .i64 k.obj,.int .i64 k.kind,.int .i64 k.off] 45)=wr at m ⊢;refine Ux (by kernel_rfl) (by kernel_rfl) ?_;repeat (go_big_quiet_step (fail))
  refine wpQuiet_nil ?_;rintro _ ⟨u,rfl⟩;have p:=m.trans (u.ok.mono m.size);go_wp2;go_ret;exact⟨rfl,p⟩
theorem qin (xs:List Qn)(i:Nat)(k:Kd)(r:Bool)(G:U6 (xs.map (·.k)) k i=r)(A:OA)(n c:Nat)(w:WD)(J:Zr w A n c xs)(_:n<=100000) :
  Calls prog 120 #[.slice A n c,.int .i64 (i:Int),.func (.func 119) #[] #[],.agg #[.int .i64 k.obj,.int .i64 k.kind,.int .i64 k.off]] w λe W=>e=.returned (.bool r)/\Below w.1.size w W:=by
 have T:=qe3;have f:=J.len;obtain⟨R,K⟩:=J.bounds;unfold maxLen at K;have m:=(Ws w k).2;have I:=(Ws w k).1;have q:=J.below m;by_cases B:i<n
 ·obtain⟨s,H⟩:∃s,(keyAt (xs.map (·.k)) i).same k=s:=⟨_,rfl⟩;obtain rfl:s=r:=by rw[<-G,<-H];unfold U6;rw[AL (by rw[AF,f];exact B),Bool.true_and]
  clear G f;go_enter func120,ntmps120
  go_wp2_with fail
  generalize w.alloc (.cells #[.int .i64 k.obj,.int .i64 k.kind,.int .i64 k.off] 45)=wr at m I q ⊢;have D:=I;obtain⟨g,o,Q,F,c0,c1,c2,c3⟩:=q.cell B;subst Q;obtain⟨v,O⟩:∃v,(Qk xs i).a=v:=⟨_,rfl⟩;rw[O] at c3;clear O;have y:=qkq xs i;obtain⟨a,M⟩:∃a,(Qk xs i).k=a:=⟨_,rfl⟩;rw[M] at c0 c1 c2 y;have P:=HI y;clear M y;rw[P.out] at H;have X:=qnc a k _ H;clear H;have Y:∀u:Grown wr,u.to.cell? ⟨g,o+i*4,none⟩=some (.int .i64 a.obj):=Grown.cell c0 F;have Z:∀u:Grown wr,u.to.cell? ⟨g,o+i*4+1,none⟩=some (.int .i64 a.kind):=Grown.cell c1 F;have p2:∀u:Grown wr,u.to.cell? ⟨g,o+i*4+2,none⟩=some (.int .i64 a.off):=Grown.cell c2 F;have p3:∀u:Grown wr,u.to.cell? ⟨g,o+i*4+3,none⟩=some (.int .i64 v):=Grown.cell c3 F;have q0:∀u:Grown wr,u.to.cell? ⟨w.1.size,0,none⟩=some (.int .i64 k.obj):=Grown.cell D.c0 D.lt;have q1:∀u:Grown wr,u.to.cell? ⟨w.1.size,1,none⟩=some (.int .i64 k.kind):=Grown.cell D.c1 D.lt;have q2:∀u:Grown wr,u.to.cell? ⟨w.1.size,2,none⟩=some (.int .i64 k.off):=Grown.cell D.c2 D.lt;clear c0 c1 c2 c3;have U:(0:Int)<=(i:Int):=by omega
  have E:(i:Int)<(n:Int):=by omega
  refine Ux (by kernel_rfl) (by kernel_rfl) ?_;repeat (go_big_quiet_step (first
   |(go_at_call 119;exact Calls.grown (q2p a v _))
   |fail))
  refine wpQuiet_nil ?_;rintro _ ⟨u,rfl⟩;have p:=m.trans (u.ok.mono m.size);go_wp2;go_ret;exact⟨rfl,p⟩
 ·obtain rfl:r=false:=by rw[<-G];unfold U6;rw[AH (by rw[AF,f];exact B),Bool.false_and]
  clear G f I q;have E:¬(i:Int)<(n:Int):=by omega
  have V:decide ((i:Int)<(n:Int))=false:=AH E;go_enter func120,ntmps120
  go_wp2_with fail
  generalize w.alloc (.cells #[.int .i64 k.obj,.int .i64 k.kind,.int .i64 k.off] 45)=wr at m ⊢;refine Ux (by kernel_rfl) (by kernel_rfl) ?_;repeat (go_big_quiet_step (fail))
  refine wpQuiet_nil ?_;rintro _ ⟨u,rfl⟩;have p:=m.trans (u.ok.mono m.size);go_wp2;go_ret;exact⟨rfl,p⟩
theorem quc (xs:List Qc)(k:Kd)(A:OA)(n c:Nat)(w:WD)(M:J3 w A n c xs)(_:n<=100000) :
  Calls prog 115 #[.slice A n c,.func (.func 116) #[] #[],.agg #[.int .i64 k.obj,.int .i64 k.kind,.int .i64 k.off]] w λe w'=>e=.returned (.int .i64 (lead (xs.map (·.k)) k:Nat))/\Below w.1.size w w':=by
 have m:=HI (show (xs.map (·.k)).length=n by rw[AF];exact M.len);obtain⟨a1,P⟩:=M.bounds;unfold maxLen at P;have J:=(Ws w k).2;have I:=(Ws w k).1;go_enter func115,ntmps115
 go_wp2_with fail
 generalize w.alloc (.cells #[.int .i64 k.obj,.int .i64 k.kind,.int .i64 k.off] 45)=Z at J I ⊢;go_loopw [7] (λi wr=>∃j:Nat,j<=n/\i=.int .i64 (j:Int)/\(∀q,q<j->(keyAt (xs.map (·.k)) q).less k=true)/\Below Z.1.size Z wr) (λi _=>n-(intOf i).toNat)
 case atStart=>exact⟨0,AW _,rfl,λq hq=>by omega,AI _ _⟩
 case round=>
  obtain⟨j,X,rfl,D,G⟩:=hrel;have F:=I.below G I.lt;have y:=J.trans (G.mono J.size);by_cases Q:j<n
  ·have O:=M.below y;obtain⟨g,o,T,Y,V,hA,H,c0,c1,c2,c3,_⟩:=O.cell Q;subst hA;have E:=qub xs j;obtain⟨a,W⟩:∃a,(Zc xs j).k=a:=⟨_,rfl⟩;rw[W] at c0 c1 c2 E;have U:=HI E;clear W E;obtain⟨r,R⟩:∃r,a.less k=r:=⟨_,rfl⟩;have p0:∀u:Grown wr,u.to.cell? ⟨g,o+j*4,none⟩=some (.int .i64 a.obj):=Grown.cell c0 H;have p1:∀u:Grown wr,u.to.cell? ⟨g,o+j*4+1,none⟩=some (.int .i64 a.kind):=Grown.cell c1 H;have p2:∀u:Grown wr,u.to.cell? ⟨g,o+j*4+2,none⟩=some (.int .i64 a.off):=Grown.cell c2 H;have p3:∀u:Grown wr,u.to.cell? ⟨g,o+j*4+3,none⟩=some (.slice T Y V):=Grown.cell c3 H;have q0:∀u:Grown wr,u.to.cell? ⟨w.1.size,0,none⟩=some (.int .i64 k.obj):=Grown.cell F.c0 F.lt;have q1:∀u:Grown wr,u.to.cell? ⟨w.1.size,1,none⟩=some (.int .i64 k.kind):=Grown.cell F.c1 F.lt;have q2:∀u:Grown wr,u.to.cell? ⟨w.1.size,2,none⟩=some (.int .i64 k.off):=Grown.cell F.c2 F.lt;clear c0 c1 c2 c3;have a2:(0:Int)<=(j:Int):=by omega
   have a6:(j:Int)<(n:Int):=by omega
   go_wp2_with fail
   refine Ux (by kernel_rfl) (by kernel_rfl) ?_;repeat (go_big_quiet_step (first
    |(go_at_call 116;exact Calls.grown (q2o a T Y V _))
    |(go_at_call 33;exact Calls.grown (q7m a k r R _))
    |fail))
   refine wpQuiet_nil ?_;rintro _ ⟨u,rfl⟩;have K:=G.trans (u.ok.mono G.size);have B:=y.trans (u.ok.mono y.size)
   cases r
   ·have f:=HI (qkp (xs.map (·.k)) k j D (by rw[m.out];exact X) (.inr (by rw[U.out];exact R)));go_wp2;go_ret;exact⟨by rw[f.out];rfl,B⟩
   ·go_wp2;refine⟨⟨j+1,by omega,by go_num,λp hp=>?_,K⟩,by simp[intOf];omega⟩;rcases (by omega:p<j\/p=j) with h1|rfl
    ·exact D p h1
    ·rw[U.out];exact R
  ·obtain rfl:n=j:=by omega
   have f:=HI (qkp (xs.map (·.k)) k n D (by rw[m.out];exact X) (.inl m.out.symm));go_wp2_with fail
   refine Ux (by kernel_rfl) (by kernel_rfl) ?_;repeat (go_big_quiet_step (fail))
   refine wpQuiet_nil ?_;rintro _ ⟨u,rfl⟩;have B:=y.trans (u.ok.mono y.size);go_wp2;go_ret;exact⟨by rw[f.out];rfl,B⟩
theorem qud (xs:List Qn)(k:Kd)(A:OA)(n c:Nat)(w:WD)(hI:Zr w A n c xs)(_:n<=100000) :
  Calls prog 118 #[.slice A n c,.func (.func 119) #[] #[],.agg #[.int .i64 k.obj,.int .i64 k.kind,.int .i64 k.off]] w λe w'=>e=.returned (.int .i64 (lastTo (xs.map (·.k)) k n:Nat))/\Below w.1.size w w':=by
 obtain⟨a1,Y⟩:=hI.bounds;unfold maxLen at Y;have J:=(Ws w k).2;have Q:=(Ws w k).1;obtain⟨T,X⟩:∃T,lastTo (xs.map (·.k)) k n=T:=⟨_,rfl⟩;have HT:=HI X;rw[X];clear X;rcases n with _|p
 ·have O:IntKind.i64.wrap (((0:Nat):Int)-1)=-1:=by decide
  have F:T=0:=by rw[<-HT.out];rfl
  subst F;go_enter func118,ntmps118
  go_wp2_with fail
  generalize w.alloc (.cells #[.int .i64 k.obj,.int .i64 k.kind,.int .i64 k.off] 45)=P at J Q ⊢;go_loopw [7] (λi wr=>i=.int .i64 0/\Below P.1.size P wr) (λi _=>(intOf i).toNat)
  case atStart=>exact⟨rfl,AI _ _⟩
  case round=>
   obtain⟨rfl,K⟩:=hrel;have f:=J.trans (K.mono J.size);go_wp2_with fail
   refine Ux (by kernel_rfl) (by kernel_rfl) ?_;repeat (go_big_quiet_step (fail))
   refine wpQuiet_nil ?_;rintro _ ⟨u,rfl⟩;have m:=f.trans (u.ok.mono f.size);go_wp2;go_ret;exact⟨rfl,m⟩
 ·have O:IntKind.i64.wrap (((p+1:Nat):Int)-1)=(p:Int):=by rw[show ((p+1:Nat):Int)-1=(p:Int) by omega];exact IntWalk.i64_in _ (by omega)
  have b2:(0:Int)<=(p:Int):=by omega
  go_enter func118,ntmps118
  go_wp2_with fail
  generalize w.alloc (.cells #[.int .i64 k.obj,.int .i64 k.kind,.int .i64 k.off] 45)=P at J Q ⊢;clear O;go_loopw [7] (λi wr=>∃j:Nat,j<=p/\i=.int .i64 (j:Int)/\lastTo (xs.map (·.k)) k (j+1)=T/\Below P.1.size P wr) (λi _=>(intOf i).toNat)
  case atStart=>exact⟨p,AE _,rfl,HT.out,AI _ _⟩
  case round=>
   obtain⟨j,hj,rfl,D,K⟩:=hrel;have I:=Q.below K Q.lt;have f:=J.trans (K.mono J.size);have y:=HI D;clear D;rcases j with _|q
   ·have F:T=0:=by rw[<-y.out];show (if _ then _ else _)=_;split<;>rfl
    subst F;go_wp2_with fail
    refine Ux (by kernel_rfl) (by kernel_rfl) ?_;repeat (go_big_quiet_step (fail))
    refine wpQuiet_nil ?_;rintro _ ⟨u,rfl⟩;have m:=f.trans (u.ok.mono f.size);go_wp2;go_ret;exact⟨rfl,m⟩
   ·have W:=hI.below f;obtain⟨j,H⟩:∃j,q+1=j:=⟨_,rfl⟩;rw[H] at y hj ⊢;obtain⟨g,o,hA,R,c0,c1,c2,c3⟩:=W.cell (show j<p+1 by omega);subst hA;obtain⟨v,hv⟩:∃v,(Qk xs j).a=v:=⟨_,rfl⟩;rw[hv] at c3;clear hv;have G:=qkq xs j;obtain⟨a,ha⟩:∃a,(Qk xs j).k=a:=⟨_,rfl⟩;rw[ha] at c0 c1 c2 G;have Ha:=HI G;clear ha G;obtain⟨r,hr⟩:∃r,k.less a=r:=⟨_,rfl⟩;have B:=HI (show (if r=true then lastTo (xs.map (·.k)) k j else j)=T by rw[<-y.out];show _=(if k.less (keyAt (xs.map (·.k)) j)=true then lastTo (xs.map (·.k)) k j else j);rw[Ha.out,hr]);have p0:∀u:Grown wr,u.to.cell? ⟨g,o+j*4,none⟩=some (.int .i64 a.obj):=Grown.cell c0 R;have p1:∀u:Grown wr,u.to.cell? ⟨g,o+j*4+1,none⟩=some (.int .i64 a.kind):=Grown.cell c1 R;have p2:∀u:Grown wr,u.to.cell? ⟨g,o+j*4+2,none⟩=some (.int .i64 a.off):=Grown.cell c2 R;have p3:∀u:Grown wr,u.to.cell? ⟨g,o+j*4+3,none⟩=some (.int .i64 v):=Grown.cell c3 R;have q0:∀u:Grown wr,u.to.cell? ⟨w.1.size,0,none⟩=some (.int .i64 k.obj):=Grown.cell I.c0 I.lt;have q1:∀u:Grown wr,u.to.cell? ⟨w.1.size,1,none⟩=some (.int .i64 k.kind):=Grown.cell I.c1 I.lt;have q2:∀u:Grown wr,u.to.cell? ⟨w.1.size,2,none⟩=some (.int .i64 k.off):=Grown.cell I.c2 I.lt;clear c0 c1 c2 c3;have a2:(0:Int)<(j:Int):=by omega
    have Z:0<j:=by omega
    have b0:decide (0<j)=true:=AL Z;have a6:(0:Int)<=(j:Int):=by omega
    have a7:(j:Int)<((p+1:Nat):Int):=by omega
    have a8:(j:Int)<(p:Int)+1:=by omega
    have b3:IntKind.i64.wrap ((j:Int)-1)=(q:Int):=by rw[show (j:Int)-1=(q:Int) by omega];exact IntWalk.i64_in _ (by omega)
    have E:=HI H;clear H;go_wp2_with fail
    refine Ux (by kernel_rfl) (by kernel_rfl) ?_;repeat (go_big_quiet_step (first
     |(go_at_call 119;exact Calls.grown (q2p a v _))
     |(go_at_call 33;exact Calls.grown (q7m k a r hr _))
     |fail))
    refine wpQuiet_nil ?_;rintro _ ⟨u,rfl⟩;have V:=K.trans (u.ok.mono K.size);have m:=f.trans (u.ok.mono f.size)
    cases r
    ·obtain rfl:j=T:=B.out;go_wp2;go_ret;exact⟨rfl,m⟩
    ·have M:lastTo (xs.map (·.k)) k j=T:=B.out;have U:=HI M;clear M;go_wp2;exact⟨⟨q,by have:=E.out;omega,rfl,by rw[E.out];exact U.out,V⟩,by have:=E.out;simp[intOf];omega⟩
