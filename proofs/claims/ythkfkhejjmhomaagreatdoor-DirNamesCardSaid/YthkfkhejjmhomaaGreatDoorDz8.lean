/- The laws' few of layer 6; the reference's Same -/
import Derived.Test.YthkfkhejjmhomaaGreatDoorDz6
import Derived.Test.YthkfkhejjmhomaaGreatDoorDz7
namespace Go.Proofs.YthkfkhejjmhomaaGreatDoor
open Go Go.RowKit Go.Proofs
set_option maxHeartbeats 8000000
set_option maxRecDepth 100000
theorem NB.range {w:World}{b:Nat}{l:Int}{A B:Option Addr}{n c m d:Nat}(H:NB w b l A n c B m d):w.rangeAt b 0 [.int .i64 l,.slice A n c,.slice B m d]:=λj v e=>by
 obtain⟨t,H⟩:=H;rw[cell_of_row _ _ _ _ _ _ H,Nat.zero_add];simpa using e
theorem Nq {w:World}{b:Nat}{l:Int}{A B:Option Addr}{n c m d:Nat}(H:NB w b l A n c B m d):(loadVar 77 ⟨b,0,none⟩).run Tryz.prog w=.ok (.agg #[.int .i64 l,.slice A n c,.slice B m d]) w:=
 run_loadVar_mid w b 0 77 _ _ H.range Tryz.underlying77 rfl (by kernel_rfl)
theorem NB.new2 (w:World)(o:Obj)(l:Int)(A:Option Addr)(n c:Nat)(B:Option Addr)(m d:Nat)(t:TypeId):NB ((w.alloc o).alloc (.cells #[.int .i64 l,.slice A n c,.slice B m d] t)) (w.1.size+1) l A n c B m d:=by
 have:=NB.new (w.alloc o) l A n c B m d t;rwa [World.size_alloc] at this
def Nd.least (N:Nd):Kd:=if N.keys.length=0 then ⟨0,0,0⟩ else keyAt N.keys 0
def lead (ks:List Kd)(k:Kd):Nat:=(ks.takeWhile λx=>x.less k).length
def lastTo (ks:List Kd)(k:Kd):Nat->Nat
 |0=>0
 |j+1=>if k.less (keyAt ks j)=true then lastTo ks k j else j
def foundAt (ks:List Kd)(k:Kd)(i:Nat):Bool:=decide (i<ks.length)&&(keyAt ks i).same k
def Nd.Xv (N:Nd)(k:Kd):Nat:=if N.lvl=0 then lead N.keys k else lastTo N.keys k N.keys.length
theorem Qfh (ks:List Kd)(k:Kd):lead ks k<=ks.length:=by
 unfold lead;induction ks with
 |nil=>simp
 |cons x ks ih=>rw[List.takeWhile_cons];split<;>simp<;>omega
theorem Qmv:∀(d:List Kd) (k:Kd) (j:Nat),(∀q,q<j->(keyAt d q).less k=true)->j<=d.length->(j=d.length\/(keyAt d j).less k=false)->lead d k=j
 |[],k,j,_,h2,_=>by simp at h2;subst h2;rfl
 |x::d,k,0,_,_,h3=>by
  rcases h3 with h|h
  ·simp at h
  ·have h:x.less k=false:=h;unfold lead;rw[List.takeWhile_cons,h];rfl
 |x::d,k,j+1,h1,h2,h3=>by
  have h0:x.less k=true:=h1 0 (by omega);have:=Qmv d k j (λq e=>h1 (q+1) (by omega)) (by simpa using h2) (by
   rcases h3 with h|h
   ·left;simpa using h
   ·right;exact h)
  unfold lead at this ⊢;rw[List.takeWhile_cons,h0];simpa using this
theorem D7 (ks:List Kd)(k:Kd)(j:Nat):lastTo ks k j=0\/lastTo ks k j<j:=by
 induction j with
 |zero=>left;rfl
 |succ j ih=>unfold lastTo;split<;>omega
theorem Qru (xs:List Qq)(j:Nat):keyAt (xs.map (·.k)) j=(Qx xs j).k:=by
 unfold keyAt Qx;rw[List.getD_eq_getElem?_getD,List.getD_eq_getElem?_getD,List.getElem?_map]
 cases xs[j]?<;>rfl
theorem Qmu (xs:List Qk)(j:Nat):keyAt (xs.map (·.k)) j=(Ql xs j).k:=by
 unfold keyAt Ql;rw[List.getD_eq_getElem?_getD,List.getD_eq_getElem?_getD,List.getElem?_map]
 cases xs[j]?<;>rfl
theorem Qmp (xs:List Qq)(i:Nat)(k:Kd)(r:Bool)(D:foundAt (xs.map (·.k)) k i=r)(A:Option Addr)(n c:Nat)(w:World)(G:Je w A n c xs)(_:n<=100000) :
  Calls Tryz.prog 171 #[.slice A n c,.int .i64 (i:Int),.func (.func 170) #[] #[],.agg #[.int .i64 k.obj,.int .i64 k.kind,.int .i64 k.off]] w λe V=>e=.returned (.bool r)/\Below w.1.size w V:=by
 have R:=Qip;have d:=G.len;obtain⟨Q,H⟩:=G.bounds;unfold maxLen at H;have f:=(Qap w k).2;have F:=(Qap w k).1;have p:=G.below f;by_cases y:i<n
 ·obtain⟨s,E⟩:∃s,(keyAt (xs.map (·.k)) i).same k=s:=⟨_,rfl⟩;obtain rfl:s=r:=by rw[<-D,<-E];unfold foundAt;rw[decide_eq_true (by rw[List.length_map,d];exact y),Bool.true_and]
  clear D d;go_enter Tryz.func171,Tryz.ntmps171
  go_wp2_with fail
  generalize w.alloc (.cells #[.int .i64 k.obj,.int .i64 k.kind,.int .i64 k.off] 45)=wr at f F p ⊢;have Kr:=F;obtain⟨g,o,I,M,J,P,B,c0,c1,c2,c3,_⟩:=p.cell y;subst P;have q:=Qru xs i;obtain⟨a,K⟩:∃a,(Qx xs i).k=a:=⟨_,rfl⟩;rw[K] at c0 c1 c2 q;have O:=Lib.hid q;clear K q;rw[O.out] at E;have W:=Qom a k _ E;clear E;have X:∀u:Grown wr,u.to.cell? ⟨g,o+i*4,none⟩=some (.int .i64 a.obj):=Grown.cell c0 B;have Y:∀u:Grown wr,u.to.cell? ⟨g,o+i*4+1,none⟩=some (.int .i64 a.kind):=Grown.cell c1 B;have Z:∀u:Grown wr,u.to.cell? ⟨g,o+i*4+2,none⟩=some (.int .i64 a.off):=Grown.cell c2 B;have p3:∀u:Grown wr,u.to.cell? ⟨g,o+i*4+3,none⟩=some (.slice I M J):=Grown.cell c3 B;have q0:∀u:Grown wr,u.to.cell? ⟨w.1.size,0,none⟩=some (.int .i64 k.obj):=Grown.cell Kr.c0 Kr.lt;have q1:∀u:Grown wr,u.to.cell? ⟨w.1.size,1,none⟩=some (.int .i64 k.kind):=Grown.cell Kr.c1 Kr.lt;have q2:∀u:Grown wr,u.to.cell? ⟨w.1.size,2,none⟩=some (.int .i64 k.off):=Grown.cell Kr.c2 Kr.lt;clear c0 c1 c2 c3;have T:(0:Int)<=(i:Int):=by omega
  have z:(i:Int)<(n:Int):=by omega
  refine Iq (by kernel_rfl) (by kernel_rfl) ?_;repeat (go_big_quiet_step (first
   |(go_at_call 170;exact Calls.grown (Pg a I M J _))
   |fail))
  refine wpQuiet_nil ?_;rintro _ ⟨u,rfl⟩;have m:=f.trans (u.ok.mono f.size);go_wp2;go_ret;exact⟨rfl,m⟩
 ·obtain rfl:r=false:=by rw[<-D];unfold foundAt;rw[decide_eq_false (by rw[List.length_map,d];exact y),Bool.false_and]
  clear D d F p;have z:¬(i:Int)<(n:Int):=by omega
  have U:decide ((i:Int)<(n:Int))=false:=decide_eq_false z;go_enter Tryz.func171,Tryz.ntmps171
  go_wp2_with fail
  generalize w.alloc (.cells #[.int .i64 k.obj,.int .i64 k.kind,.int .i64 k.off] 45)=wr at f ⊢;refine Iq (by kernel_rfl) (by kernel_rfl) ?_;repeat (go_big_quiet_step (fail))
  refine wpQuiet_nil ?_;rintro _ ⟨u,rfl⟩;have m:=f.trans (u.ok.mono f.size);go_wp2;go_ret;exact⟨rfl,m⟩
theorem Qmq (xs:List Qk)(i:Nat)(k:Kd)(r:Bool)(D:foundAt (xs.map (·.k)) k i=r)(A:Option Addr)(n c:Nat)(w:World)(G:Q7 w A n c xs)(_:n<=100000) :
  Calls Tryz.prog 174 #[.slice A n c,.int .i64 (i:Int),.func (.func 173) #[] #[],.agg #[.int .i64 k.obj,.int .i64 k.kind,.int .i64 k.off]] w λe T=>e=.returned (.bool r)/\Below w.1.size w T:=by
 have P:=Qip;have d:=G.len;obtain⟨O,H⟩:=G.bounds;unfold maxLen at H;have f:=(Qap w k).2;have F:=(Qap w k).1;have p:=G.below f;by_cases y:i<n
 ·obtain⟨s,E⟩:∃s,(keyAt (xs.map (·.k)) i).same k=s:=⟨_,rfl⟩;obtain rfl:s=r:=by rw[<-D,<-E];unfold foundAt;rw[decide_eq_true (by rw[List.length_map,d];exact y),Bool.true_and]
  clear D d;go_enter Tryz.func174,Tryz.ntmps174
  go_wp2_with fail
  generalize w.alloc (.cells #[.int .i64 k.obj,.int .i64 k.kind,.int .i64 k.off] 45)=wr at f F p ⊢;have Kr:=F;obtain⟨g,o,M,B,c0,c1,c2,c3⟩:=p.cell y;subst M;obtain⟨v,J⟩:∃v,(Ql xs i).a=v:=⟨_,rfl⟩;rw[J] at c3;clear J;have q:=Qmu xs i;obtain⟨a,I⟩:∃a,(Ql xs i).k=a:=⟨_,rfl⟩;rw[I] at c0 c1 c2 q;have K:=Lib.hid q;clear I q;rw[K.out] at E;have U:=Qom a k _ E;clear E;have V:∀u:Grown wr,u.to.cell? ⟨g,o+i*4,none⟩=some (.int .i64 a.obj):=Grown.cell c0 B;have W:∀u:Grown wr,u.to.cell? ⟨g,o+i*4+1,none⟩=some (.int .i64 a.kind):=Grown.cell c1 B;have X:∀u:Grown wr,u.to.cell? ⟨g,o+i*4+2,none⟩=some (.int .i64 a.off):=Grown.cell c2 B;have Y:∀u:Grown wr,u.to.cell? ⟨g,o+i*4+3,none⟩=some (.int .i64 v):=Grown.cell c3 B;have Z:∀u:Grown wr,u.to.cell? ⟨w.1.size,0,none⟩=some (.int .i64 k.obj):=Grown.cell Kr.c0 Kr.lt;have q1:∀u:Grown wr,u.to.cell? ⟨w.1.size,1,none⟩=some (.int .i64 k.kind):=Grown.cell Kr.c1 Kr.lt;have q2:∀u:Grown wr,u.to.cell? ⟨w.1.size,2,none⟩=some (.int .i64 k.off):=Grown.cell Kr.c2 Kr.lt;clear c0 c1 c2 c3;have Q:(0:Int)<=(i:Int):=by omega
  have z:(i:Int)<(n:Int):=by omega
  refine Iq (by kernel_rfl) (by kernel_rfl) ?_;repeat (go_big_quiet_step (first
   |(go_at_call 173;exact Calls.grown (Ph a v _))
   |fail))
  refine wpQuiet_nil ?_;rintro _ ⟨u,rfl⟩;have m:=f.trans (u.ok.mono f.size);go_wp2;go_ret;exact⟨rfl,m⟩
 ·obtain rfl:r=false:=by rw[<-D];unfold foundAt;rw[decide_eq_false (by rw[List.length_map,d];exact y),Bool.false_and]
  clear D d F p;have z:¬(i:Int)<(n:Int):=by omega
  have R:decide ((i:Int)<(n:Int))=false:=decide_eq_false z;go_enter Tryz.func174,Tryz.ntmps174
  go_wp2_with fail
  generalize w.alloc (.cells #[.int .i64 k.obj,.int .i64 k.kind,.int .i64 k.off] 45)=wr at f ⊢;refine Iq (by kernel_rfl) (by kernel_rfl) ?_;repeat (go_big_quiet_step (fail))
  refine wpQuiet_nil ?_;rintro _ ⟨u,rfl⟩;have m:=f.trans (u.ok.mono f.size);go_wp2;go_ret;exact⟨rfl,m⟩
theorem Qur (xs:List Qq)(k:Kd)(A:Option Addr)(n c:Nat)(w:World)(I:Je w A n c xs)(_:n<=100000) :
  Calls Tryz.prog 169 #[.slice A n c,.func (.func 170) #[] #[],.agg #[.int .i64 k.obj,.int .i64 k.kind,.int .i64 k.off]] w λe w'=>e=.returned (.int .i64 (lead (xs.map (·.k)) k:Nat))/\Below w.1.size w w':=by
 have f:=Lib.hid (show (xs.map (·.k)).length=n by rw[List.length_map];exact I.len);obtain⟨Y,K⟩:=I.bounds;unfold maxLen at K;have G:=(Qap w k).2;have F:=(Qap w k).1;go_enter Tryz.func169,Tryz.ntmps169
 go_wp2_with fail
 generalize w.alloc (.cells #[.int .i64 k.obj,.int .i64 k.kind,.int .i64 k.off] 45)=W at G F ⊢;go_loopw [7] (λi wr=>∃j:Nat,j<=n/\i=.int .i64 (j:Int)/\(∀q,q<j->(keyAt (xs.map (·.k)) q).less k=true)/\Below W.1.size W wr) (λi _=>n-(intOf i).toNat)
 case atStart=>exact⟨0,Nat.zero_le _,rfl,λq hq=>by omega,Below.refl _ _⟩
 case round=>
  obtain⟨j,U,rfl,z,D⟩:=hrel;have Kr:=F.below D F.lt;have m:=G.trans (D.mono G.size);by_cases M:j<n
  ·have J:=I.below m;obtain⟨g,o,P,V,R,X,E,c0,c1,c2,c3,_⟩:=J.cell M;subst X;have B:=Qru xs j;obtain⟨a,T⟩:∃a,(Qx xs j).k=a:=⟨_,rfl⟩;rw[T] at c0 c1 c2 B;have Q:=Lib.hid B;clear T B;obtain⟨r,O⟩:∃r,a.less k=r:=⟨_,rfl⟩;have p0:∀u:Grown wr,u.to.cell? ⟨g,o+j*4,none⟩=some (.int .i64 a.obj):=Grown.cell c0 E;have p1:∀u:Grown wr,u.to.cell? ⟨g,o+j*4+1,none⟩=some (.int .i64 a.kind):=Grown.cell c1 E;have p2:∀u:Grown wr,u.to.cell? ⟨g,o+j*4+2,none⟩=some (.int .i64 a.off):=Grown.cell c2 E;have p3:∀u:Grown wr,u.to.cell? ⟨g,o+j*4+3,none⟩=some (.slice P V R):=Grown.cell c3 E;have q0:∀u:Grown wr,u.to.cell? ⟨w.1.size,0,none⟩=some (.int .i64 k.obj):=Grown.cell Kr.c0 Kr.lt;have q1:∀u:Grown wr,u.to.cell? ⟨w.1.size,1,none⟩=some (.int .i64 k.kind):=Grown.cell Kr.c1 Kr.lt;have q2:∀u:Grown wr,u.to.cell? ⟨w.1.size,2,none⟩=some (.int .i64 k.off):=Grown.cell Kr.c2 Kr.lt;clear c0 c1 c2 c3;have Z:(0:Int)<=(j:Int):=by omega
   have a1:(j:Int)<(n:Int):=by omega
   go_wp2_with fail
   refine Iq (by kernel_rfl) (by kernel_rfl) ?_;repeat (go_big_quiet_step (first
    |(go_at_call 170;exact Calls.grown (Pg a P V R _))
    |(go_at_call 55;exact Calls.grown (Qdo a k r O _))
    |fail))
   refine wpQuiet_nil ?_;rintro _ ⟨u,rfl⟩;have H:=D.trans (u.ok.mono D.size);have y:=m.trans (u.ok.mono m.size)
   cases r
   ·have d:=Lib.hid (Qmv (xs.map (·.k)) k j z (by rw[f.out];exact U) (.inr (by rw[Q.out];exact O)));go_wp2;go_ret;exact⟨by rw[d.out];rfl,y⟩
   ·go_wp2;refine⟨⟨j+1,by omega,by go_num,λp hp=>?_,H⟩,by simp[intOf];omega⟩;rcases (by omega:p<j\/p=j) with h1|rfl
    ·exact z p h1
    ·rw[Q.out];exact O
  ·obtain rfl:n=j:=by omega
   have d:=Lib.hid (Qmv (xs.map (·.k)) k n z (by rw[f.out];exact U) (.inl f.out.symm));go_wp2_with fail
   refine Iq (by kernel_rfl) (by kernel_rfl) ?_;repeat (go_big_quiet_step (fail))
   refine wpQuiet_nil ?_;rintro _ ⟨u,rfl⟩;have y:=m.trans (u.ok.mono m.size);go_wp2;go_ret;exact⟨by rw[d.out];rfl,y⟩
theorem Quq (xs:List Qk)(k:Kd)(A:Option Addr)(n c:Nat)(w:World)(Y:Q7 w A n c xs)(_:n<=100000) :
  Calls Tryz.prog 172 #[.slice A n c,.func (.func 173) #[] #[],.agg #[.int .i64 k.obj,.int .i64 k.kind,.int .i64 k.off]] w λe w'=>e=.returned (.int .i64 (lastTo (xs.map (·.k)) k n:Nat))/\Below w.1.size w w':=by
 obtain⟨a1,V⟩:=Y.bounds;unfold maxLen at V;have G:=(Qap w k).2;have M:=(Qap w k).1;obtain⟨T,U⟩:∃T,lastTo (xs.map (·.k)) k n=T:=⟨_,rfl⟩;have X:=Lib.hid U;rw[U];clear U;rcases n with _|p
 ·have J:IntKind.i64.wrap (((0:Nat):Int)-1)=-1:=by decide
  have D:T=0:=by rw[<-X.out];rfl
  subst D;go_enter Tryz.func172,Tryz.ntmps172
  go_wp2_with fail
  generalize w.alloc (.cells #[.int .i64 k.obj,.int .i64 k.kind,.int .i64 k.off] 45)=K at G M ⊢;go_loopw [7] (λi wr=>i=.int .i64 0/\Below K.1.size K wr) (λi _=>(intOf i).toNat)
  case atStart=>exact⟨rfl,Below.refl _ _⟩
  case round=>
   obtain⟨rfl,H⟩:=hrel;have d:=G.trans (H.mono G.size);go_wp2_with fail
   refine Iq (by kernel_rfl) (by kernel_rfl) ?_;repeat (go_big_quiet_step (fail))
   refine wpQuiet_nil ?_;rintro _ ⟨u,rfl⟩;have f:=d.trans (u.ok.mono d.size);go_wp2;go_ret;exact⟨rfl,f⟩
 ·have J:IntKind.i64.wrap (((p+1:Nat):Int)-1)=(p:Int):=by rw[show ((p+1:Nat):Int)-1=(p:Int) by omega];exact IntWalk.i64_in _ (by omega)
  have b2:(0:Int)<=(p:Int):=by omega
  go_enter Tryz.func172,Tryz.ntmps172
  go_wp2_with fail
  generalize w.alloc (.cells #[.int .i64 k.obj,.int .i64 k.kind,.int .i64 k.off] 45)=K at G M ⊢;clear J;go_loopw [7] (λi wr=>∃j:Nat,j<=p/\i=.int .i64 (j:Int)/\lastTo (xs.map (·.k)) k (j+1)=T/\Below K.1.size K wr) (λi _=>(intOf i).toNat)
  case atStart=>exact⟨p,Nat.le_refl _,rfl,X.out,Below.refl _ _⟩
  case round=>
   obtain⟨j,hj,rfl,z,H⟩:=hrel;have Kr:=M.below H M.lt;have d:=G.trans (H.mono G.size);have m:=Lib.hid z;clear z;rcases j with _|q
   ·have D:T=0:=by rw[<-m.out];show (if _ then _ else _)=_;split<;>rfl
    subst D;go_wp2_with fail
    refine Iq (by kernel_rfl) (by kernel_rfl) ?_;repeat (go_big_quiet_step (fail))
    refine wpQuiet_nil ?_;rintro _ ⟨u,rfl⟩;have f:=d.trans (u.ok.mono d.size);go_wp2;go_ret;exact⟨rfl,f⟩
   ·have R:=Y.below d;obtain⟨j,F⟩:∃j,q+1=j:=⟨_,rfl⟩;rw[F] at m hj ⊢;obtain⟨g,o,hA,O,c0,c1,c2,c3⟩:=R.cell (show j<p+1 by omega);subst hA;obtain⟨v,hv⟩:∃v,(Ql xs j).a=v:=⟨_,rfl⟩;rw[hv] at c3;clear hv;have E:=Qmu xs j;obtain⟨a,Z⟩:∃a,(Ql xs j).k=a:=⟨_,rfl⟩;rw[Z] at c0 c1 c2 E;have Ha:=Lib.hid E;clear Z E;obtain⟨r,hr⟩:∃r,k.less a=r:=⟨_,rfl⟩;have y:=Lib.hid (show (if r=true then lastTo (xs.map (·.k)) k j else j)=T by rw[<-m.out];show _=(if k.less (keyAt (xs.map (·.k)) j)=true then lastTo (xs.map (·.k)) k j else j);rw[Ha.out,hr]);have p0:∀u:Grown wr,u.to.cell? ⟨g,o+j*4,none⟩=some (.int .i64 a.obj):=Grown.cell c0 O;have p1:∀u:Grown wr,u.to.cell? ⟨g,o+j*4+1,none⟩=some (.int .i64 a.kind):=Grown.cell c1 O;have p2:∀u:Grown wr,u.to.cell? ⟨g,o+j*4+2,none⟩=some (.int .i64 a.off):=Grown.cell c2 O;have p3:∀u:Grown wr,u.to.cell? ⟨g,o+j*4+3,none⟩=some (.int .i64 v):=Grown.cell c3 O;have q0:∀u:Grown wr,u.to.cell? ⟨w.1.size,0,none⟩=some (.int .i64 k.obj):=Grown.cell Kr.c0 Kr.lt;have q1:∀u:Grown wr,u.to.cell? ⟨w.1.size,1,none⟩=some (.int .i64 k.kind):=Grown.cell Kr.c1 Kr.lt;have q2:∀u:Grown wr,u.to.cell? ⟨w.1.size,2,none⟩=some (.int .i64 k.off):=Grown.cell Kr.c2 Kr.lt;clear c0 c1 c2 c3;have a2:(0:Int)<(j:Int):=by omega
    have W:0<j:=by omega
    have b0:decide (0<j)=true:=decide_eq_true W;have a6:(0:Int)<=(j:Int):=by omega
    have a7:(j:Int)<((p+1:Nat):Int):=by omega
    have a8:(j:Int)<(p:Int)+1:=by omega
    have b3:IntKind.i64.wrap ((j:Int)-1)=(q:Int):=by rw[show (j:Int)-1=(q:Int) by omega];exact IntWalk.i64_in _ (by omega)
    have B:=Lib.hid F;clear F;go_wp2_with fail
    refine Iq (by kernel_rfl) (by kernel_rfl) ?_;repeat (go_big_quiet_step (first
     |(go_at_call 173;exact Calls.grown (Ph a v _))
     |(go_at_call 55;exact Calls.grown (Qdo k a r hr _))
     |fail))
    refine wpQuiet_nil ?_;rintro _ ⟨u,rfl⟩;have Q:=H.trans (u.ok.mono H.size);have f:=d.trans (u.ok.mono d.size)
    cases r
    ·obtain rfl:j=T:=y.out;go_wp2;go_ret;exact⟨rfl,f⟩
    ·have I:lastTo (xs.map (·.k)) k j=T:=y.out;have P:=Lib.hid I;clear I;go_wp2;exact⟨⟨q,by have:=B.out;omega,rfl,by rw[B.out];exact P.out,Q⟩,by have:=B.out;simp[intOf];omega⟩
theorem Qel (ks:List Kd)(k:Kd):∀j,0<lastTo ks k j->k.less (keyAt ks (lastTo ks k j))=false
 |0,h=>by cases h
 |j+1,h=>by
  unfold lastTo at h ⊢;by_cases d:k.less (keyAt ks j)=true
  ·rw[if_pos d] at h ⊢;exact Qel ks k j h
  ·rw[if_neg d];simpa using d
theorem Qff (ks:List Kd)(k:Kd):∀j q,lastTo ks k j<q->q<j->k.less (keyAt ks q)=true
 |0,q,_,h=>by cases h
 |j+1,q,h,hq=>by
  unfold lastTo at h;by_cases d:k.less (keyAt ks j)=true
  ·rw[if_pos d] at h;rcases (by omega:q<j\/q=j) with h1|rfl
   ·exact Qff ks k j q h h1
   ·exact d
  ·rw[if_neg d] at h;omega
theorem Qc7:∀(d:List Kd) (k:Kd) (q:Nat),q<lead d k->(keyAt d q).less k=true
 |[],k,q,h=>by cases h
 |x::d,k,q,h=>by
  unfold lead at h;rw[List.takeWhile_cons] at h;by_cases e:x.less k=true
  ·rw[if_pos e] at h;match q with
   |0=>exact e
   |q+1=>exact Qc7 d k q (by unfold lead;simpa using h)
  ·rw[if_neg e] at h
   cases h
theorem Qgl:∀(d:List Kd) (k:Kd),lead d k<d.length->(keyAt d (lead d k)).less k=false
 |[],k,h=>by cases h
 |x::d,k,h=>by
  unfold lead at h ⊢;rw[List.takeWhile_cons] at h ⊢;by_cases e:x.less k=true
  ·rw[if_pos e] at h ⊢;exact Qgl d k (by unfold lead;simpa using h)
  ·rw[if_neg e];show x.less k=false;simpa using e
def Zt (its:List Qq):Prop:=its.Pairwise λx y=>x.k.less y.k=true
def Qe (R:Int->Nd × Int):Nat->Int->List Qq->Prop
 |0,a,its=>R a=(⟨0,its,[]⟩,0)/\its≠[]
 |l+1,a,its=>∃(kids:List Qk) (parts:List (List Qq)),R a=(⟨((l+1:Nat):Int),[],kids⟩,0)/\kids≠[]/\parts.length=kids.length/\its=parts.flatten/\∀j,j<kids.length->Qe R l (Ql kids j).a (parts.getD j [])/\∃x r,parts.getD j []=x::r/\(Ql kids j).k=x.k
def valOf (its:List Qq)(k:Kd):Option (List UInt8):=(its.find? λx=>x.k.same k).map (·.v)
theorem Qdn {a b k:Kd}(h:b.same k=true):a.less k=a.less b:=by
 rw[Kd.same_iff] at h;obtain⟨h1,h2,d⟩:=h;unfold Kd.less;rw[h1,h2,d]
theorem Qgw {a b k:Kd}(h:b.same k=true):k.less a=b.less a:=by
 rw[Kd.same_iff] at h;obtain⟨h1,h2,d⟩:=h;unfold Kd.less;rw[h1,h2,d]
theorem Qlk {a b:Kd}(h:a.less b=true):b.less a=false:=by
 rcases Kd.total a b with⟨_,h2,_⟩|⟨h1,_,_⟩|⟨h1,_,_⟩
 ·exact h2
 ·rw[h] at h1;cases h1
 ·rw[h] at h1;cases h1
theorem Qbq (a:Kd):a.less a=false:=by
 rcases Kd.total a a with⟨h1,h2,d⟩|⟨_,_,d⟩|⟨h1,_,_⟩
 ·exact absurd rfl d
 ·exact absurd rfl d
 ·exact h1
theorem Qi0 {a b c:Kd}(h1:a.less b=true)(h2:c.less b=false):a.less c=true:=by
 rcases Kd.total b c with⟨d,_,_⟩|⟨_,d,_⟩|⟨_,_,rfl⟩
 ·exact Kd.trans a b c h1 d
 ·rw[h2] at d;cases d
 ·exact h1
theorem getD_cons_succ {α:Type}(x:α)(l:List α)(d:α)(j:Nat):(x::l).getD (j+1) d=l.getD j d:=by
 rw[List.getD_eq_getElem?_getD,List.getD_eq_getElem?_getD,List.getElem?_cons_succ]
theorem Dk {parts:List (List Qq)}(h:Zt parts.flatten){i j:Nat}(d:i<j)(e:j<parts.length){x y:Qq}(f:x∈parts.getD i [])(g:y∈parts.getD j []):x.k.less y.k=true:=by
 unfold Zt at h;rw[List.pairwise_flatten] at h;have h2:=List.pairwise_iff_getElem.1 h.2 i j (by omega) e d;rw[List.getD_eq_getElem?_getD,List.getElem?_eq_getElem (by omega)] at f;rw[List.getD_eq_getElem?_getD,List.getElem?_eq_getElem e] at g;exact h2 x f y g
theorem Ij {parts:List (List Qq)}(h:Zt parts.flatten)(j:Nat):Zt (parts.getD j []):=by
 unfold Zt at h ⊢;rw[List.pairwise_flatten] at h;rw[List.getD_eq_getElem?_getD];by_cases d:j<parts.length
 ·rw[List.getElem?_eq_getElem d];exact h.1 _ (List.getElem_mem d)
 ·rw[List.getElem?_eq_none (by omega)];exact List.Pairwise.nil
theorem Gy (l:Int)(kids:List Qk):(⟨l,[],kids⟩:Nd).keys=kids.map (·.k):=rfl
theorem Ry (its:List Qq):(⟨0,its,[]⟩:Nd).keys=its.map (·.k):=by unfold Nd.keys;simp
theorem D8 (kids:List Qk){j:Nat}(d:j<kids.length):keyAt (kids.map (·.k)) j=(Ql kids j).k:=by
 unfold keyAt Ql;rw[List.getD_eq_getElem?_getD,List.getD_eq_getElem?_getD,List.getElem?_map,List.getElem?_eq_getElem d];rfl
theorem Gn (its:List Qq){j:Nat}(d:j<its.length):keyAt (its.map (·.k)) j=(Qx its j).k:=by
 unfold keyAt Qx;rw[List.getD_eq_getElem?_getD,List.getD_eq_getElem?_getD,List.getElem?_map,List.getElem?_eq_getElem d];rfl
theorem Qzh {its:List Qq}(F:Zt its)(k:Kd):valOf its k=if foundAt (its.map (·.k)) k (lead (its.map (·.k)) k)=true then some (Qx its (lead (its.map (·.k)) k)).v else none:=by
 obtain⟨j,u⟩:∃j,lead (its.map (·.k)) k=j:=⟨_,rfl⟩;have E:j<=its.length:=by have:=Qfh (its.map (·.k)) k;rw[List.length_map] at this;omega
 rw[u];have D:∀q,q<j->(Qx its q).k.less k=true:=λq g=>by
  have:=Qc7 (its.map (·.k)) k q (by omega);rwa [Gn its (by omega)] at this
 have d:∀q (g:q<its.length),q≠j\/(Qx its j).k.same k=false->(its[q]).k.same k=false:=λq g y=>by
  have e:Qx its q=its[q]:=by unfold Qx;rw[List.getD_eq_getElem?_getD,List.getElem?_eq_getElem g];rfl
  cases m:(its[q]).k.same k with
  |false=>rfl
  |true=>
   rcases Nat.lt_trichotomy q j with h1|h1|h1
   ·have h2:=D q h1;rw[e,Qdn m,Qbq] at h2
    cases h2
   ·subst h1;rcases y with h2|h2
    ·exact absurd rfl h2
    ·rw[e,m] at h2;cases h2
   ·have A:(Qx its j).k.less k=false:=by
     have:=Qgl (its.map (·.k)) k (by rw[u,List.length_map];omega);rwa [u,Gn its (by omega)] at this
    have B:=List.pairwise_iff_getElem.1 F j q (by omega) g h1;have p:Qx its j=its[j]'(by omega):=by unfold Qx;rw[List.getD_eq_getElem?_getD,List.getElem?_eq_getElem (by omega)];rfl
    rw[p,Qdn m,B] at A
    cases A
 unfold valOf foundAt;rw[List.length_map];by_cases f:j<its.length
 ·rw[decide_eq_true f,Bool.true_and,Gn its f];have p:Qx its j=its[j]:=by unfold Qx;rw[List.getD_eq_getElem?_getD,List.getElem?_eq_getElem f];rfl
  cases m:(Qx its j).k.same k with
  |true=>
   rw[if_pos rfl];have:its.find? (λx=>x.k.same k)=some its[j]:=by
    rw[List.find?_eq_some_iff_getElem];refine⟨by rw[<-p];exact m,j,f,rfl,λq g=>?_⟩;rw[d q (by omega) (.inl (by omega))];rfl
   rw[this,p];rfl
  |false=>
   have:its.find? (λx=>x.k.same k)=none:=by
    rw[List.find?_eq_none];intro x z;obtain⟨q,g,e⟩:=List.getElem_of_mem z;rw[<-e,d q g (.inr m)];simp
   rw[this];rfl
 ·rw[decide_eq_false f,Bool.false_and];have:its.find? (λx=>x.k.same k)=none:=by
   rw[List.find?_eq_none];intro x z;obtain⟨q,g,e⟩:=List.getElem_of_mem z;rw[<-e,d q g (.inl (by omega))];simp
  rw[this];rfl
