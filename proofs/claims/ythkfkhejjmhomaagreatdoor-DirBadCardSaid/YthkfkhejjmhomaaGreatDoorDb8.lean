/- The reference's may: whether keys may be, and rise -/
import Derived.Test.YthkfkhejjmhomaaGreatDoorDb5
import Derived.Test.YthkfkhejjmhomaaGreatDoorDb7
namespace Go.Proofs.YthkfkhejjmhomaaGreatDoor
open Go Go.RowKit Go.Proofs
set_option maxHeartbeats 8000000
set_option maxRecDepth 100000
def Wq (ks:List Kd)(i:Nat):Bool:=(keyAt ks i).may&&(decide (i=0)||(keyAt ks (i-1)).less (keyAt ks i))
def rises (ks:List Kd):Bool:=(List.range ks.length).all (Wq ks)
theorem qru {ks:List Kd}(h:∀j,j<ks.length->Wq ks j=true):rises ks=true:=by
 unfold rises;rw[List.all_eq_true];exact λj f=>h j (List.mem_range.1 f)
def Nd.keys (N:Nd):List Kd:=N.items.map (·.k)++N.kids.map (·.k)
def NB (w:World)(b:Nat)(l:Int)(A:Option Addr)(n c:Nat)(B:Option Addr)(m d:Nat):Prop:=∃t,w.1[b]?=some (.cells #[.int .i64 l,.slice A n c,.slice B m d] t (0,0))
section
variable {w w':World}{b:Nat}{l:Int}{A B:Option Addr}{n c m d:Nat}
theorem NB.new (w:World)(l:Int)(A:Option Addr)(n c:Nat)(B:Option Addr)(m d:Nat)(t:TypeId):NB (w.alloc (.cells #[.int .i64 l,.slice A n c,.slice B m d] t)) w.1.size l A n c B m d:=⟨t,heap_alloc_new w _⟩
theorem NB.below (H:NB w b l A n c B m d){E:Nat}(hb:Below E w w')(hB:b<E):NB w' b l A n c B m d:=by
 obtain⟨t,H⟩:=H;exact⟨t,(hb.block b hB).trans H⟩
theorem NB.lt (H:NB w b l A n c B m d):b<w.1.size:=by
 obtain⟨t,H⟩:=H;exact (Array.getElem?_eq_some_iff.1 H).1
theorem NB.c0 (H:NB w b l A n c B m d):w.cell? ⟨b,0,none⟩=some (.int .i64 l):=by
 obtain⟨t,H⟩:=H;rw[cell_of_row _ _ _ _ _ _ H];rfl
theorem NB.c1 (H:NB w b l A n c B m d):w.cell? ⟨b,1,none⟩=some (.slice A n c):=by
 obtain⟨t,H⟩:=H;rw[cell_of_row _ _ _ _ _ _ H];rfl
theorem NB.c2 (H:NB w b l A n c B m d):w.cell? ⟨b,2,none⟩=some (.slice B m d):=by
 obtain⟨t,H⟩:=H;rw[cell_of_row _ _ _ _ _ _ H];rfl
end
theorem Pm (l:Int)(r:Bool)(h:decide (l=0)=r)(A:Option Addr)(n c:Nat)(B:Option Addr)(m d:Nat)(w:World) :
  Calls Tryz.prog 141 #[.agg #[.int .i64 l,.slice A n c,.slice B m d]] w λe w'=>e=.returned (.bool r)/\Below w.1.size w w':=by
 go_enter Tryz.func141,Tryz.ntmps141
 go_wp2;go_ret;refine⟨?_,Qk⟩;rw[<-h];first|rfl|(refine congrArg (λx=>Ending.returned (Value.bool x)) ?_;rw[Bool.eq_iff_iff];simp)
theorem q2r (x a b:Int)(r:Bool)(h:decide (a<=x/\x<=b)=r)(w:World) :
  Calls Tryz.prog 216 #[.int .i64 x,.int .i64 a,.int .i64 b] w λe w'=>e=.returned (.bool r)/\w=w':=by
 subst h;go_enter Tryz.func216,Tryz.ntmps216
 go_wp2;all_goals
  go_ret;refine⟨congrArg (λx=>Ending.returned (Value.bool x)) ?_,rfl⟩;first
   |exact (decide_eq_false (by omega)).symm
   |exact decide_eq_decide.2 (by omega)
   |(rw[Bool.eq_iff_iff];simp;omega)
theorem qn3 (x:Int)(w:World) :
  Calls Tryz.prog 140 #[.int .i64 x] w λe w'=>e=.returned (.int .i64 (if x=0 then 3 else 4))/\w=w':=by
 by_cases h:x=0
 ·rw[if_pos h];go_enter Tryz.func140,Tryz.ntmps140
  go_wp2;go_ret;exact⟨rfl,rfl⟩
 ·rw[if_neg h];go_enter Tryz.func140,Tryz.ntmps140
  go_wp2;go_ret;exact⟨rfl,rfl⟩
theorem q41 (x k:Int)(h:(if x=0 then 3 else 4)=k)(w:World) :
  Calls Tryz.prog 140 #[.int .i64 x] w λe w'=>e=.returned (.int .i64 k)/\w=w':=by
 subst h;exact qn3 x w
theorem q28 (k:Kd)(B:Option Addr)(m d:Nat)(w:World) :
  Calls Tryz.prog 170 #[.agg #[.int .i64 k.obj,.int .i64 k.kind,.int .i64 k.off,.slice B m d]] w λe w'=>e=.returned (.agg #[.int .i64 k.obj,.int .i64 k.kind,.int .i64 k.off])/\Below w.1.size w w':=by
 go_enter Tryz.func170,Tryz.ntmps170
 go_wp2;refine bodyPost_ret (Ny Tryz.results170 rfl (Tm (KB.new2 w _ k.obj k.kind k.off _))) rfl ?_;exact⟨rfl,(Qk).alloc (by simp) _⟩
theorem q29 (k:Kd)(a:Int)(w:World) :
  Calls Tryz.prog 173 #[.agg #[.int .i64 k.obj,.int .i64 k.kind,.int .i64 k.off,.int .i64 a]] w λe w'=>e=.returned (.agg #[.int .i64 k.obj,.int .i64 k.kind,.int .i64 k.off])/\Below w.1.size w w':=by
 go_enter Tryz.func173,Tryz.ntmps173
 go_wp2;refine bodyPost_ret (Ny Tryz.results173 rfl (Tm (KB.new2 w _ k.obj k.kind k.off _))) rfl ?_;exact⟨rfl,(Qk).alloc (by simp) _⟩
theorem qb0 (k:Kd)(B:Option Addr)(m d:Nat)(r:Bool)(h:decide (m<=28)=r)(w:World) :
  Calls Tryz.prog 215 #[.agg #[.int .i64 k.obj,.int .i64 k.kind,.int .i64 k.off,.slice B m d]] w λe w'=>e=.returned (.bool r)/\Below w.1.size w w':=by
 go_enter Tryz.func215,Tryz.ntmps215
 go_wp2;go_ret;refine⟨?_,Qk⟩;rw[<-h];exact congrArg (λx=>Ending.returned (Value.bool x)) (decide_eq_decide.2 (by omega))
theorem qb1 (k:Kd)(a:Int)(r:Bool)(h:decide (1<=a/\a<=2047)=r)(w:World) :
  Calls Tryz.prog 218 #[.agg #[.int .i64 k.obj,.int .i64 k.kind,.int .i64 k.off,.int .i64 a]] w λe w'=>e=.returned (.bool r)/\Below w.1.size w w':=by
 go_enter Tryz.func218,Tryz.ntmps218
 go_wp2_with fail
 refine (q2r a 1 2047 r h _).mono ?_;rintro e f ⟨rfl,rfl⟩;go_wp2;go_ret;exact⟨rfl,Qk⟩
theorem NB.range {w:World}{b:Nat}{l:Int}{A B:Option Addr}{n c m d:Nat}(H:NB w b l A n c B m d):w.rangeAt b 0 [.int .i64 l,.slice A n c,.slice B m d]:=λj v f=>by
 obtain⟨t,H⟩:=H;rw[cell_of_row _ _ _ _ _ _ H,Nat.zero_add];simpa using f
theorem He {w:World}{b:Nat}{l:Int}{A B:Option Addr}{n c m d:Nat}(H:NB w b l A n c B m d):(loadVar 77 ⟨b,0,none⟩).run Tryz.prog w=.ok (.agg #[.int .i64 l,.slice A n c,.slice B m d]) w:=
 run_loadVar_mid w b 0 77 _ _ H.range Tryz.underlying77 rfl (by kernel_rfl)
theorem NB.new2 (w:World)(o:Obj)(l:Int)(A:Option Addr)(n c:Nat)(B:Option Addr)(m d:Nat)(t:TypeId):NB ((w.alloc o).alloc (.cells #[.int .i64 l,.slice A n c,.slice B m d] t)) (w.1.size+1) l A n c B m d:=by
 have:=NB.new (w.alloc o) l A n c B m d t;rwa [World.size_alloc] at this
def Nd.few (N:Nd):Nd:=⟨N.lvl,N.items.take 20,N.kids.take 20⟩
def Nd.least (N:Nd):Kd:=if N.keys.length=0 then ⟨0,0,0⟩ else keyAt N.keys 0
def lead (ks:List Kd)(k:Kd):Nat:=(ks.takeWhile λx=>x.less k).length
def lastTo (ks:List Kd)(k:Kd):Nat->Nat
 |0=>0
 |j+1=>if k.less (keyAt ks j)=true then lastTo ks k j else j
def Vd (ks:List Kd)(k:Kd)(i:Nat):Bool:=decide (i<ks.length)&&(keyAt ks i).same k
def Nd.Zc (N:Nd)(k:Kd):Nat:=if N.lvl=0 then lead N.keys k else lastTo N.keys k N.keys.length
theorem qb2 (ks:List Kd)(k:Kd):lead ks k<=ks.length:=by
 unfold lead;induction ks with
 |nil=>simp
 |cons x ks ih=>rw[List.takeWhile_cons];split<;>simp<;>omega
theorem qia:∀(f:List Kd) (k:Kd) (j:Nat),(∀q,q<j->(keyAt f q).less k=true)->j<=f.length->(j=f.length\/(keyAt f j).less k=false)->lead f k=j
 |[],k,j,_,h2,_=>by simp at h2;subst h2;rfl
 |x::f,k,0,_,_,h3=>by
  rcases h3 with h|h
  ·simp at h
  ·have h:x.less k=false:=h;unfold lead;rw[List.takeWhile_cons,h];rfl
 |x::f,k,j+1,h1,h2,h3=>by
  have h0:x.less k=true:=h1 0 (by omega);have:=qia f k j (λq p=>h1 (q+1) (by omega)) (by simpa using h2) (by
   rcases h3 with h|h
   ·left;simpa using h
   ·right;exact h)
  unfold lead at this ⊢;rw[List.takeWhile_cons,h0];simpa using this
theorem q6w (ks:List Kd)(k:Kd)(j:Nat):lastTo ks k j=0\/lastTo ks k j<j:=by
 induction j with
 |zero=>left;rfl
 |succ j ih=>unfold lastTo;split<;>omega
theorem qrv (xs:List Qb)(j:Nat):keyAt (xs.map (·.k)) j=(Zb xs j).k:=by
 unfold keyAt Zb;rw[List.getD_eq_getElem?_getD,List.getD_eq_getElem?_getD,List.getElem?_map]
 cases xs[j]?<;>rfl
theorem qib (xs:List Qj)(j:Nat):keyAt (xs.map (·.k)) j=(Qe xs j).k:=by
 unfold keyAt Qe;rw[List.getD_eq_getElem?_getD,List.getD_eq_getElem?_getD,List.getElem?_map]
 cases xs[j]?<;>rfl
theorem qgg (xs:List Qb)(i:Nat)(k:Kd)(r:Bool)(M:Vd (xs.map (·.k)) k i=r)(A:Option Addr)(n c:Nat)(w:World)(R:Jg w A n c xs)(_:n<=100000) :
  Calls Tryz.prog 171 #[.slice A n c,.int .i64 (i:Int),.func (.func 170) #[] #[],.agg #[.int .i64 k.obj,.int .i64 k.kind,.int .i64 k.off]] w λe w'=>e=.returned (.bool r)/\Below w.1.size w w':=by
 have a2:=qcp;have f:=R.len;obtain⟨a1,T⟩:=R.bounds;unfold maxLen at T;have p:=(Y1 w k).2;have Q:=(Y1 w k).1;have D:=R.below p;by_cases F:i<n
 ·obtain⟨s,O⟩:∃s,(keyAt (xs.map (·.k)) i).same k=s:=⟨_,rfl⟩;obtain rfl:s=r:=by rw[<-M,<-O];unfold Vd;rw[decide_eq_true (by rw[List.length_map,f];exact F),Bool.true_and]
  clear M f;go_enter Tryz.func171,Tryz.ntmps171
  go_wp2_with fail
  generalize w.alloc (.cells #[.int .i64 k.obj,.int .i64 k.kind,.int .i64 k.off] 45)=wr at p Q D ⊢;have G:=Q;obtain⟨g,o,U,Y,W,hA,J,c0,c1,c2,c3,_⟩:=D.cell F;subst hA;have E:=qrv xs i;obtain⟨a,X⟩:∃a,(Zb xs i).k=a:=⟨_,rfl⟩;rw[X] at c0 c1 c2 E;have Z:=Lib.hid E;clear X E;rw[Z.out] at O;have hq:=qkv a k _ O;clear O;have p0:∀u:Grown wr,u.to.cell? ⟨g,o+i*4,none⟩=some (.int .i64 a.obj):=Grown.cell c0 J;have p1:∀u:Grown wr,u.to.cell? ⟨g,o+i*4+1,none⟩=some (.int .i64 a.kind):=Grown.cell c1 J;have p2:∀u:Grown wr,u.to.cell? ⟨g,o+i*4+2,none⟩=some (.int .i64 a.off):=Grown.cell c2 J;have p3:∀u:Grown wr,u.to.cell? ⟨g,o+i*4+3,none⟩=some (.slice U Y W):=Grown.cell c3 J;have q0:∀u:Grown wr,u.to.cell? ⟨w.1.size,0,none⟩=some (.int .i64 k.obj):=Grown.cell G.c0 G.lt;have q1:∀u:Grown wr,u.to.cell? ⟨w.1.size,1,none⟩=some (.int .i64 k.kind):=Grown.cell G.c1 G.lt;have q2:∀u:Grown wr,u.to.cell? ⟨w.1.size,2,none⟩=some (.int .i64 k.off):=Grown.cell G.c2 G.lt;clear c0 c1 c2 c3;have a6:(0:Int)<=(i:Int):=by omega
  have I:(i:Int)<(n:Int):=by omega
  refine Uk (by kernel_rfl) (by kernel_rfl) ?_;repeat (go_big_quiet_step (first
   |(go_at_call 170;exact Calls.grown (q28 a U Y W _))
   |fail))
  refine wpQuiet_nil ?_;rintro _ ⟨u,rfl⟩;have y:=p.trans (u.ok.mono p.size);go_wp2;go_ret;exact⟨rfl,y⟩
 ·obtain rfl:r=false:=by rw[<-M];unfold Vd;rw[decide_eq_false (by rw[List.length_map,f];exact F),Bool.false_and]
  clear M f Q D;have I:¬(i:Int)<(n:Int):=by omega
  have a7:decide ((i:Int)<(n:Int))=false:=decide_eq_false I;go_enter Tryz.func171,Tryz.ntmps171
  go_wp2_with fail
  generalize w.alloc (.cells #[.int .i64 k.obj,.int .i64 k.kind,.int .i64 k.off] 45)=wr at p ⊢;refine Uk (by kernel_rfl) (by kernel_rfl) ?_;repeat (go_big_quiet_step (fail))
  refine wpQuiet_nil ?_;rintro _ ⟨u,rfl⟩;have y:=p.trans (u.ok.mono p.size);go_wp2;go_ret;exact⟨rfl,y⟩
theorem qgh (xs:List Qj)(i:Nat)(k:Kd)(r:Bool)(M:Vd (xs.map (·.k)) k i=r)(A:Option Addr)(n c:Nat)(w:World)(R:Zk w A n c xs)(_:n<=100000) :
  Calls Tryz.prog 174 #[.slice A n c,.int .i64 (i:Int),.func (.func 173) #[] #[],.agg #[.int .i64 k.obj,.int .i64 k.kind,.int .i64 k.off]] w λe w'=>e=.returned (.bool r)/\Below w.1.size w w':=by
 have a1:=qcp;have f:=R.len;obtain⟨Z,T⟩:=R.bounds;unfold maxLen at T;have p:=(Y1 w k).2;have Q:=(Y1 w k).1;have D:=R.below p;by_cases F:i<n
 ·obtain⟨s,O⟩:∃s,(keyAt (xs.map (·.k)) i).same k=s:=⟨_,rfl⟩;obtain rfl:s=r:=by rw[<-M,<-O];unfold Vd;rw[decide_eq_true (by rw[List.length_map,f];exact F),Bool.true_and]
  clear M f;go_enter Tryz.func174,Tryz.ntmps174
  go_wp2_with fail
  generalize w.alloc (.cells #[.int .i64 k.obj,.int .i64 k.kind,.int .i64 k.off] 45)=wr at p Q D ⊢;have G:=Q;obtain⟨g,o,Y,J,c0,c1,c2,c3⟩:=D.cell F;subst Y;obtain⟨v,W⟩:∃v,(Qe xs i).a=v:=⟨_,rfl⟩;rw[W] at c3;clear W;have E:=qib xs i;obtain⟨a,U⟩:∃a,(Qe xs i).k=a:=⟨_,rfl⟩;rw[U] at c0 c1 c2 E;have X:=Lib.hid E;clear U E;rw[X.out] at O;have hq:=qkv a k _ O;clear O;have p0:∀u:Grown wr,u.to.cell? ⟨g,o+i*4,none⟩=some (.int .i64 a.obj):=Grown.cell c0 J;have p1:∀u:Grown wr,u.to.cell? ⟨g,o+i*4+1,none⟩=some (.int .i64 a.kind):=Grown.cell c1 J;have p2:∀u:Grown wr,u.to.cell? ⟨g,o+i*4+2,none⟩=some (.int .i64 a.off):=Grown.cell c2 J;have p3:∀u:Grown wr,u.to.cell? ⟨g,o+i*4+3,none⟩=some (.int .i64 v):=Grown.cell c3 J;have q0:∀u:Grown wr,u.to.cell? ⟨w.1.size,0,none⟩=some (.int .i64 k.obj):=Grown.cell G.c0 G.lt;have q1:∀u:Grown wr,u.to.cell? ⟨w.1.size,1,none⟩=some (.int .i64 k.kind):=Grown.cell G.c1 G.lt;have q2:∀u:Grown wr,u.to.cell? ⟨w.1.size,2,none⟩=some (.int .i64 k.off):=Grown.cell G.c2 G.lt;clear c0 c1 c2 c3;have a2:(0:Int)<=(i:Int):=by omega
  have I:(i:Int)<(n:Int):=by omega
  refine Uk (by kernel_rfl) (by kernel_rfl) ?_;repeat (go_big_quiet_step (first
   |(go_at_call 173;exact Calls.grown (q29 a v _))
   |fail))
  refine wpQuiet_nil ?_;rintro _ ⟨u,rfl⟩;have y:=p.trans (u.ok.mono p.size);go_wp2;go_ret;exact⟨rfl,y⟩
 ·obtain rfl:r=false:=by rw[<-M];unfold Vd;rw[decide_eq_false (by rw[List.length_map,f];exact F),Bool.false_and]
  clear M f Q D;have I:¬(i:Int)<(n:Int):=by omega
  have a6:decide ((i:Int)<(n:Int))=false:=decide_eq_false I;go_enter Tryz.func174,Tryz.ntmps174
  go_wp2_with fail
  generalize w.alloc (.cells #[.int .i64 k.obj,.int .i64 k.kind,.int .i64 k.off] 45)=wr at p ⊢;refine Uk (by kernel_rfl) (by kernel_rfl) ?_;repeat (go_big_quiet_step (fail))
  refine wpQuiet_nil ?_;rintro _ ⟨u,rfl⟩;have y:=p.trans (u.ok.mono p.size);go_wp2;go_ret;exact⟨rfl,y⟩
theorem qrw (xs:List Qb)(k:Kd)(A:Option Addr)(n c:Nat)(w:World)(T:Jg w A n c xs)(_:n<=100000) :
  Calls Tryz.prog 169 #[.slice A n c,.func (.func 170) #[] #[],.agg #[.int .i64 k.obj,.int .i64 k.kind,.int .i64 k.off]] w λe w'=>e=.returned (.int .i64 (lead (xs.map (·.k)) k:Nat))/\Below w.1.size w w':=by
 have y:=Lib.hid (show (xs.map (·.k)).length=n by rw[List.length_map];exact T.len);obtain⟨a1,W⟩:=T.bounds;unfold maxLen at W;have Q:=(Y1 w k).2;have O:=(Y1 w k).1;go_enter Tryz.func169,Tryz.ntmps169
 go_wp2_with fail
 generalize w.alloc (.cells #[.int .i64 k.obj,.int .i64 k.kind,.int .i64 k.off] 45)=w1 at Q O ⊢;go_loopw [7] (λi wr=>∃j:Nat,j<=n/\i=.int .i64 (j:Int)/\(∀q,q<j->(keyAt (xs.map (·.k)) q).less k=true)/\Below w1.1.size w1 wr) (λi _=>n-(intOf i).toNat)
 case atStart=>exact⟨0,Nat.zero_le _,rfl,λq hq=>by omega,Below.refl _ _⟩
 case round=>
  obtain⟨j,hj,rfl,F,J⟩:=hrel;have I:=O.below J O.lt;have D:=Q.trans (J.mono Q.size);by_cases X:j<n
  ·have U:=T.below D;obtain⟨g,o,Z,m',d',hA,M,c0,c1,c2,c3,_⟩:=U.cell X;subst hA;have G:=qrv xs j;obtain⟨a,ha⟩:∃a,(Zb xs j).k=a:=⟨_,rfl⟩;rw[ha] at c0 c1 c2 G;have Ha:=Lib.hid G;clear ha G;obtain⟨r,Y⟩:∃r,a.less k=r:=⟨_,rfl⟩;have p0:∀u:Grown wr,u.to.cell? ⟨g,o+j*4,none⟩=some (.int .i64 a.obj):=Grown.cell c0 M;have p1:∀u:Grown wr,u.to.cell? ⟨g,o+j*4+1,none⟩=some (.int .i64 a.kind):=Grown.cell c1 M;have p2:∀u:Grown wr,u.to.cell? ⟨g,o+j*4+2,none⟩=some (.int .i64 a.off):=Grown.cell c2 M;have p3:∀u:Grown wr,u.to.cell? ⟨g,o+j*4+3,none⟩=some (.slice Z m' d'):=Grown.cell c3 M;have q0:∀u:Grown wr,u.to.cell? ⟨w.1.size,0,none⟩=some (.int .i64 k.obj):=Grown.cell I.c0 I.lt;have q1:∀u:Grown wr,u.to.cell? ⟨w.1.size,1,none⟩=some (.int .i64 k.kind):=Grown.cell I.c1 I.lt;have q2:∀u:Grown wr,u.to.cell? ⟨w.1.size,2,none⟩=some (.int .i64 k.off):=Grown.cell I.c2 I.lt;clear c0 c1 c2 c3;have a2:(0:Int)<=(j:Int):=by omega
   have a6:(j:Int)<(n:Int):=by omega
   go_wp2_with fail
   refine Uk (by kernel_rfl) (by kernel_rfl) ?_;repeat (go_big_quiet_step (first
    |(go_at_call 170;exact Calls.grown (q28 a Z m' d' _))
    |(go_at_call 55;exact Calls.grown (q6t a k r Y _))
    |fail))
   refine wpQuiet_nil ?_;rintro _ ⟨u,rfl⟩;have R:=J.trans (u.ok.mono J.size);have E:=D.trans (u.ok.mono D.size)
   cases r
   ·have f:=Lib.hid (qia (xs.map (·.k)) k j F (by rw[y.out];exact hj) (.inr (by rw[Ha.out];exact Y)));go_wp2;go_ret;exact⟨by rw[f.out];rfl,E⟩
   ·go_wp2;refine⟨⟨j+1,by omega,by go_num,λp hp=>?_,R⟩,by simp[intOf];omega⟩;rcases (by omega:p<j\/p=j) with h1|rfl
    ·exact F p h1
    ·rw[Ha.out];exact Y
  ·obtain rfl:n=j:=by omega
   have f:=Lib.hid (qia (xs.map (·.k)) k n F (by rw[y.out];exact hj) (.inl y.out.symm));go_wp2_with fail
   refine Uk (by kernel_rfl) (by kernel_rfl) ?_;repeat (go_big_quiet_step (fail))
   refine wpQuiet_nil ?_;rintro _ ⟨u,rfl⟩;have E:=D.trans (u.ok.mono D.size);go_wp2;go_ret;exact⟨by rw[f.out];rfl,E⟩
theorem qrx (xs:List Qj)(k:Kd)(A:Option Addr)(n c:Nat)(w:World)(hI:Zk w A n c xs)(_:n<=100000) :
  Calls Tryz.prog 172 #[.slice A n c,.func (.func 173) #[] #[],.agg #[.int .i64 k.obj,.int .i64 k.kind,.int .i64 k.off]] w λe w'=>e=.returned (.int .i64 (lastTo (xs.map (·.k)) k n:Nat))/\Below w.1.size w w':=by
 obtain⟨b0,a7⟩:=hI.bounds;unfold maxLen at a7;have Q:=(Y1 w k).2;have Y:=(Y1 w k).1;obtain⟨T,hT⟩:∃T,lastTo (xs.map (·.k)) k n=T:=⟨_,rfl⟩;have HT:=Lib.hid hT;rw[hT];clear hT;rcases n with _|p
 ·have W:IntKind.i64.wrap (((0:Nat):Int)-1)=-1:=by decide
  have I:T=0:=by rw[<-HT.out];rfl
  subst I;go_enter Tryz.func172,Tryz.ntmps172
  go_wp2_with fail
  generalize w.alloc (.cells #[.int .i64 k.obj,.int .i64 k.kind,.int .i64 k.off] 45)=X at Q Y ⊢;go_loopw [7] (λi wr=>i=.int .i64 0/\Below X.1.size X wr) (λi _=>(intOf i).toNat)
  case atStart=>exact⟨rfl,Below.refl _ _⟩
  case round=>
   obtain⟨rfl,R⟩:=hrel;have f:=Q.trans (R.mono Q.size);go_wp2_with fail
   refine Uk (by kernel_rfl) (by kernel_rfl) ?_;repeat (go_big_quiet_step (fail))
   refine wpQuiet_nil ?_;rintro _ ⟨u,rfl⟩;have y:=f.trans (u.ok.mono f.size);go_wp2;go_ret;exact⟨rfl,y⟩
 ·have W:IntKind.i64.wrap (((p+1:Nat):Int)-1)=(p:Int):=by rw[show ((p+1:Nat):Int)-1=(p:Int) by omega];exact IntWalk.i64_in _ (by omega)
  have b7:(0:Int)<=(p:Int):=by omega
  go_enter Tryz.func172,Tryz.ntmps172
  go_wp2_with fail
  generalize w.alloc (.cells #[.int .i64 k.obj,.int .i64 k.kind,.int .i64 k.off] 45)=X at Q Y ⊢;clear W;go_loopw [7] (λi wr=>∃j:Nat,j<=p/\i=.int .i64 (j:Int)/\lastTo (xs.map (·.k)) k (j+1)=T/\Below X.1.size X wr) (λi _=>(intOf i).toNat)
  case atStart=>exact⟨p,Nat.le_refl _,rfl,HT.out,Below.refl _ _⟩
  case round=>
   obtain⟨j,hj,rfl,F,R⟩:=hrel;have O:=Y.below R Y.lt;have f:=Q.trans (R.mono Q.size);have D:=Lib.hid F;clear F;rcases j with _|q
   ·have I:T=0:=by rw[<-D.out];show (if _ then _ else _)=_;split<;>rfl
    subst I;go_wp2_with fail
    refine Uk (by kernel_rfl) (by kernel_rfl) ?_;repeat (go_big_quiet_step (fail))
    refine wpQuiet_nil ?_;rintro _ ⟨u,rfl⟩;have y:=f.trans (u.ok.mono f.size);go_wp2;go_ret;exact⟨rfl,y⟩
   ·have a6:=hI.below f;obtain⟨j,M⟩:∃j,q+1=j:=⟨_,rfl⟩;rw[M] at D hj ⊢;obtain⟨g,o,hA,Z,c0,c1,c2,c3⟩:=a6.cell (show j<p+1 by omega);subst hA;obtain⟨v,hv⟩:∃v,(Qe xs j).a=v:=⟨_,rfl⟩;rw[hv] at c3;clear hv;have J:=qib xs j;obtain⟨a,ha⟩:∃a,(Qe xs j).k=a:=⟨_,rfl⟩;rw[ha] at c0 c1 c2 J;have Ha:=Lib.hid J;clear ha J;obtain⟨r,hr⟩:∃r,k.less a=r:=⟨_,rfl⟩;have E:=Lib.hid (show (if r=true then lastTo (xs.map (·.k)) k j else j)=T by rw[<-D.out];show _=(if k.less (keyAt (xs.map (·.k)) j)=true then lastTo (xs.map (·.k)) k j else j);rw[Ha.out,hr]);have p0:∀u:Grown wr,u.to.cell? ⟨g,o+j*4,none⟩=some (.int .i64 a.obj):=Grown.cell c0 Z;have p1:∀u:Grown wr,u.to.cell? ⟨g,o+j*4+1,none⟩=some (.int .i64 a.kind):=Grown.cell c1 Z;have p2:∀u:Grown wr,u.to.cell? ⟨g,o+j*4+2,none⟩=some (.int .i64 a.off):=Grown.cell c2 Z;have p3:∀u:Grown wr,u.to.cell? ⟨g,o+j*4+3,none⟩=some (.int .i64 v):=Grown.cell c3 Z;have q0:∀u:Grown wr,u.to.cell? ⟨w.1.size,0,none⟩=some (.int .i64 k.obj):=Grown.cell O.c0 O.lt;have q1:∀u:Grown wr,u.to.cell? ⟨w.1.size,1,none⟩=some (.int .i64 k.kind):=Grown.cell O.c1 O.lt;have q2:∀u:Grown wr,u.to.cell? ⟨w.1.size,2,none⟩=some (.int .i64 k.off):=Grown.cell O.c2 O.lt;clear c0 c1 c2 c3;have b2:(0:Int)<(j:Int):=by omega
    have a8:0<j:=by omega
    have b6:decide (0<j)=true:=decide_eq_true a8;have b3:(0:Int)<=(j:Int):=by omega
    have b4:(j:Int)<((p+1:Nat):Int):=by omega
    have b5:(j:Int)<(p:Int)+1:=by omega
    have b8:IntKind.i64.wrap ((j:Int)-1)=(q:Int):=by rw[show (j:Int)-1=(q:Int) by omega];exact IntWalk.i64_in _ (by omega)
    have G:=Lib.hid M;clear M;go_wp2_with fail
    refine Uk (by kernel_rfl) (by kernel_rfl) ?_;repeat (go_big_quiet_step (first
     |(go_at_call 173;exact Calls.grown (q29 a v _))
     |(go_at_call 55;exact Calls.grown (q6t k a r hr _))
     |fail))
    refine wpQuiet_nil ?_;rintro _ ⟨u,rfl⟩;have a2:=R.trans (u.ok.mono R.size);have y:=f.trans (u.ok.mono f.size)
    cases r
    ·obtain rfl:j=T:=E.out;go_wp2;go_ret;exact⟨rfl,y⟩
    ·have U:lastTo (xs.map (·.k)) k j=T:=E.out;have a1:=Lib.hid U;clear U;go_wp2;exact⟨⟨q,by have:=G.out;omega,rfl,by rw[G.out];exact a1.out,a2⟩,by have:=G.out;simp[intOf];omega⟩
section
variable {P:Program}{t e:TypeId}{s b:Nat}{z:Value}(w:World)
end
theorem Qbu:Dh Tryz.prog 67 3 1 8 (.int .i64 0):=⟨Tryz.underlying67,by kernel_rfl,rfl,by omega⟩
def iv (z:Int):List Value:=[.int .i64 z]
theorem qkw (w:World)(x:Int):Jq (w.alloc (.cells #[.int .i64 x] 3)) 1 (some ⟨w.1.size,0,none⟩) 1 1 [iv x]:=(q1i w 3 1 (iv x) _ rfl rfl).Uo (by omega)
theorem qw6 (x:Int):∀y∈[iv x],∀u∈y,u.oneCell'=true:=by
 intro y p u f;obtain rfl:y=iv x:=by simpa using p
 simp[iv] at f;subst f;rfl
def Uc (x:Qb):Option Int:=if x.k.kind=3/\x.v.length=3/\Ku x.v 0=1 then some (256*(Ku x.v 1:Int)+(Ku x.v 2:Int)) else none
def Nd.named (N:Nd):List Int:=N.kids.map (·.a)++N.items.filterMap Uc
def Uj (N:Nd)(j:Nat):List (List Value):=((N.kids.take j).map (·.a)).map iv
def Xr (N:Nd)(j:Nat):List (List Value):=(N.kids.map (·.a)++(N.items.take j).filterMap Uc).map iv
theorem qic (N:Nd)(j:Nat)(h:j<N.kids.length):Uj N (j+1)=Uj N j++[iv (Qe N.kids j).a]:=by
 unfold Uj;rw[List.take_succ_eq_append_getElem h,List.map_append,List.map_append];have:=q12 h;rw[List.getElem?_eq_getElem h] at this;rw[Option.some.inj this];rfl
theorem qcs (N:Nd):Uj N N.kids.length=Xr N 0:=by
 unfold Uj Xr;rw[List.take_length];simp
theorem qn4 (N:Nd)(j:Nat)(h:j<N.items.length)(x:Int)(f:Uc (Zb N.items j)=some x):Xr N (j+1)=Xr N j++[iv x]:=by
 unfold Xr;have:=Tf h;rw[List.getElem?_eq_getElem h] at this;rw[List.take_succ_eq_append_getElem h,Option.some.inj this,List.filterMap_append,<-List.append_assoc,List.map_append];simp[f]
theorem qry (N:Nd)(j:Nat)(h:j<N.items.length)(f:Uc (Zb N.items j)=none):Xr N (j+1)=Xr N j:=by
 unfold Xr;have:=Tf h;rw[List.getElem?_eq_getElem h] at this;rw[List.take_succ_eq_append_getElem h,Option.some.inj this,List.filterMap_append];simp[f]
theorem qct (N:Nd):Xr N N.items.length=N.named.map iv:=by
 unfold Xr Nd.named;rw[List.take_length]
def sumTo:Nat->(Nat->Nat)->Nat
 |0,_=>0
 |n+1,f=>sumTo n f+f n
theorem q63 {f g:Nat->Nat}:∀{n:Nat},(∀b,b<n->f b=g b)->sumTo n f=sumTo n g
 |0,_=>rfl
 |n+1,h=>by
  unfold sumTo;rw[q63 (n:=n) (λb p=>h b (by omega)),h n (by omega)]
theorem qcu {f:Nat->Nat}:∀{n:Nat},(∀b,b<n->f b=0)->sumTo n f=0
 |0,_=>rfl
 |n+1,h=>by
  unfold sumTo;rw[qcu (n:=n) (λb p=>h b (by omega)),h n (by omega)]
theorem qgi {f g:Nat->Nat}{i:Nat}:∀{n:Nat},(∀b,b<n->b≠i->f b=g b)->i<n->sumTo n g+f i=sumTo n f+g i
 |0,_,hi=>by omega
 |n+1,h,hi=>by
  unfold sumTo;by_cases e:i=n
  ·subst e;rw[q63 (n:=i) (λb p=>h b (by omega) (by omega))];omega
  ·have:=qgi (n:=n) (λb p hn=>h b (by omega) hn) (by omega);have:=h n (by omega) (by omega);omega
theorem qgj {f:Nat->Nat}:∀{n:Nat},0<sumTo n f->∃b,b<n/\0<f b
 |0,h=>by cases h
 |n+1,h=>by
  unfold sumTo at h;by_cases e:0<f n
  ·exact⟨n,by omega,e⟩
  ·obtain⟨b,h1,h2⟩:=qgj (n:=n) (f:=f) (by omega);exact⟨b,by omega,h2⟩
theorem qed {f:Nat->Nat}{i:Nat}:∀{n:Nat},i<n->f i<=sumTo n f
 |0,h=>by omega
 |n+1,h=>by
  unfold sumTo;by_cases e:i=n
  ·subst e;omega
  ·have:=qed (f:=f) (n:=n) (i:=i) (by omega);omega
def refs (K:Nat->List Int)(most:Nat)(out:Nat->Nat)(a:Nat):Nat:=sumTo most λb=>if 1<=out b then (K b).count (a:Int) else 0
structure Qcl (K:Nat->List Int)(roots:List Int)(most:Nat)(out:Nat->Nat)(todo:List Int):Prop where
 zero:out 0=0
 eq:∀a:Nat,0<a->a<most->out a+todo.count (a:Int)=roots.count (a:Int)+refs K most out a
structure Jz (n:Nat)(cnt:Nat->Nat)(K:Nat->List Int)(H:List Int):Prop where
 eq:∀a:Nat,0<a->a<n->cnt a=H.count (a:Int)+refs K n cnt a
section
variable {n:Nat}{cnt:Nat->Nat}{K:Nat->List Int}{H:List Int}
theorem Jz.perm (h:Jz n cnt K H){H':List Int}(hH:∀a:Nat,0<a->a<n->H'.count (a:Int)=H.count (a:Int)):Jz n cnt K H':=
 ⟨λa h1 h2=>by rw[hH a h1 h2];exact h.eq a h1 h2⟩
theorem q80 {K K':Nat->List Int}{cnt cnt':Nat->Nat}{n a:Nat}(h:∀b,b<n->(1<=cnt b↔1<=cnt' b)/\(1<=cnt b->K' b=K b)):refs K' n cnt' a=refs K n cnt a:=
 q63 λb p=>by
  obtain⟨h1,h2⟩:=h b p;by_cases e:1<=cnt b
  ·rw[if_pos e,if_pos (h1.1 e),h2 e]
  ·rw[if_neg e,if_neg (λf=>e (h1.2 f))]
theorem Jz.same (h:Jz n cnt K H){cnt':Nat->Nat}{K':Nat->List Int}(hc:∀b,b<n->cnt' b=cnt b)(hK:∀b,b<n->1<=cnt b->K' b=K b):Jz n cnt' K' H:=
 ⟨λa h1 h2=>by
  rw[hc a h2,h.eq a h1 h2];congr 1
  exact (q80 λb f=>⟨by rw[hc b f],hK b f⟩).symm⟩
theorem qid {K K':Nat->List Int}{cnt cnt':Nat->Nat}{n i a:Nat}(hi:i<n)(y:∀b,b<n->b≠i->cnt' b=cnt b)(u:∀b,b<n->b≠i->K' b=K b) :
  refs K' n cnt' a+(if 1<=cnt i then (K i).count (a:Int) else 0)=refs K n cnt a+(if 1<=cnt' i then (K' i).count (a:Int) else 0):=
 qgi (f:=λb=>if 1<=cnt b then (K b).count (a:Int) else 0) (g:=λb=>if 1<=cnt' b then (K' b).count (a:Int) else 0)
  (λb p hn=>by
   show (if 1<=cnt b then (K b).count (a:Int) else 0)=(if 1<=cnt' b then (K' b).count (a:Int) else 0);rw[y b p hn,u b p hn]) hi
theorem Jz.put (h:Jz n cnt K H){c:Nat}{ks H0:List Int}{cnt':Nat->Nat}{K':Nat->List Int}(hc0:0<c)(hc:c<n)(hz:cnt c=0)(hH:∀a:Nat,0<a->a<n->H.count (a:Int)=ks.count (a:Int)+H0.count (a:Int))
  (h1:cnt' c=1) (h2:∀b,b<n->b≠c->cnt' b=cnt b) (h3:K' c=ks) (h4:∀b,b<n->b≠c->K' b=K b):Jz n cnt' K' ((c:Int)::H0):=by
 refine⟨λa f p=>?_⟩;have y:=qid (a:=a) hc h2 h4;rw[if_neg (show ¬1<=cnt c by omega),if_pos (show 1<=cnt' c by omega),h3] at y;have D:=h.eq a f p;have E:=hH a f p;rw[List.count_cons];by_cases e:a=c
 ·subst e;rw[if_pos (by simp),h1];omega
 ·rw[if_neg (by intro u;have:=eq_of_beq u;omega),h2 a p e];omega
theorem Jz.ref (h:Jz n cnt K H){c:Nat}{cnt':Nat->Nat}(hc:1<=cnt c)(h1:cnt' c=cnt c+1)(h2:∀b,b<n->b≠c->cnt' b=cnt b):Jz n cnt' K ((c:Int)::H):=by
 refine⟨λa f p=>?_⟩;have D:refs K n cnt' a=refs K n cnt a:=q80 λb y=>⟨by
  by_cases e:b=c
  ·subst e;omega
  ·rw[h2 b y e],λ_=>rfl⟩
 have E:=h.eq a f p;rw[List.count_cons,D];by_cases e:a=c
 ·subst e;rw[if_pos (by simp),h1];omega
 ·rw[if_neg (by intro u;have:=eq_of_beq u;omega),h2 a p e];omega
theorem Jz.Qq (h:Jz n cnt K H){c:Nat}{H0:List Int}{cnt':Nat->Nat}(hH:∀a:Nat,0<a->a<n->H.count (a:Int)=((c:Int)::H0).count (a:Int))(hc:2<=cnt c)(h1:cnt' c+1=cnt c)(h2:∀b,b<n->b≠c->cnt' b=cnt b):Jz n cnt' K H0:=by
 refine⟨λa f p=>?_⟩;have E:refs K n cnt' a=refs K n cnt a:=q80 λb D=>⟨by
  by_cases e:b=c
  ·subst e;omega
  ·rw[h2 b D e],λ_=>rfl⟩
 have F:=h.eq a f p;have u:=hH a f p;rw[List.count_cons] at u;rw[E];by_cases e:a=c
 ·subst e;rw[if_pos (by simp)] at u;omega
 ·rw[if_neg (by intro y;have:=eq_of_beq y;omega)] at u;rw[h2 a p e];omega
theorem Jz.last (h:Jz n cnt K H){c:Nat}{H0:List Int}{cnt':Nat->Nat}(hc0:0<c)(hcn:c<n)(hH:∀a:Nat,0<a->a<n->H.count (a:Int)=((c:Int)::H0).count (a:Int))(hc:cnt c=1)(h1:cnt' c=0)(h2:∀b,b<n->b≠c->cnt' b=cnt b):Jz n cnt' K (K c++H0):=by
 refine⟨λa f p=>?_⟩;have D:=qid (a:=a) (K:=K) (K':=K) hcn h2 (λ_ _ _=>rfl);rw[if_pos (show 1<=cnt c by omega),if_neg (show ¬1<=cnt' c by omega)] at D;have E:=h.eq a f p;have u:=hH a f p;rw[List.count_cons] at u;rw[List.count_append];by_cases e:a=c
 ·subst e;rw[if_pos (by simp)] at u;omega
 ·rw[if_neg (by intro y;have:=eq_of_beq y;omega)] at u;rw[h2 a p e];omega
theorem Jz.set (h:Jz n cnt K H){c:Nat}{ks H0:List Int}{K':Nat->List Int}(hcn:c<n)(hc:1<=cnt c)(hH:∀a:Nat,0<a->a<n->H.count (a:Int)=ks.count (a:Int)+H0.count (a:Int))(h3:K' c=ks)(h4:∀b,b<n->b≠c->K' b=K b):Jz n cnt K' (K c++H0):=by
 refine⟨λa f p=>?_⟩;have u:=qid (a:=a) (cnt:=cnt) (cnt':=cnt) hcn (λ_ _ _=>rfl) h4;rw[if_pos hc,if_pos hc,h3] at u;have y:=h.eq a f p;have D:=hH a f p;rw[List.count_append];omega
theorem Jz.named (h:Jz n cnt K H){b c:Nat}(hc0:0<c)(hcn:c<n)(hb:b<n)(h1:1<=cnt b)(hm:(c:Int)∈K b):1<=cnt c:=by
 have h2:=h.eq c hc0 hcn;have p:=qed (f:=λb=>if 1<=cnt b then (K b).count (c:Int) else 0) hb;have u:0<(K b).count (c:Int):=List.count_pos_iff.2 hm;rw[if_pos h1] at p;have e:refs K n cnt c=sumTo n λb=>if 1<=cnt b then (K b).count (c:Int) else 0:=rfl
 omega
theorem Jz.by_ (h:Jz n cnt K H){c:Nat}(hc0:0<c)(hcn:c<n)(h1:1<=cnt c):(c:Int)∈H\/∃b,b<n/\1<=cnt b/\(c:Int)∈K b:=by
 have h2:=h.eq c hc0 hcn;by_cases e:0<H.count (c:Int)
 ·exact .inl (List.count_pos_iff.1 e)
 ·obtain⟨b,y,p⟩:=qgj (f:=λb=>if 1<=cnt b then (K b).count (c:Int) else 0) (n:=n) (by
   have e:refs K n cnt c=sumTo n λb=>if 1<=cnt b then (K b).count (c:Int) else 0:=rfl
   omega)
  have p:0<(if 1<=cnt b then (K b).count (c:Int) else 0):=p;by_cases u:1<=cnt b
  ·rw[if_pos u] at p;exact .inr ⟨b,y,u,List.count_pos_iff.1 p⟩
  ·rw[if_neg u] at p
   cases p
theorem Jz.reached (h:Jz n cnt K H){B:Nat}(Nu:Nat->Nat)(hlev:∀b a:Nat,b<n->1<=cnt b->(a:Int)∈K b->Nu a<Nu b)(hB:∀b,Nu b<=B)(h0:cnt 0=0){S:Nat->Prop}(hS:∀a:Nat,0<a->a<n->(a:Int)∈H->S a)
  (hK:∀b a:Nat,0<b->b<n->0<a->a<n->1<=cnt b->S b->(a:Int)∈K b->S a):∀L a,B-Nu a<=L->0<a->a<n->1<=cnt a->S a:=by
 intro L;induction L using Nat.strongRecOn with
 |ind L ih=>
  intro a I f D h1;rcases h.by_ f D h1 with h2|⟨b,E,p,y⟩
  ·exact hS a f D h2
  ·have F:=hlev b a E p y;have G:=hB b;have u:0<b:=by
    rcases Nat.eq_zero_or_pos b with e|e
    ·subst e;omega
    ·exact e
   exact hK b a u E f D p (ih (B-Nu b) (by omega) b (Nat.le_refl _) u E p) y
end
theorem q5e (ks:List Kd)(k:Kd):∀j,0<lastTo ks k j->k.less (keyAt ks (lastTo ks k j))=false
 |0,h=>by cases h
 |j+1,h=>by
  unfold lastTo at h ⊢;by_cases f:k.less (keyAt ks j)=true
  ·rw[if_pos f] at h ⊢;exact q5e ks k j h
  ·rw[if_neg f];simpa using f
theorem q4o (ks:List Kd)(k:Kd):∀j q,lastTo ks k j<q->q<j->k.less (keyAt ks q)=true
 |0,q,_,h=>by cases h
 |j+1,q,h,hq=>by
  unfold lastTo at h;by_cases f:k.less (keyAt ks j)=true
  ·rw[if_pos f] at h;rcases (by omega:q<j\/q=j) with h1|rfl
   ·exact q4o ks k j q h h1
   ·exact f
  ·rw[if_neg f] at h;omega
theorem q64:∀(f:List Kd) (k:Kd) (q:Nat),q<lead f k->(keyAt f q).less k=true
 |[],k,q,h=>by cases h
 |x::f,k,q,h=>by
  unfold lead at h;rw[List.takeWhile_cons] at h;by_cases p:x.less k=true
  ·rw[if_pos p] at h;match q with
   |0=>exact p
   |q+1=>exact q64 f k q (by unfold lead;simpa using h)
  ·rw[if_neg p] at h
   cases h
theorem qb3:∀(f:List Kd) (k:Kd),lead f k<f.length->(keyAt f (lead f k)).less k=false
 |[],k,h=>by cases h
 |x::f,k,h=>by
  unfold lead at h ⊢;rw[List.takeWhile_cons] at h ⊢;by_cases p:x.less k=true
  ·rw[if_pos p] at h ⊢;exact qb3 f k (by unfold lead;simpa using h)
  ·rw[if_neg p];show x.less k=false;simpa using p
theorem qb4 {f:Nat->Nat}{k:Nat}:∀{n:Nat},(∀b,b<n->f b<=k)->sumTo n f<=k*n
 |0,_=>Nat.zero_le _
 |n+1,h=>by
  unfold sumTo;have h1:=qb4 (n:=n) (f:=f) (k:=k) (λb p=>h b (by omega));have h2:=h n (by omega);rw[Nat.mul_succ];omega
theorem qn5 {K:Nat->List Int}{most k:Nat}{out:Nat->Nat}(f:∀b,b<most->(K b).length<=k)(a:Nat):refs K most out a<=k*most:=
 qb4 λb p=>by
  by_cases e:1<=out b
  ·rw[if_pos e];exact Nat.le_trans List.count_le_length (f b p)
  ·rw[if_neg e];exact Nat.zero_le _
