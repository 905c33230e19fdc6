/- The laws' few of layer 6; the reference's Same -/
import Derived.Test.YthkfkhejjmhomaaGreatDoorEs6
import Derived.Test.YthkfkhejjmhomaaGreatDoorEs7
import Derived.Test.YthkfkhejjmhomaaGreatDoorEs8
namespace Go.Proofs.YthkfkhejjmhomaaGreatDoor
open Go Go.RowKit Go.Proofs
set_option maxHeartbeats 8000000
set_option maxRecDepth 100000
theorem NB.range {w:World}{b:Nat}{l:Int}{A B:Option Addr}{n c m d:Nat}(H:NB w b l A n c B m d):w.rangeAt b 0 [.int .i64 l,.slice A n c,.slice B m d]:=λj v e=>by
 obtain⟨t,H⟩:=H;rw[cell_of_row _ _ _ _ _ _ H,Nat.zero_add];simpa using e
theorem Ew {w:World}{b:Nat}{l:Int}{A B:Option Addr}{n c m d:Nat}(H:NB w b l A n c B m d):(loadVar 77 ⟨b,0,none⟩).run Tryz.prog w=.ok (.agg #[.int .i64 l,.slice A n c,.slice B m d]) w:=
 run_loadVar_mid w b 0 77 _ _ H.range Tryz.underlying77 rfl (by kernel_rfl)
theorem NB.new2 (w:World)(o:Obj)(l:Int)(A:Option Addr)(n c:Nat)(B:Option Addr)(m d:Nat)(t:TypeId):NB ((w.alloc o).alloc (.cells #[.int .i64 l,.slice A n c,.slice B m d] t)) (w.1.size+1) l A n c B m d:=by
 have:=NB.new (w.alloc o) l A n c B m d t;rwa [World.size_alloc] at this
theorem Nz:Aa Tryz.prog 41 50 4 48 (.agg #[.int .i64 0,.int .i64 0,.int .i64 0,.slice none 0 0]):=⟨Tryz.underlying41,by kernel_rfl,rfl,by omega⟩
theorem Qaq:Aa Tryz.prog 75 148 4 32 (.agg #[.int .i64 0,.int .i64 0,.int .i64 0,.int .i64 0]):=⟨Tryz.underlying75,by kernel_rfl,rfl,by omega⟩
theorem Sl.turned' {w w':World}{A:Option Addr}{n c:Nat}{l:List UInt8}(h:Sl w A n c l){S:Nat->Prop}(T:Turn S w w')(hA:l≠[]->∀k,q01 A=some k->¬S k):Sl w' A n c l:=by
 by_cases b:l=[]
 ·subst b;exact⟨h.1,h.2.1,h.2.2.1,λj u d=>by simp at d⟩
 ·exact h.turned T (hA b)
theorem Sl.Qc {w:World}{A:Option Addr}{n c:Nat}{l:List UInt8}(h:Sl w A n c l)(hl:l≠[]):∀k,q01 A=some k->k<w.1.size:=by
 intro k f;have hn:0<n:=by have:=h.len;have:l.length≠0:=λe=>hl (List.eq_nil_of_length_eq_zero e);omega
 obtain⟨b,rfl,d,_⟩:=h.cell hn;obtain rfl:b.block=k:=Option.some.inj f;exact d
def Vh (k:Kd)(V:Option Addr)(p q:Nat):List Value:=[.int .i64 k.obj,.int .i64 k.kind,.int .i64 k.off,.slice V p q]
def Jt (w:World)(base:Nat)(A:Option Addr)(n c:Nat)(xs:List Qg):Prop:=
 ∃b,Qo w base 50 4 A n c b/\b.length=xs.length/\∀(j:Nat) r x,b[j]?=some r->xs[j]?=some x->∃V p q,r=Vh x.k V p q/\Sl w V p q x.v/\(x.v≠[]->∀g,q01 V=some g->base<=g/\q01 A≠some g)
section
variable {w w':World}{base n c:Nat}{A:Option Addr}{xs:List Qg}
theorem Pq (w:World)(base:Nat):Jt w base none 0 0 []:=⟨[],Ir _ _ _ _,rfl,λj r x b=>by simp at b⟩
theorem Jt.below (h:Jt w base A n c xs)(hb:Below w.1.size w w'):Jt w' base A n c xs:=by
 obtain⟨d,h1,h2,f⟩:=h;refine⟨d,h1.below hb,h2,λj r x m y=>?_⟩;obtain⟨V,p,q,e,u,b⟩:=f j r x m y;exact⟨V,p,q,e,u.below hb,b⟩
theorem Jt.J5 (h:Jt w base A n c xs):Jd w A n c xs:=by
 obtain⟨b,h1,h2,d⟩:=h;refine⟨b,h1.Kt (by omega),h2,λj r x f u=>?_⟩;obtain⟨V,p,q,e,m,_⟩:=d j r x f u;exact⟨V,p,q,e,m⟩
theorem Jt.Qc (h:Jt w base A n c xs):∀k,q01 A=some k->base<=k/\k<w.1.size:=by
 obtain⟨b,h1,_⟩:=h;exact h1.Qc
theorem Jt.low (h:Jt w base A n c xs){S:Nat->Prop}(T:Turn S w w')(hS:∀k,S k->k<base):Jt w' base A n c xs:=by
 obtain⟨f,h1,h2,m⟩:=h;refine⟨f,h1.turned T (λk d e=>by have:=(h1.Qc k d).1;have:=hS k e;omega),h2,λj r x y D=>?_⟩;obtain⟨V,p,q,e,B,b⟩:=m j r x y D;exact⟨V,p,q,e,B.turned' T (λu k d e=>by have:=(b u k d).1;have:=hS k e;omega),b⟩
end
theorem qlh (k:Kd)(V:Option Addr)(p q:Nat):∀y∈[Vh k V p q],∀u∈y,u.oneCell'=true:=by
 intro y d u b;obtain rfl:y=Vh k V p q:=by simpa using d
 simp[Vh] at b;rcases b with rfl|rfl|rfl|rfl<;>rfl
theorem q65 {w:World}{ops:Array Oper}{u:List Oper}{o:Oper}{a:Act}{Q:Exit->Act->World->Prop}(U:o.guard=none)(so x:Operand)
  (ho:o.op=.call { callee:=.builtin .append,args:=#[so,x],argTypes:=#[41,41] })
  (base:Nat) (A:Option Addr) (n c:Nat) (xs:List Qg) (O:a.eval so=.slice A n c) (J:Jt w base A n c xs)
  (B:Option Addr) (d:Nat) (m:Qg) (V:Option Addr) (p q:Nat) (E:a.eval x=.slice B 1 d) (f:Js w 4 B 1 d [Vh m.k V p q]) (hv:Sl w V p q m.v) (X:m.v≠[]->∀g,q01 V=some g->base<=g/\q01 A≠some g) (hn:n<=100000) (D:base<=w.1.size)
  (h:∀y M w',Jt w' base y (n+1) M (xs++[m])->Turn (λk=>q01 A=some k) w w'->(q01 y=q01 A\/q01 y=some w.1.size)->wpList Tryz.prog ops Q u (a.put o.dst (.slice y (n+1) M)) w'):wpList Tryz.prog ops Q (o::u) a w:=by
 obtain⟨F,h1,h2,h3⟩:=J;refine q4d w Nz U so x ho base A n c F O h1 B 1 d [Vh m.k V p q] E f (by omega) (qlh _ _ _ _) (by omega) (by omega) D ?_;intro y M w' K T G _;refine h y M w' ⟨_,K,by simp[h2],λj r x f E=>?_⟩ T G;have old:∀(V:Option Addr) (p q:Nat) (v:List UInt8),Sl w V p q v->(v≠[]->∀g,q01 V=some g->base<=g/\q01 A≠some g)->Sl w' V p q v/\(v≠[]->∀g,q01 V=some g->base<=g/\q01 y≠some g):=by
  intro V p q v O b;refine⟨O.turned' T (λI k hk e=>(b I k hk).2 e),λI g R=>⟨(b I g R).1,λe=>?_⟩⟩;rcases G with P|P
  ·exact (b I g R).2 (P.symm.trans e)
  ·have:=O.Qc I g R;rw[P] at e;have:=Option.some.inj e;omega
 by_cases hj:j<F.length
 ·rw[List.getElem?_append_left hj] at f;rw[List.getElem?_append_left (by omega)] at E;obtain⟨V',p',q',e,W,b⟩:=h3 j r x f E;obtain⟨Y,Z⟩:=old V' p' q' x.v W b;exact⟨V',p',q',e,Y,Z⟩
 ·rw[List.getElem?_append_right (by omega)] at f E;have H:j-F.length=0:=by
   have:=(List.getElem?_eq_some_iff.1 f).1;simp at this;omega
  rw[H] at f;rw[<-h2,H] at E;obtain rfl:Vh m.k V p q=r:=by simpa using f
  obtain rfl:m=x:=by simpa using E
  obtain⟨Y,Z⟩:=old V p q m.v hv X;exact⟨V,p,q,rfl,Y,Z⟩
def Nd.least (N:Nd):Kd:=if N.keys.length=0 then ⟨0,0,0⟩ else keyAt N.keys 0
def lead (ks:List Kd)(k:Kd):Nat:=(ks.takeWhile λx=>x.less k).length
def lastTo (ks:List Kd)(k:Kd):Nat->Nat
 |0=>0
 |j+1=>if k.less (keyAt ks j)=true then lastTo ks k j else j
def Kz (ks:List Kd)(k:Kd)(i:Nat):Bool:=decide (i<ks.length)&&(keyAt ks i).same k
def Nd.Zb (N:Nd)(k:Kd):Nat:=if N.lvl=0 then lead N.keys k else lastTo N.keys k N.keys.length
theorem qbi (ks:List Kd)(k:Kd):lead ks k<=ks.length:=by
 unfold lead;induction ks with
 |nil=>simp
 |cons x ks ih=>rw[List.takeWhile_cons];split<;>simp<;>omega
theorem qje:∀(b:List Kd) (k:Kd) (j:Nat),(∀q,q<j->(keyAt b q).less k=true)->j<=b.length->(j=b.length\/(keyAt b j).less k=false)->lead b k=j
 |[],k,j,_,h2,_=>by simp at h2;subst h2;rfl
 |x::b,k,0,_,_,h3=>by
  rcases h3 with h|h
  ·simp at h
  ·have h:x.less k=false:=h;unfold lead;rw[List.takeWhile_cons,h];rfl
 |x::b,k,j+1,h1,h2,h3=>by
  have h0:x.less k=true:=h1 0 (by omega);have:=qje b k j (λq d=>h1 (q+1) (by omega)) (by simpa using h2) (by
   rcases h3 with h|h
   ·left;simpa using h
   ·right;exact h)
  unfold lead at this ⊢;rw[List.takeWhile_cons,h0];simpa using this
theorem q7n (ks:List Kd)(k:Kd)(j:Nat):lastTo ks k j=0\/lastTo ks k j<j:=by
 induction j with
 |zero=>left;rfl
 |succ j ih=>unfold lastTo;split<;>omega
theorem qsf (xs:List Qg)(j:Nat):keyAt (xs.map (·.k)) j=(Qz xs j).k:=by
 unfold keyAt Qz;rw[List.getD_eq_getElem?_getD,List.getD_eq_getElem?_getD,List.getElem?_map]
 cases xs[j]?<;>rfl
theorem qjf (xs:List Qm)(j:Nat):keyAt (xs.map (·.k)) j=(Qh xs j).k:=by
 unfold keyAt Qh;rw[List.getD_eq_getElem?_getD,List.getD_eq_getElem?_getD,List.getElem?_map]
 cases xs[j]?<;>rfl
theorem qhd (xs:List Qg)(i:Nat)(k:Kd)(r:Bool)(F:Kz (xs.map (·.k)) k i=r)(A:Option Addr)(n c:Nat)(w:World)(I:Jd w A n c xs)(_:n<=100000) :
  Calls Tryz.prog 171 #[.slice A n c,.int .i64 (i:Int),.func (.func 170) #[] #[],.agg #[.int .i64 k.obj,.int .i64 k.kind,.int .i64 k.off]] w λe w'=>e=.returned (.bool r)/\Below w.1.size w w':=by
 have U:=qde;have b:=I.len;obtain⟨T,J⟩:=I.bounds;unfold maxLen at J;have d:=(Ym w k).2;have H:=(Ym w k).1;have m:=I.below d;by_cases y:i<n
 ·obtain⟨s,G⟩:∃s,(keyAt (xs.map (·.k)) i).same k=s:=⟨_,rfl⟩;obtain rfl:s=r:=by rw[<-F,<-G];unfold Kz;rw[decide_eq_true (by rw[List.length_map,b];exact y),Bool.true_and]
  clear F b;go_enter Tryz.func171,Tryz.ntmps171
  go_wp2_with fail
  generalize w.alloc (.cells #[.int .i64 k.obj,.int .i64 k.kind,.int .i64 k.off] 45)=wr at d H m ⊢;have B:=H;obtain⟨g,o,K,P,M,R,E,c0,c1,c2,c3,_⟩:=m.cell y;subst R;have p:=qsf xs i;obtain⟨a,O⟩:∃a,(Qz xs i).k=a:=⟨_,rfl⟩;rw[O] at c0 c1 c2 p;have Q:=Lib.hid p;clear O p;rw[Q.out] at G;have Y:=qlg a k _ G;clear G;have Z:∀u:Grown wr,u.to.cell? ⟨g,o+i*4,none⟩=some (.int .i64 a.obj):=Grown.cell c0 E;have p1:∀u:Grown wr,u.to.cell? ⟨g,o+i*4+1,none⟩=some (.int .i64 a.kind):=Grown.cell c1 E;have p2:∀u:Grown wr,u.to.cell? ⟨g,o+i*4+2,none⟩=some (.int .i64 a.off):=Grown.cell c2 E;have p3:∀u:Grown wr,u.to.cell? ⟨g,o+i*4+3,none⟩=some (.slice K P M):=Grown.cell c3 E;have q0:∀u:Grown wr,u.to.cell? ⟨w.1.size,0,none⟩=some (.int .i64 k.obj):=Grown.cell B.c0 B.lt;have q1:∀u:Grown wr,u.to.cell? ⟨w.1.size,1,none⟩=some (.int .i64 k.kind):=Grown.cell B.c1 B.lt;have q2:∀u:Grown wr,u.to.cell? ⟨w.1.size,2,none⟩=some (.int .i64 k.off):=Grown.cell B.c2 B.lt;clear c0 c1 c2 c3;have W:(0:Int)<=(i:Int):=by omega
  have D:(i:Int)<(n:Int):=by omega
  refine Ua (by kernel_rfl) (by kernel_rfl) ?_;repeat (go_big_quiet_step (first
   |(go_at_call 170;exact Calls.grown (q2h a K P M _))
   |fail))
  refine wpQuiet_nil ?_;rintro _ ⟨u,rfl⟩;have f:=d.trans (u.ok.mono d.size);go_wp2;go_ret;exact⟨rfl,f⟩
 ·obtain rfl:r=false:=by rw[<-F];unfold Kz;rw[decide_eq_false (by rw[List.length_map,b];exact y),Bool.false_and]
  clear F b H m;have D:¬(i:Int)<(n:Int):=by omega
  have X:decide ((i:Int)<(n:Int))=false:=decide_eq_false D;go_enter Tryz.func171,Tryz.ntmps171
  go_wp2_with fail
  generalize w.alloc (.cells #[.int .i64 k.obj,.int .i64 k.kind,.int .i64 k.off] 45)=wr at d ⊢;refine Ua (by kernel_rfl) (by kernel_rfl) ?_;repeat (go_big_quiet_step (fail))
  refine wpQuiet_nil ?_;rintro _ ⟨u,rfl⟩;have f:=d.trans (u.ok.mono d.size);go_wp2;go_ret;exact⟨rfl,f⟩
theorem qhe (xs:List Qm)(i:Nat)(k:Kd)(r:Bool)(F:Kz (xs.map (·.k)) k i=r)(A:Option Addr)(n c:Nat)(w:World)(I:Zp w A n c xs)(_:n<=100000) :
  Calls Tryz.prog 174 #[.slice A n c,.int .i64 (i:Int),.func (.func 173) #[] #[],.agg #[.int .i64 k.obj,.int .i64 k.kind,.int .i64 k.off]] w λe w'=>e=.returned (.bool r)/\Below w.1.size w w':=by
 have R:=qde;have b:=I.len;obtain⟨Q,J⟩:=I.bounds;unfold maxLen at J;have d:=(Ym w k).2;have H:=(Ym w k).1;have m:=I.below d;by_cases y:i<n
 ·obtain⟨s,G⟩:∃s,(keyAt (xs.map (·.k)) i).same k=s:=⟨_,rfl⟩;obtain rfl:s=r:=by rw[<-F,<-G];unfold Kz;rw[decide_eq_true (by rw[List.length_map,b];exact y),Bool.true_and]
  clear F b;go_enter Tryz.func174,Tryz.ntmps174
  go_wp2_with fail
  generalize w.alloc (.cells #[.int .i64 k.obj,.int .i64 k.kind,.int .i64 k.off] 45)=wr at d H m ⊢;have B:=H;obtain⟨g,o,P,E,c0,c1,c2,c3⟩:=m.cell y;subst P;obtain⟨v,M⟩:∃v,(Qh xs i).a=v:=⟨_,rfl⟩;rw[M] at c3;clear M;have p:=qjf xs i;obtain⟨a,K⟩:∃a,(Qh xs i).k=a:=⟨_,rfl⟩;rw[K] at c0 c1 c2 p;have O:=Lib.hid p;clear K p;rw[O.out] at G;have W:=qlg a k _ G;clear G;have X:∀u:Grown wr,u.to.cell? ⟨g,o+i*4,none⟩=some (.int .i64 a.obj):=Grown.cell c0 E;have Y:∀u:Grown wr,u.to.cell? ⟨g,o+i*4+1,none⟩=some (.int .i64 a.kind):=Grown.cell c1 E;have Z:∀u:Grown wr,u.to.cell? ⟨g,o+i*4+2,none⟩=some (.int .i64 a.off):=Grown.cell c2 E;have p3:∀u:Grown wr,u.to.cell? ⟨g,o+i*4+3,none⟩=some (.int .i64 v):=Grown.cell c3 E;have q0:∀u:Grown wr,u.to.cell? ⟨w.1.size,0,none⟩=some (.int .i64 k.obj):=Grown.cell B.c0 B.lt;have q1:∀u:Grown wr,u.to.cell? ⟨w.1.size,1,none⟩=some (.int .i64 k.kind):=Grown.cell B.c1 B.lt;have q2:∀u:Grown wr,u.to.cell? ⟨w.1.size,2,none⟩=some (.int .i64 k.off):=Grown.cell B.c2 B.lt;clear c0 c1 c2 c3;have T:(0:Int)<=(i:Int):=by omega
  have D:(i:Int)<(n:Int):=by omega
  refine Ua (by kernel_rfl) (by kernel_rfl) ?_;repeat (go_big_quiet_step (first
   |(go_at_call 173;exact Calls.grown (q2i a v _))
   |fail))
  refine wpQuiet_nil ?_;rintro _ ⟨u,rfl⟩;have f:=d.trans (u.ok.mono d.size);go_wp2;go_ret;exact⟨rfl,f⟩
 ·obtain rfl:r=false:=by rw[<-F];unfold Kz;rw[decide_eq_false (by rw[List.length_map,b];exact y),Bool.false_and]
  clear F b H m;have D:¬(i:Int)<(n:Int):=by omega
  have U:decide ((i:Int)<(n:Int))=false:=decide_eq_false D;go_enter Tryz.func174,Tryz.ntmps174
  go_wp2_with fail
  generalize w.alloc (.cells #[.int .i64 k.obj,.int .i64 k.kind,.int .i64 k.off] 45)=wr at d ⊢;refine Ua (by kernel_rfl) (by kernel_rfl) ?_;repeat (go_big_quiet_step (fail))
  refine wpQuiet_nil ?_;rintro _ ⟨u,rfl⟩;have f:=d.trans (u.ok.mono d.size);go_wp2;go_ret;exact⟨rfl,f⟩
theorem qsg (xs:List Qg)(k:Kd)(A:Option Addr)(n c:Nat)(w:World)(J:Jd w A n c xs)(_:n<=100000) :
  Calls Tryz.prog 169 #[.slice A n c,.func (.func 170) #[] #[],.agg #[.int .i64 k.obj,.int .i64 k.kind,.int .i64 k.off]] w λe w'=>e=.returned (.int .i64 (lead (xs.map (·.k)) k:Nat))/\Below w.1.size w w':=by
 have d:=Lib.hid (show (xs.map (·.k)).length=n by rw[List.length_map];exact J.len);obtain⟨a0,M⟩:=J.bounds;unfold maxLen at M;have H:=(Ym w k).2;have G:=(Ym w k).1;go_enter Tryz.func169,Tryz.ntmps169
 go_wp2_with fail
 generalize w.alloc (.cells #[.int .i64 k.obj,.int .i64 k.kind,.int .i64 k.off] 45)=Y at H G ⊢;go_loopw [7] (λi wr=>∃j:Nat,j<=n/\i=.int .i64 (j:Int)/\(∀q,q<j->(keyAt (xs.map (·.k)) q).less k=true)/\Below Y.1.size Y wr) (λi _=>n-(intOf i).toNat)
 case atStart=>exact⟨0,Nat.zero_le _,rfl,λq hq=>by omega,Below.refl _ _⟩
 case round=>
  obtain⟨j,W,rfl,y,E⟩:=hrel;have D:=G.below E G.lt;have f:=H.trans (E.mono H.size);by_cases O:j<n
  ·have K:=J.below f;obtain⟨g,o,Q,X,T,Z,F,c0,c1,c2,c3,_⟩:=K.cell O;subst Z;have B:=qsf xs j;obtain⟨a,U⟩:∃a,(Qz xs j).k=a:=⟨_,rfl⟩;rw[U] at c0 c1 c2 B;have R:=Lib.hid B;clear U B;obtain⟨r,P⟩:∃r,a.less k=r:=⟨_,rfl⟩;have p0:∀u:Grown wr,u.to.cell? ⟨g,o+j*4,none⟩=some (.int .i64 a.obj):=Grown.cell c0 F;have p1:∀u:Grown wr,u.to.cell? ⟨g,o+j*4+1,none⟩=some (.int .i64 a.kind):=Grown.cell c1 F;have p2:∀u:Grown wr,u.to.cell? ⟨g,o+j*4+2,none⟩=some (.int .i64 a.off):=Grown.cell c2 F;have p3:∀u:Grown wr,u.to.cell? ⟨g,o+j*4+3,none⟩=some (.slice Q X T):=Grown.cell c3 F;have q0:∀u:Grown wr,u.to.cell? ⟨w.1.size,0,none⟩=some (.int .i64 k.obj):=Grown.cell D.c0 D.lt;have q1:∀u:Grown wr,u.to.cell? ⟨w.1.size,1,none⟩=some (.int .i64 k.kind):=Grown.cell D.c1 D.lt;have q2:∀u:Grown wr,u.to.cell? ⟨w.1.size,2,none⟩=some (.int .i64 k.off):=Grown.cell D.c2 D.lt;clear c0 c1 c2 c3;have a1:(0:Int)<=(j:Int):=by omega
   have a2:(j:Int)<(n:Int):=by omega
   go_wp2_with fail
   refine Ua (by kernel_rfl) (by kernel_rfl) ?_;repeat (go_big_quiet_step (first
    |(go_at_call 170;exact Calls.grown (q2h a Q X T _))
    |(go_at_call 55;exact Calls.grown (q7l a k r P _))
    |fail))
   refine wpQuiet_nil ?_;rintro _ ⟨u,rfl⟩;have I:=E.trans (u.ok.mono E.size);have m:=f.trans (u.ok.mono f.size)
   cases r
   ·have b:=Lib.hid (qje (xs.map (·.k)) k j y (by rw[d.out];exact W) (.inr (by rw[R.out];exact P)));go_wp2;go_ret;exact⟨by rw[b.out];rfl,m⟩
   ·go_wp2;refine⟨⟨j+1,by omega,by go_num,λp hp=>?_,I⟩,by simp[intOf];omega⟩;rcases (by omega:p<j\/p=j) with h1|rfl
    ·exact y p h1
    ·rw[R.out];exact P
  ·obtain rfl:n=j:=by omega
   have b:=Lib.hid (qje (xs.map (·.k)) k n y (by rw[d.out];exact W) (.inl d.out.symm));go_wp2_with fail
   refine Ua (by kernel_rfl) (by kernel_rfl) ?_;repeat (go_big_quiet_step (fail))
   refine wpQuiet_nil ?_;rintro _ ⟨u,rfl⟩;have m:=f.trans (u.ok.mono f.size);go_wp2;go_ret;exact⟨by rw[b.out];rfl,m⟩
theorem qsh (xs:List Qm)(k:Kd)(A:Option Addr)(n c:Nat)(w:World)(hI:Zp w A n c xs)(_:n<=100000) :
  Calls Tryz.prog 172 #[.slice A n c,.func (.func 173) #[] #[],.agg #[.int .i64 k.obj,.int .i64 k.kind,.int .i64 k.off]] w λe w'=>e=.returned (.int .i64 (lastTo (xs.map (·.k)) k n:Nat))/\Below w.1.size w w':=by
 obtain⟨a0,X⟩:=hI.bounds;unfold maxLen at X;have H:=(Ym w k).2;have O:=(Ym w k).1;obtain⟨T,W⟩:∃T,lastTo (xs.map (·.k)) k n=T:=⟨_,rfl⟩;have Z:=Lib.hid W;rw[W];clear W;rcases n with _|p
 ·have K:IntKind.i64.wrap (((0:Nat):Int)-1)=-1:=by decide
  have D:T=0:=by rw[<-Z.out];rfl
  subst D;go_enter Tryz.func172,Tryz.ntmps172
  go_wp2_with fail
  generalize w.alloc (.cells #[.int .i64 k.obj,.int .i64 k.kind,.int .i64 k.off] 45)=M at H O ⊢;go_loopw [7] (λi wr=>i=.int .i64 0/\Below M.1.size M wr) (λi _=>(intOf i).toNat)
  case atStart=>exact⟨rfl,Below.refl _ _⟩
  case round=>
   obtain⟨rfl,I⟩:=hrel;have b:=H.trans (I.mono H.size);go_wp2_with fail
   refine Ua (by kernel_rfl) (by kernel_rfl) ?_;repeat (go_big_quiet_step (fail))
   refine wpQuiet_nil ?_;rintro _ ⟨u,rfl⟩;have d:=b.trans (u.ok.mono b.size);go_wp2;go_ret;exact⟨rfl,d⟩
 ·have K:IntKind.i64.wrap (((p+1:Nat):Int)-1)=(p:Int):=by rw[show ((p+1:Nat):Int)-1=(p:Int) by omega];exact IntWalk.i64_in _ (by omega)
  have a6:(0:Int)<=(p:Int):=by omega
  go_enter Tryz.func172,Tryz.ntmps172
  go_wp2_with fail
  generalize w.alloc (.cells #[.int .i64 k.obj,.int .i64 k.kind,.int .i64 k.off] 45)=M at H O ⊢;clear K;go_loopw [7] (λi wr=>∃j:Nat,j<=p/\i=.int .i64 (j:Int)/\lastTo (xs.map (·.k)) k (j+1)=T/\Below M.1.size M wr) (λi _=>(intOf i).toNat)
  case atStart=>exact⟨p,Nat.le_refl _,rfl,Z.out,Below.refl _ _⟩
  case round=>
   obtain⟨j,hj,rfl,y,I⟩:=hrel;have G:=O.below I O.lt;have b:=H.trans (I.mono H.size);have f:=Lib.hid y;clear y;rcases j with _|q
   ·have D:T=0:=by rw[<-f.out];show (if _ then _ else _)=_;split<;>rfl
    subst D;go_wp2_with fail
    refine Ua (by kernel_rfl) (by kernel_rfl) ?_;repeat (go_big_quiet_step (fail))
    refine wpQuiet_nil ?_;rintro _ ⟨u,rfl⟩;have d:=b.trans (u.ok.mono b.size);go_wp2;go_ret;exact⟨rfl,d⟩
   ·have U:=hI.below b;obtain⟨j,F⟩:∃j,q+1=j:=⟨_,rfl⟩;rw[F] at f hj ⊢;obtain⟨g,o,hA,P,c0,c1,c2,c3⟩:=U.cell (show j<p+1 by omega);subst hA;obtain⟨v,hv⟩:∃v,(Qh xs j).a=v:=⟨_,rfl⟩;rw[hv] at c3;clear hv;have E:=qjf xs j;obtain⟨a,ha⟩:∃a,(Qh xs j).k=a:=⟨_,rfl⟩;rw[ha] at c0 c1 c2 E;have Ha:=Lib.hid E;clear ha E;obtain⟨r,hr⟩:∃r,k.less a=r:=⟨_,rfl⟩;have m:=Lib.hid (show (if r=true then lastTo (xs.map (·.k)) k j else j)=T by rw[<-f.out];show _=(if k.less (keyAt (xs.map (·.k)) j)=true then lastTo (xs.map (·.k)) k j else j);rw[Ha.out,hr]);have p0:∀u:Grown wr,u.to.cell? ⟨g,o+j*4,none⟩=some (.int .i64 a.obj):=Grown.cell c0 P;have p1:∀u:Grown wr,u.to.cell? ⟨g,o+j*4+1,none⟩=some (.int .i64 a.kind):=Grown.cell c1 P;have p2:∀u:Grown wr,u.to.cell? ⟨g,o+j*4+2,none⟩=some (.int .i64 a.off):=Grown.cell c2 P;have p3:∀u:Grown wr,u.to.cell? ⟨g,o+j*4+3,none⟩=some (.int .i64 v):=Grown.cell c3 P;have q0:∀u:Grown wr,u.to.cell? ⟨w.1.size,0,none⟩=some (.int .i64 k.obj):=Grown.cell G.c0 G.lt;have q1:∀u:Grown wr,u.to.cell? ⟨w.1.size,1,none⟩=some (.int .i64 k.kind):=Grown.cell G.c1 G.lt;have q2:∀u:Grown wr,u.to.cell? ⟨w.1.size,2,none⟩=some (.int .i64 k.off):=Grown.cell G.c2 G.lt;clear c0 c1 c2 c3;have a1:(0:Int)<(j:Int):=by omega
    have Y:0<j:=by omega
    have a5:decide (0<j)=true:=decide_eq_true Y;have a2:(0:Int)<=(j:Int):=by omega
    have a3:(j:Int)<((p+1:Nat):Int):=by omega
    have a4:(j:Int)<(p:Int)+1:=by omega
    have a7:IntKind.i64.wrap ((j:Int)-1)=(q:Int):=by rw[show (j:Int)-1=(q:Int) by omega];exact IntWalk.i64_in _ (by omega)
    have B:=Lib.hid F;clear F;go_wp2_with fail
    refine Ua (by kernel_rfl) (by kernel_rfl) ?_;repeat (go_big_quiet_step (first
     |(go_at_call 173;exact Calls.grown (q2i a v _))
     |(go_at_call 55;exact Calls.grown (q7l k a r hr _))
     |fail))
    refine wpQuiet_nil ?_;rintro _ ⟨u,rfl⟩;have R:=I.trans (u.ok.mono I.size);have d:=b.trans (u.ok.mono b.size)
    cases r
    ·obtain rfl:j=T:=m.out;go_wp2;go_ret;exact⟨rfl,d⟩
    ·have J:lastTo (xs.map (·.k)) k j=T:=m.out;have Q:=Lib.hid J;clear J;go_wp2;exact⟨⟨q,by have:=B.out;omega,rfl,by rw[B.out];exact Q.out,R⟩,by have:=B.out;simp[intOf];omega⟩
theorem q5x (ks:List Kd)(k:Kd):∀j,0<lastTo ks k j->k.less (keyAt ks (lastTo ks k j))=false
 |0,h=>by cases h
 |j+1,h=>by
  unfold lastTo at h ⊢;by_cases b:k.less (keyAt ks j)=true
  ·rw[if_pos b] at h ⊢;exact q5x ks k j h
  ·rw[if_neg b];simpa using b
theorem q5a (ks:List Kd)(k:Kd):∀j q,lastTo ks k j<q->q<j->k.less (keyAt ks q)=true
 |0,q,_,h=>by cases h
 |j+1,q,h,hq=>by
  unfold lastTo at h;by_cases b:k.less (keyAt ks j)=true
  ·rw[if_pos b] at h;rcases (by omega:q<j\/q=j) with h1|rfl
   ·exact q5a ks k j q h h1
   ·exact b
  ·rw[if_neg b] at h;omega
theorem q6k:∀(b:List Kd) (k:Kd) (q:Nat),q<lead b k->(keyAt b q).less k=true
 |[],k,q,h=>by cases h
 |x::b,k,q,h=>by
  unfold lead at h;rw[List.takeWhile_cons] at h;by_cases d:x.less k=true
  ·rw[if_pos d] at h;match q with
   |0=>exact d
   |q+1=>exact q6k b k q (by unfold lead;simpa using h)
  ·rw[if_neg d] at h
   cases h
theorem qbj:∀(b:List Kd) (k:Kd),lead b k<b.length->(keyAt b (lead b k)).less k=false
 |[],k,h=>by cases h
 |x::b,k,h=>by
  unfold lead at h ⊢;rw[List.takeWhile_cons] at h ⊢;by_cases d:x.less k=true
  ·rw[if_pos d] at h ⊢;exact qbj b k (by unfold lead;simpa using h)
  ·rw[if_neg d];show x.less k=false;simpa using d
def Qk (its:List Qg):Prop:=its.Pairwise λx y=>x.k.less y.k=true
def Qi (R:Int->Nd × Int):Nat->Int->List Qg->Prop
 |0,a,its=>R a=(⟨0,its,[]⟩,0)/\its≠[]
 |l+1,a,its=>∃(kids:List Qm) (parts:List (List Qg)),R a=(⟨((l+1:Nat):Int),[],kids⟩,0)/\kids≠[]/\parts.length=kids.length/\its=parts.flatten/\∀j,j<kids.length->Qi R l (Qh kids j).a (parts.getD j [])/\∃x r,parts.getD j []=x::r/\(Qh kids j).k=x.k
def valOf (its:List Qg)(k:Kd):Option (List UInt8):=(its.find? λx=>x.k.same k).map (·.v)
theorem q7o {a b k:Kd}(h:b.same k=true):a.less k=a.less b:=by
 rw[Kd.same_iff] at h;obtain⟨h1,h2,d⟩:=h;unfold Kd.less;rw[h1,h2,d]
theorem q5b {a b k:Kd}(h:b.same k=true):k.less a=b.less a:=by
 rw[Kd.same_iff] at h;obtain⟨h1,h2,d⟩:=h;unfold Kd.less;rw[h1,h2,d]
theorem qbk {a b:Kd}(h:a.less b=true):b.less a=false:=by
 rcases Kd.total a b with⟨_,h2,_⟩|⟨h1,_,_⟩|⟨h1,_,_⟩
 ·exact h2
 ·rw[h] at h1;cases h1
 ·rw[h] at h1;cases h1
theorem q4n (a:Kd):a.less a=false:=by
 rcases Kd.total a a with⟨h1,h2,b⟩|⟨_,_,b⟩|⟨h1,_,_⟩
 ·exact absurd rfl b
 ·exact absurd rfl b
 ·exact h1
theorem qdi {a b c:Kd}(h1:a.less b=true)(h2:c.less b=false):a.less c=true:=by
 rcases Kd.total b c with⟨d,_,_⟩|⟨_,d,_⟩|⟨_,_,rfl⟩
 ·exact Kd.trans a b c h1 d
 ·rw[h2] at d;cases d
 ·exact h1
theorem getD_cons_zero {α:Type}(x:α)(l:List α)(d:α):(x::l).getD 0 d=x:=rfl
theorem getD_cons_succ {α:Type}(x:α)(l:List α)(d:α)(j:Nat):(x::l).getD (j+1) d=l.getD j d:=by
 rw[List.getD_eq_getElem?_getD,List.getD_eq_getElem?_getD,List.getElem?_cons_succ]
theorem q98 {α:Type}(p:α->Bool):∀(parts:List (List α)) (j:Nat),j<parts.length->(∀q,q<parts.length->q≠j->∀x∈parts.getD q [],p x=false)->parts.flatten.find? p=(parts.getD j []).find? p
 |[],j,hj,_=>absurd hj (Nat.not_lt_zero _)
 |x::parts,0,_,h=>by
  rw[List.flatten_cons,List.find?_append,getD_cons_zero];have h0:parts.flatten.find? p=none:=by
   rw[List.find?_eq_none];intro y b;obtain⟨l,m,d⟩:=List.mem_flatten.1 b;obtain⟨q,f,e⟩:=List.getElem_of_mem m;have:=h (q+1) (by rw[List.length_cons];omega) (by omega) y (by rw[getD_cons_succ,List.getD_eq_getElem?_getD,List.getElem?_eq_getElem f,e];exact d);simpa using this
  rw[h0,Option.or_none]
 |x::parts,j+1,hj,h=>by
  rw[List.flatten_cons,List.find?_append,getD_cons_succ];have h0:x.find? p=none:=by
   rw[List.find?_eq_none];intro y b;have:=h 0 (by rw[List.length_cons];omega) (by omega) y b;simpa using this
  rw[h0,Option.none_or];refine q98 p parts j (by simpa using hj) λq f u y b=>?_
  exact h (q+1) (by rw[List.length_cons];omega) (by omega) y (by rw[getD_cons_succ];exact b)
theorem q5y {parts:List (List Qg)}(h:Qk parts.flatten){i j:Nat}(b:i<j)(d:j<parts.length){x y:Qg}(e:x∈parts.getD i [])(f:y∈parts.getD j []):x.k.less y.k=true:=by
 unfold Qk at h;rw[List.pairwise_flatten] at h;have h2:=List.pairwise_iff_getElem.1 h.2 i j (by omega) d b;rw[List.getD_eq_getElem?_getD,List.getElem?_eq_getElem (by omega)] at e;rw[List.getD_eq_getElem?_getD,List.getElem?_eq_getElem d] at f;exact h2 x e y f
theorem q5z {parts:List (List Qg)}(h:Qk parts.flatten)(j:Nat):Qk (parts.getD j []):=by
 unfold Qk at h ⊢;rw[List.pairwise_flatten] at h;rw[List.getD_eq_getElem?_getD];by_cases b:j<parts.length
 ·rw[List.getElem?_eq_getElem b];exact h.1 _ (List.getElem_mem b)
 ·rw[List.getElem?_eq_none (by omega)];exact List.Pairwise.nil
theorem q5c (l:Int)(kids:List Qm):(⟨l,[],kids⟩:Nd).keys=kids.map (·.k):=rfl
theorem q1v (its:List Qg):(⟨0,its,[]⟩:Nd).keys=its.map (·.k):=by unfold Nd.keys;simp
theorem q5d (kids:List Qm){j:Nat}(b:j<kids.length):keyAt (kids.map (·.k)) j=(Qh kids j).k:=by
 unfold keyAt Qh;rw[List.getD_eq_getElem?_getD,List.getD_eq_getElem?_getD,List.getElem?_map,List.getElem?_eq_getElem b];rfl
theorem q1b (its:List Qg){j:Nat}(b:j<its.length):keyAt (its.map (·.k)) j=(Qz its j).k:=by
 unfold keyAt Qz;rw[List.getD_eq_getElem?_getD,List.getD_eq_getElem?_getD,List.getElem?_map,List.getElem?_eq_getElem b];rfl
theorem qvj {R:Int->Nd × Int}{l:Nat}{a:Int}{its:List Qg}(h:Qi R (l+1) a its)(F:Qk its)(k:Kd) :
  ∃(kids:List Qm) (part:List Qg),R a=(⟨((l+1:Nat):Int),[],kids⟩,0)/\(⟨((l+1:Nat):Int),[],kids⟩:Nd).Zb k<kids.length/\Qi R l (Qh kids ((⟨((l+1:Nat):Int),[],kids⟩:Nd).Zb k)).a part/\Qk part/\valOf its k=valOf part k:=by
 obtain⟨kids,parts,h1,h2,T,rfl,m⟩:=h;have I:(⟨((l+1:Nat):Int),[],kids⟩:Nd).Zb k=lastTo (kids.map (·.k)) k kids.length:=by
  unfold Nd.Zb;have:¬((l+1:Nat):Int)=0:=by omega
  dsimp only;rw[if_neg this,q5c,List.length_map]
 obtain⟨j,B⟩:∃j,lastTo (kids.map (·.k)) k kids.length=j:=⟨_,rfl⟩;have U:0<kids.length:=List.length_pos_iff.2 h2;have b:j<kids.length:=by
  rcases q7n (kids.map (·.k)) k kids.length with e|e<;>omega
 refine⟨kids,parts.getD j [],h1,by rw[I,B];exact b,by rw[I,B];exact (m j b).1,q5z F j,?_⟩;unfold valOf;rw[q98 _ parts j (by omega) λq W E x d=>?_];obtain⟨_,y,r,G,J⟩:=m q (by omega);rcases Nat.lt_or_gt_of_ne E with D|Q
 ·-- ahead of the kid's key,that is not behind k
  obtain⟨_,z,s,K,M⟩:=m j b;have O:x.k.less z.k=true:=q5y F D (by omega) d (by rw[K];exact List.mem_cons_self ..);have p:k.less z.k=false:=by
   have:=q5x (kids.map (·.k)) k kids.length (by omega);rw[B,q5d kids b,M] at this;exact this
  cases u:x.k.same k with
  |false=>rfl
  |true=>
   have:=q5b (a:=z.k) u;rw[p,O] at this
   cases this
 ·have p:k.less y.k=true:=by
   have:=q5a (kids.map (·.k)) k kids.length q (by omega) (by omega);rw[q5d kids (by omega),J] at this;exact this
  cases u:x.k.same k with
  |false=>rfl
  |true=>
   have f:x.k.less y.k=true:=by rw[<-q5b u];exact p
   rw[G] at d;rcases List.mem_cons.1 d with rfl|d
   ·rw[q4n] at f;cases f
   ·have H:=q5z F q;rw[G] at H;have P:=(List.pairwise_cons.1 H).1 x d;rw[qbk P] at f;cases f
theorem qli {its:List Qg}(H:Qk its)(k:Kd):valOf its k=if Kz (its.map (·.k)) k (lead (its.map (·.k)) k)=true then some (Qz its (lead (its.map (·.k)) k)).v else none:=by
 obtain⟨j,u⟩:∃j,lead (its.map (·.k)) k=j:=⟨_,rfl⟩;have G:j<=its.length:=by have:=qbi (its.map (·.k)) k;rw[List.length_map] at this;omega
 rw[u];have F:∀q,q<j->(Qz its q).k.less k=true:=λq f=>by
  have:=q6k (its.map (·.k)) k q (by omega);rwa [q1b its (by omega)] at this
 have b:∀q (f:q<its.length),q≠j\/(Qz its j).k.same k=false->(its[q]).k.same k=false:=λq f y=>by
  have e:Qz its q=its[q]:=by unfold Qz;rw[List.getD_eq_getElem?_getD,List.getElem?_eq_getElem f];rfl
  cases m:(its[q]).k.same k with
  |false=>rfl
  |true=>
   rcases Nat.lt_trichotomy q j with h1|h1|h1
   ·have h2:=F q h1;rw[e,q7o m,q4n] at h2
    cases h2
   ·subst h1;rcases y with h2|h2
    ·exact absurd rfl h2
    ·rw[e,m] at h2;cases h2
   ·have D:(Qz its j).k.less k=false:=by
     have:=qbj (its.map (·.k)) k (by rw[u,List.length_map];omega);rwa [u,q1b its (by omega)] at this
    have E:=List.pairwise_iff_getElem.1 H j q (by omega) f h1;have p:Qz its j=its[j]'(by omega):=by unfold Qz;rw[List.getD_eq_getElem?_getD,List.getElem?_eq_getElem (by omega)];rfl
    rw[p,q7o m,E] at D
    cases D
 unfold valOf Kz;rw[List.length_map];by_cases d:j<its.length
 ·rw[decide_eq_true d,Bool.true_and,q1b its d];have p:Qz its j=its[j]:=by unfold Qz;rw[List.getD_eq_getElem?_getD,List.getElem?_eq_getElem d];rfl
  cases m:(Qz its j).k.same k with
  |true=>
   rw[if_pos rfl];have:its.find? (λx=>x.k.same k)=some its[j]:=by
    rw[List.find?_eq_some_iff_getElem];refine⟨by rw[<-p];exact m,j,d,rfl,λq f=>?_⟩;rw[b q (by omega) (.inl (by omega))];rfl
   rw[this,p];rfl
  |false=>
   have:its.find? (λx=>x.k.same k)=none:=by
    rw[List.find?_eq_none];intro x B;obtain⟨q,f,e⟩:=List.getElem_of_mem B;rw[<-e,b q f (.inr m)];simp
   rw[this];rfl
 ·rw[decide_eq_false d,Bool.false_and];have:its.find? (λx=>x.k.same k)=none:=by
   rw[List.find?_eq_none];intro x B;obtain⟨q,f,e⟩:=List.getElem_of_mem B;rw[<-e,b q f (.inl (by omega))];simp
  rw[this];rfl
def Ac (R:Int->Nd × Int)(k:Kd):Nat->Int->List UInt8 × Int
 |0,a=>if (R a).2≠0 then ([],(R a).2) else if (R a).1.lvl≠0 then ([],5) else if Kz (R a).1.keys k ((R a).1.Zb k)=true then ((Qz (R a).1.items ((R a).1.Zb k)).v,0) else ([],10)
 |l+1,a=>if (R a).2≠0 then ([],(R a).2) else if (R a).1.lvl≠((l+1:Nat):Int) then ([],5) else Ac R k l (Qh (R a).1.kids ((R a).1.Zb k)).a
def Tq (o:Option (List UInt8)):List UInt8 × Int:=match o with|some v=>(v,0)|none=>([],10)
theorem q60 {R:Int->Nd × Int}:∀{l:Nat} {a:Int} {its:List Qg},Qi R l a its->∃x r,its=x::r
 |0,a,its,h=>by
  match its,h.2 with
  |x::r,_=>exact⟨x,r,rfl⟩
 |l+1,a,its,h=>by
  obtain⟨kids,parts,_,h2,b,rfl,f⟩:=h;have d:0<kids.length:=List.length_pos_iff.2 h2;obtain⟨_,x,r,e,_⟩:=f 0 d;match parts,b with
  |[],b=>rw[<-b] at d;cases d
  |p::ps,_=>
   have e:p=x::r:=e;exact⟨x,r++ps.flatten,by rw[List.flatten_cons,e];rfl⟩
theorem qhf {R:Int->Nd × Int}(k:Kd):∀(l:Nat) (a:Int) (its:List Qg),Qi R l a its->Qk its->Ac R k l a=Tq (valOf its k)
 |0,a,its,h,hr=>by
  obtain⟨h1,_⟩:=h;have f:(⟨0,its,[]⟩:Nd).Zb k=lead (its.map (·.k)) k:=by
   unfold Nd.Zb;rw[if_pos rfl,q1v]
  unfold Ac;rw[h1];dsimp only;rw[if_neg (by simp),if_neg (by simp),f,q1v,qli hr];split<;>rfl
 |l+1,a,its,h,hr=>by
  obtain⟨kids,part,h1,_,b,d,e⟩:=qvj h hr k;unfold Ac;rw[h1];dsimp only;rw[if_neg (by simp),if_neg (by simp),qhf k l _ part b d,e]
def Wq (k:Kd)(v:List UInt8):Bool->List Qg->List Qg
 |done,[]=>if done=true then [] else [⟨k,v⟩]
 |done,x::r=>(if (!done&&(k.less x.k||x.k.same k))=true then [⟨k,v⟩] else [])++((if x.k.same k=true then [] else [x])++Wq k v (done||(k.less x.k||x.k.same k)) r)
theorem qbl (k:Kd)(v:List UInt8):∀(l:List Qg),(∀x∈l,x.k.same k=false)->Wq k v true l=l
 |[],_=>rfl
 |x::r,h=>by
  unfold Wq;rw[h x (List.mem_cons_self ..),Bool.true_or,qbl k v r λy b=>h y (List.mem_cons_of_mem _ b)];rfl
theorem q0f {a b:Kd}(h:a.less b=true):a.same b=false/\b.same a=false:=by
 constructor
 ·cases d:a.same b with
  |false=>rfl
  |true=>have:=q5b (a:=b) d;rw[q4n,h] at this;cases this
 ·cases d:b.same a with
  |false=>rfl
  |true=>have:=q7o (a:=a) d;rw[q4n,h] at this;cases this
theorem q2j {k:Kd}{v:List UInt8}{x:Qg}{r:List Qg}(m:Qk (x::r)) :
  Wq k v false (x::r)=if k.less x.k=true then ⟨k,v⟩::x::r else if x.k.same k=true then ⟨k,v⟩::r else x::Wq k v false r:=by
 obtain⟨h1,h2⟩:=List.pairwise_cons.1 m;rw[Wq];by_cases b:k.less x.k=true
 ·rw[if_pos b,b];have d:=(q0f b).2;rw[d];show [(⟨k,v⟩:Qg)]++([x]++Wq k v true r)=_;rw[qbl]
  ·rfl
  ·intro y e;exact (q0f (Kd.trans _ _ _ b (h1 y e))).2
 ·have b:k.less x.k=false:=by simpa using b
  rw[b];by_cases d:x.k.same k=true
  ·rw[d];show [(⟨k,v⟩:Qg)]++([]++Wq k v true r)=_;rw[qbl]
   ·rfl
   ·intro y e;have f:=h1 y e;rw[<-q5b d] at f;exact (q0f f).2
  ·have d:x.k.same k=false:=by simpa using d
   rw[d];rfl
theorem q7p {k:Kd}{v:List UInt8}:∀{l:List Qg},Qk l->∀y∈Wq k v false l,y=⟨k,v⟩\/y∈l
 |[],_,y,hy=>.inl (by simpa [Wq] using hy)
 |x::r,hr,y,hy=>by
  rw[q2j hr] at hy;have b:=(List.pairwise_cons.1 hr).2;split at hy
  ·rcases List.mem_cons.1 hy with h|h
   ·exact .inl h
   ·exact .inr h
  ·split at hy
   ·rcases List.mem_cons.1 hy with h|h
    ·exact .inl h
    ·exact .inr (List.mem_cons_of_mem _ h)
   ·rcases List.mem_cons.1 hy with h|h
    ·exact .inr (h▸List.mem_cons_self ..)
    ·rcases q7p b y h with h|h
     ·exact .inl h
     ·exact .inr (List.mem_cons_of_mem _ h)
theorem q61 {k:Kd}{v:List UInt8}:∀{l:List Qg},Qk l->Qk (Wq k v false l)
 |[],_=>by
  show Qk [⟨k,v⟩];exact List.pairwise_singleton ..
 |x::r,hr=>by
  obtain⟨h1,h2⟩:=List.pairwise_cons.1 hr;rw[q2j hr];split
  ·rename_i d;refine List.pairwise_cons.2 ⟨λy b=>?_,hr⟩;rcases List.mem_cons.1 b with rfl|b
   ·exact d
   ·exact Kd.trans _ _ _ d (h1 y b)
  ·rename_i d;split
   ·rename_i e;exact List.pairwise_cons.2 ⟨λy b=>by show k.less y.k=true;rw[q5b e];exact h1 y b,h2⟩
   ·rename_i e;have f:x.k.less k=true:=by
     rcases Kd.total x.k k with⟨h,_,_⟩|⟨_,h,_⟩|⟨_,_,h⟩
     ·exact h
     ·exact absurd h d
     ·exact absurd (by rw[h,Kd.same_iff];exact⟨rfl,rfl,rfl⟩) e
    refine List.pairwise_cons.2 ⟨λy b=>?_,q61 h2⟩;rcases q7p h2 y b with rfl|b
    ·exact f
    ·exact h1 y b
theorem q9x {k:Kd}{v:List UInt8}:∀{l:List Qg},Qk l->(Wq k v false l).length<=l.length+1
 |[],_=>by simp[Wq]
 |x::r,hr=>by
  rw[q2j hr];have:=q9x (k:=k) (v:=v) (List.pairwise_cons.1 hr).2;split
  ·simp
  ·split<;>simp<;>omega
structure Qcu (l:List Qg)(m:Nat):Prop where
 Qk:Qk l
 may:∀x∈l,x.k.may=true/\x.v.length<=28
 len:l.length<=m
theorem Vw.cell {w:World}{A:Option Addr}{n c:Nat}{zs:List Int}(h:Vw w A n c zs){j:Nat}(hj:j<n):∃g o,A=some ⟨g,o,none⟩/\g<w.1.size/\w.cell? ⟨g,o+j,none⟩=some (.int .i64 (zs.getD j 0)):=by
 have f:zs.length=n:=by simpa using Js.len h
 obtain⟨g,o,e,b,_,d⟩:=h.2.2.2 j (iv (zs.getD j 0)) (by rw[List.getElem?_map,List.getD_eq_getElem?_getD,List.getElem?_eq_getElem (by omega)];rfl);have:=d 0 _ rfl;rw[Nat.mul_one,Nat.add_zero] at this;exact⟨g,o,e,b,this⟩
