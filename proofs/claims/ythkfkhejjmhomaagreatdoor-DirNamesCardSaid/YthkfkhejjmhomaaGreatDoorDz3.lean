/- Rows of structs: slices whose elements are rows of s cells; nothing here speaks of one pro -/
import Derived.Test.YthkfkhejjmhomaaGreatDoorDz2
import Derived.Deep.MidRow
import Derived.Deep.Slices
import Derived.Deep.Fields
import Derived.WideShapes
import Derived.Deep.WholeRow
import Derived.Test.YthkfkhejjmhomaaGreatDoorChecked
namespace Go.Proofs.YthkfkhejjmhomaaGreatDoor
open Go Go.RowKit Go.Proofs
set_option maxHeartbeats 1000000
set_option maxRecDepth 100000
def Zg (w:World)(s:Nat)(A:Option Addr)(n c:Nat)(xs:List (List Value)):Prop:=
 xs.length=n/\n<=c/\c<=maxLen/\∀(j:Nat) x,xs[j]?=some x->∃g o,A=some ⟨g,o,none⟩/\g<w.1.size/\x.length=s/\w.rangeAt g (o+j*s) x
section
variable {w w':World}{s n c:Nat}{A:Option Addr}{xs:List (List Value)}
theorem Zg.len (h:Zg w s A n c xs):xs.length=n:=h.1
theorem Zg.cap (h:Zg w s A n c xs):n<=c:=h.2.1
theorem Zg.max (h:Zg w s A n c xs):c<=maxLen:=h.2.2.1
theorem Zg.keep (h:Zg w s A n c xs)(hz:w.1.size<=w'.1.size)(hk:∀g o,A=some ⟨g,o,none⟩->g<w.1.size->w'.1[g]?=w.1[g]?):Zg w' s A n c xs:=
 ⟨h.1,h.2.1,h.2.2.1,λj x q=>by
  obtain⟨g,o,e,d,f,m⟩:=h.2.2.2 j x q;exact⟨g,o,e,by omega,f,λi v p=>(World.cell?_of_block (a:=⟨g,o+j*s+i,none⟩) (hk g o e d)).trans (m i v p)⟩⟩
theorem Zg.below (h:Zg w s A n c xs)(hb:Below w.1.size w w'):Zg w' s A n c xs:=h.keep hb.size λg _ _ d=>hb.block g d
theorem Zg.take (h:Zg w s A n c xs){k:Nat}(hk:k<=n):Zg w s A k c (xs.take k):=by
 refine⟨by have:=h.len;simp;omega,by have:=h.cap;omega,h.max,λj x d=>h.2.2.2 j x ?_⟩;rw[List.getElem?_take] at d;split at d
 ·exact d
 ·cases d
theorem Zg.at_ (h:Zg w s A n c xs){j:Nat}(hj:j<n):∃g o,A=some ⟨g,o,none⟩/\g<w.1.size/\(xs.getD j []).length=s/\w.rangeAt g (o+j*s) (xs.getD j []):=by
 have d:j<xs.length:=by have:=h.len;omega
 exact h.2.2.2 j _ (by simp[List.getD,d])
theorem Qf0 (w:World)(s:Nat):Zg w s none 0 0 []:=⟨rfl,Nat.le_refl _,Nat.zero_le _,λj u d=>by simp at d⟩
end
structure Bc (P:Program)(t e:TypeId)(s b:Nat)(z:Value):Prop where
 sl:P.underlying t=some (.slice e)
 info:(P.info? e).map (λi=>(i.zero,i.size,i.bytes))=some (some z,s,b)
 cells:z.cells.size=s
 pos:0<s
def Qr (w:World)(base:Nat)(e:TypeId)(s:Nat)(A:Option Addr)(n c:Nat)(xs:List (List Value)):Prop:=w.ownsRow base e s (.slice A n c) n xs.flatten/\∀x∈xs,x.length=s
theorem Am {s:Nat}:∀{xs:List (List Value)},(∀x∈xs,x.length=s)->xs.flatten.length=xs.length*s
 |[],_=>by simp
 |x::xs,h=>by
  rw[List.flatten_cons,List.length_append,Am (λy d=>h y (List.mem_cons_of_mem _ d)),h x (List.mem_cons_self ..),List.length_cons,Nat.add_mul,Nat.one_mul,Nat.add_comm]
theorem Ap {s:Nat}:∀{xs:List (List Value)},(∀x∈xs,x.length=s)->∀(j:Nat) x,xs[j]?=some x->∀(i:Nat) v,x[i]?=some v->xs.flatten[j*s+i]?=some v
 |[],_,j,x,hx,_,_,_=>by simp at hx
 |y::xs,h,0,x,hx,i,v,hv=>by
  obtain rfl:y=x:=by simpa using hx
  rw[List.flatten_cons,Nat.zero_mul,Nat.zero_add,List.getElem?_append_left (List.getElem?_eq_some_iff.1 hv).1];exact hv
 |y::xs,h,j+1,x,hx,i,v,hv=>by
  have d:=h y (List.mem_cons_self ..);rw[List.flatten_cons,List.getElem?_append_right (by rw[d,Nat.add_mul];omega),d,show (j+1)*s+i-s=j*s+i by rw[Nat.add_mul];omega];exact Ap (λz f=>h z (List.mem_cons_of_mem _ f)) j x (by simpa using hx) i v hv
theorem Zdt {s:Nat}(p:0<s){xs:List (List Value)}(h:∀x∈xs,x.length=s)(m:Nat)(v:Value)(f:xs.flatten[m]?=some v):∃x,xs[m / s]?=some x/\x[m % s]?=some v:=by
 have hm:m<xs.length*s:=by rw[<-Am h];exact (List.getElem?_eq_some_iff.1 f).1
 have d:m / s<xs.length:=Nat.div_lt_of_lt_mul (by rw[Nat.mul_comm];exact hm);have g:xs[m / s]?=some xs[m / s]:=List.getElem?_eq_getElem d;have hi:m % s<xs[m / s].length:=by rw[h _ (List.getElem_mem d)];exact Nat.mod_lt _ p
 refine⟨_,g,?_⟩;have h2:=Ap h (m / s) _ g (m % s) _ (List.getElem?_eq_getElem hi);rw[Nat.mul_comm,Nat.div_add_mod] at h2;rw[List.getElem?_eq_getElem hi,<-f,h2]
section
variable {w w':World}{base s n c:Nat}{e:TypeId}{A:Option Addr}{xs:List (List Value)}
theorem Qr.len (h:Qr w base e s A n c xs)(hs:0<s):xs.length=n:=by
 have h1:=h.1.1;rw[Am h.2] at h1;exact Nat.eq_of_mul_eq_mul_right hs h1
theorem Qr.Hr (h:Qr w base e s A n c xs)(hs:0<s):Zg w s A n c xs:=by
 have E:=h.len hs;refine⟨E,?_,?_,λj x q=>?_⟩
 ·rcases h.1.2 with⟨d,rfl⟩|⟨g,cap,f,d,_,_,h1,h2,_⟩
  ·omega
  ·injection d with _ _ p;omega
 ·rcases h.1.2 with⟨d,rfl⟩|⟨g,cap,f,d,_,_,h1,h2,_⟩
  ·injection d with _ _ p;unfold maxLen;omega
  ·injection d with _ _ p;omega
 ·have G:=(List.getElem?_eq_some_iff.1 q).1;rcases h.1.2 with⟨d,rfl⟩|⟨g,cap,f,d,F,u,h1,h2,p,y⟩
  ·omega
  ·have B:A=some ⟨g,0,none⟩:=by injection d
   refine⟨g,0,B,(Array.getElem?_eq_some_iff.1 u).1,h.2 x (List.mem_of_getElem? q),λi v hi=>?_⟩;have m:=Ap h.2 j x q i v hi;rw[<-y,List.getElem?_take] at m;split at m
   ·rw[cell_of_row _ _ _ _ _ _ u,Nat.zero_add];simpa using m
   ·cases m
theorem Qr.less {b:Nat}(h:Qr w base e s A n c xs)(hb:b<=base):Qr w b e s A n c xs:=by
 refine⟨⟨h.1.1,?_⟩,h.2⟩;rcases h.1.2 with f|⟨g,cap,d,f,h1,r⟩
 ·exact .inl f
 ·exact .inr ⟨g,cap,d,f,Nat.le_trans hb h1,r⟩
theorem Qr.keep (h:Qr w base e s A n c xs)(hk:∀g,base<=g->g<w.1.size->w'.1[g]?=w.1[g]?):Qr w' base e s A n c xs:=by
 refine⟨⟨h.1.1,?_⟩,h.2⟩;rcases h.1.2 with f|⟨g,cap,d,f,h1,m,r⟩
 ·exact .inl f
 ·exact .inr ⟨g,cap,d,f,h1,(hk g h1 (Array.getElem?_eq_some_iff.1 m).1).trans m,r⟩
theorem Qr.below (h:Qr w base e s A n c xs)(hb:Below w.1.size w w'):Qr w' base e s A n c xs:=h.keep λg _ d=>hb.block g d
theorem Lp (w:World)(base:Nat)(e:TypeId)(s:Nat):Qr w base e s none 0 0 []:=⟨⟨by simp,.inl ⟨rfl,rfl⟩⟩,λx d=>by simp at d⟩
theorem Qwm (w:World)(e:TypeId)(s:Nat):Qr (w.alloc (.cells #[] e)) w.1.size e s (some ⟨w.1.size,0,none⟩) 0 0 []:=
 ⟨⟨by simp,.inr ⟨w.1.size,0,#[],rfl,Nat.le_refl _,heap_alloc_new w _,Nat.le_refl _,Nat.zero_le _,by simp,by simp⟩⟩,λx d=>by simp at d⟩
theorem Np (w:World)(e:TypeId)(s:Nat)(x:List Value)(d:Array Value)(f:d=x.toArray)(g:x.length=s):Qr (w.alloc (.cells d e)) w.1.size e s (some ⟨w.1.size,0,none⟩) 1 1 [x]:=by
 subst f;subst g;refine⟨⟨by simp,.inr ⟨w.1.size,1,x.toArray,rfl,Nat.le_refl _,heap_alloc_new w _,Nat.le_refl _,by unfold maxLen;omega,by simp,by simp⟩⟩,λy m=>?_⟩;obtain rfl:y=x:=by simpa using m
 rfl
end
section
variable {P:Program}{t e:TypeId}{s b:Nat}{z:Value}(w:World)
theorem Qfw (T:Bc P t e s b z)(ty:TypeId)(base:Nat)(A:Option Addr)(n c:Nat)(xs:List (List Value))(p:Qr w base e s A n c xs)
  (B:Option Addr) (m d:Nat) (F:List (List Value)) (Q:Zg w s B m d F) (X:0<m) (h1:∀y∈F,∀u∈y,u.oneCell'=true) (Y:n+m<=1000000) (hb:b<=100000) (f:base<=w.1.size) :
  ∃A' c' w',(Builtin.append_ #[t,t] ty #[.slice A n c,.slice B m d]).run P w=.ok (.slice A' (n+m) c') w'/\Qr w' base e s A' (n+m) c' (xs++F)/\Below base w w':=by
 obtain⟨i,hi,a1,a2,a6⟩:=info_parts T.info;obtain⟨g,o,rfl,hg,a7,a8⟩:=Q.at_ X;have E:∀y∈F,y.length=s:=λy M=>by
  obtain⟨j,hj⟩:=List.mem_iff_getElem?.1 M;obtain⟨_,_,_,_,h,_⟩:=Q.2.2.2 j y hj;exact h
 have q:∀j u,F.flatten[j]?=some u->w.cell? ((⟨g,o,none⟩:Addr).add j)=some u:=by
  intro j u J;obtain⟨y,M,K⟩:=Zdt T.pos E j u J;obtain⟨g',o',U,_,_,Z⟩:=Q.2.2.2 _ y M;injection U with U;injection U with e1 e2;subst e1 e2;have:=Z _ u K;rw[Addr.add_mid];rw[Nat.add_assoc,Nat.mul_comm,Nat.div_add_mod] at this;exact this
 have V:(n+m)*b<=140737488355328:=Nat.le_trans (Nat.mul_le_mul Y hb) (by decide);obtain⟨v',w',I,h2,h3,h4,_⟩:=run_append_own_at (P:=P) w base t ty e i z s b T.sl hi a1 a2 a6 T.cells T.pos _ n _ p.1 ⟨g,o,none⟩ m d F.flatten (by rw[Am E,Q.len]) q (λu J=>by
  obtain⟨y,M,J⟩:=List.mem_flatten.1 J;exact h1 y M u J) (by unfold maxLen;omega) V f
 have hB:Below base w w':=(Below.refl _ _).grown h3 f (λk O=>by
  rcases p.1.2 with⟨K,_⟩|⟨g,cap,R,K,h1,_⟩
  ·rw[K] at O;simp[Value.ownBlock] at O
  ·rw[K] at O;simp[Value.ownBlock] at O;omega)
 rw[<-List.flatten_append] at h2;have G:∀x∈xs++F,x.length=s:=λx hx=>by
  rcases List.mem_append.1 hx with h|h
  ·exact p.2 x h
  ·exact E x h
 rcases h2.2 with⟨rfl,h0⟩|⟨g',cap,R,rfl,_⟩
 ·omega
 ·exact⟨_,_,w',I,⟨h2,G⟩,hB⟩
theorem Qhl (T:Bc P t e s b z){E:Array Oper}{f:List Oper}{o:Oper}{a:Act}{Q:Exit->Act->World->Prop}(J:o.guard=none)(R x:Operand)
  (Y:o.op=.call { callee:=.builtin .append,args:=#[R,x],argTypes:=#[t,t] })
  (base:Nat) (A:Option Addr) (n c:Nat) (xs:List (List Value)) (hs:a.eval R=.slice A n c) (p:Qr w base e s A n c xs)
  (B:Option Addr) (m d:Nat) (I:List (List Value)) (hx:a.eval x=.slice B m d) (Z:Zg w s B m d I) (M:0<m) (h1:∀y∈I,∀u∈y,u.oneCell'=true) (O:n+m<=1000000) (X:b<=100000) (g:base<=w.1.size)
  (h:∀F G w',Qr w' base e s F (n+m) G (xs++I)->Below base w w'->wpList P E Q f (a.put o.dst (.slice F (n+m) G)) w'):wpList P E Q (o::f) a w:=
 wpList_plain J λK V=>by
  obtain⟨F,G,w',q,h2,U⟩:=Qfw (P:=P) w T o.type base A n c xs p B m d I Z M h1 O X g;unfold Oper.wp execOp;simp only[Y,resolve,invoke,builtin,Sem.run_bind,Sem.run_pure,Result.andThen_ok,List.map_toArray,List.map_cons,List.map_nil,hs,hx,q];exact V _ _ (h F G w' h2 U)
end
section
open Go.ChangeShapes Go.WideShapes Go.ChangeAt Go.Deep
structure Qq where
 k:Kd
 v:List UInt8
structure Qk where
 k:Kd
 a:Int
structure Nd where
 lvl:Int
 items:List Qq
 kids:List Qk
def Qk.vs (x:Qk):List Value:=[.int .i64 x.k.obj,.int .i64 x.k.kind,.int .i64 x.k.off,.int .i64 x.a]
def X0 (w:World)(r:List Value)(x:Qq):Prop:=∃B m d,r=[.int .i64 x.k.obj,.int .i64 x.k.kind,.int .i64 x.k.off,.slice B m d]/\Sl w B m d x.v
def Je (w:World)(A:Option Addr)(n c:Nat)(xs:List Qq):Prop:=∃d,Zg w 4 A n c d/\d.length=xs.length/\∀(j:Nat) r x,d[j]?=some r->xs[j]?=some x->X0 w r x
def Q7 (w:World)(A:Option Addr)(n c:Nat)(xs:List Qk):Prop:=Zg w 4 A n c (xs.map Qk.vs)
section
variable {w w':World}{n c:Nat}{A:Option Addr}
theorem X0.below {r:List Value}{x:Qq}(h:X0 w r x)(hb:Below w.1.size w w'):X0 w' r x:=by
 obtain⟨B,m,d,e,f⟩:=h;exact⟨B,m,d,e,f.below hb⟩
theorem Je.below {xs:List Qq}(h:Je w A n c xs)(hb:Below w.1.size w w'):Je w' A n c xs:=by
 obtain⟨d,h1,h2,f⟩:=h;exact⟨d,h1.below hb,h2,λj r x g m=>(f j r x g m).below hb⟩
theorem Q7.below {xs:List Qk}(h:Q7 w A n c xs)(hb:Below w.1.size w w'):Q7 w' A n c xs:=Zg.below h hb
theorem Je.len {xs:List Qq}(h:Je w A n c xs):xs.length=n:=by
 obtain⟨d,h1,h2,_⟩:=h;rw[<-h2];exact h1.len
theorem Q7.len {xs:List Qk}(h:Q7 w A n c xs):xs.length=n:=by simpa using Zg.len h
theorem Je.bounds {xs:List Qq}(h:Je w A n c xs):n<=c/\c<=maxLen:=by
 obtain⟨d,h1,_⟩:=h;exact⟨h1.cap,h1.max⟩
theorem Q7.bounds {xs:List Qk}(h:Q7 w A n c xs):n<=c/\c<=maxLen:=⟨Zg.cap h,Zg.max h⟩
theorem Je.take {xs:List Qq}(h:Je w A n c xs){k:Nat}(hk:k<=n):Je w A k c (xs.take k):=by
 obtain⟨g,h1,h2,m⟩:=h;refine⟨g.take k,h1.take hk,by simp[h2],λj r x d f=>?_⟩;rw[List.getElem?_take] at d f;split at d
 ·rename_i p;rw[if_pos p] at f;exact m j r x d f
 ·cases d
theorem Q7.take {xs:List Qk}(h:Q7 w A n c xs){k:Nat}(hk:k<=n):Q7 w A k c (xs.take k):=by
 have:=Zg.take h hk;rw[<-List.map_take] at this;exact this
def Qx (xs:List Qq)(j:Nat):Qq:=xs.getD j ⟨⟨0,0,0⟩,[]⟩
def Ql (xs:List Qk)(j:Nat):Qk:=xs.getD j ⟨⟨0,0,0⟩,0⟩
def keyAt (xs:List Kd)(j:Nat):Kd:=xs.getD j ⟨0,0,0⟩
theorem Ae {xs:List Qq}{j:Nat}(h:j<xs.length):xs[j]?=some (Qx xs j):=by simp[Qx,List.getD,h]
theorem q32 {xs:List Qk}{j:Nat}(h:j<xs.length):xs[j]?=some (Ql xs j):=by simp[Ql,List.getD,h]
theorem Je.cell {xs:List Qq}(h:Je w A n c xs){j:Nat}(hj:j<n):∃g o B m d,A=some ⟨g,o,none⟩/\g<w.1.size/\w.cell? ⟨g,o+j*4,none⟩=some (.int .i64 (Qx xs j).k.obj)/\w.cell? ⟨g,o+j*4+1,none⟩=some (.int .i64 (Qx xs j).k.kind)/\
  w.cell? ⟨g,o+j*4+2,none⟩=some (.int .i64 (Qx xs j).k.off)/\w.cell? ⟨g,o+j*4+3,none⟩=some (.slice B m d)/\Sl w B m d (Qx xs j).v:=by
 have F:=h.len;obtain⟨p,h1,h2,u⟩:=h;have q:p[j]?=some (p[j]'(by omega)):=List.getElem?_eq_getElem (by omega);obtain⟨B,m,d,e,E⟩:=u j _ _ q (Ae (by omega));obtain⟨g,o,rfl,y,_,f⟩:=h1.2.2.2 j _ q;rw[e] at f;exact⟨g,o,B,m,d,rfl,y,f 0 _ rfl,f 1 _ rfl,f 2 _ rfl,f 3 _ rfl,E⟩
theorem Q7.cell {xs:List Qk}(h:Q7 w A n c xs){j:Nat}(hj:j<n):∃g o,A=some ⟨g,o,none⟩/\g<w.1.size/\w.cell? ⟨g,o+j*4,none⟩=some (.int .i64 (Ql xs j).k.obj)/\w.cell? ⟨g,o+j*4+1,none⟩=some (.int .i64 (Ql xs j).k.kind)/\
  w.cell? ⟨g,o+j*4+2,none⟩=some (.int .i64 (Ql xs j).k.off)/\w.cell? ⟨g,o+j*4+3,none⟩=some (.int .i64 (Ql xs j).a):=by
 have m:=h.len;obtain⟨g,o,rfl,f,_,d⟩:=h.2.2.2 j (Ql xs j).vs (by rw[List.getElem?_map,q32 (by omega)];rfl);exact⟨g,o,rfl,f,d 0 _ rfl,d 1 _ rfl,d 2 _ rfl,d 3 _ rfl⟩
theorem Qo1 (w:World):Je w none 0 0 []:=⟨[],Qf0 w 4,rfl,λj r x d=>by simp at d⟩
theorem Qo5 (w:World):Q7 w none 0 0 []:=Qf0 w 4
end
section
variable {H:Type}{enc:TypeId × Value->H}{P:Program}{W:World}
structure A8 (P:Program)(t:TypeId)(f0 f1 f2:Field):Prop where
 st:P.underlying t=some (.struct #[f0,f1,f2])
 one:oneCellFields P #[f0,f1,f2]=true
 cells:P.cellsOf t=3
 h0:P.underlying f0.type=some (.int .i64)
 h1:P.underlying f1.type=some (.int .i64)
 h2:P.underlying f2.type=some (.int .i64)
end
end
section
open Go.ChangeMaps (setBlock)
structure Turn (S:Nat->Prop)(w w':World):Prop where
 os:w'.os=w.os
 tape:w'.tape=w.tape
 output:w'.output=w.output
 size:w.heap.size<=w'.heap.size
 block:∀k,k<w.heap.size->¬S k->w'.heap[k]?=w.heap[k]?
section
variable {S S':Nat->Prop}{w w' w'':World}
theorem Turn.refl (S:Nat->Prop)(w:World):Turn S w w:=⟨rfl,rfl,rfl,Nat.le_refl _,λ_ _ _=>rfl⟩
theorem Turn.trans (h:Turn S w w')(k:Turn S' w' w'')(hs:∀x,S' x->S x\/w.1.size<=x):Turn S w w'':=
 ⟨k.os.trans h.os,k.tape.trans h.tape,k.output.trans h.output,Nat.le_trans h.size k.size,λi hi hn=>(k.block i (Nat.lt_of_lt_of_le hi h.size) (λd=>by rcases hs i d with h1|h1;exact hn h1;omega)).trans (h.block i hi hn)⟩
theorem Turn.then (h:Turn S w w')(k:Turn S w' w''):Turn S w w'':=h.trans k λ_=>.inl
theorem Turn.mono (h:Turn S w w')(hs:∀x,S x->S' x):Turn S' w w':=⟨h.os,h.tape,h.output,h.size,λk d hn=>h.block k d λf=>hn (hs k f)⟩
theorem Turn.drew (h:Turn S w w'):Turn S w w'.drew:=⟨h.os,h.tape,h.output,h.size,h.block⟩
theorem Uk (h:Below w.1.size w w'):Turn S w w':=⟨h.os,h.tape,h.output,h.size,λk d _=>h.block k d⟩
theorem Turn.below {B:Nat}(h:Turn S w w')(hs:∀x,S x->B<=x)(hB:B<=w.1.size):Below B w w':=
 ⟨h.os,h.tape,h.output,h.size,λk f=>h.block k (by omega) λd=>by have:=hs k d;omega⟩
theorem Qs3 (S:Nat->Prop)(w:World)(o:Obj):Turn S w (w.alloc o):=Uk ((Below.refl _ _).alloc (Nat.le_refl _) o)
theorem Qs4 {row:Option Nat}(h:w.grownBy w' row)(f:∀k,row=some k->S k):Turn S w w':=
 ⟨h.os,h.tape,h.output,h.size,λk d hn=>h.block k d λe=>hn (f k e.symm)⟩
theorem Gi {a:Addr}(u:Value)(h:S a.block):Turn S w (w.setCell a u):=
 ⟨rfl,rfl,rfl,by simp[World.setCell],λk _ hn=>Below.heap_setCell _ _ _ _ (λe=>hn (e▸h))⟩
theorem Gg {b:Nat}(h:S b):∀(vs:List Value) (o:Nat) (w:World),Turn S w (w.setCells b o vs)
 |[],_,w=>Turn.refl S w
 |v::r,o,w=>by
  rw[World.setCells];exact (Gi (a:=⟨b,o,none⟩) v h).then (Gg h r (o+1) _)
theorem Gh {b:Nat}(o:Obj)(h:S b):Turn S w (setBlock w b o):=
 ⟨rfl,rfl,rfl,by simp[setBlock],λk _ hn=>by
  show (w.1.setIfInBounds b o)[k]?=_;rw[Array.getElem?_setIfInBounds_ne (λ(e:b=k)=>hn (e▸h))]⟩
theorem setCells_size (b:Nat):∀(vs:List Value) (o:Nat) (w:World),(w.setCells b o vs).1.size=w.1.size
 |[],_,w=>rfl
 |v::r,o,w=>by rw[World.setCells,setCells_size b r];simp[World.setCell]
theorem Qkt (w:World)(b:Nat)(o:Obj):(setBlock w b o).1.size=w.1.size:=by simp[setBlock]
theorem Gl {b:Nat}{o:Obj}(h:b<w.1.size):(setBlock w b o).1[b]?=some o:=by
 show (w.1.setIfInBounds b o)[b]?=_;rw[Array.getElem?_setIfInBounds_self_of_lt h]
theorem setCell_at {b j:Nat}{c:Array Value}{t:TypeId}{fr:Nat × Nat}(u:Value)(h:w.1[b]?=some (.cells c t fr)):(w.setCell ⟨b,j,none⟩ u).1[b]?=some (.cells (c.setIfInBounds j u) t fr):=by
 simp[World.setCell,Array.getElem?_modify,h]
theorem Jq {b:Nat}{o:Obj}(h:w.1[b]?=some o):b<w.1.size:=(Array.getElem?_eq_some_iff.1 h).1
theorem Dh {b o:Nat}{d:List Value}(h:w.rangeAt b o d)(e:w'.1[b]?=w.1[b]?):w'.rangeAt b o d:=λj v f=>(World.cell?_of_block (a:=⟨b,o+j,none⟩) e).trans (h j v f)
theorem Di {b o n:Nat}(h:w.there b o n)(e:w'.1[b]?=w.1[b]?):w'.there b o n:=λj d=>by
 obtain⟨h1,h2⟩:=h j d;exact⟨by rw[World.cell?_of_block (a:=⟨b,o+j,none⟩) e];exact h1,by rw[World.frozen?_of_block (a:=⟨b,o+j,none⟩) e];exact h2⟩
theorem Un {base:Nat}{e:TypeId}{size n:Nat}{v:Value}{xs:List Value}(h:w.ownsRow base e size v n xs)(p:∀g,v.ownBlock=some g->w'.1[g]?=w.1[g]?):w'.ownsRow base e size v n xs:=by
 refine⟨h.1,?_⟩;rcases h.2 with d|⟨g,cap,f,d,h1,m,r⟩
 ·exact .inl d
 ·exact .inr ⟨g,cap,f,d,h1,(p g (by rw[d];rfl)).trans m,r⟩
theorem Qgo {base:Nat}{e:TypeId}{size n:Nat}{v:Value}{xs:List Value}(h:w.ownsRow base e size v n xs)(hn:0<n):∃g c,v=.slice (some ⟨g,0,none⟩) n c/\n<=c/\c<=maxLen:=by
 rcases h.2 with d|⟨g,cap,f,d,_,_,h1,h2,_⟩
 ·omega
 ·exact⟨g,cap,d,h1,h2⟩
theorem Qz4 {base:Nat}{e:TypeId}{size n:Nat}{v:Value}{xs:List Value}(h:w.ownsRow base e size v n xs):∃A c,v=.slice A n c/\n<=c/\c<=maxLen:=by
 rcases h.2 with⟨rfl,rfl⟩|⟨g,cap,d,f,_,_,h1,h2,_⟩
 ·exact⟨none,0,rfl,Nat.le_refl _,Nat.zero_le _⟩
 ·exact⟨_,cap,f,h1,h2⟩
end
def flat (d:List (List UInt8)):List Value:=d.flatten.map bv
def V9 (d:List (List UInt8)):Prop:=∀l∈d,l.length=256
def Xx (l:List UInt8):List Value:=l.map bv
theorem Uz (l:List UInt8):(Xx l).length=l.length:=by simp[Xx]
theorem Qmn (l:List UInt8):∀u∈Xx l,u.oneCell'=true:=Qh6 l
theorem Qvi (d:List (List UInt8))(l:List UInt8):flat (d++[l])=flat d++Xx l:=by simp[flat,Xx]
theorem Qvh (l:List UInt8)(d:List (List UInt8)):flat (l::d)=Xx l++flat d:=by simp[flat,Xx]
theorem Qtu:∀{d:List (List UInt8)},V9 d->∀(i:Nat) (hi:i<d.length) (j:Nat) (_:j<256),(flat d)[i*256+j]?=(Xx d[i])[j]?
 |l::d,h,i,hi,j,hj=>by
  have f:(Xx l).length=256:=by rw[Uz,h l (by simp)]
  rw[Qvh];rcases i with _|i
  ·rw[List.getElem?_append_left (by omega)];simp
  ·rw[List.getElem?_append_right (by omega),f];have e:(i+1)*256+j-256=i*256+j:=by omega
   rw[e,Qtu (λx g=>h x (by simp[g])) i (by simpa using hi) j hj];simp
theorem Qjg {w:World}{base g n c:Nat}{e:TypeId}{d:List (List UInt8)}(h:w.ownsRow base e 256 (.slice (some ⟨g,0,none⟩) n c) n (flat d))(f:V9 d)(hn:d.length=n)(i:Nat)(hi:i<d.length) :
  w.rangeAt g (i*256) (Xx d[i]):=λj v m=>by
 have p:j<256:=by
  have:=(List.getElem?_eq_some_iff.1 m).1;rw[Uz,f _ (List.getElem_mem hi)] at this;exact this
 rw[World.ownsRow.cellAt h (i*256+j) (by subst hn;have:i*256+256<=d.length*256:=(by omega);omega),Qtu f i hi j p];exact m
theorem Zas {w:World}{g o c:Nat}{l:List UInt8}(h:w.rangeAt g o (Xx l))(f:g<w.1.size)(d:l.length<=c)(hm:c<=maxLen):Sl w (some ⟨g,o,none⟩) l.length c l:=
 ⟨by simp,d,hm,λj u m=>⟨_,rfl,f,by rw[Addr.add_mid];exact h j u m⟩⟩
theorem Qp1 {w:World}{A:Option Addr}{n c:Nat}{l:List UInt8}(h:Sl w A n c l)(E:0<l.length):∃g o,A=some ⟨g,o,none⟩/\g<w.1.size/\w.rangeAt g o (Xx l):=by
 obtain⟨p,e,y,d⟩:=h.2.2.2 0 (bv l[0]) (by simp[E]);obtain⟨g,o,m⟩:=p;have f:m=none:=by
  cases m with
  |none=>rfl
  |some x=>
   simp only[World.cell?,Addr.add,if_true] at d;split at d<;>simp at d
 subst f;refine⟨g,o,e,y,λj v F=>?_⟩;obtain⟨q,u,_,B⟩:=h.2.2.2 j v F;obtain rfl:=Option.some.inj (e.symm.trans u);rw[<-Addr.add_mid];exact B
end
def Xq:Option Addr->Option Nat
 |some a=>some a.block
 |none=>none
section
variable {P:Program}{t e:TypeId}{s b:Nat}{z:Value}(w:World)
theorem Ro (T:Bc P t e s b z)(ty:TypeId)(base:Nat)(A:Option Addr)(n c:Nat)(xs:List (List Value))(E:Qr w base e s A n c xs)
  (B:Option Addr) (m d:Nat) (I:List (List Value)) (U:Zg w s B m d I) (a1:0<m) (h1:∀y∈I,∀u∈y,u.oneCell'=true) (a2:n+m<=1000000) (hb:b<=100000) (F:base<=w.1.size) :
  ∃J c' w',(Builtin.append_ #[t,t] ty #[.slice A n c,.slice B m d]).run P w=.ok (.slice J (n+m) c') w'/\Qr w' base e s J (n+m) c' (xs++I)/\Turn (λk=>Xq A=some k) w w'/\(Xq J=Xq A\/Xq J=some w.1.size)/\Xq J≠none:=by
 obtain⟨i,hi,a7,a8,b0⟩:=info_parts T.info;obtain⟨g,o,rfl,hg,b2,b3⟩:=U.at_ a1;have G:∀y∈I,y.length=s:=λy R=>by
  obtain⟨j,hj⟩:=List.mem_iff_getElem?.1 R;obtain⟨_,_,_,_,h,_⟩:=U.2.2.2 j y hj;exact h
 have f:∀j u,I.flatten[j]?=some u->w.cell? ((⟨g,o,none⟩:Addr).add j)=some u:=by
  intro j u Q;obtain⟨y,R,hv⟩:=Zdt T.pos G j u Q;obtain⟨g',o',V,_,_,a6⟩:=U.2.2.2 _ y R;injection V with V;injection V with e1 e2;subst e1 e2;have:=a6 _ u hv;rw[Addr.add_mid];rw[Nat.add_assoc,Nat.mul_comm,Nat.div_add_mod] at this;exact this
 have Z:(n+m)*b<=140737488355328:=Nat.le_trans (Nat.mul_le_mul a2 hb) (by decide);obtain⟨v',w',O,h2,h3,h4,Y⟩:=run_append_own_at (P:=P) w base t ty e i z s b T.sl hi a7 a8 b0 T.cells T.pos _ n _ E.1 ⟨g,o,none⟩ m d I.flatten (by rw[Am G,U.len]) f (λu Q=>by
  obtain⟨y,R,Q⟩:=List.mem_flatten.1 Q;exact h1 y R u Q) (by unfold maxLen;omega) Z F
 have M:∀(X:Option Addr) p q,Value.ownBlock (.slice X p q)=Xq X:=λX p q=>by cases X<;>rfl
 rw[M] at h3 Y;rw[<-List.flatten_append] at h2;have K:∀x∈xs++I,x.length=s:=λx hx=>by
  rcases List.mem_append.1 hx with h|h
  ·exact E.2 x h
  ·exact G x h
 rcases h2.2 with⟨rfl,h0⟩|⟨g',cap,b1,rfl,_⟩
 ·omega
 ·rw[M] at Y;exact⟨_,_,w',O,⟨h2,K⟩,Qs4 h3 (λk hk=>hk),Y,by simp[Xq]⟩
theorem Qbh (T:Bc P t e s b z){F:Array Oper}{f:List Oper}{o:Oper}{a:Act}{Q:Exit->Act->World->Prop}(J:o.guard=none)(R x:Operand)
  (ho:o.op=.call { callee:=.builtin .append,args:=#[R,x],argTypes:=#[t,t] })
  (base:Nat) (A:Option Addr) (n c:Nat) (xs:List (List Value)) (hs:a.eval R=.slice A n c) (q:Qr w base e s A n c xs)
  (B:Option Addr) (m d:Nat) (I:List (List Value)) (hx:a.eval x=.slice B m d) (hr:Zg w s B m d I) (M:0<m) (h1:∀y∈I,∀u∈y,u.oneCell'=true) (O:n+m<=1000000) (Z:b<=100000) (p:base<=w.1.size)
  (h:∀g G w',Qr w' base e s g (n+m) G (xs++I)->Turn (λk=>Xq A=some k) w w'->(Xq g=Xq A\/Xq g=some w.1.size)->Xq g≠none->wpList P F Q f (a.put o.dst (.slice g (n+m) G)) w'):wpList P F Q (o::f) a w:=
 wpList_plain J λK Y=>by
  obtain⟨g,G,w',E,h2,U,V,X⟩:=Ro (P:=P) w T o.type base A n c xs q B m d I hr M h1 O Z p;unfold Oper.wp execOp;simp only[ho,resolve,invoke,builtin,Sem.run_bind,Sem.run_pure,Result.andThen_ok,List.map_toArray,List.map_cons,List.map_nil,hs,hx,E];exact Y _ _ (h g G w' h2 U V X)
end
theorem Sl.turned {w w':World}{A:Option Addr}{n c:Nat}{l:List UInt8}(h:Sl w A n c l){S:Nat->Prop}(T:Turn S w w')(hA:∀k,Xq A=some k->¬S k):Sl w' A n c l:=
 ⟨h.1,h.2.1,h.2.2.1,λj u m=>by
  obtain⟨d,e,f,g⟩:=h.2.2.2 j u m;refine⟨d,e,by have:=T.size;omega,?_⟩;rw[World.cell?_of_block (a:=d.add j) (w':=w') (w:=w) (by rw[Y7];exact T.block _ f (hA _ (by rw[e];rfl)))];exact g⟩
theorem Qr.turned {w w':World}{base:Nat}{e:TypeId}{s:Nat}{A:Option Addr}{n c:Nat}{xs:List (List Value)}(h:Qr w base e s A n c xs){S:Nat->Prop}(T:Turn S w w')(hA:∀k,Xq A=some k->¬S k):Qr w' base e s A n c xs:=by
 refine⟨⟨h.1.1,?_⟩,h.2⟩;rcases h.1.2 with d|⟨g,cap,f,d,h1,m,r⟩
 ·exact .inl d
 ·refine .inr ⟨g,cap,f,d,h1,(T.block g (Array.getElem?_eq_some_iff.1 m).1 (hA g ?_)).trans m,r⟩;injection d with d;rw[d];rfl
theorem Qr.Zx {w:World}{base:Nat}{e:TypeId}{s:Nat}{A:Option Addr}{n c:Nat}{xs:List (List Value)}(h:Qr w base e s A n c xs):∀k,Xq A=some k->base<=k/\k<w.1.size:=by
 intro k f;rcases h.1.2 with⟨d,_⟩|⟨g,cap,m,d,h1,p,r⟩
 ·injection d with d;rw[d] at f;cases f
 ·injection d with d;rw[d] at f;obtain rfl:g=k:=Option.some.inj f;exact⟨h1,(Array.getElem?_eq_some_iff.1 p).1⟩
section
open Go.ChangeMaps (setBlock)
structure DM where
 n:Nat
 Ze:Nat->List UInt8
 Zd:Nat->List (List UInt8)
 off:Bool
 fused:Bool
 left:Nat
 steps:Nat
 cap:Nat
def upd {α:Type}(f:Nat->α)(s:Nat)(x:α):Nat->α:=λk=>if k=s then x else f k
theorem Y9 {α:Type}(f:Nat->α)(s:Nat)(x:α):upd f s x s=x:=by simp[upd]
theorem Y8 {α:Type}(f:Nat->α){s k:Nat}(x:α)(h:k≠s):upd f s x k=f k:=by simp[upd,h]
def Qa (n:Nat):Prop:=32<=n/\n<=2048
theorem TB:(Tryz.prog.info? 289).map (λi=>(i.zero,i.size,i.bytes))=some (some (.agg (Array.replicate 256 (.int .u8 0))),256,256):=by kernel_rfl
structure Lay (w:World)(bp bd bm:Nat)(l:List MapEntry)(clock:Nat)(v:Nat->Value)(S:Nat->Prop)(D:DM):Prop where
 me:w.heap[bp]?=some (.cells #[.slice (some ⟨bd,0,none⟩) D.n D.cap,.map (some bm),.bool D.off,.bool D.fused,.int .i64 D.left,.int .i64 D.steps] 152 (0,0))
 Ze:∀s,s<D.n->w.rangeAt bd (s*256) (Xx (D.Ze s))
 Xi:∀s,s<D.n->w.there bd (s*256) 256
 map:w.heap[bm]?=some (.map l.toArray clock)
 ents:Jl l clock
 look:∀s:Nat,Qd s l=if D.Zd s=[] then none else some (v s)
 keys:∀e∈l,∃s:Nat,s<D.n/\kI e=s
 row:∀s,w.ownsRow 0 289 256 (v s) (D.Zd s).length (flat (D.Zd s))
 nil:∀s,D.Zd s=[]->v s=.slice none 0 0
 dl:∀s,(D.Ze s).length=256
 cl:∀s,V9 (D.Zd s)
 out:∀s,D.n<=s->D.Zd s=[]
 Zk:S bp/\S bd/\S bm/\∀s g,(v s).ownBlock=some g->S g
 ne:bp≠bd/\∀s g,(v s).ownBlock=some g->g≠bp/\g≠bd
 sep:∀s s' g,(v s).ownBlock=some g->(v s').ownBlock=some g->s=s'
 n32:Qa D.n
 left:D.left<=9223372036854775807
def Drv (w:World)(bp:Nat)(S:Nat->Prop)(D:DM):Prop:=∃bd bm l clock v,Lay w bp bd bm l clock v S D
section
variable {w w':World}{bp bd bm clock:Nat}{l:List MapEntry}{v:Nat->Value}{S:Nat->Prop}{D:DM}
theorem Lay.pos (L:Lay w bp bd bm l clock v S D):0<D.n:=by have:=L.n32;unfold Qa at this;omega
theorem Lay.Yk (L:Lay w bp bd bm l clock v S D):∃c t d,w.1[bd]?=some (.cells c t d):=by
 have h:=(L.Xi 0 L.pos 0 (by omega)).1;unfold World.cell? at h;split at h
 ·rename_i c t d f;exact⟨c,t,d,f⟩
 ·cases h
theorem Lay.Wn (L:Lay w bp bd bm l clock v S D):bd≠bm:=λe=>by
 obtain⟨c,t,d,h⟩:=L.Yk;rw[e,L.map] at h;cases h
theorem Lay.Zds (L:Lay w bp bd bm l clock v S D):bp≠bm:=λe=>by
 have h:=L.me;rw[e,L.map] at h;cases h
theorem Lay.Jb (L:Lay w bp bd bm l clock v S D){s g:Nat}(h:(v s).ownBlock=some g):∃c t,w.1[g]?=some (.cells c t (0,0)):=by
 rcases (L.row s).2 with⟨d,_⟩|⟨p,cap,f,d,_,m,_⟩
 ·rw[d] at h;cases h
 ·rw[d] at h;cases h;exact⟨_,_,m⟩
theorem Lay.Zao (L:Lay w bp bd bm l clock v S D){s g:Nat}(h:(v s).ownBlock=some g):g≠bm:=λe=>by
 obtain⟨c,t,d⟩:=L.Jb h;rw[e,L.map] at d;cases d
theorem Lay.keep (L:Lay w bp bd bm l clock v S D)(hk:∀k,k<w.1.size->S k->w'.1[k]?=w.1[k]?):Lay w' bp bd bm l clock v S D:=by
 obtain⟨c,t,y,d⟩:=L.Yk;have q:=hk bp (Jq L.me) L.Zk.1;have m:=hk bd (Jq d) L.Zk.2.1;have u:=hk bm (Jq L.map) L.Zk.2.2.1;exact⟨q.trans L.me,λs f=>Dh (L.Ze s f) m,λs f=>Di (L.Xi s f) m,u.trans L.map,L.ents,L.look,L.keys,
  λs=>Un (L.row s) λg p=>by obtain⟨c,t,h⟩:=L.Jb p;exact hk g (Jq h) (L.Zk.2.2.2 s g p),L.nil,L.dl,L.cl,L.out,L.Zk,L.ne,L.sep,L.n32,L.left⟩
theorem Lay.mono {S':Nat->Prop}(L:Lay w bp bd bm l clock v S D)(h:∀k,k<w.1.size->S k->S' k):Lay w bp bd bm l clock v S' D:=by
 obtain⟨c,t,m,d⟩:=L.Yk;exact⟨L.me,L.Ze,L.Xi,L.map,L.ents,L.look,L.keys,L.row,L.nil,L.dl,L.cl,L.out,
  ⟨h _ (Jq L.me) L.Zk.1,h _ (Jq d) L.Zk.2.1,h _ (Jq L.map) L.Zk.2.2.1,λs g f=>by obtain⟨c,t,h2⟩:=L.Jb f;exact h g (Jq h2) (L.Zk.2.2.2 s g f)⟩,L.ne,L.sep,L.n32,L.left⟩
theorem Lay.struct (L:Lay w bp bd bm l clock v S D)(off fused:Bool)(left steps:Nat)(hl:left<=9223372036854775807)
  (h1:w'.1[bp]?=some (.cells #[.slice (some ⟨bd,0,none⟩) D.n D.cap,.map (some bm),.bool off,.bool fused,.int .i64 left,.int .i64 steps] 152 (0,0)))
  (h2:∀k,k<w.1.size->k≠bp->w'.1[k]?=w.1[k]?):Lay w' bp bd bm l clock v S { D with off:=off,fused:=fused,left:=left,steps:=steps }:=by
 obtain⟨c,t,u,d⟩:=L.Yk;have m:=h2 bd (Jq d) (λe=>L.ne.1 e.symm);have q:=h2 bm (Jq L.map) (λe=>L.Zds e.symm);exact⟨h1,λs f=>Dh (L.Ze s f) m,λs f=>Di (L.Xi s f) m,q.trans L.map,L.ents,L.look,L.keys,
  λs=>Un (L.row s) λg p=>by obtain⟨c,t,h⟩:=L.Jb p;exact h2 g (Jq h) (L.ne.2 s g p).1,L.nil,L.dl,L.cl,L.out,L.Zk,L.ne,L.sep,L.n32,hl⟩
theorem Lay.Y3 (L:Lay w bp bd bm l clock v S D)(s:Nat)(x:List UInt8)(hx:x.length=256)
  (h1:∀k,k<w.1.size->k≠bd->w'.1[k]?=w.1[k]?) (h2:s<D.n->w'.rangeAt bd (s*256) (Xx x)) (h3:∀z,z<D.n->z≠s->w'.rangeAt bd (z*256) (Xx (D.Ze z))) (h4:∀z,z<D.n->w'.there bd (z*256) 256) :
  Lay w' bp bd bm l clock v S { D with Ze:=upd D.Ze s x }:=by
 have p:=h1 bp (Jq L.me) L.ne.1;have q:=h1 bm (Jq L.map) (λe=>L.Wn e.symm);refine⟨p.trans L.me,λz m=>?_,h4,q.trans L.map,L.ents,L.look,L.keys,
  λs=>Un (L.row s) λg f=>by obtain⟨c,t,h⟩:=L.Jb f;exact h1 g (Jq h) (L.ne.2 s g f).2,L.nil,λz=>?_,L.cl,L.out,L.Zk,L.ne,L.sep,L.n32,L.left⟩
 ·show w'.rangeAt bd (z*256) (Xx (upd D.Ze s x z));by_cases d:z=s
  ·subst d;rw[Y9];exact h2 m
  ·rw[Y8 _ _ d];exact h3 z m d
 ·show (upd D.Ze s x z).length=256;by_cases d:z=s
  ·rw[d,Y9];exact hx
  ·rw[Y8 _ _ d];exact L.dl z
theorem Lay.store (L:Lay w bp bd bm l clock v S D)(s:Nat)(hs:s<D.n)(x:List UInt8)(hx:x.length=256) :
  Lay (w.setCells bd (s*256) (Xx x)) bp bd bm l clock v S { D with Ze:=upd D.Ze s x }:=by
 have g:=Gg (S:=λk=>k=bd) (b:=bd) rfl (Xx x) (s*256) w;refine L.Y3 s x hx (λk m hn=>g.block k m hn) (λ_=>World.rangeAt_setCells_same _ _ _ _ ?_) (λz d f=>World.rangeAt_setCells_apart (L.Ze z d) _ _ _ ?_) λz d=>World.there_setCells (L.Xi z d) _ _ _
 ·rw[Uz,hx];exact L.Xi s hs
 ·rw[Uz,Uz,hx,L.dl z];rcases Nat.lt_or_gt_of_ne f with h|h
  ·right;left;omega
  ·right;right;omega
theorem Lay.Zar (L:Lay w bp bd bm l clock v S D)(s:Nat)(hs:s<D.n){l':List MapEntry}{clock':Nat}{S':Nat->Prop}(v1:Value)(ls:List (List UInt8))(hls:V9 ls)
  (hS:∀k,k<w.1.size->S k->S' k) (h1:∀k,k<w.1.size->k≠bm->some k≠(v s).ownBlock->w'.1[k]?=w.1[k]?) (hm:w'.1[bm]?=some (.map l'.toArray clock')) (hE:Jl l' clock')
  (hlook:∀z:Nat,Qd z l'=if z=s then (if ls=[] then none else some v1) else Qd z l) (hkeys:∀e∈l',e∈l\/kI e=s)
  (hrow:w'.ownsRow 0 289 256 v1 ls.length (flat ls)) (hnil:ls=[]->v1=.slice none 0 0)
  (hat:v1.ownBlock=none\/v1.ownBlock=(v s).ownBlock\/∃g,v1.ownBlock=some g/\w.1.size<=g/\S' g) :
  Lay w' bp bd bm l' clock' (upd v s v1) S' { D with Zd:=upd D.Zd s ls }:=by
 obtain⟨c,t,Q,y⟩:=L.Yk;have F:=Jq L.me;have G:=Jq y;have J:=Jq L.map;have K:=h1 bp F L.Zds (λe=>(L.ne.2 s bp e.symm).1 rfl);have I:=h1 bd G L.Wn (λe=>(L.ne.2 s bd e.symm).2 rfl);have m:∀z g,(upd v s v1 z).ownBlock=some g->(z≠s/\(v z).ownBlock=some g)\/(z=s/\((v s).ownBlock=some g\/(w.1.size<=g/\S' g))):=by
  intro z g f;by_cases d:z=s
  ·subst d;rw[Y9] at f;rcases hat with h|h|⟨R,h,h2,M⟩
   ·rw[h] at f;cases f
   ·exact .inr ⟨rfl,.inl (h▸f)⟩
   ·rw[h] at f;cases f;exact .inr ⟨rfl,.inr ⟨h2,M⟩⟩
  ·rw[Y8 _ _ d] at f;exact .inl ⟨d,f⟩
 have q:∀z g,(v z).ownBlock=some g->g<w.1.size:=λz g f=>by obtain⟨c,t,h⟩:=L.Jb f;exact Jq h
 refine⟨K.trans L.me,λz d=>Dh (L.Ze z d) I,λz d=>Di (L.Xi z d) I,hm,hE,λz=>?_,λe O=>?_,λz=>?_,λz d=>?_,L.dl,λz=>?_,λz d=>?_,
  ⟨hS _ F L.Zk.1,hS _ G L.Zk.2.1,hS _ J L.Zk.2.2.1,λz g f=>?_⟩,⟨L.ne.1,λz g f=>?_⟩,λz u g f B=>?_,L.n32,L.left⟩
 ·rw[hlook z];show _=if upd D.Zd s ls z=[] then none else some (upd v s v1 z)
  by_cases d:z=s
  ·rw[d,if_pos rfl,Y9,Y9]
  ·rw[if_neg d,Y8 _ _ d,Y8 _ _ d];exact L.look z
 ·rcases hkeys e O with h|h
  ·exact L.keys e h
  ·exact⟨s,hs,h⟩
 ·show w'.ownsRow 0 _ 256 (upd v s v1 z) (upd D.Zd s ls z).length (flat (upd D.Zd s ls z));by_cases d:z=s
  ·rw[d,Y9,Y9];exact hrow
  ·rw[Y8 _ _ d,Y8 _ _ d];exact Un (L.row z) λg f=>h1 g (q z g f) (L.Zao f) λe=>d (L.sep z s g f e.symm)
 ·show upd v s v1 z=_;by_cases p:z=s
  ·subst p;rw[Y9];exact hnil (by simpa [Y9] using d)
  ·rw[Y8 _ _ p];exact L.nil z (by simpa [Y8 _ _ p] using d)
 ·show V9 (upd D.Zd s ls z);by_cases p:z=s
  ·rw[p,Y9];exact hls
  ·rw[Y8 _ _ p];exact L.cl z
 ·show upd D.Zd s ls z=[];have:D.n<=z:=d;rw[Y8 _ _ (by omega)];exact L.out z d
 ·rcases m z g f with⟨_,h⟩|⟨_,h|h⟩
  ·exact hS _ (q z g h) (L.Zk.2.2.2 z g h)
  ·exact hS _ (q s g h) (L.Zk.2.2.2 s g h)
  ·exact h.2
 ·rcases m z g f with⟨_,h⟩|⟨_,h|h⟩
  ·exact L.ne.2 z g h
  ·exact L.ne.2 s g h
  ·omega
 ·rcases m z g f with⟨h0,h⟩|⟨h0,h⟩<;>rcases m u g B with⟨E,k⟩|⟨E,k⟩
  ·exact L.sep z u g h k
  ·rcases k with k|k
   ·rw[E];exact L.sep z s g h k
   ·have:=q z g h;omega
  ·rcases h with h|h
   ·rw[h0];exact L.sep s u g h k
   ·have:=q u g k;omega
  ·rw[h0,E]
theorem Lay.forget (L:Lay w bp bd bm l clock v S D)(s:Nat)(hs:s<D.n) :
  Lay (setBlock w bm (.map (Q9 s l).toArray clock)) bp bd bm (Q9 s l) clock (upd v s (.slice none 0 0)) S { D with Zd:=upd D.Zd s [] }:=by
 have d:=Gh (w:=w) (S:=λk=>k=bm) (b:=bm) (.map (Q9 s l).toArray clock) rfl;refine L.Zar s hs _ [] (by simp[V9]) (λ_ _ h=>h) (λk g hn _=>d.block k g hn) (Gl (Jq L.map)) (L.ents.del s) (λz=>?_) (λe f=>.inl (V4 f)) (World.ownsRow_nil _ _ _ _) (λ_=>rfl) (.inl rfl);rw[Ad z L.ents.one,if_pos rfl];by_cases h:z=s
 ·subst h;simp
 ·rw[if_neg (by omega),if_neg h]
end
end
section
variable {w:World}{bp bd bm clock:Nat}{l:List MapEntry}{v:Nat->Value}{S:Nat->Prop}{D:DM}
theorem Lay.c0 (L:Lay w bp bd bm l clock v S D):w.cell? ⟨bp,0,none⟩=some (.slice (some ⟨bd,0,none⟩) D.n D.cap):=by rw[cell_of_row w bp 0 _ _ _ L.me];rfl
theorem Lay.c1 (L:Lay w bp bd bm l clock v S D):w.cell? ⟨bp,1,none⟩=some (.map (some bm)):=by rw[cell_of_row w bp 1 _ _ _ L.me];rfl
theorem Lay.c2 (L:Lay w bp bd bm l clock v S D):w.cell? ⟨bp,2,none⟩=some (.bool D.off):=by rw[cell_of_row w bp 2 _ _ _ L.me];rfl
theorem Lay.c3 (L:Lay w bp bd bm l clock v S D):w.cell? ⟨bp,3,none⟩=some (.bool D.fused):=by rw[cell_of_row w bp 3 _ _ _ L.me];rfl
theorem Lay.c4 (L:Lay w bp bd bm l clock v S D):w.cell? ⟨bp,4,none⟩=some (.int .i64 D.left):=by rw[cell_of_row w bp 4 _ _ _ L.me];rfl
theorem Lay.c5 (L:Lay w bp bd bm l clock v S D):w.cell? ⟨bp,5,none⟩=some (.int .i64 D.steps):=by rw[cell_of_row w bp 5 _ _ _ L.me];rfl
theorem Lay.fz (L:Lay w bp bd bm l clock v S D)(j:Nat):w.frozen? ⟨bp,j,none⟩=false:=by simp[World.frozen?,L.me]
end
theorem Qhy {w:World}{bp bd bm clock:Nat}{l:List MapEntry}{v:Nat->Value}{S:Nat->Prop}{D:DM}(L:Lay w bp bd bm l clock v S D)(s:Int) :
  Calls Tryz.prog 205 #[.pointer (some ⟨bp,0,none⟩),.int .i64 s] w λe w'=>e=.returned (.bool (decide (0<=s/\s<(D.n:Int))))/\w=w':=by
 have c0:=L.c0;go_enter Tryz.func205,Tryz.ntmps205
 by_cases h0:0<=s
 ·by_cases h1:s<(D.n:Int)
  ·go_wp2;go_ret;simp[h0,h1]
  ·go_wp2;go_ret;simp[h1];try omega
 ·go_wp2;go_ret;simp;intro;omega
theorem size_any {w:World}{bp bd bm clock:Nat}{l:List MapEntry}{v:Nat->Value}{S:Nat->Prop}{D:DM}(L:Lay w bp bd bm l clock v S D) :
  Calls Tryz.prog 90 #[.pointer (some ⟨bp,0,none⟩)] w λe w'=>e=.returned (.int .i64 (D.n:Int))/\w=w':=by
 have c0:=L.c0;go_enter Tryz.func90,Tryz.ntmps90
 go_wp2;go_ret;exact⟨rfl,rfl⟩
theorem on_any {w:World}{bp bd bm clock:Nat}{l:List MapEntry}{v:Nat->Value}{S:Nat->Prop}{D:DM}(L:Lay w bp bd bm l clock v S D) :
  Calls Tryz.prog 153 #[.pointer (some ⟨bp,0,none⟩)] w λe w'=>e=.returned (.bool (!D.off))/\w=w':=by
 have c0:=L.c2;go_enter Tryz.func153,Tryz.ntmps153
 go_wp2;go_ret;exact⟨rfl,rfl⟩
def DM.stop (D:DM):Bool:=D.off||(D.fused&&decide (D.left=0))
def DM.stepD (D:DM):DM:={ D with off:=D.stop,left:=if D.stop then D.left else if D.fused then D.left-1 else D.left,steps:=if D.stop then D.steps else D.steps+1 }
def DM.err (D:DM):Int:=if D.stop then 4 else 0
theorem Lay.off1 {w:World}{bp bd bm clock:Nat}{l:List MapEntry}{v:Nat->Value}{S:Nat->Prop}{D:DM}(L:Lay w bp bd bm l clock v S D)(b:Bool) :
  Lay (w.setCell ⟨bp,2,none⟩ (.bool b)) bp bd bm l clock v S { D with off:=b }:=
 L.struct b D.fused D.left D.steps L.left (by rw[setCell_at _ L.me];rfl) λk _ hn=>Below.heap_setCell _ _ _ _ hn
theorem Lay.left1 {w:World}{bp bd bm clock:Nat}{l:List MapEntry}{v:Nat->Value}{S:Nat->Prop}{D:DM}(L:Lay w bp bd bm l clock v S D)(n:Nat)(hn:n<=9223372036854775807){x:Int}(hx:x=(n:Int)) :
  Lay (w.setCell ⟨bp,4,none⟩ (.int .i64 x)) bp bd bm l clock v S { D with left:=n }:=by
 subst hx;exact L.struct D.off D.fused n D.steps hn (by rw[setCell_at _ L.me];rfl) λk _ hn=>Below.heap_setCell _ _ _ _ hn
theorem Lay.Za7 {w:World}{bp bd bm clock:Nat}{l:List MapEntry}{v:Nat->Value}{S:Nat->Prop}{D:DM}(L:Lay w bp bd bm l clock v S D)(n:Nat){x:Int}(hx:x=(n:Int)) :
  Lay (w.setCell ⟨bp,5,none⟩ (.int .i64 x)) bp bd bm l clock v S { D with steps:=n }:=by
 subst hx;exact L.struct D.off D.fused D.left n L.left (by rw[setCell_at _ L.me];rfl) λk _ hn=>Below.heap_setCell _ _ _ _ hn
theorem Qf3 {bp:Nat}(w:World)(j:Nat)(u:Value):Turn (λk=>k=bp) w (w.setCell ⟨bp,j,none⟩ u):=Gi u rfl
theorem Qqa {w:World}{bp bd bm clock:Nat}{l:List MapEntry}{v:Nat->Value}{S:Nat->Prop}{D:DM}(L:Lay w bp bd bm l clock v S D)(f:D.steps<=1000000000) :
  Calls Tryz.prog 206 #[.pointer (some ⟨bp,0,none⟩)] w λe w'=>e=.returned (.int .i64 D.err)/\Lay w' bp bd bm l clock v S D.stepD/\Turn (λk=>k=bp) w w':=by
 have c2:=L.c2;have c3:=L.c3;have c4:=L.c4;have c5:=L.c5;have q:=L.fz 2;have u:=L.fz 4;have y:=L.fz 5;have d:=L.left;obtain⟨n,Ze,Zd,off,fused,left,steps,cap⟩:=D;simp only at c2 c3 c4 c5 f d
 cases off with
 |true=>
  rw[show (DM.stepD ⟨n,Ze,Zd,true,fused,left,steps,cap⟩)=⟨n,Ze,Zd,true,fused,left,steps,cap⟩ from rfl,show (DM.err ⟨n,Ze,Zd,true,fused,left,steps,cap⟩)=4 from rfl]
  cases fused with
  |true=>
   by_cases h0:left=0
   ·subst h0;go_enter Tryz.func206,Tryz.ntmps206
    go_wp2;go_ret;exact⟨rfl,L.off1 true,Qf3 _ _ _⟩
   ·go_enter Tryz.func206,Tryz.ntmps206
    go_wp2;go_ret;exact⟨rfl,L,Turn.refl _ _⟩
  |false=>
   go_enter Tryz.func206,Tryz.ntmps206
   go_wp2;go_ret;exact⟨rfl,L,Turn.refl _ _⟩
 |false=>
  cases fused with
  |true=>
   by_cases h0:left=0
   ·subst h0;rw[show (DM.stepD ⟨n,Ze,Zd,false,true,0,steps,cap⟩)=⟨n,Ze,Zd,true,true,0,steps,cap⟩ from rfl,show (DM.err ⟨n,Ze,Zd,false,true,0,steps,cap⟩)=4 from rfl];go_enter Tryz.func206,Tryz.ntmps206
    go_wp2;go_ret;exact⟨rfl,L.off1 true,Qf3 _ _ _⟩
   ·have g:(DM.stop ⟨n,Ze,Zd,false,true,left,steps,cap⟩)=false:=by simp[DM.stop,h0]
    have m:(DM.stepD ⟨n,Ze,Zd,false,true,left,steps,cap⟩)=⟨n,Ze,Zd,false,true,left-1,steps+1,cap⟩:=by simp[DM.stepD,g]
    have p:(DM.err ⟨n,Ze,Zd,false,true,left,steps,cap⟩)=0:=by simp[DM.err,g]
    rw[m,p];go_enter Tryz.func206,Tryz.ntmps206
    go_wp2;go_ret;exact⟨rfl,(L.left1 (left-1) (by omega) (by omega)).Za7 (steps+1) (by omega),(Qf3 _ _ _).then (Qf3 _ _ _)⟩
  |false=>
   rw[show (DM.stepD ⟨n,Ze,Zd,false,false,left,steps,cap⟩)=⟨n,Ze,Zd,false,false,left,steps+1,cap⟩ from rfl,show (DM.err ⟨n,Ze,Zd,false,false,left,steps,cap⟩)=0 from rfl];go_enter Tryz.func206,Tryz.ntmps206
   go_wp2;go_ret;exact⟨rfl,L.Za7 (steps+1) (by omega),Qf3 _ _ _⟩
