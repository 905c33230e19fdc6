/- Rows of structs: slices whose elements are rows of s cells; nothing here speaks of one pro -/
import Derived.Test.YthkfkhejjmhomaaGreatDoorDb2
import Derived.Deep.MidRow
import Derived.Deep.Slices
import Derived.Deep.Fields
import Derived.WideShapes
import Derived.Deep.WholeRow
import Derived.Test.YthkfkhejjmhomaaGreatDoorChecked
namespace Go.Proofs.YthkfkhejjmhomaaGreatDoor
open Go Go.RowKit Go.Proofs
set_option maxHeartbeats 1000000
set_option maxRecDepth 100000
def Jq (w:World)(s:Nat)(A:Option Addr)(n c:Nat)(xs:List (List Value)):Prop:=
 xs.length=n/\n<=c/\c<=maxLen/\∀(j:Nat) x,xs[j]?=some x->∃g o,A=some ⟨g,o,none⟩/\g<w.1.size/\x.length=s/\w.rangeAt g (o+j*s) x
section
variable {w w':World}{s n c:Nat}{A:Option Addr}{xs:List (List Value)}
theorem Jq.len (h:Jq w s A n c xs):xs.length=n:=h.1
theorem Jq.cap (h:Jq w s A n c xs):n<=c:=h.2.1
theorem Jq.max (h:Jq w s A n c xs):c<=maxLen:=h.2.2.1
theorem Jq.keep (h:Jq w s A n c xs)(hz:w.1.size<=w'.1.size)(hk:∀g o,A=some ⟨g,o,none⟩->g<w.1.size->w'.1[g]?=w.1[g]?):Jq w' s A n c xs:=
 ⟨h.1,h.2.1,h.2.2.1,λj x u=>by
  obtain⟨g,o,e,d,f,m⟩:=h.2.2.2 j x u;exact⟨g,o,e,by omega,f,λi v p=>(World.cell?_of_block (a:=⟨g,o+j*s+i,none⟩) (hk g o e d)).trans (m i v p)⟩⟩
theorem Jq.below (h:Jq w s A n c xs)(hb:Below w.1.size w w'):Jq w' s A n c xs:=h.keep hb.size λg _ _ d=>hb.block g d
theorem Jq.take (h:Jq w s A n c xs){k:Nat}(hk:k<=n):Jq w s A k c (xs.take k):=by
 refine⟨by have:=h.len;simp;omega,by have:=h.cap;omega,h.max,λj x d=>h.2.2.2 j x ?_⟩;rw[List.getElem?_take] at d;split at d
 ·exact d
 ·cases d
theorem Jq.at_ (h:Jq w s A n c xs){j:Nat}(hj:j<n):∃g o,A=some ⟨g,o,none⟩/\g<w.1.size/\(xs.getD j []).length=s/\w.rangeAt g (o+j*s) (xs.getD j []):=by
 have d:j<xs.length:=by have:=h.len;omega
 exact h.2.2.2 j _ (by simp[List.getD,d])
theorem qa8 (w:World)(s:Nat):Jq w s none 0 0 []:=⟨rfl,Nat.le_refl _,Nat.zero_le _,λj u d=>by simp at d⟩
end
structure Dh (P:Program)(t e:TypeId)(s b:Nat)(z:Value):Prop where
 sl:P.underlying t=some (.slice e)
 info:(P.info? e).map (λi=>(i.zero,i.size,i.bytes))=some (some z,s,b)
 cells:z.cells.size=s
 pos:0<s
def Qr (w:World)(base:Nat)(e:TypeId)(s:Nat)(A:Option Addr)(n c:Nat)(xs:List (List Value)):Prop:=w.ownsRow base e s (.slice A n c) n xs.flatten/\∀x∈xs,x.length=s
theorem qby {s:Nat}:∀{xs:List (List Value)},(∀x∈xs,x.length=s)->xs.flatten.length=xs.length*s
 |[],_=>by simp
 |x::xs,h=>by
  rw[List.flatten_cons,List.length_append,qby (λy d=>h y (List.mem_cons_of_mem _ d)),h x (List.mem_cons_self ..),List.length_cons,Nat.add_mul,Nat.one_mul,Nat.add_comm]
theorem qjl {s:Nat}:∀{xs:List (List Value)},(∀x∈xs,x.length=s)->∀(j:Nat) x,xs[j]?=some x->∀(i:Nat) v,x[i]?=some v->xs.flatten[j*s+i]?=some v
 |[],_,j,x,hx,_,_,_=>by simp at hx
 |y::xs,h,0,x,hx,i,v,hv=>by
  obtain rfl:y=x:=by simpa using hx
  rw[List.flatten_cons,Nat.zero_mul,Nat.zero_add,List.getElem?_append_left (List.getElem?_eq_some_iff.1 hv).1];exact hv
 |y::xs,h,j+1,x,hx,i,v,hv=>by
  have d:=h y (List.mem_cons_self ..);rw[List.flatten_cons,List.getElem?_append_right (by rw[d,Nat.add_mul];omega),d,show (j+1)*s+i-s=j*s+i by rw[Nat.add_mul];omega];exact qjl (λz f=>h z (List.mem_cons_of_mem _ f)) j x (by simpa using hx) i v hv
theorem qz8 {s:Nat}(u:0<s){xs:List (List Value)}(h:∀x∈xs,x.length=s)(m:Nat)(v:Value)(f:xs.flatten[m]?=some v):∃x,xs[m / s]?=some x/\x[m % s]?=some v:=by
 have hm:m<xs.length*s:=by rw[<-qby h];exact (List.getElem?_eq_some_iff.1 f).1
 have d:m / s<xs.length:=Nat.div_lt_of_lt_mul (by rw[Nat.mul_comm];exact hm);have p:xs[m / s]?=some xs[m / s]:=List.getElem?_eq_getElem d;have hi:m % s<xs[m / s].length:=by rw[h _ (List.getElem_mem d)];exact Nat.mod_lt _ u
 refine⟨_,p,?_⟩;have h2:=qjl h (m / s) _ p (m % s) _ (List.getElem?_eq_getElem hi);rw[Nat.mul_comm,Nat.div_add_mod] at h2;rw[List.getElem?_eq_getElem hi,<-f,h2]
section
variable {w w':World}{base s n c:Nat}{e:TypeId}{A:Option Addr}{xs:List (List Value)}
theorem Qr.len (h:Qr w base e s A n c xs)(hs:0<s):xs.length=n:=by
 have h1:=h.1.1;rw[qby h.2] at h1;exact Nat.eq_of_mul_eq_mul_right hs h1
theorem Qr.Uo (h:Qr w base e s A n c xs)(hs:0<s):Jq w s A n c xs:=by
 have F:=h.len hs;refine⟨F,?_,?_,λj x u=>?_⟩
 ·rcases h.1.2 with⟨d,rfl⟩|⟨g,cap,f,d,_,_,h1,h2,_⟩
  ·omega
  ·injection d with _ _ p;omega
 ·rcases h.1.2 with⟨d,rfl⟩|⟨g,cap,f,d,_,_,h1,h2,_⟩
  ·injection d with _ _ p;unfold maxLen;omega
  ·injection d with _ _ p;omega
 ·have I:=(List.getElem?_eq_some_iff.1 u).1;rcases h.1.2 with⟨d,rfl⟩|⟨g,cap,f,d,G,y,h1,h2,p,B⟩
  ·omega
  ·have E:A=some ⟨g,0,none⟩:=by injection d
   refine⟨g,0,E,(Array.getElem?_eq_some_iff.1 y).1,h.2 x (List.mem_of_getElem? u),λi v hi=>?_⟩;have m:=qjl h.2 j x u i v hi;rw[<-B,List.getElem?_take] at m;split at m
   ·rw[cell_of_row _ _ _ _ _ _ y,Nat.zero_add];simpa using m
   ·cases m
theorem Qr.less {b:Nat}(h:Qr w base e s A n c xs)(hb:b<=base):Qr w b e s A n c xs:=by
 refine⟨⟨h.1.1,?_⟩,h.2⟩;rcases h.1.2 with f|⟨g,cap,d,f,h1,r⟩
 ·exact .inl f
 ·exact .inr ⟨g,cap,d,f,Nat.le_trans hb h1,r⟩
theorem Qr.keep (h:Qr w base e s A n c xs)(hk:∀g,base<=g->g<w.1.size->w'.1[g]?=w.1[g]?):Qr w' base e s A n c xs:=by
 refine⟨⟨h.1.1,?_⟩,h.2⟩;rcases h.1.2 with f|⟨g,cap,d,f,h1,m,r⟩
 ·exact .inl f
 ·exact .inr ⟨g,cap,d,f,h1,(hk g h1 (Array.getElem?_eq_some_iff.1 m).1).trans m,r⟩
theorem Qr.below (h:Qr w base e s A n c xs)(hb:Below w.1.size w w'):Qr w' base e s A n c xs:=h.keep λg _ d=>hb.block g d
theorem Lu (w:World)(base:Nat)(e:TypeId)(s:Nat):Qr w base e s none 0 0 []:=⟨⟨by simp,.inl ⟨rfl,rfl⟩⟩,λx d=>by simp at d⟩
theorem q1i (w:World)(e:TypeId)(s:Nat)(x:List Value)(d:Array Value)(f:d=x.toArray)(m:x.length=s):Qr (w.alloc (.cells d e)) w.1.size e s (some ⟨w.1.size,0,none⟩) 1 1 [x]:=by
 subst f;subst m;refine⟨⟨by simp,.inr ⟨w.1.size,1,x.toArray,rfl,Nat.le_refl _,heap_alloc_new w _,Nat.le_refl _,by unfold maxLen;omega,by simp,by simp⟩⟩,λy p=>?_⟩;obtain rfl:y=x:=by simpa using p
 rfl
end
section
variable {P:Program}{t e:TypeId}{s b:Nat}{z:Value}(w:World)
theorem q8b (T:Dh P t e s b z)(ty:TypeId)(base:Nat)(A:Option Addr)(n c:Nat)(xs:List (List Value))(p:Qr w base e s A n c xs)
  (B:Option Addr) (m d:Nat) (G:List (List Value)) (R:Jq w s B m d G) (Z:0<m) (h1:∀y∈G,∀u∈y,u.oneCell'=true) (a1:n+m<=1000000) (hb:b<=100000) (f:base<=w.1.size) :
  ∃A' c' w',(Builtin.append_ #[t,t] ty #[.slice A n c,.slice B m d]).run P w=.ok (.slice A' (n+m) c') w'/\Qr w' base e s A' (n+m) c' (xs++G)/\Below base w w':=by
 obtain⟨i,hi,a6,a7,a8⟩:=info_parts T.info;obtain⟨g,o,rfl,hg,b0,b1⟩:=R.at_ Z;have F:∀y∈G,y.length=s:=λy O=>by
  obtain⟨j,hj⟩:=List.mem_iff_getElem?.1 O;obtain⟨_,_,_,_,h,_⟩:=R.2.2.2 j y hj;exact h
 have E:∀j u,G.flatten[j]?=some u->w.cell? ((⟨g,o,none⟩:Addr).add j)=some u:=by
  intro j u K;obtain⟨y,O,M⟩:=qz8 T.pos F j u K;obtain⟨g',o',X,_,_,a2⟩:=R.2.2.2 _ y O;injection X with X;injection X with e1 e2;subst e1 e2;have:=a2 _ u M;rw[Addr.add_mid];rw[Nat.add_assoc,Nat.mul_comm,Nat.div_add_mod] at this;exact this
 have Y:(n+m)*b<=140737488355328:=Nat.le_trans (Nat.mul_le_mul a1 hb) (by decide);obtain⟨v',w',J,h2,h3,h4,_⟩:=run_append_own_at (P:=P) w base t ty e i z s b T.sl hi a6 a7 a8 T.cells T.pos _ n _ p.1 ⟨g,o,none⟩ m d G.flatten (by rw[qby F,R.len]) E (λu K=>by
  obtain⟨y,O,K⟩:=List.mem_flatten.1 K;exact h1 y O u K) (by unfold maxLen;omega) Y f
 have hB:Below base w w':=(Below.refl _ _).grown h3 f (λk Q=>by
  rcases p.1.2 with⟨M,_⟩|⟨g,cap,U,M,h1,_⟩
  ·rw[M] at Q;simp[Value.ownBlock] at Q
  ·rw[M] at Q;simp[Value.ownBlock] at Q;omega)
 rw[<-List.flatten_append] at h2;have I:∀x∈xs++G,x.length=s:=λx hx=>by
  rcases List.mem_append.1 hx with h|h
  ·exact p.2 x h
  ·exact F x h
 rcases h2.2 with⟨rfl,h0⟩|⟨g',cap,U,rfl,_⟩
 ·omega
 ·exact⟨_,_,w',J,⟨h2,I⟩,hB⟩
theorem qa9 (T:Dh P t e s b z){G:Array Oper}{f:List Oper}{o:Oper}{a:Act}{Q:Exit->Act->World->Prop}(O:o.guard=none)(X x:Operand)
  (ho:o.op=.call { callee:=.builtin .append,args:=#[X,x],argTypes:=#[t,t] })
  (base:Nat) (A:Option Addr) (n c:Nat) (xs:List (List Value)) (hs:a.eval X=.slice A n c) (E:Qr w base e s A n c xs)
  (B:Option Addr) (m d:Nat) (M:List (List Value)) (hx:a.eval x=.slice B m d) (hr:Jq w s B m d M) (R:0<m) (h1:∀y∈M,∀u∈y,u.oneCell'=true) (U:n+m<=1000000) (hb:b<=100000) (p:base<=w.1.size)
  (h:∀I J w',Qr w' base e s I (n+m) J (xs++M)->Below base w w'->wpList P G Q f (a.put o.dst (.slice I (n+m) J)) w'):wpList P G Q (o::f) a w:=
 wpList_plain O λK Z=>by
  obtain⟨I,J,w',F,h2,Y⟩:=q8b (P:=P) w T o.type base A n c xs E B m d M hr R h1 U hb p;unfold Oper.wp execOp;simp only[ho,resolve,invoke,builtin,Sem.run_bind,Sem.run_pure,Result.andThen_ok,List.map_toArray,List.map_cons,List.map_nil,hs,hx,F];exact Z _ _ (h I J w' h2 Y)
end
section
open Go.ChangeShapes Go.WideShapes Go.ChangeAt Go.Deep
structure Qb where
 k:Kd
 v:List UInt8
structure Qj where
 k:Kd
 a:Int
structure Nd where
 lvl:Int
 items:List Qb
 kids:List Qj
def kvs (k:Kd):List Value:=[.int .i64 k.obj,.int .i64 k.kind,.int .i64 k.off]
def Qj.vs (x:Qj):List Value:=[.int .i64 x.k.obj,.int .i64 x.k.kind,.int .i64 x.k.off,.int .i64 x.a]
def Qad (w:World)(r:List Value)(x:Qb):Prop:=∃B m d,r=[.int .i64 x.k.obj,.int .i64 x.k.kind,.int .i64 x.k.off,.slice B m d]/\Sl w B m d x.v
def Jg (w:World)(A:Option Addr)(n c:Nat)(xs:List Qb):Prop:=∃d,Jq w 4 A n c d/\d.length=xs.length/\∀(j:Nat) r x,d[j]?=some r->xs[j]?=some x->Qad w r x
def Zk (w:World)(A:Option Addr)(n c:Nat)(xs:List Qj):Prop:=Jq w 4 A n c (xs.map Qj.vs)
def Ee (w:World)(A:Option Addr)(n c:Nat)(xs:List Kd):Prop:=Jq w 3 A n c (xs.map kvs)
section
variable {w w':World}{n c:Nat}{A:Option Addr}
theorem Qad.below {r:List Value}{x:Qb}(h:Qad w r x)(hb:Below w.1.size w w'):Qad w' r x:=by
 obtain⟨B,m,d,e,f⟩:=h;exact⟨B,m,d,e,f.below hb⟩
theorem Jg.below {xs:List Qb}(h:Jg w A n c xs)(hb:Below w.1.size w w'):Jg w' A n c xs:=by
 obtain⟨d,h1,h2,f⟩:=h;exact⟨d,h1.below hb,h2,λj r x m p=>(f j r x m p).below hb⟩
theorem Zk.below {xs:List Qj}(h:Zk w A n c xs)(hb:Below w.1.size w w'):Zk w' A n c xs:=Jq.below h hb
theorem Ee.below {xs:List Kd}(h:Ee w A n c xs)(hb:Below w.1.size w w'):Ee w' A n c xs:=Jq.below h hb
theorem Jg.len {xs:List Qb}(h:Jg w A n c xs):xs.length=n:=by
 obtain⟨d,h1,h2,_⟩:=h;rw[<-h2];exact h1.len
theorem Zk.len {xs:List Qj}(h:Zk w A n c xs):xs.length=n:=by simpa using Jq.len h
theorem Ee.len {xs:List Kd}(h:Ee w A n c xs):xs.length=n:=by simpa using Jq.len h
theorem Jg.bounds {xs:List Qb}(h:Jg w A n c xs):n<=c/\c<=maxLen:=by
 obtain⟨d,h1,_⟩:=h;exact⟨h1.cap,h1.max⟩
theorem Zk.bounds {xs:List Qj}(h:Zk w A n c xs):n<=c/\c<=maxLen:=⟨Jq.cap h,Jq.max h⟩
theorem Ee.bounds {xs:List Kd}(h:Ee w A n c xs):n<=c/\c<=maxLen:=⟨Jq.cap h,Jq.max h⟩
theorem Jg.take {xs:List Qb}(h:Jg w A n c xs){k:Nat}(hk:k<=n):Jg w A k c (xs.take k):=by
 obtain⟨m,h1,h2,p⟩:=h;refine⟨m.take k,h1.take hk,by simp[h2],λj r x d f=>?_⟩;rw[List.getElem?_take] at d f;split at d
 ·rename_i u;rw[if_pos u] at f;exact p j r x d f
 ·cases d
theorem Zk.take {xs:List Qj}(h:Zk w A n c xs){k:Nat}(hk:k<=n):Zk w A k c (xs.take k):=by
 have:=Jq.take h hk;rw[<-List.map_take] at this;exact this
def Zb (xs:List Qb)(j:Nat):Qb:=xs.getD j ⟨⟨0,0,0⟩,[]⟩
def Qe (xs:List Qj)(j:Nat):Qj:=xs.getD j ⟨⟨0,0,0⟩,0⟩
def keyAt (xs:List Kd)(j:Nat):Kd:=xs.getD j ⟨0,0,0⟩
theorem Tf {xs:List Qb}{j:Nat}(h:j<xs.length):xs[j]?=some (Zb xs j):=by simp[Zb,List.getD,h]
theorem q12 {xs:List Qj}{j:Nat}(h:j<xs.length):xs[j]?=some (Qe xs j):=by simp[Qe,List.getD,h]
theorem qpm {xs:List Kd}{j:Nat}(h:j<xs.length):xs[j]?=some (keyAt xs j):=by simp[keyAt,List.getD,h]
theorem Jg.cell {xs:List Qb}(h:Jg w A n c xs){j:Nat}(hj:j<n):∃g o B m d,A=some ⟨g,o,none⟩/\g<w.1.size/\w.cell? ⟨g,o+j*4,none⟩=some (.int .i64 (Zb xs j).k.obj)/\w.cell? ⟨g,o+j*4+1,none⟩=some (.int .i64 (Zb xs j).k.kind)/\
  w.cell? ⟨g,o+j*4+2,none⟩=some (.int .i64 (Zb xs j).k.off)/\w.cell? ⟨g,o+j*4+3,none⟩=some (.slice B m d)/\Sl w B m d (Zb xs j).v:=by
 have G:=h.len;obtain⟨p,h1,h2,y⟩:=h;have u:p[j]?=some (p[j]'(by omega)):=List.getElem?_eq_getElem (by omega);obtain⟨B,m,d,e,F⟩:=y j _ _ u (Tf (by omega));obtain⟨g,o,rfl,E,_,f⟩:=h1.2.2.2 j _ u;rw[e] at f;exact⟨g,o,B,m,d,rfl,E,f 0 _ rfl,f 1 _ rfl,f 2 _ rfl,f 3 _ rfl,F⟩
theorem Zk.cell {xs:List Qj}(h:Zk w A n c xs){j:Nat}(hj:j<n):∃g o,A=some ⟨g,o,none⟩/\g<w.1.size/\w.cell? ⟨g,o+j*4,none⟩=some (.int .i64 (Qe xs j).k.obj)/\w.cell? ⟨g,o+j*4+1,none⟩=some (.int .i64 (Qe xs j).k.kind)/\
  w.cell? ⟨g,o+j*4+2,none⟩=some (.int .i64 (Qe xs j).k.off)/\w.cell? ⟨g,o+j*4+3,none⟩=some (.int .i64 (Qe xs j).a):=by
 have m:=h.len;obtain⟨g,o,rfl,f,_,d⟩:=h.2.2.2 j (Qe xs j).vs (by rw[List.getElem?_map,q12 (by omega)];rfl);exact⟨g,o,rfl,f,d 0 _ rfl,d 1 _ rfl,d 2 _ rfl,d 3 _ rfl⟩
theorem Ee.cell {xs:List Kd}(h:Ee w A n c xs){j:Nat}(hj:j<n):∃g o,A=some ⟨g,o,none⟩/\g<w.1.size/\w.cell? ⟨g,o+j*3,none⟩=some (.int .i64 (keyAt xs j).obj)/\w.cell? ⟨g,o+j*3+1,none⟩=some (.int .i64 (keyAt xs j).kind)/\
  w.cell? ⟨g,o+j*3+2,none⟩=some (.int .i64 (keyAt xs j).off):=by
 have m:=h.len;obtain⟨g,o,rfl,f,_,d⟩:=h.2.2.2 j (kvs (keyAt xs j)) (by rw[List.getElem?_map,qpm (by omega)];rfl);exact⟨g,o,rfl,f,d 0 _ rfl,d 1 _ rfl,d 2 _ rfl⟩
theorem qjm (w:World):Jg w none 0 0 []:=⟨[],qa8 w 4,rfl,λj r x d=>by simp at d⟩
theorem qdq (w:World):Zk w none 0 0 []:=qa8 w 4
end
section
variable {H:Type}{enc:TypeId × Value->H}{P:Program}{W:World}
structure Qc4 (P:Program)(t:TypeId)(f0 f1 f2:Field):Prop where
 st:P.underlying t=some (.struct #[f0,f1,f2])
 one:oneCellFields P #[f0,f1,f2]=true
 cells:P.cellsOf t=3
 h0:P.underlying f0.type=some (.int .i64)
 h1:P.underlying f1.type=some (.int .i64)
 h2:P.underlying f2.type=some (.int .i64)
end
end
section
open Go.ChangeMaps (setBlock)
structure Turn (S:Nat->Prop)(w w':World):Prop where
 os:w'.os=w.os
 tape:w'.tape=w.tape
 output:w'.output=w.output
 size:w.heap.size<=w'.heap.size
 block:∀k,k<w.heap.size->¬S k->w'.heap[k]?=w.heap[k]?
section
variable {S S':Nat->Prop}{w w' w'':World}
theorem Turn.refl (S:Nat->Prop)(w:World):Turn S w w:=⟨rfl,rfl,rfl,Nat.le_refl _,λ_ _ _=>rfl⟩
theorem Turn.trans (h:Turn S w w')(k:Turn S' w' w'')(hs:∀x,S' x->S x\/w.1.size<=x):Turn S w w'':=
 ⟨k.os.trans h.os,k.tape.trans h.tape,k.output.trans h.output,Nat.le_trans h.size k.size,λi hi hn=>(k.block i (Nat.lt_of_lt_of_le hi h.size) (λd=>by rcases hs i d with h1|h1;exact hn h1;omega)).trans (h.block i hi hn)⟩
theorem Turn.then (h:Turn S w w')(k:Turn S w' w''):Turn S w w'':=h.trans k λ_=>.inl
theorem Turn.mono (h:Turn S w w')(hs:∀x,S x->S' x):Turn S' w w':=⟨h.os,h.tape,h.output,h.size,λk d hn=>h.block k d λf=>hn (hs k f)⟩
theorem Turn.drew (h:Turn S w w'):Turn S w w'.drew:=⟨h.os,h.tape,h.output,h.size,h.block⟩
theorem Qx (h:Below w.1.size w w'):Turn S w w':=⟨h.os,h.tape,h.output,h.size,λk d _=>h.block k d⟩
theorem Turn.below {B:Nat}(h:Turn S w w')(hs:∀x,S x->B<=x)(hB:B<=w.1.size):Below B w w':=
 ⟨h.os,h.tape,h.output,h.size,λk f=>h.block k (by omega) λd=>by have:=hs k d;omega⟩
theorem qm9 (S:Nat->Prop)(w:World)(o:Obj):Turn S w (w.alloc o):=Qx ((Below.refl _ _).alloc (Nat.le_refl _) o)
theorem qma {row:Option Nat}(h:w.grownBy w' row)(f:∀k,row=some k->S k):Turn S w w':=
 ⟨h.os,h.tape,h.output,h.size,λk d hn=>h.block k d λe=>hn (f k e.symm)⟩
theorem Ac {a:Addr}(u:Value)(h:S a.block):Turn S w (w.setCell a u):=
 ⟨rfl,rfl,rfl,by simp[World.setCell],λk _ hn=>Below.heap_setCell _ _ _ _ (λe=>hn (e▸h))⟩
theorem Vb {b:Nat}(h:S b):∀(vs:List Value) (o:Nat) (w:World),Turn S w (w.setCells b o vs)
 |[],_,w=>Turn.refl S w
 |v::r,o,w=>by
  rw[World.setCells];exact (Ac (a:=⟨b,o,none⟩) v h).then (Vb h r (o+1) _)
theorem q0t {b:Nat}(o:Obj)(h:S b):Turn S w (setBlock w b o):=
 ⟨rfl,rfl,rfl,by simp[setBlock],λk _ hn=>by
  show (w.1.setIfInBounds b o)[k]?=_;rw[Array.getElem?_setIfInBounds_ne (λ(e:b=k)=>hn (e▸h))]⟩
theorem q3v (b:Nat):∀(vs:List Value) (o:Nat) (w:World),(w.setCells b o vs).1.size=w.1.size
 |[],_,w=>rfl
 |v::r,o,w=>by rw[World.setCells,q3v b r];simp[World.setCell]
theorem qdr (w:World)(b:Nat)(o:Obj):(setBlock w b o).1.size=w.1.size:=by simp[setBlock]
theorem q2n {b:Nat}{o:Obj}(h:b<w.1.size):(setBlock w b o).1[b]?=some o:=by
 show (w.1.setIfInBounds b o)[b]?=_;rw[Array.getElem?_setIfInBounds_self_of_lt h]
theorem D7 {b j:Nat}{c:Array Value}{t:TypeId}{fr:Nat × Nat}(u:Value)(h:w.1[b]?=some (.cells c t fr)):(w.setCell ⟨b,j,none⟩ u).1[b]?=some (.cells (c.setIfInBounds j u) t fr):=by
 simp[World.setCell,Array.getElem?_modify,h]
theorem Kw {b:Nat}{o:Obj}(h:w.1[b]?=some o):b<w.1.size:=(Array.getElem?_eq_some_iff.1 h).1
theorem q53 {b o:Nat}{d:List Value}(h:w.rangeAt b o d)(e:w'.1[b]?=w.1[b]?):w'.rangeAt b o d:=λj v f=>(World.cell?_of_block (a:=⟨b,o+j,none⟩) e).trans (h j v f)
theorem q7g {b o n:Nat}(h:w.there b o n)(e:w'.1[b]?=w.1[b]?):w'.there b o n:=λj d=>by
 obtain⟨h1,h2⟩:=h j d;exact⟨by rw[World.cell?_of_block (a:=⟨b,o+j,none⟩) e];exact h1,by rw[World.frozen?_of_block (a:=⟨b,o+j,none⟩) e];exact h2⟩
theorem q2o {base:Nat}{e:TypeId}{size n:Nat}{v:Value}{xs:List Value}(h:w.ownsRow base e size v n xs)(p:∀g,v.ownBlock=some g->w'.1[g]?=w.1[g]?):w'.ownsRow base e size v n xs:=by
 refine⟨h.1,?_⟩;rcases h.2 with d|⟨g,cap,f,d,h1,m,r⟩
 ·exact .inl d
 ·exact .inr ⟨g,cap,f,d,h1,(p g (by rw[d];rfl)).trans m,r⟩
theorem qpn {base d:Nat}{e:TypeId}{size n:Nat}{v:Value}{xs:List Value}(h:w.ownsRow base e size v n xs)(p:d<=base):w.ownsRow d e size v n xs:=by
 refine⟨h.1,?_⟩;rcases h.2 with m|⟨g,cap,f,m,h1,r⟩
 ·exact .inl m
 ·exact .inr ⟨g,cap,f,m,by omega,r⟩
theorem qaa {base:Nat}{e:TypeId}{size n:Nat}{v:Value}{xs:List Value}(h:w.ownsRow base e size v n xs)(hn:0<n):∃g c,v=.slice (some ⟨g,0,none⟩) n c/\n<=c/\c<=maxLen:=by
 rcases h.2 with d|⟨g,cap,f,d,_,_,h1,h2,_⟩
 ·omega
 ·exact⟨g,cap,d,h1,h2⟩
theorem qu1 {base:Nat}{e:TypeId}{size n:Nat}{v:Value}{xs:List Value}(h:w.ownsRow base e size v n xs):∃A c,v=.slice A n c/\n<=c/\c<=maxLen:=by
 rcases h.2 with⟨rfl,rfl⟩|⟨g,cap,d,f,_,_,h1,h2,_⟩
 ·exact⟨none,0,rfl,Nat.le_refl _,Nat.zero_le _⟩
 ·exact⟨_,cap,f,h1,h2⟩
end
def flat (d:List (List UInt8)):List Value:=d.flatten.map bv
def Iq (d:List (List UInt8)):Prop:=∀l∈d,l.length=256
def Yq (l:List UInt8):List Value:=l.map bv
theorem Ij (l:List UInt8):(Yq l).length=l.length:=by simp[Yq]
theorem qho (l:List UInt8):∀u∈Yq l,u.oneCell'=true:=qeg l
theorem qpo (d:List (List UInt8))(l:List UInt8):flat (d++[l])=flat d++Yq l:=by simp[flat,Yq]
theorem qpp (l:List UInt8)(d:List (List UInt8)):flat (l::d)=Yq l++flat d:=by simp[flat,Yq]
theorem qpq:∀{d:List (List UInt8)},Iq d->∀(i:Nat) (hi:i<d.length) (j:Nat) (_:j<256),(flat d)[i*256+j]?=(Yq d[i])[j]?
 |l::d,h,i,hi,j,hj=>by
  have f:(Yq l).length=256:=by rw[Ij,h l (by simp)]
  rw[qpp];rcases i with _|i
  ·rw[List.getElem?_append_left (by omega)];simp
  ·rw[List.getElem?_append_right (by omega),f];have e:(i+1)*256+j-256=i*256+j:=by omega
   rw[e,qpq (λx m=>h x (by simp[m])) i (by simpa using hi) j hj];simp
theorem qbz {w:World}{base g n c:Nat}{e:TypeId}{d:List (List UInt8)}(h:w.ownsRow base e 256 (.slice (some ⟨g,0,none⟩) n c) n (flat d))(f:Iq d)(hn:d.length=n)(i:Nat)(hi:i<d.length) :
  w.rangeAt g (i*256) (Yq d[i]):=λj v m=>by
 have p:j<256:=by
  have:=(List.getElem?_eq_some_iff.1 m).1;rw[Ij,f _ (List.getElem_mem hi)] at this;exact this
 rw[World.ownsRow.cellAt h (i*256+j) (by subst hn;have:i*256+256<=d.length*256:=(by omega);omega),qpq f i hi j p];exact m
theorem qu2 {w:World}{g o c:Nat}{l:List UInt8}(h:w.rangeAt g o (Yq l))(f:g<w.1.size)(d:l.length<=c)(hm:c<=maxLen):Sl w (some ⟨g,o,none⟩) l.length c l:=
 ⟨by simp,d,hm,λj u m=>⟨_,rfl,f,by rw[Addr.add_mid];exact h j u m⟩⟩
theorem qjn {w:World}{A:Option Addr}{n c:Nat}{l:List UInt8}(h:Sl w A n c l)(F:0<l.length):∃g o,A=some ⟨g,o,none⟩/\g<w.1.size/\w.rangeAt g o (Yq l):=by
 obtain⟨p,e,B,d⟩:=h.2.2.2 0 (bv l[0]) (by simp[F]);obtain⟨g,o,m⟩:=p;have f:m=none:=by
  cases m with
  |none=>rfl
  |some x=>
   simp only[World.cell?,Addr.add,if_true] at d;split at d<;>simp at d
 subst f;refine⟨g,o,e,B,λj v G=>?_⟩;obtain⟨u,y,_,E⟩:=h.2.2.2 j v G;obtain rfl:=Option.some.inj (e.symm.trans y);rw[<-Addr.add_mid];exact E
end
def q01:Option Addr->Option Nat
 |some a=>some a.block
 |none=>none
section
variable {P:Program}{t e:TypeId}{s b:Nat}{z:Value}(w:World)
theorem q23 (T:Dh P t e s b z)(ty:TypeId)(base:Nat)(A:Option Addr)(n c:Nat)(xs:List (List Value))(E:Qr w base e s A n c xs)
  (B:Option Addr) (m d:Nat) (I:List (List Value)) (U:Jq w s B m d I) (a2:0<m) (h1:∀y∈I,∀u∈y,u.oneCell'=true) (a6:n+m<=1000000) (hb:b<=100000) (F:base<=w.1.size) :
  ∃J c' w',(Builtin.append_ #[t,t] ty #[.slice A n c,.slice B m d]).run P w=.ok (.slice J (n+m) c') w'/\Qr w' base e s J (n+m) c' (xs++I)/\Turn (λk=>q01 A=some k) w w'/\(q01 J=q01 A\/q01 J=some w.1.size)/\q01 J≠none:=by
 obtain⟨i,hi,a8,b0,b1⟩:=info_parts T.info;obtain⟨g,o,rfl,hg,b3,b4⟩:=U.at_ a2;have G:∀y∈I,y.length=s:=λy R=>by
  obtain⟨j,hj⟩:=List.mem_iff_getElem?.1 R;obtain⟨_,_,_,_,h,_⟩:=U.2.2.2 j y hj;exact h
 have f:∀j u,I.flatten[j]?=some u->w.cell? ((⟨g,o,none⟩:Addr).add j)=some u:=by
  intro j u Q;obtain⟨y,R,hv⟩:=qz8 T.pos G j u Q;obtain⟨g',o',Y,_,_,a7⟩:=U.2.2.2 _ y R;injection Y with Y;injection Y with e1 e2;subst e1 e2;have:=a7 _ u hv;rw[Addr.add_mid];rw[Nat.add_assoc,Nat.mul_comm,Nat.div_add_mod] at this;exact this
 have a1:(n+m)*b<=140737488355328:=Nat.le_trans (Nat.mul_le_mul a6 hb) (by decide);obtain⟨v',w',O,h2,h3,h4,Z⟩:=run_append_own_at (P:=P) w base t ty e i z s b T.sl hi a8 b0 b1 T.cells T.pos _ n _ E.1 ⟨g,o,none⟩ m d I.flatten (by rw[qby G,U.len]) f (λu Q=>by
  obtain⟨y,R,Q⟩:=List.mem_flatten.1 Q;exact h1 y R u Q) (by unfold maxLen;omega) a1 F
 have M:∀(X:Option Addr) p q,Value.ownBlock (.slice X p q)=q01 X:=λX p q=>by cases X<;>rfl
 rw[M] at h3 Z;rw[<-List.flatten_append] at h2;have K:∀x∈xs++I,x.length=s:=λx hx=>by
  rcases List.mem_append.1 hx with h|h
  ·exact E.2 x h
  ·exact G x h
 rcases h2.2 with⟨rfl,h0⟩|⟨g',cap,b2,rfl,_⟩
 ·omega
 ·rw[M] at Z;exact⟨_,_,w',O,⟨h2,K⟩,qma h3 (λk hk=>hk),Z,by simp[q01]⟩
theorem qab (T:Dh P t e s b z){I:Array Oper}{f:List Oper}{o:Oper}{a:Act}{Q:Exit->Act->World->Prop}(O:o.guard=none)(X x:Operand)
  (ho:o.op=.call { callee:=.builtin .append,args:=#[X,x],argTypes:=#[t,t] })
  (base:Nat) (A:Option Addr) (n c:Nat) (xs:List (List Value)) (hs:a.eval X=.slice A n c) (F:Qr w base e s A n c xs)
  (B:Option Addr) (m d:Nat) (M:List (List Value)) (hx:a.eval x=.slice B m d) (hr:Jq w s B m d M) (R:0<m) (h1:∀y∈M,∀u∈y,u.oneCell'=true) (U:n+m<=1000000) (hb:b<=100000) (E:base<=w.1.size)
  (h:∀p J w',Qr w' base e s p (n+m) J (xs++M)->Turn (λk=>q01 A=some k) w w'->(q01 p=q01 A\/q01 p=some w.1.size)->q01 p≠none->wpList P I Q f (a.put o.dst (.slice p (n+m) J)) w'):wpList P I Q (o::f) a w:=
 wpList_plain O λK hK=>by
  obtain⟨p,J,w',G,h2,Y,Z,h5⟩:=q23 (P:=P) w T o.type base A n c xs F B m d M hr R h1 U hb E;unfold Oper.wp execOp;simp only[ho,resolve,invoke,builtin,Sem.run_bind,Sem.run_pure,Result.andThen_ok,List.map_toArray,List.map_cons,List.map_nil,hs,hx,G];exact hK _ _ (h p J w' h2 Y Z h5)
end
theorem Sl.turned {w w':World}{A:Option Addr}{n c:Nat}{l:List UInt8}(h:Sl w A n c l){S:Nat->Prop}(T:Turn S w w')(hA:∀k,q01 A=some k->¬S k):Sl w' A n c l:=
 ⟨h.1,h.2.1,h.2.2.1,λj u p=>by
  obtain⟨d,e,f,m⟩:=h.2.2.2 j u p;refine⟨d,e,by have:=T.size;omega,?_⟩;rw[World.cell?_of_block (a:=d.add j) (w':=w') (w:=w) (by rw[Ls];exact T.block _ f (hA _ (by rw[e];rfl)))];exact m⟩
theorem Qr.turned {w w':World}{base:Nat}{e:TypeId}{s:Nat}{A:Option Addr}{n c:Nat}{xs:List (List Value)}(h:Qr w base e s A n c xs){S:Nat->Prop}(T:Turn S w w')(hA:∀k,q01 A=some k->¬S k):Qr w' base e s A n c xs:=by
 refine⟨⟨h.1.1,?_⟩,h.2⟩;rcases h.1.2 with d|⟨g,cap,f,d,h1,m,r⟩
 ·exact .inl d
 ·refine .inr ⟨g,cap,f,d,h1,(T.block g (Array.getElem?_eq_some_iff.1 m).1 (hA g ?_)).trans m,r⟩;injection d with d;rw[d];rfl
theorem Qr.Qc {w:World}{base:Nat}{e:TypeId}{s:Nat}{A:Option Addr}{n c:Nat}{xs:List (List Value)}(h:Qr w base e s A n c xs):∀k,q01 A=some k->base<=k/\k<w.1.size:=by
 intro k f;rcases h.1.2 with⟨d,_⟩|⟨g,cap,m,d,h1,p,r⟩
 ·injection d with d;rw[d] at f;cases f
 ·injection d with d;rw[d] at f;obtain rfl:g=k:=Option.some.inj f;exact⟨h1,(Array.getElem?_eq_some_iff.1 p).1⟩
section
open Go.ChangeMaps (setBlock)
structure DM where
 n:Nat
 Xc:Nat->List UInt8
 Zm:Nat->List (List UInt8)
 off:Bool
 fused:Bool
 left:Nat
 steps:Nat
 cap:Nat
def upd {α:Type}(f:Nat->α)(s:Nat)(x:α):Nat->α:=λk=>if k=s then x else f k
theorem Bd {α:Type}(f:Nat->α)(s:Nat)(x:α):upd f s x s=x:=by simp[upd]
theorem Au {α:Type}(f:Nat->α){s k:Nat}(x:α)(h:k≠s):upd f s x k=f k:=by simp[upd,h]
def Qa (n:Nat):Prop:=32<=n/\n<=2048
theorem TB:(Tryz.prog.info? 289).map (λi=>(i.zero,i.size,i.bytes))=some (some (.agg (Array.replicate 256 (.int .u8 0))),256,256):=by kernel_rfl
structure Lay (w:World)(bp bd bm:Nat)(l:List MapEntry)(clock:Nat)(v:Nat->Value)(S:Nat->Prop)(D:DM):Prop where
 me:w.heap[bp]?=some (.cells #[.slice (some ⟨bd,0,none⟩) D.n D.cap,.map (some bm),.bool D.off,.bool D.fused,.int .i64 D.left,.int .i64 D.steps] 152 (0,0))
 Xc:∀s,s<D.n->w.rangeAt bd (s*256) (Yq (D.Xc s))
 Em:∀s,s<D.n->w.there bd (s*256) 256
 map:w.heap[bm]?=some (.map l.toArray clock)
 ents:U1 l clock
 look:∀s:Nat,Zf s l=if D.Zm s=[] then none else some (v s)
 keys:∀e∈l,∃s:Nat,s<D.n/\kI e=s
 row:∀s,w.ownsRow 0 289 256 (v s) (D.Zm s).length (flat (D.Zm s))
 nil:∀s,D.Zm s=[]->v s=.slice none 0 0
 dl:∀s,(D.Xc s).length=256
 cl:∀s,Iq (D.Zm s)
 out:∀s,D.n<=s->D.Zm s=[]
 Yn:S bp/\S bd/\S bm/\∀s g,(v s).ownBlock=some g->S g
 ne:bp≠bd/\∀s g,(v s).ownBlock=some g->g≠bp/\g≠bd
 sep:∀s s' g,(v s).ownBlock=some g->(v s').ownBlock=some g->s=s'
 n32:Qa D.n
 left:D.left<=9223372036854775807
def Wu (w:World)(bp:Nat)(S:Nat->Prop)(D:DM):Prop:=∃bd bm l clock v,Lay w bp bd bm l clock v S D
section
variable {w w':World}{bp bd bm clock:Nat}{l:List MapEntry}{v:Nat->Value}{S:Nat->Prop}{D:DM}
theorem Lay.pos (L:Lay w bp bd bm l clock v S D):0<D.n:=by have:=L.n32;unfold Qa at this;omega
theorem Lay.Ri (L:Lay w bp bd bm l clock v S D):∃c t d,w.1[bd]?=some (.cells c t d):=by
 have h:=(L.Em 0 L.pos 0 (by omega)).1;unfold World.cell? at h;split at h
 ·rename_i c t d f;exact⟨c,t,d,f⟩
 ·cases h
theorem Lay.Qaq (L:Lay w bp bd bm l clock v S D):bd≠bm:=λe=>by
 obtain⟨c,t,d,h⟩:=L.Ri;rw[e,L.map] at h;cases h
theorem Lay.Qar (L:Lay w bp bd bm l clock v S D):bp≠bm:=λe=>by
 have h:=L.me;rw[e,L.map] at h;cases h
theorem Lay.Ws (L:Lay w bp bd bm l clock v S D){s g:Nat}(h:(v s).ownBlock=some g):∃c t,w.1[g]?=some (.cells c t (0,0)):=by
 rcases (L.row s).2 with⟨d,_⟩|⟨p,cap,f,d,_,m,_⟩
 ·rw[d] at h;cases h
 ·rw[d] at h;cases h;exact⟨_,_,m⟩
theorem Lay.Tt (L:Lay w bp bd bm l clock v S D){s g:Nat}(h:(v s).ownBlock=some g):g≠bm:=λe=>by
 obtain⟨c,t,d⟩:=L.Ws h;rw[e,L.map] at d;cases d
theorem Lay.keep (L:Lay w bp bd bm l clock v S D)(hk:∀k,k<w.1.size->S k->w'.1[k]?=w.1[k]?):Lay w' bp bd bm l clock v S D:=by
 obtain⟨c,t,B,d⟩:=L.Ri;have u:=hk bp (Kw L.me) L.Yn.1;have m:=hk bd (Kw d) L.Yn.2.1;have y:=hk bm (Kw L.map) L.Yn.2.2.1;exact⟨u.trans L.me,λs f=>q53 (L.Xc s f) m,λs f=>q7g (L.Em s f) m,y.trans L.map,L.ents,L.look,L.keys,
  λs=>q2o (L.row s) λg p=>by obtain⟨c,t,h⟩:=L.Ws p;exact hk g (Kw h) (L.Yn.2.2.2 s g p),L.nil,L.dl,L.cl,L.out,L.Yn,L.ne,L.sep,L.n32,L.left⟩
theorem Lay.mono {S':Nat->Prop}(L:Lay w bp bd bm l clock v S D)(h:∀k,k<w.1.size->S k->S' k):Lay w bp bd bm l clock v S' D:=by
 obtain⟨c,t,m,d⟩:=L.Ri;exact⟨L.me,L.Xc,L.Em,L.map,L.ents,L.look,L.keys,L.row,L.nil,L.dl,L.cl,L.out,
  ⟨h _ (Kw L.me) L.Yn.1,h _ (Kw d) L.Yn.2.1,h _ (Kw L.map) L.Yn.2.2.1,λs g f=>by obtain⟨c,t,h2⟩:=L.Ws f;exact h g (Kw h2) (L.Yn.2.2.2 s g f)⟩,L.ne,L.sep,L.n32,L.left⟩
theorem Lay.struct (L:Lay w bp bd bm l clock v S D)(off fused:Bool)(left steps:Nat)(hl:left<=9223372036854775807)
  (h1:w'.1[bp]?=some (.cells #[.slice (some ⟨bd,0,none⟩) D.n D.cap,.map (some bm),.bool off,.bool fused,.int .i64 left,.int .i64 steps] 152 (0,0)))
  (h2:∀k,k<w.1.size->k≠bp->w'.1[k]?=w.1[k]?):Lay w' bp bd bm l clock v S { D with off:=off,fused:=fused,left:=left,steps:=steps }:=by
 obtain⟨c,t,y,d⟩:=L.Ri;have m:=h2 bd (Kw d) (λe=>L.ne.1 e.symm);have u:=h2 bm (Kw L.map) (λe=>L.Qar e.symm);exact⟨h1,λs f=>q53 (L.Xc s f) m,λs f=>q7g (L.Em s f) m,u.trans L.map,L.ents,L.look,L.keys,
  λs=>q2o (L.row s) λg p=>by obtain⟨c,t,h⟩:=L.Ws p;exact h2 g (Kw h) (L.ne.2 s g p).1,L.nil,L.dl,L.cl,L.out,L.Yn,L.ne,L.sep,L.n32,hl⟩
theorem Lay.Qbj (L:Lay w bp bd bm l clock v S D)(s:Nat)(x:List UInt8)(hx:x.length=256)
  (h1:∀k,k<w.1.size->k≠bd->w'.1[k]?=w.1[k]?) (h2:s<D.n->w'.rangeAt bd (s*256) (Yq x)) (h3:∀z,z<D.n->z≠s->w'.rangeAt bd (z*256) (Yq (D.Xc z))) (h4:∀z,z<D.n->w'.there bd (z*256) 256) :
  Lay w' bp bd bm l clock v S { D with Xc:=upd D.Xc s x }:=by
 have p:=h1 bp (Kw L.me) L.ne.1;have u:=h1 bm (Kw L.map) (λe=>L.Qaq e.symm);refine⟨p.trans L.me,λz m=>?_,h4,u.trans L.map,L.ents,L.look,L.keys,
  λs=>q2o (L.row s) λg f=>by obtain⟨c,t,h⟩:=L.Ws f;exact h1 g (Kw h) (L.ne.2 s g f).2,L.nil,λz=>?_,L.cl,L.out,L.Yn,L.ne,L.sep,L.n32,L.left⟩
 ·show w'.rangeAt bd (z*256) (Yq (upd D.Xc s x z));by_cases d:z=s
  ·subst d;rw[Bd];exact h2 m
  ·rw[Au _ _ d];exact h3 z m d
 ·show (upd D.Xc s x z).length=256;by_cases d:z=s
  ·rw[d,Bd];exact hx
  ·rw[Au _ _ d];exact L.dl z
theorem Lay.store (L:Lay w bp bd bm l clock v S D)(s:Nat)(hs:s<D.n)(x:List UInt8)(hx:x.length=256) :
  Lay (w.setCells bd (s*256) (Yq x)) bp bd bm l clock v S { D with Xc:=upd D.Xc s x }:=by
 have m:=Vb (S:=λk=>k=bd) (b:=bd) rfl (Yq x) (s*256) w;refine L.Qbj s x hx (λk p hn=>m.block k p hn) (λ_=>World.rangeAt_setCells_same _ _ _ _ ?_) (λz d f=>World.rangeAt_setCells_apart (L.Xc z d) _ _ _ ?_) λz d=>World.there_setCells (L.Em z d) _ _ _
 ·rw[Ij,hx];exact L.Em s hs
 ·rw[Ij,Ij,hx,L.dl z];rcases Nat.lt_or_gt_of_ne f with h|h
  ·right;left;omega
  ·right;right;omega
theorem Lay.Tv (L:Lay w bp bd bm l clock v S D)(s:Nat)(hs:s<D.n){l':List MapEntry}{clock':Nat}{S':Nat->Prop}(v1:Value)(ls:List (List UInt8))(hls:Iq ls)
  (hS:∀k,k<w.1.size->S k->S' k) (h1:∀k,k<w.1.size->k≠bm->some k≠(v s).ownBlock->w'.1[k]?=w.1[k]?) (hm:w'.1[bm]?=some (.map l'.toArray clock')) (hE:U1 l' clock')
  (hlook:∀z:Nat,Zf z l'=if z=s then (if ls=[] then none else some v1) else Zf z l) (hkeys:∀e∈l',e∈l\/kI e=s)
  (hrow:w'.ownsRow 0 289 256 v1 ls.length (flat ls)) (hnil:ls=[]->v1=.slice none 0 0)
  (hat:v1.ownBlock=none\/v1.ownBlock=(v s).ownBlock\/∃g,v1.ownBlock=some g/\w.1.size<=g/\S' g) :
  Lay w' bp bd bm l' clock' (upd v s v1) S' { D with Zm:=upd D.Zm s ls }:=by
 obtain⟨c,t,R,B⟩:=L.Ri;have G:=Kw L.me;have I:=Kw B;have K:=Kw L.map;have M:=h1 bp G L.Qar (λe=>(L.ne.2 s bp e.symm).1 rfl);have J:=h1 bd I L.Qaq (λe=>(L.ne.2 s bd e.symm).2 rfl);have m:∀z g,(upd v s v1 z).ownBlock=some g->(z≠s/\(v z).ownBlock=some g)\/(z=s/\((v s).ownBlock=some g\/(w.1.size<=g/\S' g))):=by
  intro z g f;by_cases d:z=s
  ·subst d;rw[Bd] at f;rcases hat with h|h|⟨T,h,h2,O⟩
   ·rw[h] at f;cases f
   ·exact .inr ⟨rfl,.inl (h▸f)⟩
   ·rw[h] at f;cases f;exact .inr ⟨rfl,.inr ⟨h2,O⟩⟩
  ·rw[Au _ _ d] at f;exact .inl ⟨d,f⟩
 have u:∀z g,(v z).ownBlock=some g->g<w.1.size:=λz g f=>by obtain⟨c,t,h⟩:=L.Ws f;exact Kw h
 refine⟨M.trans L.me,λz d=>q53 (L.Xc z d) J,λz d=>q7g (L.Em z d) J,hm,hE,λz=>?_,λe Q=>?_,λz=>?_,λz d=>?_,L.dl,λz=>?_,λz d=>?_,
  ⟨hS _ G L.Yn.1,hS _ I L.Yn.2.1,hS _ K L.Yn.2.2.1,λz g f=>?_⟩,⟨L.ne.1,λz g f=>?_⟩,λz y g f E=>?_,L.n32,L.left⟩
 ·rw[hlook z];show _=if upd D.Zm s ls z=[] then none else some (upd v s v1 z)
  by_cases d:z=s
  ·rw[d,if_pos rfl,Bd,Bd]
  ·rw[if_neg d,Au _ _ d,Au _ _ d];exact L.look z
 ·rcases hkeys e Q with h|h
  ·exact L.keys e h
  ·exact⟨s,hs,h⟩
 ·show w'.ownsRow 0 _ 256 (upd v s v1 z) (upd D.Zm s ls z).length (flat (upd D.Zm s ls z));by_cases d:z=s
  ·rw[d,Bd,Bd];exact hrow
  ·rw[Au _ _ d,Au _ _ d];exact q2o (L.row z) λg f=>h1 g (u z g f) (L.Tt f) λe=>d (L.sep z s g f e.symm)
 ·show upd v s v1 z=_;by_cases p:z=s
  ·subst p;rw[Bd];exact hnil (by simpa [Bd] using d)
  ·rw[Au _ _ p];exact L.nil z (by simpa [Au _ _ p] using d)
 ·show Iq (upd D.Zm s ls z);by_cases p:z=s
  ·rw[p,Bd];exact hls
  ·rw[Au _ _ p];exact L.cl z
 ·show upd D.Zm s ls z=[];have:D.n<=z:=d;rw[Au _ _ (by omega)];exact L.out z d
 ·rcases m z g f with⟨_,h⟩|⟨_,h|h⟩
  ·exact hS _ (u z g h) (L.Yn.2.2.2 z g h)
  ·exact hS _ (u s g h) (L.Yn.2.2.2 s g h)
  ·exact h.2
 ·rcases m z g f with⟨_,h⟩|⟨_,h|h⟩
  ·exact L.ne.2 z g h
  ·exact L.ne.2 s g h
  ·omega
 ·rcases m z g f with⟨h0,h⟩|⟨h0,h⟩<;>rcases m y g E with⟨F,k⟩|⟨F,k⟩
  ·exact L.sep z y g h k
  ·rcases k with k|k
   ·rw[F];exact L.sep z s g h k
   ·have:=u z g h;omega
  ·rcases h with h|h
   ·rw[h0];exact L.sep s y g h k
   ·have:=u y g k;omega
  ·rw[h0,F]
theorem Lay.forget (L:Lay w bp bd bm l clock v S D)(s:Nat)(hs:s<D.n) :
  Lay (setBlock w bm (.map (Xp s l).toArray clock)) bp bd bm (Xp s l) clock (upd v s (.slice none 0 0)) S { D with Zm:=upd D.Zm s [] }:=by
 have d:=q0t (w:=w) (S:=λk=>k=bm) (b:=bm) (.map (Xp s l).toArray clock) rfl;refine L.Tv s hs _ [] (by simp[Iq]) (λ_ _ h=>h) (λk m hn _=>d.block k m hn) (q2n (Kw L.map)) (L.ents.del s) (λz=>?_) (λe f=>.inl (q5n f)) (World.ownsRow_nil _ _ _ _) (λ_=>rfl) (.inl rfl);rw[q8q z L.ents.one,if_pos rfl];by_cases h:z=s
 ·subst h;simp
 ·rw[if_neg (by omega),if_neg h]
end
end
section
variable {w:World}{bp bd bm clock:Nat}{l:List MapEntry}{v:Nat->Value}{S:Nat->Prop}{D:DM}
theorem Lay.c0 (L:Lay w bp bd bm l clock v S D):w.cell? ⟨bp,0,none⟩=some (.slice (some ⟨bd,0,none⟩) D.n D.cap):=by rw[cell_of_row w bp 0 _ _ _ L.me];rfl
theorem Lay.c1 (L:Lay w bp bd bm l clock v S D):w.cell? ⟨bp,1,none⟩=some (.map (some bm)):=by rw[cell_of_row w bp 1 _ _ _ L.me];rfl
theorem Lay.c2 (L:Lay w bp bd bm l clock v S D):w.cell? ⟨bp,2,none⟩=some (.bool D.off):=by rw[cell_of_row w bp 2 _ _ _ L.me];rfl
theorem Lay.c3 (L:Lay w bp bd bm l clock v S D):w.cell? ⟨bp,3,none⟩=some (.bool D.fused):=by rw[cell_of_row w bp 3 _ _ _ L.me];rfl
theorem Lay.c4 (L:Lay w bp bd bm l clock v S D):w.cell? ⟨bp,4,none⟩=some (.int .i64 D.left):=by rw[cell_of_row w bp 4 _ _ _ L.me];rfl
theorem Lay.c5 (L:Lay w bp bd bm l clock v S D):w.cell? ⟨bp,5,none⟩=some (.int .i64 D.steps):=by rw[cell_of_row w bp 5 _ _ _ L.me];rfl
theorem Lay.fz (L:Lay w bp bd bm l clock v S D)(j:Nat):w.frozen? ⟨bp,j,none⟩=false:=by simp[World.frozen?,L.me]
end
theorem qds {w:World}{bp bd bm clock:Nat}{l:List MapEntry}{v:Nat->Value}{S:Nat->Prop}{D:DM}(L:Lay w bp bd bm l clock v S D)(s:Int) :
  Calls Tryz.prog 205 #[.pointer (some ⟨bp,0,none⟩),.int .i64 s] w λe w'=>e=.returned (.bool (decide (0<=s/\s<(D.n:Int))))/\w=w':=by
 have c0:=L.c0;go_enter Tryz.func205,Tryz.ntmps205
 by_cases h0:0<=s
 ·by_cases h1:s<(D.n:Int)
  ·go_wp2;go_ret;simp[h0,h1]
  ·go_wp2;go_ret;simp[h1];try omega
 ·go_wp2;go_ret;simp;intro;omega
theorem q8y {w:World}{bp bd bm clock:Nat}{l:List MapEntry}{v:Nat->Value}{S:Nat->Prop}{D:DM}(L:Lay w bp bd bm l clock v S D) :
  Calls Tryz.prog 90 #[.pointer (some ⟨bp,0,none⟩)] w λe w'=>e=.returned (.int .i64 (D.n:Int))/\w=w':=by
 have c0:=L.c0;go_enter Tryz.func90,Tryz.ntmps90
 go_wp2;go_ret;exact⟨rfl,rfl⟩
theorem qz9 {w:World}{bp bd bm clock:Nat}{l:List MapEntry}{v:Nat->Value}{S:Nat->Prop}{D:DM}(L:Lay w bp bd bm l clock v S D) :
  Calls Tryz.prog 153 #[.pointer (some ⟨bp,0,none⟩)] w λe w'=>e=.returned (.bool (!D.off))/\w=w':=by
 have c0:=L.c2;go_enter Tryz.func153,Tryz.ntmps153
 go_wp2;go_ret;exact⟨rfl,rfl⟩
def DM.stop (D:DM):Bool:=D.off||(D.fused&&decide (D.left=0))
def DM.stepD (D:DM):DM:={ D with off:=D.stop,left:=if D.stop then D.left else if D.fused then D.left-1 else D.left,steps:=if D.stop then D.steps else D.steps+1 }
def DM.err (D:DM):Int:=if D.stop then 4 else 0
theorem Lay.off1 {w:World}{bp bd bm clock:Nat}{l:List MapEntry}{v:Nat->Value}{S:Nat->Prop}{D:DM}(L:Lay w bp bd bm l clock v S D)(b:Bool) :
  Lay (w.setCell ⟨bp,2,none⟩ (.bool b)) bp bd bm l clock v S { D with off:=b }:=
 L.struct b D.fused D.left D.steps L.left (by rw[D7 _ L.me];rfl) λk _ hn=>Below.heap_setCell _ _ _ _ hn
theorem Lay.left1 {w:World}{bp bd bm clock:Nat}{l:List MapEntry}{v:Nat->Value}{S:Nat->Prop}{D:DM}(L:Lay w bp bd bm l clock v S D)(n:Nat)(hn:n<=9223372036854775807){x:Int}(hx:x=(n:Int)) :
  Lay (w.setCell ⟨bp,4,none⟩ (.int .i64 x)) bp bd bm l clock v S { D with left:=n }:=by
 subst hx;exact L.struct D.off D.fused n D.steps hn (by rw[D7 _ L.me];rfl) λk _ hn=>Below.heap_setCell _ _ _ _ hn
theorem Lay.Qaa {w:World}{bp bd bm clock:Nat}{l:List MapEntry}{v:Nat->Value}{S:Nat->Prop}{D:DM}(L:Lay w bp bd bm l clock v S D)(n:Nat){x:Int}(hx:x=(n:Int)) :
  Lay (w.setCell ⟨bp,5,none⟩ (.int .i64 x)) bp bd bm l clock v S { D with steps:=n }:=by
 subst hx;exact L.struct D.off D.fused D.left n L.left (by rw[D7 _ L.me];rfl) λk _ hn=>Below.heap_setCell _ _ _ _ hn
theorem q7h {bp:Nat}(w:World)(j:Nat)(u:Value):Turn (λk=>k=bp) w (w.setCell ⟨bp,j,none⟩ u):=Ac u rfl
theorem qjo {w:World}{bp bd bm clock:Nat}{l:List MapEntry}{v:Nat->Value}{S:Nat->Prop}{D:DM}(L:Lay w bp bd bm l clock v S D)(f:D.steps<=1000000000) :
  Calls Tryz.prog 206 #[.pointer (some ⟨bp,0,none⟩)] w λe w'=>e=.returned (.int .i64 D.err)/\Lay w' bp bd bm l clock v S D.stepD/\Turn (λk=>k=bp) w w':=by
 have c2:=L.c2;have c3:=L.c3;have c4:=L.c4;have c5:=L.c5;have y:=L.fz 2;have B:=L.fz 4;have f5:=L.fz 5;have d:=L.left;obtain⟨n,Xc,Zm,off,fused,left,steps,cap⟩:=D;simp only at c2 c3 c4 c5 f d
 cases off with
 |true=>
  rw[show (DM.stepD ⟨n,Xc,Zm,true,fused,left,steps,cap⟩)=⟨n,Xc,Zm,true,fused,left,steps,cap⟩ from rfl,show (DM.err ⟨n,Xc,Zm,true,fused,left,steps,cap⟩)=4 from rfl]
  cases fused with
  |true=>
   by_cases h0:left=0
   ·subst h0;go_enter Tryz.func206,Tryz.ntmps206
    go_wp2;go_ret;exact⟨rfl,L.off1 true,q7h _ _ _⟩
   ·go_enter Tryz.func206,Tryz.ntmps206
    go_wp2;go_ret;exact⟨rfl,L,Turn.refl _ _⟩
  |false=>
   go_enter Tryz.func206,Tryz.ntmps206
   go_wp2;go_ret;exact⟨rfl,L,Turn.refl _ _⟩
 |false=>
  cases fused with
  |true=>
   by_cases h0:left=0
   ·subst h0;rw[show (DM.stepD ⟨n,Xc,Zm,false,true,0,steps,cap⟩)=⟨n,Xc,Zm,true,true,0,steps,cap⟩ from rfl,show (DM.err ⟨n,Xc,Zm,false,true,0,steps,cap⟩)=4 from rfl];go_enter Tryz.func206,Tryz.ntmps206
    go_wp2;go_ret;exact⟨rfl,L.off1 true,q7h _ _ _⟩
   ·have m:(DM.stop ⟨n,Xc,Zm,false,true,left,steps,cap⟩)=false:=by simp[DM.stop,h0]
    have p:(DM.stepD ⟨n,Xc,Zm,false,true,left,steps,cap⟩)=⟨n,Xc,Zm,false,true,left-1,steps+1,cap⟩:=by simp[DM.stepD,m]
    have u:(DM.err ⟨n,Xc,Zm,false,true,left,steps,cap⟩)=0:=by simp[DM.err,m]
    rw[p,u];go_enter Tryz.func206,Tryz.ntmps206
    go_wp2;go_ret;exact⟨rfl,(L.left1 (left-1) (by omega) (by omega)).Qaa (steps+1) (by omega),(q7h _ _ _).then (q7h _ _ _)⟩
  |false=>
   rw[show (DM.stepD ⟨n,Xc,Zm,false,false,left,steps,cap⟩)=⟨n,Xc,Zm,false,false,left,steps+1,cap⟩ from rfl,show (DM.err ⟨n,Xc,Zm,false,false,left,steps,cap⟩)=0 from rfl];go_enter Tryz.func206,Tryz.ntmps206
   go_wp2;go_ret;exact⟨rfl,L.Qaa (steps+1) (by omega),q7h _ _ _⟩
