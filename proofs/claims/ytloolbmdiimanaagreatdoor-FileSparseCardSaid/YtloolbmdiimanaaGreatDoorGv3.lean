/- Rows of structs: slices whose elements are rows of s cells; nothing here speaks of one pro -/
import Derived.Test.YtloolbmdiimanaaGreatDoorGv2
import Derived.Deep.MidRow
import Derived.Deep.Slices
import Derived.Deep.Fields
import Derived.WideShapes
import Derived.Deep.WholeRow
import Derived.Test.YtloolbmdiimanaaGreatDoorChecked
namespace Go.Proofs.YtloolbmdiimanaaGreatDoor
open Go Go.RowKit Go.Proofs Tryz
set_option maxHeartbeats 1000000
set_option maxRecDepth 100000
def Jy (w:WD)(s:Nat)(A:OA)(n c:Nat)(xs:List (LV)):Prop:=
 xs.length=n/\n<=c/\c<=maxLen/\∀(j:Nat) x,xs[j]?=some x->∃g o,A=some ⟨g,o,none⟩/\g<w.1.size/\x.length=s/\w.rangeAt g (o+j*s) x
section
variable {w w':WD}{s n c:Nat}{A:OA}{xs:List (LV)}
theorem Jy.len (h:Jy w s A n c xs):xs.length=n:=h.1
theorem Jy.cap (h:Jy w s A n c xs):n<=c:=h.2.1
theorem Jy.max (h:Jy w s A n c xs):c<=maxLen:=h.2.2.1
theorem Jy.keep (h:Jy w s A n c xs)(hz:w.1.size<=w'.1.size)(hk:∀g o,A=some ⟨g,o,none⟩->g<w.1.size->w'.1[g]?=w.1[g]?):Jy w' s A n c xs:=
 ⟨h.1,h.2.1,h.2.2.1,λj x u=>by
  obtain⟨g,o,e,d,f,m⟩:=h.2.2.2 j x u;exact⟨g,o,e,by omega,f,λi v p=>(AY (a:=⟨g,o+j*s+i,none⟩) (hk g o e d)).trans (m i v p)⟩⟩
theorem Jy.below (h:Jy w s A n c xs)(hb:Below w.1.size w w'):Jy w' s A n c xs:=h.keep hb.size λg _ _ d=>hb.block g d
theorem Jy.take (h:Jy w s A n c xs){k:Nat}(hk:k<=n):Jy w s A k c (xs.take k):=by
 refine⟨by have:=h.len;simp;omega,by have:=h.cap;omega,h.max,λj x d=>h.2.2.2 j x ?_⟩;rw[List.getElem?_take] at d;split at d
 ·exact d
 ·cases d
theorem Jy.at_ (h:Jy w s A n c xs){j:Nat}(hj:j<n):∃g o,A=some ⟨g,o,none⟩/\g<w.1.size/\(xs.getD j []).length=s/\w.rangeAt g (o+j*s) (xs.getD j []):=by
 have d:j<xs.length:=by have:=h.len;omega
 exact h.2.2.2 j _ (by simp[List.getD,d])
theorem qao (w:WD)(s:Nat):Jy w s none 0 0 []:=⟨rfl,AE _,AW _,λj u d=>by simp at d⟩
end
structure Az (P:Program)(t e:TypeId)(s b:Nat)(z:Value):Prop where
 sl:P.underlying t=some (.slice e)
 info:(P.info? e).map (λi=>(i.zero,i.size,i.bytes))=some (some z,s,b)
 cells:z.cells.size=s
 pos:0<s
def Qz (w:WD)(base:Nat)(e:TypeId)(s:Nat)(A:OA)(n c:Nat)(xs:List (LV)):Prop:=w.ownsRow base e s (.slice A n c) n xs.flatten/\∀x∈xs,x.length=s
theorem qct {s:Nat}:∀{xs:List (LV)},(∀x∈xs,x.length=s)->xs.flatten.length=xs.length*s
 |[],_=>by simp
 |x::xs,h=>by
  rw[List.flatten_cons,AD,qct (λy d=>h y (AO _ d)),h x (AP ..),AX,Nat.add_mul,Nat.one_mul,Nat.add_comm]
theorem qke {s:Nat}:∀{xs:List (LV)},(∀x∈xs,x.length=s)->∀(j:Nat) x,xs[j]?=some x->∀(i:Nat) v,x[i]?=some v->xs.flatten[j*s+i]?=some v
 |[],_,j,x,hx,_,_,_=>by simp at hx
 |y::xs,h,0,x,hx,i,v,hv=>by
  obtain rfl:y=x:=by simpa using hx
  rw[List.flatten_cons,Nat.zero_mul,AT,List.getElem?_append_left (List.getElem?_eq_some_iff.1 hv).1];exact hv
 |y::xs,h,j+1,x,hx,i,v,hv=>by
  have d:=h y (AP ..);rw[List.flatten_cons,List.getElem?_append_right (by rw[d,Nat.add_mul];omega),d,show (j+1)*s+i-s=j*s+i by rw[Nat.add_mul];omega];exact qke (λz f=>h z (AO _ f)) j x (by simpa using hx) i v hv
theorem qyy {s:Nat}(p:0<s){xs:List (LV)}(h:∀x∈xs,x.length=s)(m:Nat)(v:Value)(f:xs.flatten[m]?=some v):∃x,xs[m / s]?=some x/\x[m % s]?=some v:=by
 have hm:m<xs.length*s:=by rw[<-qct h];exact (List.getElem?_eq_some_iff.1 f).1
 have d:m / s<xs.length:=Nat.div_lt_of_lt_mul (by rw[Nat.mul_comm];exact hm);have g:xs[m / s]?=some xs[m / s]:=AC d;have hi:m % s<xs[m / s].length:=by rw[h _ (List.getElem_mem d)];exact Nat.mod_lt _ p
 refine⟨_,g,?_⟩;have h2:=qke h (m / s) _ g (m % s) _ (AC hi);rw[Nat.mul_comm,Nat.div_add_mod] at h2;rw[AC hi,<-f,h2]
section
variable {w w':WD}{base s n c:Nat}{e:TypeId}{A:OA}{xs:List (LV)}
theorem Qz.len (h:Qz w base e s A n c xs)(hs:0<s):xs.length=n:=by
 have h1:=h.1.1;rw[qct h.2] at h1;exact Nat.eq_of_mul_eq_mul_right hs h1
theorem Qz.Um (h:Qz w base e s A n c xs)(hs:0<s):Jy w s A n c xs:=by
 have F:=h.len hs;refine⟨F,?_,?_,λj x u=>?_⟩
 ·rcases h.1.2 with⟨d,rfl⟩|⟨g,cap,f,d,_,_,h1,h2,_⟩
  ·omega
  ·injection d with _ _ p;omega
 ·rcases h.1.2 with⟨d,rfl⟩|⟨g,cap,f,d,_,_,h1,h2,_⟩
  ·injection d with _ _ p;unfold maxLen;omega
  ·injection d with _ _ p;omega
 ·have I:=(List.getElem?_eq_some_iff.1 u).1;rcases h.1.2 with⟨d,rfl⟩|⟨g,cap,f,d,G,y,h1,h2,p,B⟩
  ·omega
  ·have E:A=some ⟨g,0,none⟩:=by injection d
   refine⟨g,0,E,(Array.getElem?_eq_some_iff.1 y).1,h.2 x (List.mem_of_getElem? u),λi v hi=>?_⟩;have m:=qke h.2 j x u i v hi;rw[<-B,List.getElem?_take] at m;split at m
   ·rw[cell_of_row _ _ _ _ _ _ y,AT];simpa using m
   ·cases m
theorem Qz.less {b:Nat}(h:Qz w base e s A n c xs)(hb:b<=base):Qz w b e s A n c xs:=by
 refine⟨⟨h.1.1,?_⟩,h.2⟩;rcases h.1.2 with f|⟨g,cap,d,f,h1,r⟩
 ·exact .inl f
 ·exact .inr ⟨g,cap,d,f,AZ hb h1,r⟩
theorem Qz.keep (h:Qz w base e s A n c xs)(hk:∀g,base<=g->g<w.1.size->w'.1[g]?=w.1[g]?):Qz w' base e s A n c xs:=by
 refine⟨⟨h.1.1,?_⟩,h.2⟩;rcases h.1.2 with f|⟨g,cap,d,f,h1,m,r⟩
 ·exact .inl f
 ·exact .inr ⟨g,cap,d,f,h1,(hk g h1 (Array.getElem?_eq_some_iff.1 m).1).trans m,r⟩
theorem Qz.below (h:Qz w base e s A n c xs)(hb:Below w.1.size w w'):Qz w' base e s A n c xs:=h.keep λg _ d=>hb.block g d
theorem I5 (w:WD)(base:Nat)(e:TypeId)(s:Nat):Qz w base e s none 0 0 []:=⟨⟨by simp,.inl ⟨rfl,rfl⟩⟩,λx d=>by simp at d⟩
theorem q1n (w:WD)(e:TypeId)(s:Nat)(x:LV)(d:Array Value)(f:d=x.toArray)(g:x.length=s):Qz (w.alloc (.cells d e)) w.1.size e s (some ⟨w.1.size,0,none⟩) 1 1 [x]:=by
 subst f;subst g;refine⟨⟨by simp,.inr ⟨w.1.size,1,x.toArray,rfl,AE _,BE w _,AE _,by unfold maxLen;omega,by simp,by simp⟩⟩,λy m=>?_⟩;obtain rfl:y=x:=by simpa using m
 rfl
end
section
variable {P:Program}{t e:TypeId}{s b:Nat}{z:Value}(w:WD)
theorem q8o (T:Az P t e s b z)(ty:TypeId)(base:Nat)(A:OA)(n c:Nat)(xs:List (LV))(p:Qz w base e s A n c xs)
  (B:OA) (m d:Nat) (G:List (LV)) (R:Jy w s B m d G) (Z:0<m) (h1:∀y∈G,∀u∈y,u.oneCell'=true) (a0:n+m<=1000000) (hb:b<=100000) (f:base<=w.1.size) :
  ∃A' c' w',(Builtin.append_ #[t,t] ty #[.slice A n c,.slice B m d]).run P w=.ok (.slice A' (n+m) c') w'/\Qz w' base e s A' (n+m) c' (xs++G)/\Below base w w':=by
 obtain⟨i,hi,a2,a3,a4⟩:=info_parts T.info;obtain⟨g,o,rfl,hg,a5,a6⟩:=R.at_ Z;have F:∀y∈G,y.length=s:=λy O=>by
  obtain⟨j,hj⟩:=List.mem_iff_getElem?.1 O;obtain⟨_,_,_,_,h,_⟩:=R.2.2.2 j y hj;exact h
 have E:∀j u,G.flatten[j]?=some u->w.cell? ((⟨g,o,none⟩:Addr).add j)=some u:=by
  intro j u K;obtain⟨y,O,M⟩:=qyy T.pos F j u K;obtain⟨g',o',X,_,_,a1⟩:=R.2.2.2 _ y O;injection X with X;injection X with e1 e2;subst e1 e2;have:=a1 _ u M;rw[Addr.add_mid];rw[Nat.add_assoc,Nat.mul_comm,Nat.div_add_mod] at this;exact this
 have Y:(n+m)*b<=140737488355328:=AZ (Nat.mul_le_mul a0 hb) (by decide);obtain⟨v',w',J,h2,h3,h4,_⟩:=run_append_own_at (P:=P) w base t ty e i z s b T.sl hi a2 a3 a4 T.cells T.pos _ n _ p.1 ⟨g,o,none⟩ m d G.flatten (by rw[qct F,R.len]) E (λu K=>by
  obtain⟨y,O,K⟩:=List.mem_flatten.1 K;exact h1 y O u K) (by unfold maxLen;omega) Y f
 have hB:Below base w w':=(AI _ _).grown h3 f (λk Q=>by
  rcases p.1.2 with⟨M,_⟩|⟨g,cap,U,M,h1,_⟩
  ·rw[M] at Q;simp[Value.ownBlock] at Q
  ·rw[M] at Q;simp[Value.ownBlock] at Q;omega)
 rw[<-List.flatten_append] at h2;have I:∀x∈xs++G,x.length=s:=λx hx=>by
  rcases List.mem_append.1 hx with h|h
  ·exact p.2 x h
  ·exact F x h
 rcases h2.2 with⟨rfl,h0⟩|⟨g',cap,U,rfl,_⟩
 ·omega
 ·exact⟨_,_,w',J,⟨h2,I⟩,hB⟩
theorem qap (T:Az P t e s b z){F:Array Oper}{f:List Oper}{o:Oper}{a:Act}{Q:Exit->Act->WD->Prop}(M:o.guard=none)(U x:Operand)
  (ho:o.op=.call { callee:=.builtin .append,args:=#[U,x],argTypes:=#[t,t] })
  (base:Nat) (A:OA) (n c:Nat) (xs:List (LV)) (hs:a.eval U=.slice A n c) (p:Qz w base e s A n c xs)
  (B:OA) (m d:Nat) (J:List (LV)) (hx:a.eval x=.slice B m d) (hr:Jy w s B m d J) (O:0<m) (h1:∀y∈J,∀u∈y,u.oneCell'=true) (R:n+m<=1000000) (Z:b<=100000) (g:base<=w.1.size)
  (h:∀G I w',Qz w' base e s G (n+m) I (xs++J)->Below base w w'->wpList P F Q f (a.put o.dst (.slice G (n+m) I)) w'):wpList P F Q (o::f) a w:=
 wpList_plain M λK Y=>by
  obtain⟨G,I,w',E,h2,X⟩:=q8o (P:=P) w T o.type base A n c xs p B m d J hr O h1 R Z g;unfold Oper.wp execOp;simp only[ho,resolve,invoke,builtin,Sem.run_bind,Sem.run_pure,Result.andThen_ok,List.map_toArray,BJ,List.map_nil,hs,hx,E];exact Y _ _ (h G I w' h2 X)
end
section
open Go.ChangeShapes Go.WideShapes Go.ChangeAt Go.Deep
structure Qb where
 k:Kd
 v:LU
structure Qk where
 k:Kd
 a:Int
structure Nd where
 lvl:Int
 items:List Qb
 kids:List Qk
def kvs (k:Kd):LV:=[.int .i64 k.obj,.int .i64 k.kind,.int .i64 k.off]
def Qk.vs (x:Qk):LV:=[.int .i64 x.k.obj,.int .i64 x.k.kind,.int .i64 x.k.off,.int .i64 x.a]
def Qag (w:WD)(r:LV)(x:Qb):Prop:=∃B m d,r=[.int .i64 x.k.obj,.int .i64 x.k.kind,.int .i64 x.k.off,.slice B m d]/\Sl w B m d x.v
def Ji (w:WD)(A:OA)(n c:Nat)(xs:List Qb):Prop:=∃d,Jy w 4 A n c d/\d.length=xs.length/\∀(j:Nat) r x,d[j]?=some r->xs[j]?=some x->Qag w r x
def Zn (w:WD)(A:OA)(n c:Nat)(xs:List Qk):Prop:=Jy w 4 A n c (xs.map Qk.vs)
def Qbs (w:WD)(A:OA)(n c:Nat)(xs:List Kd):Prop:=Jy w 3 A n c (xs.map kvs)
section
variable {w w':WD}{n c:Nat}{A:OA}
theorem Qag.below {r:LV}{x:Qb}(h:Qag w r x)(hb:Below w.1.size w w'):Qag w' r x:=by
 obtain⟨B,m,d,e,f⟩:=h;exact⟨B,m,d,e,f.below hb⟩
theorem Ji.below {xs:List Qb}(h:Ji w A n c xs)(hb:Below w.1.size w w'):Ji w' A n c xs:=by
 obtain⟨d,h1,h2,f⟩:=h;exact⟨d,h1.below hb,h2,λj r x g m=>(f j r x g m).below hb⟩
theorem Zn.below {xs:List Qk}(h:Zn w A n c xs)(hb:Below w.1.size w w'):Zn w' A n c xs:=Jy.below h hb
theorem Ji.len {xs:List Qb}(h:Ji w A n c xs):xs.length=n:=by
 obtain⟨d,h1,h2,_⟩:=h;rw[<-h2];exact h1.len
theorem Zn.len {xs:List Qk}(h:Zn w A n c xs):xs.length=n:=by simpa using Jy.len h
theorem Qbs.len {xs:List Kd}(h:Qbs w A n c xs):xs.length=n:=by simpa using Jy.len h
theorem Ji.bounds {xs:List Qb}(h:Ji w A n c xs):n<=c/\c<=maxLen:=by
 obtain⟨d,h1,_⟩:=h;exact⟨h1.cap,h1.max⟩
theorem Zn.bounds {xs:List Qk}(h:Zn w A n c xs):n<=c/\c<=maxLen:=⟨Jy.cap h,Jy.max h⟩
theorem Ji.take {xs:List Qb}(h:Ji w A n c xs){k:Nat}(hk:k<=n):Ji w A k c (xs.take k):=by
 obtain⟨g,h1,h2,m⟩:=h;refine⟨g.take k,h1.take hk,by simp[h2],λj r x d f=>?_⟩;rw[List.getElem?_take] at d f;split at d
 ·rename_i p;rw[AA p] at f;exact m j r x d f
 ·cases d
theorem Zn.take {xs:List Qk}(h:Zn w A n c xs){k:Nat}(hk:k<=n):Zn w A k c (xs.take k):=by
 have:=Jy.take h hk;rw[<-List.map_take] at this;exact this
def Qu (xs:List Qb)(j:Nat):Qb:=xs.getD j ⟨⟨0,0,0⟩,[]⟩
def Qi (xs:List Qk)(j:Nat):Qk:=xs.getD j ⟨⟨0,0,0⟩,0⟩
def keyAt (xs:List Kd)(j:Nat):Kd:=xs.getD j ⟨0,0,0⟩
theorem Et {xs:List Qb}{j:Nat}(h:j<xs.length):xs[j]?=some (Qu xs j):=by simp[Qu,List.getD,h]
theorem q16 {xs:List Qk}{j:Nat}(h:j<xs.length):xs[j]?=some (Qi xs j):=by simp[Qi,List.getD,h]
theorem Ji.cell {xs:List Qb}(h:Ji w A n c xs){j:Nat}(hj:j<n):∃g o B m d,A=some ⟨g,o,none⟩/\g<w.1.size/\w.cell? ⟨g,o+j*4,none⟩=some (.int .i64 (Qu xs j).k.obj)/\w.cell? ⟨g,o+j*4+1,none⟩=some (.int .i64 (Qu xs j).k.kind)/\
  w.cell? ⟨g,o+j*4+2,none⟩=some (.int .i64 (Qu xs j).k.off)/\w.cell? ⟨g,o+j*4+3,none⟩=some (.slice B m d)/\Sl w B m d (Qu xs j).v:=by
 have G:=h.len;obtain⟨p,h1,h2,y⟩:=h;have u:p[j]?=some (p[j]'(by omega)):=AC (by omega);obtain⟨B,m,d,e,F⟩:=y j _ _ u (Et (by omega));obtain⟨g,o,rfl,E,_,f⟩:=h1.2.2.2 j _ u;rw[e] at f;exact⟨g,o,B,m,d,rfl,E,f 0 _ rfl,f 1 _ rfl,f 2 _ rfl,f 3 _ rfl,F⟩
theorem Zn.cell {xs:List Qk}(h:Zn w A n c xs){j:Nat}(hj:j<n):∃g o,A=some ⟨g,o,none⟩/\g<w.1.size/\w.cell? ⟨g,o+j*4,none⟩=some (.int .i64 (Qi xs j).k.obj)/\w.cell? ⟨g,o+j*4+1,none⟩=some (.int .i64 (Qi xs j).k.kind)/\
  w.cell? ⟨g,o+j*4+2,none⟩=some (.int .i64 (Qi xs j).k.off)/\w.cell? ⟨g,o+j*4+3,none⟩=some (.int .i64 (Qi xs j).a):=by
 have m:=h.len;obtain⟨g,o,rfl,f,_,d⟩:=h.2.2.2 j (Qi xs j).vs (by rw[BA,q16 (by omega)];rfl);exact⟨g,o,rfl,f,d 0 _ rfl,d 1 _ rfl,d 2 _ rfl,d 3 _ rfl⟩
theorem qkf (w:WD):Ji w none 0 0 []:=⟨[],qao w 4,rfl,λj r x d=>by simp at d⟩
theorem qkg (w:WD):Zn w none 0 0 []:=qao w 4
end
section
variable {H:Type}{enc:TypeId × Value->H}{P:Program}{W:WD}
structure Qc8 (P:Program)(t:TypeId)(f0 f1 f2:Field):Prop where
 st:P.underlying t=some (.struct #[f0,f1,f2])
 one:oneCellFields P #[f0,f1,f2]=true
 cells:P.cellsOf t=3
 h0:P.underlying f0.type=some (.int .i64)
 h1:P.underlying f1.type=some (.int .i64)
 h2:P.underlying f2.type=some (.int .i64)
end
end
section
open Go.ChangeMaps (setBlock)
structure Turn (S:NP)(w w':WD):Prop where
 os:w'.os=w.os
 tape:w'.tape=w.tape
 output:w'.output=w.output
 size:w.heap.size<=w'.heap.size
 block:∀k,k<w.heap.size->¬S k->w'.heap[k]?=w.heap[k]?
section
variable {S S':NP}{w w' w'':WD}
theorem Turn.refl (S:NP)(w:WD):Turn S w w:=⟨rfl,rfl,rfl,AE _,λ_ _ _=>rfl⟩
theorem Turn.trans (h:Turn S w w')(k:Turn S' w' w'')(hs:∀x,S' x->S x\/w.1.size<=x):Turn S w w'':=
 ⟨k.os.trans h.os,k.tape.trans h.tape,k.output.trans h.output,AZ h.size k.size,λi hi hn=>(k.block i (Nat.lt_of_lt_of_le hi h.size) (λd=>by rcases hs i d with h1|h1;exact hn h1;omega)).trans (h.block i hi hn)⟩
theorem Turn.then (h:Turn S w w')(k:Turn S w' w''):Turn S w w'':=h.trans k λ_=>.inl
theorem Turn.mono (h:Turn S w w')(hs:∀x,S x->S' x):Turn S' w w':=⟨h.os,h.tape,h.output,h.size,λk d hn=>h.block k d λf=>hn (hs k f)⟩
theorem Turn.drew (h:Turn S w w'):Turn S w w'.drew:=⟨h.os,h.tape,h.output,h.size,h.block⟩
theorem Zb (h:Below w.1.size w w'):Turn S w w':=⟨h.os,h.tape,h.output,h.size,λk d _=>h.block k d⟩
theorem Turn.below {B:Nat}(h:Turn S w w')(hs:∀x,S x->B<=x)(hB:B<=w.1.size):Below B w w':=
 ⟨h.os,h.tape,h.output,h.size,λk f=>h.block k (by omega) λd=>by have:=hs k d;omega⟩
theorem qmp (S:NP)(w:WD)(o:Obj):Turn S w (w.alloc o):=Zb ((AI _ _).alloc (AE _) o)
theorem qmq {row:Option Nat}(h:w.grownBy w' row)(f:∀k,row=some k->S k):Turn S w w':=
 ⟨h.os,h.tape,h.output,h.size,λk d hn=>h.block k d λe=>hn (f k e.symm)⟩
theorem Cc {a:Addr}(u:Value)(h:S a.block):Turn S w (w.setCell a u):=
 ⟨rfl,rfl,rfl,by simp[World.setCell],λk _ hn=>Below.heap_setCell _ _ _ _ (λe=>hn (e▸h))⟩
theorem Us {b:Nat}(h:S b):∀(vs:LV) (o:Nat) (w:WD),Turn S w (w.setCells b o vs)
 |[],_,w=>Turn.refl S w
 |v::r,o,w=>by
  rw[World.setCells];exact (Cc (a:=⟨b,o,none⟩) v h).then (Us h r (o+1) _)
theorem q0q {b:Nat}(o:Obj)(h:S b):Turn S w (setBlock w b o):=
 ⟨rfl,rfl,rfl,by simp[setBlock],λk _ hn=>by
  show (w.1.setIfInBounds b o)[k]?=_;rw[Array.getElem?_setIfInBounds_ne (λ(e:b=k)=>hn (e▸h))]⟩
theorem q46 (b:Nat):∀(vs:LV) (o:Nat) (w:WD),(w.setCells b o vs).1.size=w.1.size
 |[],_,w=>rfl
 |v::r,o,w=>by rw[World.setCells,q46 b r];simp[World.setCell]
theorem qec (w:WD)(b:Nat)(o:Obj):(setBlock w b o).1.size=w.1.size:=by simp[setBlock]
theorem q2u {b:Nat}{o:Obj}(h:b<w.1.size):(setBlock w b o).1[b]?=some o:=by
 show (w.1.setIfInBounds b o)[b]?=_;rw[Array.getElem?_setIfInBounds_self_of_lt h]
theorem D6 {b j:Nat}{c:Array Value}{t:TypeId}{fr:Nat × Nat}(u:Value)(h:w.1[b]?=some (.cells c t fr)):(w.setCell ⟨b,j,none⟩ u).1[b]?=some (.cells (c.setIfInBounds j u) t fr):=by
 simp[World.setCell,Array.getElem?_modify,h]
theorem Kw {b:Nat}{o:Obj}(h:w.1[b]?=some o):b<w.1.size:=(Array.getElem?_eq_some_iff.1 h).1
theorem q5i {b o:Nat}{d:LV}(h:w.rangeAt b o d)(e:w'.1[b]?=w.1[b]?):w'.rangeAt b o d:=λj v f=>(AY (a:=⟨b,o+j,none⟩) e).trans (h j v f)
theorem q7w {b o n:Nat}(h:w.there b o n)(e:w'.1[b]?=w.1[b]?):w'.there b o n:=λj d=>by
 obtain⟨h1,h2⟩:=h j d;exact⟨by rw[AY (a:=⟨b,o+j,none⟩) e];exact h1,by rw[World.frozen?_of_block (a:=⟨b,o+j,none⟩) e];exact h2⟩
theorem q2v {base:Nat}{e:TypeId}{size n:Nat}{v:Value}{xs:LV}(h:w.ownsRow base e size v n xs)(p:∀g,v.ownBlock=some g->w'.1[g]?=w.1[g]?):w'.ownsRow base e size v n xs:=by
 refine⟨h.1,?_⟩;rcases h.2 with d|⟨g,cap,f,d,h1,m,r⟩
 ·exact .inl d
 ·exact .inr ⟨g,cap,f,d,h1,(p g (by rw[d];rfl)).trans m,r⟩
theorem qaq {base:Nat}{e:TypeId}{size n:Nat}{v:Value}{xs:LV}(h:w.ownsRow base e size v n xs)(hn:0<n):∃g c,v=.slice (some ⟨g,0,none⟩) n c/\n<=c/\c<=maxLen:=by
 rcases h.2 with d|⟨g,cap,f,d,_,_,h1,h2,_⟩
 ·omega
 ·exact⟨g,cap,d,h1,h2⟩
theorem qu2 {base:Nat}{e:TypeId}{size n:Nat}{v:Value}{xs:LV}(h:w.ownsRow base e size v n xs):∃A c,v=.slice A n c/\n<=c/\c<=maxLen:=by
 rcases h.2 with⟨rfl,rfl⟩|⟨g,cap,d,f,_,_,h1,h2,_⟩
 ·exact⟨none,0,rfl,AE _,AW _⟩
 ·exact⟨_,cap,f,h1,h2⟩
end
def flat (d:List (LU)):LV:=d.flatten.map bv
def Lh (d:List (LU)):Prop:=∀l∈d,l.length=256
def Yn (l:LU):LV:=l.map bv
theorem I8 (l:LU):(Yn l).length=l.length:=by simp[Yn]
theorem qig (l:LU):∀u∈Yn l,u.oneCell'=true:=qf8 l
theorem qq4 (d:List (LU))(l:LU):flat (d++[l])=flat d++Yn l:=by simp[flat,Yn]
theorem qq5 (l:LU)(d:List (LU)):flat (l::d)=Yn l++flat d:=by simp[flat,Yn]
theorem qq6:∀{d:List (LU)},Lh d->∀(i:Nat) (hi:i<d.length) (j:Nat) (_:j<256),(flat d)[i*256+j]?=(Yn d[i])[j]?
 |l::d,h,i,hi,j,hj=>by
  have f:(Yn l).length=256:=by rw[I8,h l (by simp)]
  rw[qq5];rcases i with _|i
  ·rw[List.getElem?_append_left (by omega)];simp
  ·rw[List.getElem?_append_right (by omega),f];have e:(i+1)*256+j-256=i*256+j:=by omega
   rw[e,qq6 (λx g=>h x (by simp[g])) i (by simpa using hi) j hj];simp
theorem qcu {w:WD}{base g n c:Nat}{e:TypeId}{d:List (LU)}(h:w.ownsRow base e 256 (.slice (some ⟨g,0,none⟩) n c) n (flat d))(f:Lh d)(hn:d.length=n)(i:Nat)(hi:i<d.length) :
  w.rangeAt g (i*256) (Yn d[i]):=λj v m=>by
 have p:j<256:=by
  have:=(List.getElem?_eq_some_iff.1 m).1;rw[I8,f _ (List.getElem_mem hi)] at this;exact this
 rw[World.ownsRow.cellAt h (i*256+j) (by subst hn;have:i*256+256<=d.length*256:=(by omega);omega),qq6 f i hi j p];exact m
theorem qu3 {w:WD}{g o c:Nat}{l:LU}(h:w.rangeAt g o (Yn l))(f:g<w.1.size)(d:l.length<=c)(hm:c<=maxLen):Sl w (some ⟨g,o,none⟩) l.length c l:=
 ⟨by simp,d,hm,λj u m=>⟨_,rfl,f,by rw[Addr.add_mid];exact h j u m⟩⟩
theorem qkh {w:WD}{A:OA}{n c:Nat}{l:LU}(h:Sl w A n c l)(F:0<l.length):∃g o,A=some ⟨g,o,none⟩/\g<w.1.size/\w.rangeAt g o (Yn l):=by
 obtain⟨p,e,B,d⟩:=h.2.2.2 0 (bv l[0]) (by simp[F]);obtain⟨g,o,m⟩:=p;have f:m=none:=by
  cases m with
  |none=>rfl
  |some x=>
   simp only[World.cell?,Addr.add,if_true] at d;split at d<;>simp at d
 subst f;refine⟨g,o,e,B,λj v G=>?_⟩;obtain⟨u,y,_,E⟩:=h.2.2.2 j v G;obtain rfl:=OI (e.symm.trans y);rw[<-Addr.add_mid];exact E
end
def q01:OA->Option Nat
 |some a=>some a.block
 |none=>none
section
variable {P:Program}{t e:TypeId}{s b:Nat}{z:Value}(w:WD)
theorem q36 (T:Az P t e s b z)(ty:TypeId)(base:Nat)(A:OA)(n c:Nat)(xs:List (LV))(E:Qz w base e s A n c xs)
  (B:OA) (m d:Nat) (I:List (LV)) (U:Jy w s B m d I) (a1:0<m) (h1:∀y∈I,∀u∈y,u.oneCell'=true) (a2:n+m<=1000000) (hb:b<=100000) (F:base<=w.1.size) :
  ∃J c' w',(Builtin.append_ #[t,t] ty #[.slice A n c,.slice B m d]).run P w=.ok (.slice J (n+m) c') w'/\Qz w' base e s J (n+m) c' (xs++I)/\Turn (λk=>q01 A=some k) w w'/\(q01 J=q01 A\/q01 J=some w.1.size)/\q01 J≠none:=by
 obtain⟨i,hi,a4,a5,a6⟩:=info_parts T.info;obtain⟨g,o,rfl,hg,a8,a9⟩:=U.at_ a1;have G:∀y∈I,y.length=s:=λy R=>by
  obtain⟨j,hj⟩:=List.mem_iff_getElem?.1 R;obtain⟨_,_,_,_,h,_⟩:=U.2.2.2 j y hj;exact h
 have f:∀j u,I.flatten[j]?=some u->w.cell? ((⟨g,o,none⟩:Addr).add j)=some u:=by
  intro j u Q;obtain⟨y,R,hv⟩:=qyy T.pos G j u Q;obtain⟨g',o',Y,_,_,a3⟩:=U.2.2.2 _ y R;injection Y with Y;injection Y with e1 e2;subst e1 e2;have:=a3 _ u hv;rw[Addr.add_mid];rw[Nat.add_assoc,Nat.mul_comm,Nat.div_add_mod] at this;exact this
 have a0:(n+m)*b<=140737488355328:=AZ (Nat.mul_le_mul a2 hb) (by decide);obtain⟨v',w',O,h2,h3,h4,Z⟩:=run_append_own_at (P:=P) w base t ty e i z s b T.sl hi a4 a5 a6 T.cells T.pos _ n _ E.1 ⟨g,o,none⟩ m d I.flatten (by rw[qct G,U.len]) f (λu Q=>by
  obtain⟨y,R,Q⟩:=List.mem_flatten.1 Q;exact h1 y R u Q) (by unfold maxLen;omega) a0 F
 have M:∀(X:OA) p q,Value.ownBlock (.slice X p q)=q01 X:=λX p q=>by cases X<;>rfl
 rw[M] at h3 Z;rw[<-List.flatten_append] at h2;have K:∀x∈xs++I,x.length=s:=λx hx=>by
  rcases List.mem_append.1 hx with h|h
  ·exact E.2 x h
  ·exact G x h
 rcases h2.2 with⟨rfl,h0⟩|⟨g',cap,a7,rfl,_⟩
 ·omega
 ·rw[M] at Z;exact⟨_,_,w',O,⟨h2,K⟩,qmq h3 (λk hk=>hk),Z,by simp[q01]⟩
theorem q47 (T:Az P t e s b z){G:Array Oper}{f:List Oper}{o:Oper}{a:Act}{Q:Exit->Act->WD->Prop}(M:o.guard=none)(U x:Operand)
  (ho:o.op=.call { callee:=.builtin .append,args:=#[U,x],argTypes:=#[t,t] })
  (base:Nat) (A:OA) (n c:Nat) (xs:List (LV)) (hs:a.eval U=.slice A n c) (E:Qz w base e s A n c xs)
  (B:OA) (m d:Nat) (J:List (LV)) (hx:a.eval x=.slice B m d) (hr:Jy w s B m d J) (O:0<m) (h1:∀y∈J,∀u∈y,u.oneCell'=true) (R:n+m<=1000000) (hb:b<=100000) (p:base<=w.1.size)
  (h:∀g I w',Qz w' base e s g (n+m) I (xs++J)->Turn (λk=>q01 A=some k) w w'->(q01 g=q01 A\/q01 g=some w.1.size)->q01 g≠none->wpList P G Q f (a.put o.dst (.slice g (n+m) I)) w'):wpList P G Q (o::f) a w:=
 wpList_plain M λK hK=>by
  obtain⟨g,I,w',F,h2,X,Y,Z⟩:=q36 (P:=P) w T o.type base A n c xs E B m d J hr O h1 R hb p;unfold Oper.wp execOp;simp only[ho,resolve,invoke,builtin,Sem.run_bind,Sem.run_pure,Result.andThen_ok,List.map_toArray,BJ,List.map_nil,hs,hx,F];exact hK _ _ (h g I w' h2 X Y Z)
end
theorem Sl.turned {w w':WD}{A:OA}{n c:Nat}{l:LU}(h:Sl w A n c l){S:NP}(T:Turn S w w')(hA:∀k,q01 A=some k->¬S k):Sl w' A n c l:=
 ⟨h.1,h.2.1,h.2.2.1,λj u m=>by
  obtain⟨d,e,f,g⟩:=h.2.2.2 j u m;refine⟨d,e,by have:=T.size;omega,?_⟩;rw[AY (a:=d.add j) (w':=w') (w:=w) (by rw[Oa];exact T.block _ f (hA _ (by rw[e];rfl)))];exact g⟩
theorem Qz.turned {w w':WD}{base:Nat}{e:TypeId}{s:Nat}{A:OA}{n c:Nat}{xs:List (LV)}(h:Qz w base e s A n c xs){S:NP}(T:Turn S w w')(hA:∀k,q01 A=some k->¬S k):Qz w' base e s A n c xs:=by
 refine⟨⟨h.1.1,?_⟩,h.2⟩;rcases h.1.2 with d|⟨g,cap,f,d,h1,m,r⟩
 ·exact .inl d
 ·refine .inr ⟨g,cap,f,d,h1,(T.block g (Array.getElem?_eq_some_iff.1 m).1 (hA g ?_)).trans m,r⟩;injection d with d;rw[d];rfl
theorem Qz.Qc {w:WD}{base:Nat}{e:TypeId}{s:Nat}{A:OA}{n c:Nat}{xs:List (LV)}(h:Qz w base e s A n c xs):∀k,q01 A=some k->base<=k/\k<w.1.size:=by
 intro k f;rcases h.1.2 with⟨d,_⟩|⟨g,cap,m,d,h1,p,r⟩
 ·injection d with d;rw[d] at f;cases f
 ·injection d with d;rw[d] at f;obtain rfl:g=k:=OI f;exact⟨h1,(Array.getElem?_eq_some_iff.1 p).1⟩
section
open Go.ChangeMaps (setBlock)
structure DM where
 n:Nat
 Xl:Nat->LU
 Zp:Nat->List (LU)
 off:Bool
 fused:Bool
 left:Nat
 steps:Nat
 cap:Nat
def upd {α:Type}(f:Nat->α)(s:Nat)(x:α):Nat->α:=λk=>if k=s then x else f k
theorem Aj {α:Type}(f:Nat->α)(s:Nat)(x:α):upd f s x s=x:=by simp[upd]
theorem Af {α:Type}(f:Nat->α){s k:Nat}(x:α)(h:k≠s):upd f s x k=f k:=by simp[upd,h]
def Qa (n:Nat):Prop:=32<=n/\n<=2048
theorem TB:(prog.info? 124).map (λi=>(i.zero,i.size,i.bytes))=some (some (.agg (Array.replicate 256 (.int .u8 0))),256,256):=by kernel_rfl
structure Lay (w:WD)(bp bd bm:Nat)(l:List MapEntry)(clock:Nat)(v:Nat->Value)(S:NP)(D:DM):Prop where
 me:w.heap[bp]?=some (.cells #[.slice (some ⟨bd,0,none⟩) D.n D.cap,.map (some bm),.bool D.off,.bool D.fused,.int .i64 D.left,.int .i64 D.steps] 70 (0,0))
 Xl:∀s,s<D.n->w.rangeAt bd (s*256) (Yn (D.Xl s))
 Ej:∀s,s<D.n->w.there bd (s*256) 256
 map:w.heap[bm]?=some (.map l.toArray clock)
 ents:U0 l clock
 look:∀s:Nat,Zf s l=if D.Zp s=[] then none else some (v s)
 keys:∀e∈l,∃s:Nat,s<D.n/\kI e=s
 row:∀s,w.ownsRow 0 124 256 (v s) (D.Zp s).length (flat (D.Zp s))
 nil:∀s,D.Zp s=[]->v s=.slice none 0 0
 dl:∀s,(D.Xl s).length=256
 cl:∀s,Lh (D.Zp s)
 out:∀s,D.n<=s->D.Zp s=[]
 Ym:S bp/\S bd/\S bm/\∀s g,(v s).ownBlock=some g->S g
 ne:bp≠bd/\∀s g,(v s).ownBlock=some g->g≠bp/\g≠bd
 sep:∀s s' g,(v s).ownBlock=some g->(v s').ownBlock=some g->s=s'
 n32:Qa D.n
 left:D.left<=9223372036854775807
def Vp (w:WD)(bp:Nat)(S:NP)(D:DM):Prop:=∃bd bm l clock v,Lay w bp bd bm l clock v S D
section
variable {w w':WD}{bp bd bm clock:Nat}{l:List MapEntry}{v:Nat->Value}{S:NP}{D:DM}
theorem Lay.pos (L:Lay w bp bd bm l clock v S D):0<D.n:=by have:=L.n32;unfold Qa at this;omega
theorem Lay.Sj (L:Lay w bp bd bm l clock v S D):∃c t d,w.1[bd]?=some (.cells c t d):=by
 have h:=(L.Ej 0 L.pos 0 (by omega)).1;unfold World.cell? at h;split at h
 ·rename_i c t d f;exact⟨c,t,d,f⟩
 ·cases h
theorem Lay.Qav (L:Lay w bp bd bm l clock v S D):bd≠bm:=λe=>by
 obtain⟨c,t,d,h⟩:=L.Sj;rw[e,L.map] at h;cases h
theorem Lay.Qaw (L:Lay w bp bd bm l clock v S D):bp≠bm:=λe=>by
 have h:=L.me;rw[e,L.map] at h;cases h
theorem Lay.Wu (L:Lay w bp bd bm l clock v S D){s g:Nat}(h:(v s).ownBlock=some g):∃c t,w.1[g]?=some (.cells c t (0,0)):=by
 rcases (L.row s).2 with⟨d,_⟩|⟨p,cap,f,d,_,m,_⟩
 ·rw[d] at h;cases h
 ·rw[d] at h;cases h;exact⟨_,_,m⟩
theorem Lay.Qab (L:Lay w bp bd bm l clock v S D){s g:Nat}(h:(v s).ownBlock=some g):g≠bm:=λe=>by
 obtain⟨c,t,d⟩:=L.Wu h;rw[e,L.map] at d;cases d
theorem Lay.keep (L:Lay w bp bd bm l clock v S D)(hk:∀k,k<w.1.size->S k->w'.1[k]?=w.1[k]?):Lay w' bp bd bm l clock v S D:=by
 obtain⟨c,t,B,d⟩:=L.Sj;have u:=hk bp (Kw L.me) L.Ym.1;have m:=hk bd (Kw d) L.Ym.2.1;have y:=hk bm (Kw L.map) L.Ym.2.2.1;exact⟨u.trans L.me,λs f=>q5i (L.Xl s f) m,λs f=>q7w (L.Ej s f) m,y.trans L.map,L.ents,L.look,L.keys,
  λs=>q2v (L.row s) λg p=>by obtain⟨c,t,h⟩:=L.Wu p;exact hk g (Kw h) (L.Ym.2.2.2 s g p),L.nil,L.dl,L.cl,L.out,L.Ym,L.ne,L.sep,L.n32,L.left⟩
theorem Lay.mono {S':NP}(L:Lay w bp bd bm l clock v S D)(h:∀k,k<w.1.size->S k->S' k):Lay w bp bd bm l clock v S' D:=by
 obtain⟨c,t,m,d⟩:=L.Sj;exact⟨L.me,L.Xl,L.Ej,L.map,L.ents,L.look,L.keys,L.row,L.nil,L.dl,L.cl,L.out,
  ⟨h _ (Kw L.me) L.Ym.1,h _ (Kw d) L.Ym.2.1,h _ (Kw L.map) L.Ym.2.2.1,λs g f=>by obtain⟨c,t,h2⟩:=L.Wu f;exact h g (Kw h2) (L.Ym.2.2.2 s g f)⟩,L.ne,L.sep,L.n32,L.left⟩
theorem Lay.struct (L:Lay w bp bd bm l clock v S D)(off fused:Bool)(left steps:Nat)(hl:left<=9223372036854775807)
  (h1:w'.1[bp]?=some (.cells #[.slice (some ⟨bd,0,none⟩) D.n D.cap,.map (some bm),.bool off,.bool fused,.int .i64 left,.int .i64 steps] 70 (0,0)))
  (h2:∀k,k<w.1.size->k≠bp->w'.1[k]?=w.1[k]?):Lay w' bp bd bm l clock v S { D with off:=off,fused:=fused,left:=left,steps:=steps }:=by
 obtain⟨c,t,y,d⟩:=L.Sj;have m:=h2 bd (Kw d) (λe=>L.ne.1 e.symm);have u:=h2 bm (Kw L.map) (λe=>L.Qaw e.symm);exact⟨h1,λs f=>q5i (L.Xl s f) m,λs f=>q7w (L.Ej s f) m,u.trans L.map,L.ents,L.look,L.keys,
  λs=>q2v (L.row s) λg p=>by obtain⟨c,t,h⟩:=L.Wu p;exact h2 g (Kw h) (L.ne.2 s g p).1,L.nil,L.dl,L.cl,L.out,L.Ym,L.ne,L.sep,L.n32,hl⟩
theorem Lay.Qbm (L:Lay w bp bd bm l clock v S D)(s:Nat)(x:LU)(hx:x.length=256)
  (h1:∀k,k<w.1.size->k≠bd->w'.1[k]?=w.1[k]?) (h2:s<D.n->w'.rangeAt bd (s*256) (Yn x)) (h3:∀z,z<D.n->z≠s->w'.rangeAt bd (z*256) (Yn (D.Xl z))) (h4:∀z,z<D.n->w'.there bd (z*256) 256) :
  Lay w' bp bd bm l clock v S { D with Xl:=upd D.Xl s x }:=by
 have p:=h1 bp (Kw L.me) L.ne.1;have u:=h1 bm (Kw L.map) (λe=>L.Qav e.symm);refine⟨p.trans L.me,λz m=>?_,h4,u.trans L.map,L.ents,L.look,L.keys,
  λs=>q2v (L.row s) λg f=>by obtain⟨c,t,h⟩:=L.Wu f;exact h1 g (Kw h) (L.ne.2 s g f).2,L.nil,λz=>?_,L.cl,L.out,L.Ym,L.ne,L.sep,L.n32,L.left⟩
 ·show w'.rangeAt bd (z*256) (Yn (upd D.Xl s x z));by_cases d:z=s
  ·subst d;rw[Aj];exact h2 m
  ·rw[Af _ _ d];exact h3 z m d
 ·show (upd D.Xl s x z).length=256;by_cases d:z=s
  ·rw[d,Aj];exact hx
  ·rw[Af _ _ d];exact L.dl z
theorem Lay.store (L:Lay w bp bd bm l clock v S D)(s:Nat)(hs:s<D.n)(x:LU)(hx:x.length=256) :
  Lay (w.setCells bd (s*256) (Yn x)) bp bd bm l clock v S { D with Xl:=upd D.Xl s x }:=by
 have g:=Us (S:=λk=>k=bd) (b:=bd) rfl (Yn x) (s*256) w;refine L.Qbm s x hx (λk m hn=>g.block k m hn) (λ_=>World.rangeAt_setCells_same _ _ _ _ ?_) (λz d f=>World.rangeAt_setCells_apart (L.Xl z d) _ _ _ ?_) λz d=>World.there_setCells (L.Ej z d) _ _ _
 ·rw[I8,hx];exact L.Ej s hs
 ·rw[I8,I8,hx,L.dl z];rcases Nat.lt_or_gt_of_ne f with h|h
  ·right;left;omega
  ·right;right;omega
theorem Lay.Qac (L:Lay w bp bd bm l clock v S D)(s:Nat)(hs:s<D.n){l':List MapEntry}{clock':Nat}{S':NP}(v1:Value)(ls:List (LU))(hls:Lh ls)
  (hS:∀k,k<w.1.size->S k->S' k) (h1:∀k,k<w.1.size->k≠bm->some k≠(v s).ownBlock->w'.1[k]?=w.1[k]?) (hm:w'.1[bm]?=some (.map l'.toArray clock')) (hE:U0 l' clock')
  (hlook:∀z:Nat,Zf z l'=if z=s then (if ls=[] then none else some v1) else Zf z l) (hkeys:∀e∈l',e∈l\/kI e=s)
  (hrow:w'.ownsRow 0 124 256 v1 ls.length (flat ls)) (hnil:ls=[]->v1=.slice none 0 0)
  (hat:v1.ownBlock=none\/v1.ownBlock=(v s).ownBlock\/∃g,v1.ownBlock=some g/\w.1.size<=g/\S' g) :
  Lay w' bp bd bm l' clock' (upd v s v1) S' { D with Zp:=upd D.Zp s ls }:=by
 obtain⟨c,t,R,B⟩:=L.Sj;have G:=Kw L.me;have I:=Kw B;have K:=Kw L.map;have M:=h1 bp G L.Qaw (λe=>(L.ne.2 s bp e.symm).1 rfl);have J:=h1 bd I L.Qav (λe=>(L.ne.2 s bd e.symm).2 rfl);have m:∀z g,(upd v s v1 z).ownBlock=some g->(z≠s/\(v z).ownBlock=some g)\/(z=s/\((v s).ownBlock=some g\/(w.1.size<=g/\S' g))):=by
  intro z g f;by_cases d:z=s
  ·subst d;rw[Aj] at f;rcases hat with h|h|⟨T,h,h2,O⟩
   ·rw[h] at f;cases f
   ·exact .inr ⟨rfl,.inl (h▸f)⟩
   ·rw[h] at f;cases f;exact .inr ⟨rfl,.inr ⟨h2,O⟩⟩
  ·rw[Af _ _ d] at f;exact .inl ⟨d,f⟩
 have u:∀z g,(v z).ownBlock=some g->g<w.1.size:=λz g f=>by obtain⟨c,t,h⟩:=L.Wu f;exact Kw h
 refine⟨M.trans L.me,λz d=>q5i (L.Xl z d) J,λz d=>q7w (L.Ej z d) J,hm,hE,λz=>?_,λe Q=>?_,λz=>?_,λz d=>?_,L.dl,λz=>?_,λz d=>?_,
  ⟨hS _ G L.Ym.1,hS _ I L.Ym.2.1,hS _ K L.Ym.2.2.1,λz g f=>?_⟩,⟨L.ne.1,λz g f=>?_⟩,λz y g f E=>?_,L.n32,L.left⟩
 ·rw[hlook z];show _=if upd D.Zp s ls z=[] then none else some (upd v s v1 z)
  by_cases d:z=s
  ·rw[d,AA rfl,Aj,Aj]
  ·rw[AB d,Af _ _ d,Af _ _ d];exact L.look z
 ·rcases hkeys e Q with h|h
  ·exact L.keys e h
  ·exact⟨s,hs,h⟩
 ·show w'.ownsRow 0 _ 256 (upd v s v1 z) (upd D.Zp s ls z).length (flat (upd D.Zp s ls z));by_cases d:z=s
  ·rw[d,Aj,Aj];exact hrow
  ·rw[Af _ _ d,Af _ _ d];exact q2v (L.row z) λg f=>h1 g (u z g f) (L.Qab f) λe=>d (L.sep z s g f e.symm)
 ·show upd v s v1 z=_;by_cases p:z=s
  ·subst p;rw[Aj];exact hnil (by simpa [Aj] using d)
  ·rw[Af _ _ p];exact L.nil z (by simpa [Af _ _ p] using d)
 ·show Lh (upd D.Zp s ls z);by_cases p:z=s
  ·rw[p,Aj];exact hls
  ·rw[Af _ _ p];exact L.cl z
 ·show upd D.Zp s ls z=[];have:D.n<=z:=d;rw[Af _ _ (by omega)];exact L.out z d
 ·rcases m z g f with⟨_,h⟩|⟨_,h|h⟩
  ·exact hS _ (u z g h) (L.Ym.2.2.2 z g h)
  ·exact hS _ (u s g h) (L.Ym.2.2.2 s g h)
  ·exact h.2
 ·rcases m z g f with⟨_,h⟩|⟨_,h|h⟩
  ·exact L.ne.2 z g h
  ·exact L.ne.2 s g h
  ·omega
 ·rcases m z g f with⟨h0,h⟩|⟨h0,h⟩<;>rcases m y g E with⟨F,k⟩|⟨F,k⟩
  ·exact L.sep z y g h k
  ·rcases k with k|k
   ·rw[F];exact L.sep z s g h k
   ·have:=u z g h;omega
  ·rcases h with h|h
   ·rw[h0];exact L.sep s y g h k
   ·have:=u y g k;omega
  ·rw[h0,F]
theorem Lay.forget (L:Lay w bp bd bm l clock v S D)(s:Nat)(hs:s<D.n) :
  Lay (setBlock w bm (.map (Xt s l).toArray clock)) bp bd bm (Xt s l) clock (upd v s (.slice none 0 0)) S { D with Zp:=upd D.Zp s [] }:=by
 have d:=q0q (w:=w) (S:=λk=>k=bm) (b:=bm) (.map (Xt s l).toArray clock) rfl;refine L.Qac s hs _ [] (by simp[Lh]) (λ_ _ h=>h) (λk g hn _=>d.block k g hn) (q2u (Kw L.map)) (L.ents.del s) (λz=>?_) (λe f=>.inl (q63 f)) (World.ownsRow_nil _ _ _ _) (λ_=>rfl) (.inl rfl);rw[q91 z L.ents.one,AA rfl];by_cases h:z=s
 ·subst h;simp
 ·rw[AB (by omega),AB h]
end
end
section
variable {w:WD}{bp bd bm clock:Nat}{l:List MapEntry}{v:Nat->Value}{S:NP}{D:DM}
theorem Lay.c0 (L:Lay w bp bd bm l clock v S D):w.cell? ⟨bp,0,none⟩=some (.slice (some ⟨bd,0,none⟩) D.n D.cap):=by rw[cell_of_row w bp 0 _ _ _ L.me];rfl
theorem Lay.c1 (L:Lay w bp bd bm l clock v S D):w.cell? ⟨bp,1,none⟩=some (.map (some bm)):=by rw[cell_of_row w bp 1 _ _ _ L.me];rfl
theorem Lay.c2 (L:Lay w bp bd bm l clock v S D):w.cell? ⟨bp,2,none⟩=some (.bool D.off):=by rw[cell_of_row w bp 2 _ _ _ L.me];rfl
theorem Lay.c3 (L:Lay w bp bd bm l clock v S D):w.cell? ⟨bp,3,none⟩=some (.bool D.fused):=by rw[cell_of_row w bp 3 _ _ _ L.me];rfl
theorem Lay.c4 (L:Lay w bp bd bm l clock v S D):w.cell? ⟨bp,4,none⟩=some (.int .i64 D.left):=by rw[cell_of_row w bp 4 _ _ _ L.me];rfl
theorem Lay.c5 (L:Lay w bp bd bm l clock v S D):w.cell? ⟨bp,5,none⟩=some (.int .i64 D.steps):=by rw[cell_of_row w bp 5 _ _ _ L.me];rfl
theorem Lay.fz (L:Lay w bp bd bm l clock v S D)(j:Nat):w.frozen? ⟨bp,j,none⟩=false:=by simp[World.frozen?,L.me]
end
theorem qed {w:WD}{bp bd bm clock:Nat}{l:List MapEntry}{v:Nat->Value}{S:NP}{D:DM}(L:Lay w bp bd bm l clock v S D)(s:Int) :
  Calls prog 59 #[.pointer (some ⟨bp,0,none⟩),.int .i64 s] w λe w'=>e=.returned (.bool (decide (0<=s/\s<(D.n:Int))))/\w=w':=by
 have c0:=L.c0;go_enter func59,ntmps59
 by_cases h0:0<=s
 ·by_cases h1:s<(D.n:Int)
  ·go_wp2;go_ret;simp[h0,h1]
  ·go_wp2;go_ret;simp[h1];try omega
 ·go_wp2;go_ret;simp;intro;omega
theorem q98 {w:WD}{bp bd bm clock:Nat}{l:List MapEntry}{v:Nat->Value}{S:NP}{D:DM}(L:Lay w bp bd bm l clock v S D) :
  Calls prog 23 #[.pointer (some ⟨bp,0,none⟩)] w λe w'=>e=.returned (.int .i64 (D.n:Int))/\w=w':=by
 have c0:=L.c0;go_enter func23,ntmps23
 go_wp2;go_ret;exact⟨rfl,rfl⟩
theorem qyz {w:WD}{bp bd bm clock:Nat}{l:List MapEntry}{v:Nat->Value}{S:NP}{D:DM}(L:Lay w bp bd bm l clock v S D) :
  Calls prog 41 #[.pointer (some ⟨bp,0,none⟩)] w λe w'=>e=.returned (.bool (!D.off))/\w=w':=by
 have c0:=L.c2;go_enter func41,ntmps41
 go_wp2;go_ret;exact⟨rfl,rfl⟩
def md (x:Int)(m:Nat):Nat:=((if x<0 then -(x+1) else x) % (m:Int)).toNat
theorem qz0 (x:Int){m:Nat}(h:0<m):md x m<m:=by
 unfold md;have h1:=Int.emod_nonneg (if x<0 then -(x+1) else x) (show (m:Int)≠0 by omega);have h2:=Int.emod_lt_of_pos (if x<0 then -(x+1) else x) (show (0:Int)<m by omega);omega
theorem qz1 {x:Int}(m:Nat)(h:0<=x)(hm:0<m):x.tmod (m:Int)=(md x m:Int):=by
 unfold md;rw[AB (by omega),Int.tmod_eq_emod_of_nonneg h];have:=Int.emod_nonneg x (show (m:Int)≠0 by omega);omega
theorem qz2 {x:Int}(m:Nat)(h:x<0)(hm:0<m):(-(x+1)).tmod (m:Int)=(md x m:Int):=by
 unfold md;rw[AA h,Int.tmod_eq_emod_of_nonneg (by omega)];have:=Int.emod_nonneg (-(x+1)) (show (m:Int)≠0 by omega);omega
def DM.stop (D:DM):Bool:=D.off||(D.fused&&decide (D.left=0))
def DM.stepD (D:DM):DM:={ D with off:=D.stop,left:=if D.stop then D.left else if D.fused then D.left-1 else D.left,steps:=if D.stop then D.steps else D.steps+1 }
def DM.err (D:DM):Int:=if D.stop then 4 else 0
theorem Lay.off1 {w:WD}{bp bd bm clock:Nat}{l:List MapEntry}{v:Nat->Value}{S:NP}{D:DM}(L:Lay w bp bd bm l clock v S D)(b:Bool) :
  Lay (w.setCell ⟨bp,2,none⟩ (.bool b)) bp bd bm l clock v S { D with off:=b }:=
 L.struct b D.fused D.left D.steps L.left (by rw[D6 _ L.me];rfl) λk _ hn=>Below.heap_setCell _ _ _ _ hn
theorem Lay.left1 {w:WD}{bp bd bm clock:Nat}{l:List MapEntry}{v:Nat->Value}{S:NP}{D:DM}(L:Lay w bp bd bm l clock v S D)(n:Nat)(hn:n<=9223372036854775807){x:Int}(hx:x=(n:Int)) :
  Lay (w.setCell ⟨bp,4,none⟩ (.int .i64 x)) bp bd bm l clock v S { D with left:=n }:=by
 subst hx;exact L.struct D.off D.fused n D.steps hn (by rw[D6 _ L.me];rfl) λk _ hn=>Below.heap_setCell _ _ _ _ hn
theorem Lay.Qad {w:WD}{bp bd bm clock:Nat}{l:List MapEntry}{v:Nat->Value}{S:NP}{D:DM}(L:Lay w bp bd bm l clock v S D)(n:Nat){x:Int}(hx:x=(n:Int)) :
  Lay (w.setCell ⟨bp,5,none⟩ (.int .i64 x)) bp bd bm l clock v S { D with steps:=n }:=by
 subst hx;exact L.struct D.off D.fused D.left n L.left (by rw[D6 _ L.me];rfl) λk _ hn=>Below.heap_setCell _ _ _ _ hn
theorem qar {bp:Nat}(w:WD)(j:Nat)(u:Value):Turn (λk=>k=bp) w (w.setCell ⟨bp,j,none⟩ u):=Cc u rfl
theorem qki {w:WD}{bp bd bm clock:Nat}{l:List MapEntry}{v:Nat->Value}{S:NP}{D:DM}(L:Lay w bp bd bm l clock v S D)(f:D.steps<=1000000000) :
  Calls prog 60 #[.pointer (some ⟨bp,0,none⟩)] w λe w'=>e=.returned (.int .i64 D.err)/\Lay w' bp bd bm l clock v S D.stepD/\Turn (λk=>k=bp) w w':=by
 have c2:=L.c2;have c3:=L.c3;have c4:=L.c4;have c5:=L.c5;have u:=L.fz 2;have y:=L.fz 4;have B:=L.fz 5;have d:=L.left;obtain⟨n,Xl,Zp,off,fused,left,steps,cap⟩:=D;simp only at c2 c3 c4 c5 f d
 cases off with
 |true=>
  rw[show (DM.stepD ⟨n,Xl,Zp,true,fused,left,steps,cap⟩)=⟨n,Xl,Zp,true,fused,left,steps,cap⟩ from rfl,show (DM.err ⟨n,Xl,Zp,true,fused,left,steps,cap⟩)=4 from rfl]
  cases fused with
  |true=>
   by_cases h0:left=0
   ·subst h0;go_enter func60,ntmps60
    go_wp2;go_ret;exact⟨rfl,L.off1 true,qar _ _ _⟩
   ·go_enter func60,ntmps60
    go_wp2;go_ret;exact⟨rfl,L,Turn.refl _ _⟩
  |false=>
   go_enter func60,ntmps60
   go_wp2;go_ret;exact⟨rfl,L,Turn.refl _ _⟩
 |false=>
  cases fused with
  |true=>
   by_cases h0:left=0
   ·subst h0;rw[show (DM.stepD ⟨n,Xl,Zp,false,true,0,steps,cap⟩)=⟨n,Xl,Zp,true,true,0,steps,cap⟩ from rfl,show (DM.err ⟨n,Xl,Zp,false,true,0,steps,cap⟩)=4 from rfl];go_enter func60,ntmps60
    go_wp2;go_ret;exact⟨rfl,L.off1 true,qar _ _ _⟩
   ·have g:(DM.stop ⟨n,Xl,Zp,false,true,left,steps,cap⟩)=false:=by simp[DM.stop,h0]
    have m:(DM.stepD ⟨n,Xl,Zp,false,true,left,steps,cap⟩)=⟨n,Xl,Zp,false,true,left-1,steps+1,cap⟩:=by simp[DM.stepD,g]
    have p:(DM.err ⟨n,Xl,Zp,false,true,left,steps,cap⟩)=0:=by simp[DM.err,g]
    rw[m,p];go_enter func60,ntmps60
    go_wp2;go_ret;exact⟨rfl,(L.left1 (left-1) (by omega) (by omega)).Qad (steps+1) (by omega),(qar _ _ _).then (qar _ _ _)⟩
  |false=>
   rw[show (DM.stepD ⟨n,Xl,Zp,false,false,left,steps,cap⟩)=⟨n,Xl,Zp,false,false,left,steps+1,cap⟩ from rfl,show (DM.err ⟨n,Xl,Zp,false,false,left,steps,cap⟩)=0 from rfl];go_enter func60,ntmps60
   go_wp2;go_ret;exact⟨rfl,L.Qad (steps+1) (by omega),qar _ _ _⟩
