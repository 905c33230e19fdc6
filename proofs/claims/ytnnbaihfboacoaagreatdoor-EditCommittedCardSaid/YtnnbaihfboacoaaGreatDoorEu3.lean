/- Rows of structs: slices whose elements are rows of s cells; nothing here speaks of one pro -/
import Derived.Test.YtnnbaihfboacoaaGreatDoorEu2
import Derived.Deep.MidRow
import Derived.Deep.Slices
import Derived.Deep.Fields
import Derived.WideShapes
import Derived.Deep.WholeRow
import Derived.Test.YtnnbaihfboacoaaGreatDoorChecked
namespace Go.Proofs.YtnnbaihfboacoaaGreatDoor
open Go Go.RowKit Go.Proofs
set_option maxHeartbeats 2000000
set_option maxRecDepth 100000
def Jf (w:World)(s:Nat)(A:Option Addr)(n c:Nat)(xs:List (List Value)):Prop:=
 xs.length=n/\n<=c/\c<=maxLen/\∀(j:Nat) x,xs[j]?=some x->∃g o,A=some ⟨g,o,none⟩/\g<w.1.size/\x.length=s/\w.rangeAt g (o+j*s) x
section
variable {w w':World}{s n c:Nat}{A:Option Addr}{xs:List (List Value)}
theorem Jf.len (h:Jf w s A n c xs):xs.length=n:=h.1
theorem Jf.cap (h:Jf w s A n c xs):n<=c:=h.2.1
theorem Jf.max (h:Jf w s A n c xs):c<=maxLen:=h.2.2.1
theorem Jf.keep (h:Jf w s A n c xs)(hz:w.1.size<=w'.1.size)(hk:∀g o,A=some ⟨g,o,none⟩->g<w.1.size->w'.1[g]?=w.1[g]?):Jf w' s A n c xs:=
 ⟨h.1,h.2.1,h.2.2.1,λj x u=>by
  obtain⟨g,o,e,d,f,m⟩:=h.2.2.2 j x u;exact⟨g,o,e,by omega,f,λi v p=>(World.cell?_of_block (a:=⟨g,o+j*s+i,none⟩) (hk g o e d)).trans (m i v p)⟩⟩
theorem Jf.below (h:Jf w s A n c xs)(hb:Below w.1.size w w'):Jf w' s A n c xs:=h.keep hb.size λg _ _ d=>hb.block g d
theorem Jf.take (h:Jf w s A n c xs){k:Nat}(hk:k<=n):Jf w s A k c (xs.take k):=by
 refine⟨by have:=h.len;simp;omega,by have:=h.cap;omega,h.max,λj x d=>h.2.2.2 j x ?_⟩;rw[List.getElem?_take] at d;split at d
 ·exact d
 ·cases d
theorem Jf.at_ (h:Jf w s A n c xs){j:Nat}(hj:j<n):∃g o,A=some ⟨g,o,none⟩/\g<w.1.size/\(xs.getD j []).length=s/\w.rangeAt g (o+j*s) (xs.getD j []):=by
 have d:j<xs.length:=by have:=h.len;omega
 exact h.2.2.2 j _ (by simp[List.getD,d])
theorem q67 (w:World)(s:Nat):Jf w s none 0 0 []:=⟨rfl,Nat.le_refl _,Nat.zero_le _,λj u d=>by simp at d⟩
end
structure Em (P:Program)(t e:TypeId)(s b:Nat)(z:Value):Prop where
 sl:P.underlying t=some (.slice e)
 info:(P.info? e).map (λi=>(i.zero,i.size,i.bytes))=some (some z,s,b)
 cells:z.cells.size=s
 pos:0<s
def Qs (w:World)(base:Nat)(e:TypeId)(s:Nat)(A:Option Addr)(n c:Nat)(xs:List (List Value)):Prop:=w.ownsRow base e s (.slice A n c) n xs.flatten/\∀x∈xs,x.length=s
theorem qc9 {s:Nat}:∀{xs:List (List Value)},(∀x∈xs,x.length=s)->xs.flatten.length=xs.length*s
 |[],_=>by simp
 |x::xs,h=>by
  rw[List.flatten_cons,List.length_append,qc9 (λy d=>h y (List.mem_cons_of_mem _ d)),h x (List.mem_cons_self ..),List.length_cons,Nat.add_mul,Nat.one_mul,Nat.add_comm]
theorem qoq {s:Nat}:∀{xs:List (List Value)},(∀x∈xs,x.length=s)->∀(j:Nat) x,xs[j]?=some x->∀(i:Nat) v,x[i]?=some v->xs.flatten[j*s+i]?=some v
 |[],_,j,x,hx,_,_,_=>by simp at hx
 |y::xs,h,0,x,hx,i,v,hv=>by
  obtain rfl:y=x:=by simpa using hx
  rw[List.flatten_cons,Nat.zero_mul,Nat.zero_add,List.getElem?_append_left (List.getElem?_eq_some_iff.1 hv).1];exact hv
 |y::xs,h,j+1,x,hx,i,v,hv=>by
  have d:=h y (List.mem_cons_self ..);rw[List.flatten_cons,List.getElem?_append_right (by rw[d,Nat.add_mul];omega),d,show (j+1)*s+i-s=j*s+i by rw[Nat.add_mul];omega];exact qoq (λz f=>h z (List.mem_cons_of_mem _ f)) j x (by simpa using hx) i v hv
theorem qxu {s:Nat}(y:0<s){xs:List (List Value)}(h:∀x∈xs,x.length=s)(m:Nat)(v:Value)(p:xs.flatten[m]?=some v):∃x,xs[m / s]?=some x/\x[m % s]?=some v:=by
 have hm:m<xs.length*s:=by rw[<-qc9 h];exact (List.getElem?_eq_some_iff.1 p).1
 have f:m / s<xs.length:=Nat.div_lt_of_lt_mul (by rw[Nat.mul_comm];exact hm);have u:xs[m / s]?=some xs[m / s]:=List.getElem?_eq_getElem f;have d:m % s<xs[m / s].length:=by rw[h _ (List.getElem_mem f)];exact Nat.mod_lt _ y
 refine⟨_,u,?_⟩;have h2:=qoq h (m / s) _ u (m % s) _ (List.getElem?_eq_getElem d);rw[Nat.mul_comm,Nat.div_add_mod] at h2;rw[List.getElem?_eq_getElem d,<-p,h2]
section
variable {w w':World}{base s n c:Nat}{e:TypeId}{A:Option Addr}{xs:List (List Value)}
theorem Qs.len (h:Qs w base e s A n c xs)(hs:0<s):xs.length=n:=by
 have h1:=h.1.1;rw[qc9 h.2] at h1;exact Nat.eq_of_mul_eq_mul_right hs h1
theorem Qs.Vs (h:Qs w base e s A n c xs)(hs:0<s):Jf w s A n c xs:=by
 have G:=h.len hs;refine⟨G,?_,?_,λj x u=>?_⟩
 ·rcases h.1.2 with⟨d,rfl⟩|⟨g,cap,f,d,_,_,h1,h2,_⟩
  ·omega
  ·injection d with _ _ p;omega
 ·rcases h.1.2 with⟨d,rfl⟩|⟨g,cap,f,d,_,_,h1,h2,_⟩
  ·injection d with _ _ p;unfold maxLen;omega
  ·injection d with _ _ p;omega
 ·have J:=(List.getElem?_eq_some_iff.1 u).1;rcases h.1.2 with⟨d,rfl⟩|⟨g,cap,f,d,I,y,h1,h2,p,B⟩
  ·omega
  ·have E:A=some ⟨g,0,none⟩:=by injection d
   refine⟨g,0,E,(Array.getElem?_eq_some_iff.1 y).1,h.2 x (List.mem_of_getElem? u),λi v F=>?_⟩;have m:=qoq h.2 j x u i v F;rw[<-B,List.getElem?_take] at m;split at m
   ·rw[cell_of_row _ _ _ _ _ _ y,Nat.zero_add];simpa using m
   ·cases m
theorem Qs.less {b:Nat}(h:Qs w base e s A n c xs)(hb:b<=base):Qs w b e s A n c xs:=by
 refine⟨⟨h.1.1,?_⟩,h.2⟩;rcases h.1.2 with f|⟨g,cap,d,f,h1,r⟩
 ·exact .inl f
 ·exact .inr ⟨g,cap,d,f,Nat.le_trans hb h1,r⟩
theorem Qs.keep (h:Qs w base e s A n c xs)(hk:∀g,base<=g->g<w.1.size->w'.1[g]?=w.1[g]?):Qs w' base e s A n c xs:=by
 refine⟨⟨h.1.1,?_⟩,h.2⟩;rcases h.1.2 with f|⟨g,cap,d,f,h1,m,r⟩
 ·exact .inl f
 ·exact .inr ⟨g,cap,d,f,h1,(hk g h1 (Array.getElem?_eq_some_iff.1 m).1).trans m,r⟩
theorem Qs.below (h:Qs w base e s A n c xs)(hb:Below w.1.size w w'):Qs w' base e s A n c xs:=h.keep λg _ d=>hb.block g d
theorem q10 (w:World)(base:Nat)(e:TypeId)(s:Nat):Qs w base e s none 0 0 []:=⟨⟨by simp,.inl ⟨rfl,rfl⟩⟩,λx d=>by simp at d⟩
theorem qor (w:World)(e:TypeId)(s:Nat):Qs (w.alloc (.cells #[] e)) w.1.size e s (some ⟨w.1.size,0,none⟩) 0 0 []:=
 ⟨⟨by simp,.inr ⟨w.1.size,0,#[],rfl,Nat.le_refl _,heap_alloc_new w _,Nat.le_refl _,Nat.zero_le _,by simp,by simp⟩⟩,λx d=>by simp at d⟩
theorem q1q (w:World)(e:TypeId)(s:Nat)(x:List Value)(d:Array Value)(f:d=x.toArray)(m:x.length=s):Qs (w.alloc (.cells d e)) w.1.size e s (some ⟨w.1.size,0,none⟩) 1 1 [x]:=by
 subst f;subst m;refine⟨⟨by simp,.inr ⟨w.1.size,1,x.toArray,rfl,Nat.le_refl _,heap_alloc_new w _,Nat.le_refl _,by unfold maxLen;omega,by simp,by simp⟩⟩,λy p=>?_⟩;obtain rfl:y=x:=by simpa using p
 rfl
end
section
variable {P:Program}{t e:TypeId}{s b:Nat}{z:Value}(w:World)
theorem q8i (T:Em P t e s b z)(ty:TypeId)(base:Nat)(A:Option Addr)(n c:Nat)(xs:List (List Value))(p:Qs w base e s A n c xs)
  (B:Option Addr) (m d:Nat) (ys:List (List Value)) (Q:Jf w s B m d ys) (Y:0<m) (h1:∀y∈ys,∀u∈y,u.oneCell'=true) (Z:n+m<=1000000) (hb:b<=100000) (f:base<=w.1.size) :
  ∃A' c' w',(Builtin.append_ #[t,t] ty #[.slice A n c,.slice B m d]).run P w=.ok (.slice A' (n+m) c') w'/\Qs w' base e s A' (n+m) c' (xs++ys)/\Below base w w':=by
 obtain⟨i,hi,a2,a6,a7⟩:=info_parts T.info;obtain⟨g,o,rfl,hg,a8,b0⟩:=Q.at_ Y;have F:∀y∈ys,y.length=s:=λy M=>by
  obtain⟨j,hj⟩:=List.mem_iff_getElem?.1 M;obtain⟨_,_,_,_,h,_⟩:=Q.2.2.2 j y hj;exact h
 have E:∀j u,ys.flatten[j]?=some u->w.cell? ((⟨g,o,none⟩:Addr).add j)=some u:=by
  intro j u J;obtain⟨y,M,K⟩:=qxu T.pos F j u J;obtain⟨g',o',U,_,_,a1⟩:=Q.2.2.2 _ y M;injection U with U;injection U with e1 e2;subst e1 e2;have:=a1 _ u K;rw[Addr.add_mid];rw[Nat.add_assoc,Nat.mul_comm,Nat.div_add_mod] at this;exact this
 have X:(n+m)*b<=140737488355328:=Nat.le_trans (Nat.mul_le_mul Z hb) (by decide);obtain⟨v',w',I,h2,h3,h4,_⟩:=run_append_own_at (P:=P) w base t ty e i z s b T.sl hi a2 a6 a7 T.cells T.pos _ n _ p.1 ⟨g,o,none⟩ m d ys.flatten (by rw[qc9 F,Q.len]) E (λu J=>by
  obtain⟨y,M,J⟩:=List.mem_flatten.1 J;exact h1 y M u J) (by unfold maxLen;omega) X f
 have hB:Below base w w':=(Below.refl _ _).grown h3 f (λk O=>by
  rcases p.1.2 with⟨K,_⟩|⟨g,cap,R,K,h1,_⟩
  ·rw[K] at O;simp[Value.ownBlock] at O
  ·rw[K] at O;simp[Value.ownBlock] at O;omega)
 rw[<-List.flatten_append] at h2;have G:∀x∈xs++ys,x.length=s:=λx hx=>by
  rcases List.mem_append.1 hx with h|h
  ·exact p.2 x h
  ·exact F x h
 rcases h2.2 with⟨rfl,h0⟩|⟨g',cap,R,rfl,_⟩
 ·omega
 ·exact⟨_,_,w',I,⟨h2,G⟩,hB⟩
theorem qa2 (T:Em P t e s b z){ops:Array Oper}{f:List Oper}{o:Oper}{a:Act}{Q:Exit->Act->World->Prop}(J:o.guard=none)(R x:Operand)
  (Z:o.op=.call { callee:=.builtin .append,args:=#[R,x],argTypes:=#[t,t] })
  (base:Nat) (A:Option Addr) (n c:Nat) (xs:List (List Value)) (hs:a.eval R=.slice A n c) (E:Qs w base e s A n c xs)
  (B:Option Addr) (m d:Nat) (ys:List (List Value)) (hx:a.eval x=.slice B m d) (hr:Jf w s B m d ys) (M:0<m) (h1:∀y∈ys,∀u∈y,u.oneCell'=true) (O:n+m<=1000000) (Y:b<=100000) (p:base<=w.1.size)
  (h:∀G I w',Qs w' base e s G (n+m) I (xs++ys)->Below base w w'->wpList P ops Q f (a.put o.dst (.slice G (n+m) I)) w'):wpList P ops Q (o::f) a w:=
 wpList_plain J λK X=>by
  obtain⟨G,I,w',F,h2,U⟩:=q8i (P:=P) w T o.type base A n c xs E B m d ys hr M h1 O Y p;unfold Oper.wp execOp;simp only[Z,resolve,invoke,builtin,Sem.run_bind,Sem.run_pure,Result.andThen_ok,List.map_toArray,List.map_cons,List.map_nil,hs,hx,F];exact X _ _ (h G I w' h2 U)
end
section
open Go.ChangeShapes Go.WideShapes Go.ChangeAt Go.Deep
structure Qc where
 k:Kd
 v:List UInt8
structure Ql where
 k:Kd
 a:Int
structure Nd where
 lvl:Int
 items:List Qc
 kids:List Ql
def kvs (k:Kd):List Value:=[.int .i64 k.obj,.int .i64 k.kind,.int .i64 k.off]
def Ql.vs (x:Ql):List Value:=[.int .i64 x.k.obj,.int .i64 x.k.kind,.int .i64 x.k.off,.int .i64 x.a]
def Ru (w:World)(r:List Value)(x:Qc):Prop:=∃B m d,r=[.int .i64 x.k.obj,.int .i64 x.k.kind,.int .i64 x.k.off,.slice B m d]/\Sl w B m d x.v
def Zl (w:World)(A:Option Addr)(n c:Nat)(xs:List Qc):Prop:=∃d,Jf w 4 A n c d/\d.length=xs.length/\∀(j:Nat) r x,d[j]?=some r->xs[j]?=some x->Ru w r x
def Zm (w:World)(A:Option Addr)(n c:Nat)(xs:List Ql):Prop:=Jf w 4 A n c (xs.map Ql.vs)
def Ah (w:World)(A:Option Addr)(n c:Nat)(xs:List Kd):Prop:=Jf w 3 A n c (xs.map kvs)
section
variable {w w':World}{n c:Nat}{A:Option Addr}
theorem Ru.below {r:List Value}{x:Qc}(h:Ru w r x)(hb:Below w.1.size w w'):Ru w' r x:=by
 obtain⟨B,m,d,e,f⟩:=h;exact⟨B,m,d,e,f.below hb⟩
theorem Zl.below {xs:List Qc}(h:Zl w A n c xs)(hb:Below w.1.size w w'):Zl w' A n c xs:=by
 obtain⟨d,h1,h2,f⟩:=h;exact⟨d,h1.below hb,h2,λj r x m p=>(f j r x m p).below hb⟩
theorem Zm.below {xs:List Ql}(h:Zm w A n c xs)(hb:Below w.1.size w w'):Zm w' A n c xs:=Jf.below h hb
theorem Ah.below {xs:List Kd}(h:Ah w A n c xs)(hb:Below w.1.size w w'):Ah w' A n c xs:=Jf.below h hb
theorem Zl.len {xs:List Qc}(h:Zl w A n c xs):xs.length=n:=by
 obtain⟨d,h1,h2,_⟩:=h;rw[<-h2];exact h1.len
theorem Zm.len {xs:List Ql}(h:Zm w A n c xs):xs.length=n:=by simpa using Jf.len h
theorem Ah.len {xs:List Kd}(h:Ah w A n c xs):xs.length=n:=by simpa using Jf.len h
theorem Zl.bounds {xs:List Qc}(h:Zl w A n c xs):n<=c/\c<=maxLen:=by
 obtain⟨d,h1,_⟩:=h;exact⟨h1.cap,h1.max⟩
theorem Zm.bounds {xs:List Ql}(h:Zm w A n c xs):n<=c/\c<=maxLen:=⟨Jf.cap h,Jf.max h⟩
theorem Zl.take {xs:List Qc}(h:Zl w A n c xs){k:Nat}(hk:k<=n):Zl w A k c (xs.take k):=by
 obtain⟨m,h1,h2,p⟩:=h;refine⟨m.take k,h1.take hk,by simp[h2],λj r x d f=>?_⟩;rw[List.getElem?_take] at d f;split at d
 ·rename_i u;rw[if_pos u] at f;exact p j r x d f
 ·cases d
theorem Zm.take {xs:List Ql}(h:Zm w A n c xs){k:Nat}(hk:k<=n):Zm w A k c (xs.take k):=by
 have:=Jf.take h hk;rw[<-List.map_take] at this;exact this
def Qj (xs:List Qc)(j:Nat):Qc:=xs.getD j ⟨⟨0,0,0⟩,[]⟩
def Qg (xs:List Ql)(j:Nat):Ql:=xs.getD j ⟨⟨0,0,0⟩,0⟩
def keyAt (xs:List Kd)(j:Nat):Kd:=xs.getD j ⟨0,0,0⟩
theorem q11 {xs:List Qc}{j:Nat}(h:j<xs.length):xs[j]?=some (Qj xs j):=by simp[Qj,List.getD,h]
theorem Rf {xs:List Ql}{j:Nat}(h:j<xs.length):xs[j]?=some (Qg xs j):=by simp[Qg,List.getD,h]
theorem qos {xs:List Kd}{j:Nat}(h:j<xs.length):xs[j]?=some (keyAt xs j):=by simp[keyAt,List.getD,h]
theorem Zl.cell {xs:List Qc}(h:Zl w A n c xs){j:Nat}(hj:j<n):∃g o B m d,A=some ⟨g,o,none⟩/\g<w.1.size/\w.cell? ⟨g,o+j*4,none⟩=some (.int .i64 (Qj xs j).k.obj)/\w.cell? ⟨g,o+j*4+1,none⟩=some (.int .i64 (Qj xs j).k.kind)/\
  w.cell? ⟨g,o+j*4+2,none⟩=some (.int .i64 (Qj xs j).k.off)/\w.cell? ⟨g,o+j*4+3,none⟩=some (.slice B m d)/\Sl w B m d (Qj xs j).v:=by
 have G:=h.len;obtain⟨p,h1,h2,y⟩:=h;have u:p[j]?=some (p[j]'(by omega)):=List.getElem?_eq_getElem (by omega);obtain⟨B,m,d,e,F⟩:=y j _ _ u (q11 (by omega));obtain⟨g,o,rfl,E,_,f⟩:=h1.2.2.2 j _ u;rw[e] at f;exact⟨g,o,B,m,d,rfl,E,f 0 _ rfl,f 1 _ rfl,f 2 _ rfl,f 3 _ rfl,F⟩
theorem Zm.cell {xs:List Ql}(h:Zm w A n c xs){j:Nat}(hj:j<n):∃g o,A=some ⟨g,o,none⟩/\g<w.1.size/\w.cell? ⟨g,o+j*4,none⟩=some (.int .i64 (Qg xs j).k.obj)/\w.cell? ⟨g,o+j*4+1,none⟩=some (.int .i64 (Qg xs j).k.kind)/\
  w.cell? ⟨g,o+j*4+2,none⟩=some (.int .i64 (Qg xs j).k.off)/\w.cell? ⟨g,o+j*4+3,none⟩=some (.int .i64 (Qg xs j).a):=by
 have m:=h.len;obtain⟨g,o,rfl,f,_,d⟩:=h.2.2.2 j (Qg xs j).vs (by rw[List.getElem?_map,Rf (by omega)];rfl);exact⟨g,o,rfl,f,d 0 _ rfl,d 1 _ rfl,d 2 _ rfl,d 3 _ rfl⟩
theorem Ah.cell {xs:List Kd}(h:Ah w A n c xs){j:Nat}(hj:j<n):∃g o,A=some ⟨g,o,none⟩/\g<w.1.size/\w.cell? ⟨g,o+j*3,none⟩=some (.int .i64 (keyAt xs j).obj)/\w.cell? ⟨g,o+j*3+1,none⟩=some (.int .i64 (keyAt xs j).kind)/\
  w.cell? ⟨g,o+j*3+2,none⟩=some (.int .i64 (keyAt xs j).off):=by
 have m:=h.len;obtain⟨g,o,rfl,f,_,d⟩:=h.2.2.2 j (kvs (keyAt xs j)) (by rw[List.getElem?_map,qos (by omega)];rfl);exact⟨g,o,rfl,f,d 0 _ rfl,d 1 _ rfl,d 2 _ rfl⟩
theorem qjp (w:World):Zl w none 0 0 []:=⟨[],q67 w 4,rfl,λj r x d=>by simp at d⟩
theorem qdy (w:World):Zm w none 0 0 []:=q67 w 4
end
section
variable {H:Type}{enc:TypeId × Value->H}{P:Program}{W:World}
theorem q7o {g o:Nat}{s:Option Nat}{v:Value}(h:W.cell? ⟨g,o,s⟩=some v):s=none:=by
 cases s with
 |none=>rfl
 |some k=>
  unfold World.cell? at h;split at h<;>simp at h
theorem qca {t e:TypeId}(T:Y0 P t e)(B:P.underlying e=some (.int .u8)){fuel:Nat}{v:Value}{y:DataW H × List MemPlace}(u:DataW.trod enc P W 0 (λ_=>true) true fuel t [v]=some y):∃A n c l,v=.slice A n c/\Sl W A n c l:=by
 have E:∃a len cap,v=.slice a len cap:=by
  rcases Deep.open_slice T.sl u with⟨p,_⟩|⟨a,len,cap,m,f,D,Pl,p,_⟩
  ·exact⟨_,_,_,by simpa using p⟩
  ·exact⟨_,_,_,by simpa using p⟩
 obtain⟨a,len,cap,rfl⟩:=E;exact qlh (d:=y.1) (ps:=y.2) T B ⟨_,_,_,rfl⟩ ⟨fuel,u⟩
structure Qbr (P:Program)(t:TypeId)(f0 f1 f2:Field):Prop where
 st:P.underlying t=some (.struct #[f0,f1,f2])
 one:oneCellFields P #[f0,f1,f2]=true
 cells:P.cellsOf t=3
 h0:P.underlying f0.type=some (.int .i64)
 h1:P.underlying f1.type=some (.int .i64)
 h2:P.underlying f2.type=some (.int .i64)
end
end
section
open Go.ChangeMaps (setBlock)
structure Turn (S:Nat->Prop)(w w':World):Prop where
 os:w'.os=w.os
 tape:w'.tape=w.tape
 output:w'.output=w.output
 size:w.heap.size<=w'.heap.size
 block:∀k,k<w.heap.size->¬S k->w'.heap[k]?=w.heap[k]?
section
variable {S S':Nat->Prop}{w w' w'':World}
theorem Turn.refl (S:Nat->Prop)(w:World):Turn S w w:=⟨rfl,rfl,rfl,Nat.le_refl _,λ_ _ _=>rfl⟩
theorem Turn.trans (h:Turn S w w')(k:Turn S' w' w'')(hs:∀x,S' x->S x\/w.1.size<=x):Turn S w w'':=
 ⟨k.os.trans h.os,k.tape.trans h.tape,k.output.trans h.output,Nat.le_trans h.size k.size,λi d hn=>(k.block i (Nat.lt_of_lt_of_le d h.size) (λf=>by rcases hs i f with h1|h1;exact hn h1;omega)).trans (h.block i d hn)⟩
theorem Turn.then (h:Turn S w w')(k:Turn S w' w''):Turn S w w'':=h.trans k λ_=>.inl
theorem Turn.mono (h:Turn S w w')(hs:∀x,S x->S' x):Turn S' w w':=⟨h.os,h.tape,h.output,h.size,λk d hn=>h.block k d λf=>hn (hs k f)⟩
theorem Turn.drew (h:Turn S w w'):Turn S w w'.drew:=⟨h.os,h.tape,h.output,h.size,h.block⟩
theorem Qv (h:Below w.1.size w w'):Turn S w w':=⟨h.os,h.tape,h.output,h.size,λk d _=>h.block k d⟩
theorem Turn.below {B:Nat}(h:Turn S w w')(hs:∀x,S x->B<=x)(hB:B<=w.1.size):Below B w w':=
 ⟨h.os,h.tape,h.output,h.size,λk f=>h.block k (by omega) λd=>by have:=hs k d;omega⟩
theorem qm6 (S:Nat->Prop)(w:World)(o:Obj):Turn S w (w.alloc o):=Qv ((Below.refl _ _).alloc (Nat.le_refl _) o)
theorem qm7 {row:Option Nat}(h:w.grownBy w' row)(f:∀k,row=some k->S k):Turn S w w':=
 ⟨h.os,h.tape,h.output,h.size,λk d hn=>h.block k d λe=>hn (f k e.symm)⟩
theorem Ez {a:Addr}(u:Value)(h:S a.block):Turn S w (w.setCell a u):=
 ⟨rfl,rfl,rfl,by simp[World.setCell],λk _ hn=>Below.heap_setCell _ _ _ _ (λe=>hn (e▸h))⟩
theorem Us {b:Nat}(h:S b):∀(vs:List Value) (o:Nat) (w:World),Turn S w (w.setCells b o vs)
 |[],_,w=>Turn.refl S w
 |v::r,o,w=>by
  rw[World.setCells];exact (Ez (a:=⟨b,o,none⟩) v h).then (Us h r (o+1) _)
theorem q0p {b:Nat}(o:Obj)(h:S b):Turn S w (setBlock w b o):=
 ⟨rfl,rfl,rfl,by simp[setBlock],λk _ hn=>by
  show (w.1.setIfInBounds b o)[k]?=_;rw[Array.getElem?_setIfInBounds_ne (λ(e:b=k)=>hn (e▸h))]⟩
theorem q44 (b:Nat):∀(vs:List Value) (o:Nat) (w:World),(w.setCells b o vs).1.size=w.1.size
 |[],_,w=>rfl
 |v::r,o,w=>by rw[World.setCells,q44 b r];simp[World.setCell]
theorem qe0 (w:World)(b:Nat)(o:Obj):(setBlock w b o).1.size=w.1.size:=by simp[setBlock]
theorem q27 {b:Nat}{o:Obj}(h:b<w.1.size):(setBlock w b o).1[b]?=some o:=by
 show (w.1.setIfInBounds b o)[b]?=_;rw[Array.getElem?_setIfInBounds_self_of_lt h]
theorem Fa {b j:Nat}{c:Array Value}{t:TypeId}{d:Nat × Nat}(u:Value)(h:w.1[b]?=some (.cells c t d)):(w.setCell ⟨b,j,none⟩ u).1[b]?=some (.cells (c.setIfInBounds j u) t d):=by
 simp[World.setCell,Array.getElem?_modify,h]
theorem Wi {b:Nat}{o:Obj}(h:w.1[b]?=some o):b<w.1.size:=(Array.getElem?_eq_some_iff.1 h).1
theorem q5j {b o:Nat}{d:List Value}(h:w.rangeAt b o d)(e:w'.1[b]?=w.1[b]?):w'.rangeAt b o d:=λj v f=>(World.cell?_of_block (a:=⟨b,o+j,none⟩) e).trans (h j v f)
theorem q7p {b o n:Nat}(h:w.there b o n)(e:w'.1[b]?=w.1[b]?):w'.there b o n:=λj d=>by
 obtain⟨h1,h2⟩:=h j d;exact⟨by rw[World.cell?_of_block (a:=⟨b,o+j,none⟩) e];exact h1,by rw[World.frozen?_of_block (a:=⟨b,o+j,none⟩) e];exact h2⟩
theorem q30 {base:Nat}{e:TypeId}{size n:Nat}{v:Value}{xs:List Value}(h:w.ownsRow base e size v n xs)(p:∀g,v.ownBlock=some g->w'.1[g]?=w.1[g]?):w'.ownsRow base e size v n xs:=by
 refine⟨h.1,?_⟩;rcases h.2 with d|⟨g,cap,f,d,h1,m,r⟩
 ·exact .inl d
 ·exact .inr ⟨g,cap,f,d,h1,(p g (by rw[d];rfl)).trans m,r⟩
theorem qr6 {base d:Nat}{e:TypeId}{size n:Nat}{v:Value}{xs:List Value}(h:w.ownsRow base e size v n xs)(p:d<=base):w.ownsRow d e size v n xs:=by
 refine⟨h.1,?_⟩;rcases h.2 with m|⟨g,cap,f,m,h1,r⟩
 ·exact .inl m
 ·exact .inr ⟨g,cap,f,m,by omega,r⟩
theorem qa3 {base:Nat}{e:TypeId}{size n:Nat}{v:Value}{xs:List Value}(h:w.ownsRow base e size v n xs)(hn:0<n):∃g c,v=.slice (some ⟨g,0,none⟩) n c/\n<=c/\c<=maxLen:=by
 rcases h.2 with d|⟨g,cap,f,d,_,_,h1,h2,_⟩
 ·omega
 ·exact⟨g,cap,d,h1,h2⟩
theorem qjs {base:Nat}{e:TypeId}{size n:Nat}{v:Value}{xs:List Value}(h:w.ownsRow base e size v n xs):∃A c,v=.slice A n c/\n<=c/\c<=maxLen:=by
 rcases h.2 with⟨rfl,rfl⟩|⟨g,cap,d,f,_,_,h1,h2,_⟩
 ·exact⟨none,0,rfl,Nat.le_refl _,Nat.zero_le _⟩
 ·exact⟨_,cap,f,h1,h2⟩
end
def flat (d:List (List UInt8)):List Value:=d.flatten.map bv
def Ld (d:List (List UInt8)):Prop:=∀l∈d,l.length=256
def Yv (l:List UInt8):List Value:=l.map bv
theorem Ir (l:List UInt8):(Yv l).length=l.length:=by simp[Yv]
theorem qht (l:List UInt8):∀u∈Yv l,u.oneCell'=true:=qf0 l
theorem qot (d:List (List UInt8))(l:List UInt8):flat (d++[l])=flat d++Yv l:=by simp[flat,Yv]
theorem qou (l:List UInt8)(d:List (List UInt8)):flat (l::d)=Yv l++flat d:=by simp[flat,Yv]
theorem qov:∀{d:List (List UInt8)},Ld d->∀(i:Nat) (f:i<d.length) (j:Nat) (_:j<256),(flat d)[i*256+j]?=(Yv d[i])[j]?
 |l::d,h,i,f,j,hj=>by
  have m:(Yv l).length=256:=by rw[Ir,h l (by simp)]
  rw[qou];rcases i with _|i
  ·rw[List.getElem?_append_left (by omega)];simp
  ·rw[List.getElem?_append_right (by omega),m];have e:(i+1)*256+j-256=i*256+j:=by omega
   rw[e,qov (λx p=>h x (by simp[p])) i (by simpa using f) j hj];simp
theorem qcb {w:World}{base g n c:Nat}{e:TypeId}{d:List (List UInt8)}(h:w.ownsRow base e 256 (.slice (some ⟨g,0,none⟩) n c) n (flat d))(m:Ld d)(hn:d.length=n)(i:Nat)(f:i<d.length) :
  w.rangeAt g (i*256) (Yv d[i]):=λj v p=>by
 have u:j<256:=by
  have:=(List.getElem?_eq_some_iff.1 p).1;rw[Ir,m _ (List.getElem_mem f)] at this;exact this
 rw[World.ownsRow.cellAt h (i*256+j) (by subst hn;have:i*256+256<=d.length*256:=(by omega);omega),qov m i f j u];exact p
theorem qt5 {w:World}{g o c:Nat}{l:List UInt8}(h:w.rangeAt g o (Yv l))(f:g<w.1.size)(d:l.length<=c)(hm:c<=maxLen):Sl w (some ⟨g,o,none⟩) l.length c l:=
 ⟨by simp,d,hm,λj u m=>⟨_,rfl,f,by rw[Addr.add_mid];exact h j u m⟩⟩
theorem qjt {w:World}{A:Option Addr}{n c:Nat}{l:List UInt8}(h:Sl w A n c l)(F:0<l.length):∃g o,A=some ⟨g,o,none⟩/\g<w.1.size/\w.rangeAt g o (Yv l):=by
 obtain⟨p,e,B,d⟩:=h.2.2.2 0 (bv l[0]) (by simp[F]);obtain⟨g,o,m⟩:=p;have f:m=none:=by
  cases m with
  |none=>rfl
  |some x=>
   simp only[World.cell?,Addr.add,if_true] at d;split at d<;>simp at d
 subst f;refine⟨g,o,e,B,λj v G=>?_⟩;obtain⟨u,y,_,E⟩:=h.2.2.2 j v G;obtain rfl:=Option.some.inj (e.symm.trans y);rw[<-Addr.add_mid];exact E
end
def q01:Option Addr->Option Nat
 |some a=>some a.block
 |none=>none
section
variable {P:Program}{t e:TypeId}{s b:Nat}{z:Value}(w:World)
theorem q1w (T:Em P t e s b z)(ty:TypeId)(base:Nat)(A:Option Addr)(n c:Nat)(xs:List (List Value))(E:Qs w base e s A n c xs)
  (B:Option Addr) (m d:Nat) (ys:List (List Value)) (R:Jf w s B m d ys) (a1:0<m) (h1:∀y∈ys,∀u∈y,u.oneCell'=true) (a2:n+m<=1000000) (hb:b<=100000) (F:base<=w.1.size) :
  ∃I c' w',(Builtin.append_ #[t,t] ty #[.slice A n c,.slice B m d]).run P w=.ok (.slice I (n+m) c') w'/\Qs w' base e s I (n+m) c' (xs++ys)/\Turn (λk=>q01 A=some k) w w'/\(q01 I=q01 A\/q01 I=some w.1.size)/\q01 I≠none:=by
 obtain⟨i,hi,a7,a8,b0⟩:=info_parts T.info;obtain⟨g,o,rfl,hg,b2,b3⟩:=R.at_ a1;have G:∀y∈ys,y.length=s:=λy Q=>by
  obtain⟨j,hj⟩:=List.mem_iff_getElem?.1 Q;obtain⟨_,_,_,_,h,_⟩:=R.2.2.2 j y hj;exact h
 have f:∀j u,ys.flatten[j]?=some u->w.cell? ((⟨g,o,none⟩:Addr).add j)=some u:=by
  intro j u O;obtain⟨y,Q,hv⟩:=qxu T.pos G j u O;obtain⟨g',o',U,_,_,a6⟩:=R.2.2.2 _ y Q;injection U with U;injection U with e1 e2;subst e1 e2;have:=a6 _ u hv;rw[Addr.add_mid];rw[Nat.add_assoc,Nat.mul_comm,Nat.div_add_mod] at this;exact this
 have Z:(n+m)*b<=140737488355328:=Nat.le_trans (Nat.mul_le_mul a2 hb) (by decide);obtain⟨v',w',M,h2,h3,h4,Y⟩:=run_append_own_at (P:=P) w base t ty e i z s b T.sl hi a7 a8 b0 T.cells T.pos _ n _ E.1 ⟨g,o,none⟩ m d ys.flatten (by rw[qc9 G,R.len]) f (λu O=>by
  obtain⟨y,Q,O⟩:=List.mem_flatten.1 O;exact h1 y Q u O) (by unfold maxLen;omega) Z F
 have K:∀(X:Option Addr) p q,Value.ownBlock (.slice X p q)=q01 X:=λX p q=>by cases X<;>rfl
 rw[K] at h3 Y;rw[<-List.flatten_append] at h2;have J:∀x∈xs++ys,x.length=s:=λx hx=>by
  rcases List.mem_append.1 hx with h|h
  ·exact E.2 x h
  ·exact G x h
 rcases h2.2 with⟨rfl,h0⟩|⟨g',cap,b1,rfl,_⟩
 ·omega
 ·rw[K] at Y;exact⟨_,_,w',M,⟨h2,J⟩,qm7 h3 (λk hk=>hk),Y,by simp[q01]⟩
theorem qa4 (T:Em P t e s b z){ops:Array Oper}{f:List Oper}{o:Oper}{a:Act}{Q:Exit->Act->World->Prop}(J:o.guard=none)(R x:Operand)
  (ho:o.op=.call { callee:=.builtin .append,args:=#[R,x],argTypes:=#[t,t] })
  (base:Nat) (A:Option Addr) (n c:Nat) (xs:List (List Value)) (hs:a.eval R=.slice A n c) (F:Qs w base e s A n c xs)
  (B:Option Addr) (m d:Nat) (ys:List (List Value)) (hx:a.eval x=.slice B m d) (hr:Jf w s B m d ys) (M:0<m) (h1:∀y∈ys,∀u∈y,u.oneCell'=true) (O:n+m<=1000000) (hb:b<=100000) (E:base<=w.1.size)
  (h:∀p I w',Qs w' base e s p (n+m) I (xs++ys)->Turn (λk=>q01 A=some k) w w'->(q01 p=q01 A\/q01 p=some w.1.size)->q01 p≠none->wpList P ops Q f (a.put o.dst (.slice p (n+m) I)) w'):wpList P ops Q (o::f) a w:=
 wpList_plain J λK Z=>by
  obtain⟨p,I,w',G,h2,U,X,Y⟩:=q1w (P:=P) w T o.type base A n c xs F B m d ys hr M h1 O hb E;unfold Oper.wp execOp;simp only[ho,resolve,invoke,builtin,Sem.run_bind,Sem.run_pure,Result.andThen_ok,List.map_toArray,List.map_cons,List.map_nil,hs,hx,G];exact Z _ _ (h p I w' h2 U X Y)
end
theorem Sl.turned {w w':World}{A:Option Addr}{n c:Nat}{l:List UInt8}(h:Sl w A n c l){S:Nat->Prop}(T:Turn S w w')(hA:∀k,q01 A=some k->¬S k):Sl w' A n c l:=
 ⟨h.1,h.2.1,h.2.2.1,λj u p=>by
  obtain⟨d,e,f,m⟩:=h.2.2.2 j u p;refine⟨d,e,by have:=T.size;omega,?_⟩;rw[World.cell?_of_block (a:=d.add j) (w':=w') (w:=w) (by rw[q0n];exact T.block _ f (hA _ (by rw[e];rfl)))];exact m⟩
theorem Qs.turned {w w':World}{base:Nat}{e:TypeId}{s:Nat}{A:Option Addr}{n c:Nat}{xs:List (List Value)}(h:Qs w base e s A n c xs){S:Nat->Prop}(T:Turn S w w')(hA:∀k,q01 A=some k->¬S k):Qs w' base e s A n c xs:=by
 refine⟨⟨h.1.1,?_⟩,h.2⟩;rcases h.1.2 with d|⟨g,cap,f,d,h1,m,r⟩
 ·exact .inl d
 ·refine .inr ⟨g,cap,f,d,h1,(T.block g (Array.getElem?_eq_some_iff.1 m).1 (hA g ?_)).trans m,r⟩;injection d with d;rw[d];rfl
theorem Qs.Qa {w:World}{base:Nat}{e:TypeId}{s:Nat}{A:Option Addr}{n c:Nat}{xs:List (List Value)}(h:Qs w base e s A n c xs):∀k,q01 A=some k->base<=k/\k<w.1.size:=by
 intro k f;rcases h.1.2 with⟨d,_⟩|⟨g,cap,m,d,h1,p,r⟩
 ·injection d with d;rw[d] at f;cases f
 ·injection d with d;rw[d] at f;obtain rfl:g=k:=Option.some.inj f;exact⟨h1,(Array.getElem?_eq_some_iff.1 p).1⟩
section
open Go.ChangeMaps (setBlock)
structure DM where
 n:Nat
 Jp:Nat->List UInt8
 Zp:Nat->List (List UInt8)
 off:Bool
 fused:Bool
 left:Nat
 steps:Nat
 cap:Nat
def upd {α:Type}(f:Nat->α)(s:Nat)(x:α):Nat->α:=λk=>if k=s then x else f k
theorem Aw {α:Type}(f:Nat->α)(s:Nat)(x:α):upd f s x s=x:=by simp[upd]
theorem Ar {α:Type}(f:Nat->α){s k:Nat}(x:α)(h:k≠s):upd f s x k=f k:=by simp[upd,h]
def Qb (n:Nat):Prop:=32<=n/\n<=2048
theorem TB:(Tryz.prog.info? 164).map (λi=>(i.zero,i.size,i.bytes))=some (some (.agg (Array.replicate 256 (.int .u8 0))),256,256):=by kernel_rfl
structure Lay (w:World)(bp bd bm:Nat)(l:List MapEntry)(clock:Nat)(v:Nat->Value)(S:Nat->Prop)(D:DM):Prop where
 me:w.heap[bp]?=some (.cells #[.slice (some ⟨bd,0,none⟩) D.n D.cap,.map (some bm),.bool D.off,.bool D.fused,.int .i64 D.left,.int .i64 D.steps] 107 (0,0))
 Jp:∀s,s<D.n->w.rangeAt bd (s*256) (Yv (D.Jp s))
 Ep:∀s,s<D.n->w.there bd (s*256) 256
 map:w.heap[bm]?=some (.map l.toArray clock)
 ents:Vy l clock
 look:∀s:Nat,Zf s l=if D.Zp s=[] then none else some (v s)
 keys:∀e∈l,∃s:Nat,s<D.n/\kI e=s
 row:∀s,w.ownsRow 0 164 256 (v s) (D.Zp s).length (flat (D.Zp s))
 nil:∀s,D.Zp s=[]->v s=.slice none 0 0
 dl:∀s,(D.Jp s).length=256
 cl:∀s,Ld (D.Zp s)
 out:∀s,D.n<=s->D.Zp s=[]
 Xu:S bp/\S bd/\S bm/\∀s g,(v s).ownBlock=some g->S g
 ne:bp≠bd/\∀s g,(v s).ownBlock=some g->g≠bp/\g≠bd
 sep:∀s s' g,(v s).ownBlock=some g->(v s').ownBlock=some g->s=s'
 n32:Qb D.n
 left:D.left<=9223372036854775807
def Y9 (w:World)(bp:Nat)(S:Nat->Prop)(D:DM):Prop:=∃bd bm l clock v,Lay w bp bd bm l clock v S D
section
variable {w w':World}{bp bd bm clock:Nat}{l:List MapEntry}{v:Nat->Value}{S:Nat->Prop}{D:DM}
theorem Lay.pos (L:Lay w bp bd bm l clock v S D):0<D.n:=by have:=L.n32;unfold Qb at this;omega
theorem Lay.Sv (L:Lay w bp bd bm l clock v S D):∃c t d,w.1[bd]?=some (.cells c t d):=by
 have h:=(L.Ep 0 L.pos 0 (by omega)).1;unfold World.cell? at h;split at h
 ·rename_i c t d f;exact⟨c,t,d,f⟩
 ·cases h
theorem Lay.Qax (L:Lay w bp bd bm l clock v S D):bd≠bm:=λe=>by
 obtain⟨c,t,d,h⟩:=L.Sv;rw[e,L.map] at h;cases h
theorem Lay.Qay (L:Lay w bp bd bm l clock v S D):bp≠bm:=λe=>by
 have h:=L.me;rw[e,L.map] at h;cases h
theorem Lay.Wy (L:Lay w bp bd bm l clock v S D){s g:Nat}(h:(v s).ownBlock=some g):∃c t,w.1[g]?=some (.cells c t (0,0)):=by
 rcases (L.row s).2 with⟨d,_⟩|⟨p,cap,f,d,_,m,_⟩
 ·rw[d] at h;cases h
 ·rw[d] at h;cases h;exact⟨_,_,m⟩
theorem Lay.Qaf (L:Lay w bp bd bm l clock v S D){s g:Nat}(h:(v s).ownBlock=some g):g≠bm:=λe=>by
 obtain⟨c,t,d⟩:=L.Wy h;rw[e,L.map] at d;cases d
theorem Lay.keep (L:Lay w bp bd bm l clock v S D)(hk:∀k,k<w.1.size->S k->w'.1[k]?=w.1[k]?):Lay w' bp bd bm l clock v S D:=by
 obtain⟨c,t,B,d⟩:=L.Sv;have u:=hk bp (Wi L.me) L.Xu.1;have m:=hk bd (Wi d) L.Xu.2.1;have y:=hk bm (Wi L.map) L.Xu.2.2.1;exact⟨u.trans L.me,λs f=>q5j (L.Jp s f) m,λs f=>q7p (L.Ep s f) m,y.trans L.map,L.ents,L.look,L.keys,
  λs=>q30 (L.row s) λg p=>by obtain⟨c,t,h⟩:=L.Wy p;exact hk g (Wi h) (L.Xu.2.2.2 s g p),L.nil,L.dl,L.cl,L.out,L.Xu,L.ne,L.sep,L.n32,L.left⟩
theorem Lay.mono {S':Nat->Prop}(L:Lay w bp bd bm l clock v S D)(h:∀k,k<w.1.size->S k->S' k):Lay w bp bd bm l clock v S' D:=by
 obtain⟨c,t,m,d⟩:=L.Sv;exact⟨L.me,L.Jp,L.Ep,L.map,L.ents,L.look,L.keys,L.row,L.nil,L.dl,L.cl,L.out,
  ⟨h _ (Wi L.me) L.Xu.1,h _ (Wi d) L.Xu.2.1,h _ (Wi L.map) L.Xu.2.2.1,λs g f=>by obtain⟨c,t,h2⟩:=L.Wy f;exact h g (Wi h2) (L.Xu.2.2.2 s g f)⟩,L.ne,L.sep,L.n32,L.left⟩
theorem Lay.struct (L:Lay w bp bd bm l clock v S D)(off fused:Bool)(left steps:Nat)(hl:left<=9223372036854775807)
  (h1:w'.1[bp]?=some (.cells #[.slice (some ⟨bd,0,none⟩) D.n D.cap,.map (some bm),.bool off,.bool fused,.int .i64 left,.int .i64 steps] 107 (0,0)))
  (h2:∀k,k<w.1.size->k≠bp->w'.1[k]?=w.1[k]?):Lay w' bp bd bm l clock v S { D with off:=off,fused:=fused,left:=left,steps:=steps }:=by
 obtain⟨c,t,y,d⟩:=L.Sv;have m:=h2 bd (Wi d) (λe=>L.ne.1 e.symm);have u:=h2 bm (Wi L.map) (λe=>L.Qay e.symm);exact⟨h1,λs f=>q5j (L.Jp s f) m,λs f=>q7p (L.Ep s f) m,u.trans L.map,L.ents,L.look,L.keys,
  λs=>q30 (L.row s) λg p=>by obtain⟨c,t,h⟩:=L.Wy p;exact h2 g (Wi h) (L.ne.2 s g p).1,L.nil,L.dl,L.cl,L.out,L.Xu,L.ne,L.sep,L.n32,hl⟩
theorem Lay.Qbm (L:Lay w bp bd bm l clock v S D)(s:Nat)(x:List UInt8)(hx:x.length=256)
  (h1:∀k,k<w.1.size->k≠bd->w'.1[k]?=w.1[k]?) (h2:s<D.n->w'.rangeAt bd (s*256) (Yv x)) (h3:∀z,z<D.n->z≠s->w'.rangeAt bd (z*256) (Yv (D.Jp z))) (h4:∀z,z<D.n->w'.there bd (z*256) 256) :
  Lay w' bp bd bm l clock v S { D with Jp:=upd D.Jp s x }:=by
 have p:=h1 bp (Wi L.me) L.ne.1;have u:=h1 bm (Wi L.map) (λe=>L.Qax e.symm);refine⟨p.trans L.me,λz m=>?_,h4,u.trans L.map,L.ents,L.look,L.keys,
  λs=>q30 (L.row s) λg f=>by obtain⟨c,t,h⟩:=L.Wy f;exact h1 g (Wi h) (L.ne.2 s g f).2,L.nil,λz=>?_,L.cl,L.out,L.Xu,L.ne,L.sep,L.n32,L.left⟩
 ·show w'.rangeAt bd (z*256) (Yv (upd D.Jp s x z));by_cases d:z=s
  ·subst d;rw[Aw];exact h2 m
  ·rw[Ar _ _ d];exact h3 z m d
 ·show (upd D.Jp s x z).length=256;by_cases d:z=s
  ·rw[d,Aw];exact hx
  ·rw[Ar _ _ d];exact L.dl z
theorem Lay.store (L:Lay w bp bd bm l clock v S D)(s:Nat)(hs:s<D.n)(x:List UInt8)(hx:x.length=256) :
  Lay (w.setCells bd (s*256) (Yv x)) bp bd bm l clock v S { D with Jp:=upd D.Jp s x }:=by
 have m:=Us (S:=λk=>k=bd) (b:=bd) rfl (Yv x) (s*256) w;refine L.Qbm s x hx (λk p hn=>m.block k p hn) (λ_=>World.rangeAt_setCells_same _ _ _ _ ?_) (λz d f=>World.rangeAt_setCells_apart (L.Jp z d) _ _ _ ?_) λz d=>World.there_setCells (L.Ep z d) _ _ _
 ·rw[Ir,hx];exact L.Ep s hs
 ·rw[Ir,Ir,hx,L.dl z];rcases Nat.lt_or_gt_of_ne f with h|h
  ·right;left;omega
  ·right;right;omega
theorem Lay.Qag (L:Lay w bp bd bm l clock v S D)(s:Nat)(hs:s<D.n){l':List MapEntry}{clock':Nat}{S':Nat->Prop}(v1:Value)(ls:List (List UInt8))(hls:Ld ls)
  (hS:∀k,k<w.1.size->S k->S' k) (h1:∀k,k<w.1.size->k≠bm->some k≠(v s).ownBlock->w'.1[k]?=w.1[k]?) (hm:w'.1[bm]?=some (.map l'.toArray clock')) (hE:Vy l' clock')
  (hlook:∀z:Nat,Zf z l'=if z=s then (if ls=[] then none else some v1) else Zf z l) (hkeys:∀e∈l',e∈l\/kI e=s)
  (hrow:w'.ownsRow 0 164 256 v1 ls.length (flat ls)) (hnil:ls=[]->v1=.slice none 0 0)
  (hat:v1.ownBlock=none\/v1.ownBlock=(v s).ownBlock\/∃g,v1.ownBlock=some g/\w.1.size<=g/\S' g) :
  Lay w' bp bd bm l' clock' (upd v s v1) S' { D with Zp:=upd D.Zp s ls }:=by
 obtain⟨c,t,R,B⟩:=L.Sv;have G:=Wi L.me;have I:=Wi B;have K:=Wi L.map;have M:=h1 bp G L.Qay (λe=>(L.ne.2 s bp e.symm).1 rfl);have J:=h1 bd I L.Qax (λe=>(L.ne.2 s bd e.symm).2 rfl);have m:∀z g,(upd v s v1 z).ownBlock=some g->(z≠s/\(v z).ownBlock=some g)\/(z=s/\((v s).ownBlock=some g\/(w.1.size<=g/\S' g))):=by
  intro z g f;by_cases d:z=s
  ·subst d;rw[Aw] at f;rcases hat with h|h|⟨T,h,h2,O⟩
   ·rw[h] at f;cases f
   ·exact .inr ⟨rfl,.inl (h▸f)⟩
   ·rw[h] at f;cases f;exact .inr ⟨rfl,.inr ⟨h2,O⟩⟩
  ·rw[Ar _ _ d] at f;exact .inl ⟨d,f⟩
 have u:∀z g,(v z).ownBlock=some g->g<w.1.size:=λz g f=>by obtain⟨c,t,h⟩:=L.Wy f;exact Wi h
 refine⟨M.trans L.me,λz d=>q5j (L.Jp z d) J,λz d=>q7p (L.Ep z d) J,hm,hE,λz=>?_,λe Q=>?_,λz=>?_,λz d=>?_,L.dl,λz=>?_,λz d=>?_,
  ⟨hS _ G L.Xu.1,hS _ I L.Xu.2.1,hS _ K L.Xu.2.2.1,λz g f=>?_⟩,⟨L.ne.1,λz g f=>?_⟩,λz y g f E=>?_,L.n32,L.left⟩
 ·rw[hlook z];show _=if upd D.Zp s ls z=[] then none else some (upd v s v1 z)
  by_cases d:z=s
  ·rw[d,if_pos rfl,Aw,Aw]
  ·rw[if_neg d,Ar _ _ d,Ar _ _ d];exact L.look z
 ·rcases hkeys e Q with h|h
  ·exact L.keys e h
  ·exact⟨s,hs,h⟩
 ·show w'.ownsRow 0 _ 256 (upd v s v1 z) (upd D.Zp s ls z).length (flat (upd D.Zp s ls z));by_cases d:z=s
  ·rw[d,Aw,Aw];exact hrow
  ·rw[Ar _ _ d,Ar _ _ d];exact q30 (L.row z) λg f=>h1 g (u z g f) (L.Qaf f) λe=>d (L.sep z s g f e.symm)
 ·show upd v s v1 z=_;by_cases p:z=s
  ·subst p;rw[Aw];exact hnil (by simpa [Aw] using d)
  ·rw[Ar _ _ p];exact L.nil z (by simpa [Ar _ _ p] using d)
 ·show Ld (upd D.Zp s ls z);by_cases p:z=s
  ·rw[p,Aw];exact hls
  ·rw[Ar _ _ p];exact L.cl z
 ·show upd D.Zp s ls z=[];have:D.n<=z:=d;rw[Ar _ _ (by omega)];exact L.out z d
 ·rcases m z g f with⟨_,h⟩|⟨_,h|h⟩
  ·exact hS _ (u z g h) (L.Xu.2.2.2 z g h)
  ·exact hS _ (u s g h) (L.Xu.2.2.2 s g h)
  ·exact h.2
 ·rcases m z g f with⟨_,h⟩|⟨_,h|h⟩
  ·exact L.ne.2 z g h
  ·exact L.ne.2 s g h
  ·omega
 ·rcases m z g f with⟨h0,h⟩|⟨h0,h⟩<;>rcases m y g E with⟨F,k⟩|⟨F,k⟩
  ·exact L.sep z y g h k
  ·rcases k with k|k
   ·rw[F];exact L.sep z s g h k
   ·have:=u z g h;omega
  ·rcases h with h|h
   ·rw[h0];exact L.sep s y g h k
   ·have:=u y g k;omega
  ·rw[h0,F]
theorem Lay.forget (L:Lay w bp bd bm l clock v S D)(s:Nat)(hs:s<D.n) :
  Lay (setBlock w bm (.map (Xw s l).toArray clock)) bp bd bm (Xw s l) clock (upd v s (.slice none 0 0)) S { D with Zp:=upd D.Zp s [] }:=by
 have d:=q0p (w:=w) (S:=λk=>k=bm) (b:=bm) (.map (Xw s l).toArray clock) rfl;refine L.Qag s hs _ [] (by simp[Ld]) (λ_ _ h=>h) (λk m hn _=>d.block k m hn) (q27 (Wi L.map)) (L.ents.del s) (λz=>?_) (λe f=>.inl (q65 f)) (World.ownsRow_nil _ _ _ _) (λ_=>rfl) (.inl rfl);rw[q90 z L.ents.one,if_pos rfl];by_cases h:z=s
 ·subst h;simp
 ·rw[if_neg (by omega),if_neg h]
end
end
section
variable {w:World}{bp bd bm clock:Nat}{l:List MapEntry}{v:Nat->Value}{S:Nat->Prop}{D:DM}
theorem Lay.c0 (L:Lay w bp bd bm l clock v S D):w.cell? ⟨bp,0,none⟩=some (.slice (some ⟨bd,0,none⟩) D.n D.cap):=by rw[cell_of_row w bp 0 _ _ _ L.me];rfl
theorem Lay.c1 (L:Lay w bp bd bm l clock v S D):w.cell? ⟨bp,1,none⟩=some (.map (some bm)):=by rw[cell_of_row w bp 1 _ _ _ L.me];rfl
theorem Lay.c2 (L:Lay w bp bd bm l clock v S D):w.cell? ⟨bp,2,none⟩=some (.bool D.off):=by rw[cell_of_row w bp 2 _ _ _ L.me];rfl
theorem Lay.c3 (L:Lay w bp bd bm l clock v S D):w.cell? ⟨bp,3,none⟩=some (.bool D.fused):=by rw[cell_of_row w bp 3 _ _ _ L.me];rfl
theorem Lay.c4 (L:Lay w bp bd bm l clock v S D):w.cell? ⟨bp,4,none⟩=some (.int .i64 D.left):=by rw[cell_of_row w bp 4 _ _ _ L.me];rfl
theorem Lay.c5 (L:Lay w bp bd bm l clock v S D):w.cell? ⟨bp,5,none⟩=some (.int .i64 D.steps):=by rw[cell_of_row w bp 5 _ _ _ L.me];rfl
theorem Lay.fz (L:Lay w bp bd bm l clock v S D)(j:Nat):w.frozen? ⟨bp,j,none⟩=false:=by simp[World.frozen?,L.me]
end
theorem qex {w:World}{bp bd bm clock:Nat}{l:List MapEntry}{v:Nat->Value}{S:Nat->Prop}{D:DM}(L:Lay w bp bd bm l clock v S D)(s:Int) :
  Calls Tryz.prog 94 #[.pointer (some ⟨bp,0,none⟩),.int .i64 s] w λe w'=>e=.returned (.bool (decide (0<=s/\s<(D.n:Int))))/\w=w':=by
 have c0:=L.c0;go_enter Tryz.func94,Tryz.ntmps94
 by_cases h0:0<=s
 ·by_cases h1:s<(D.n:Int)
  ·go_wp2;go_ret;simp[h0,h1]
  ·go_wp2;go_ret;simp[h1];try omega
 ·go_wp2;go_ret;simp;intro;omega
theorem q9f {w:World}{bp bd bm clock:Nat}{l:List MapEntry}{v:Nat->Value}{S:Nat->Prop}{D:DM}(L:Lay w bp bd bm l clock v S D) :
  Calls Tryz.prog 50 #[.pointer (some ⟨bp,0,none⟩)] w λe w'=>e=.returned (.int .i64 (D.n:Int))/\w=w':=by
 have c0:=L.c0;go_enter Tryz.func50,Tryz.ntmps50
 go_wp2;go_ret;exact⟨rfl,rfl⟩
theorem qye {w:World}{bp bd bm clock:Nat}{l:List MapEntry}{v:Nat->Value}{S:Nat->Prop}{D:DM}(L:Lay w bp bd bm l clock v S D) :
  Calls Tryz.prog 55 #[.pointer (some ⟨bp,0,none⟩)] w λe w'=>e=.returned (.bool (!D.off))/\w=w':=by
 have c0:=L.c2;go_enter Tryz.func55,Tryz.ntmps55
 go_wp2;go_ret;exact⟨rfl,rfl⟩
def md (x:Int)(m:Nat):Nat:=((if x<0 then -(x+1) else x) % (m:Int)).toNat
theorem quq (x:Int){m:Nat}(h:0<m):md x m<m:=by
 unfold md;have h1:=Int.emod_nonneg (if x<0 then -(x+1) else x) (show (m:Int)≠0 by omega);have h2:=Int.emod_lt_of_pos (if x<0 then -(x+1) else x) (show (0:Int)<m by omega);omega
theorem qyf {x:Int}(m:Nat)(h:0<=x)(hm:0<m):x.tmod (m:Int)=(md x m:Int):=by
 unfold md;rw[if_neg (by omega),Int.tmod_eq_emod_of_nonneg h];have:=Int.emod_nonneg x (show (m:Int)≠0 by omega);omega
theorem qyg {x:Int}(m:Nat)(h:x<0)(hm:0<m):(-(x+1)).tmod (m:Int)=(md x m:Int):=by
 unfold md;rw[if_pos h,Int.tmod_eq_emod_of_nonneg (by omega)];have:=Int.emod_nonneg (-(x+1)) (show (m:Int)≠0 by omega);omega
def DM.stop (D:DM):Bool:=D.off||(D.fused&&decide (D.left=0))
def DM.stepD (D:DM):DM:={ D with off:=D.stop,left:=if D.stop then D.left else if D.fused then D.left-1 else D.left,steps:=if D.stop then D.steps else D.steps+1 }
def DM.err (D:DM):Int:=if D.stop then 4 else 0
theorem Lay.off1 {w:World}{bp bd bm clock:Nat}{l:List MapEntry}{v:Nat->Value}{S:Nat->Prop}{D:DM}(L:Lay w bp bd bm l clock v S D)(b:Bool) :
  Lay (w.setCell ⟨bp,2,none⟩ (.bool b)) bp bd bm l clock v S { D with off:=b }:=
 L.struct b D.fused D.left D.steps L.left (by rw[Fa _ L.me];rfl) λk _ hn=>Below.heap_setCell _ _ _ _ hn
theorem Lay.left1 {w:World}{bp bd bm clock:Nat}{l:List MapEntry}{v:Nat->Value}{S:Nat->Prop}{D:DM}(L:Lay w bp bd bm l clock v S D)(n:Nat)(hn:n<=9223372036854775807){x:Int}(hx:x=(n:Int)) :
  Lay (w.setCell ⟨bp,4,none⟩ (.int .i64 x)) bp bd bm l clock v S { D with left:=n }:=by
 subst hx;exact L.struct D.off D.fused n D.steps hn (by rw[Fa _ L.me];rfl) λk _ hn=>Below.heap_setCell _ _ _ _ hn
theorem Lay.Qah {w:World}{bp bd bm clock:Nat}{l:List MapEntry}{v:Nat->Value}{S:Nat->Prop}{D:DM}(L:Lay w bp bd bm l clock v S D)(n:Nat){x:Int}(hx:x=(n:Int)) :
  Lay (w.setCell ⟨bp,5,none⟩ (.int .i64 x)) bp bd bm l clock v S { D with steps:=n }:=by
 subst hx;exact L.struct D.off D.fused D.left n L.left (by rw[Fa _ L.me];rfl) λk _ hn=>Below.heap_setCell _ _ _ _ hn
theorem qbg {bp:Nat}(w:World)(j:Nat)(u:Value):Turn (λk=>k=bp) w (w.setCell ⟨bp,j,none⟩ u):=Ez u rfl
theorem qla {w:World}{bp bd bm clock:Nat}{l:List MapEntry}{v:Nat->Value}{S:Nat->Prop}{D:DM}(L:Lay w bp bd bm l clock v S D)(f:D.steps<=1000000000) :
  Calls Tryz.prog 121 #[.pointer (some ⟨bp,0,none⟩)] w λe w'=>e=.returned (.int .i64 D.err)/\Lay w' bp bd bm l clock v S D.stepD/\Turn (λk=>k=bp) w w':=by
 have c2:=L.c2;have c3:=L.c3;have c4:=L.c4;have c5:=L.c5;have y:=L.fz 2;have B:=L.fz 4;have f5:=L.fz 5;have d:=L.left;obtain⟨n,Jp,Zp,off,fused,left,steps,cap⟩:=D;simp only at c2 c3 c4 c5 f d
 cases off with
 |true=>
  rw[show (DM.stepD ⟨n,Jp,Zp,true,fused,left,steps,cap⟩)=⟨n,Jp,Zp,true,fused,left,steps,cap⟩ from rfl,show (DM.err ⟨n,Jp,Zp,true,fused,left,steps,cap⟩)=4 from rfl]
  cases fused with
  |true=>
   by_cases h0:left=0
   ·subst h0;go_enter Tryz.func121,Tryz.ntmps121
    go_wp2;go_ret;exact⟨rfl,L.off1 true,qbg _ _ _⟩
   ·go_enter Tryz.func121,Tryz.ntmps121
    go_wp2;go_ret;exact⟨rfl,L,Turn.refl _ _⟩
  |false=>
   go_enter Tryz.func121,Tryz.ntmps121
   go_wp2;go_ret;exact⟨rfl,L,Turn.refl _ _⟩
 |false=>
  cases fused with
  |true=>
   by_cases h0:left=0
   ·subst h0;rw[show (DM.stepD ⟨n,Jp,Zp,false,true,0,steps,cap⟩)=⟨n,Jp,Zp,true,true,0,steps,cap⟩ from rfl,show (DM.err ⟨n,Jp,Zp,false,true,0,steps,cap⟩)=4 from rfl];go_enter Tryz.func121,Tryz.ntmps121
    go_wp2;go_ret;exact⟨rfl,L.off1 true,qbg _ _ _⟩
   ·have m:(DM.stop ⟨n,Jp,Zp,false,true,left,steps,cap⟩)=false:=by simp[DM.stop,h0]
    have p:(DM.stepD ⟨n,Jp,Zp,false,true,left,steps,cap⟩)=⟨n,Jp,Zp,false,true,left-1,steps+1,cap⟩:=by simp[DM.stepD,m]
    have u:(DM.err ⟨n,Jp,Zp,false,true,left,steps,cap⟩)=0:=by simp[DM.err,m]
    rw[p,u];go_enter Tryz.func121,Tryz.ntmps121
    go_wp2;go_ret;exact⟨rfl,(L.left1 (left-1) (by omega) (by omega)).Qah (steps+1) (by omega),(qbg _ _ _).then (qbg _ _ _)⟩
  |false=>
   rw[show (DM.stepD ⟨n,Jp,Zp,false,false,left,steps,cap⟩)=⟨n,Jp,Zp,false,false,left,steps+1,cap⟩ from rfl,show (DM.err ⟨n,Jp,Zp,false,false,left,steps,cap⟩)=0 from rfl];go_enter Tryz.func121,Tryz.ntmps121
   go_wp2;go_ret;exact⟨rfl,L.Qah (steps+1) (by omega),qbg _ _ _⟩
theorem q5x (x:Int)(m:Nat)(f:-9223372036854775808<=x/\x<=9223372036854775807)(d:0<m)(y:m<=1000000)(w:World) :
  Calls Tryz.prog 24 #[.int .i64 x,.int .i64 (m:Int)] w λe w'=>e=.returned (.int .i64 (md x m:Int))/\w=w':=by
 obtain⟨p,u⟩:=f;go_enter Tryz.func24,Tryz.ntmps24
 have hn:¬((m:Int)=0):=by omega
 by_cases h0:x<0
 ·have hm:=qyg m h0 (by omega);go_wp2;go_ret;exact⟨q9h (by first|exact hm|simp),rfl⟩
 ·have hm:=qyf m (show 0<=x by omega) (by omega);go_wp2;go_ret;exact⟨q9h (by first|exact hm|simp),rfl⟩
def Zd (v:List UInt8):List UInt8:=if v.length=3/\Wh v 0=1 then v.set 0 2 else v
theorem qvk {w:World}{base n c:Nat}{e:TypeId}{A:Option Addr}{l:List UInt8}(h:Own w base e A n c l)(hn:0<n):∃g,A=some ⟨g,0,none⟩/\base<=g/\g<w.1.size:=by
 have y:=h.len;rcases h.2 with⟨d,u⟩|⟨g,cap,f,d,m,p,_⟩
 ·omega
 ·injection d with d;exact⟨g,d,m,(Array.getElem?_eq_some_iff.1 p).1⟩
theorem q4i (v:List UInt8)(A:Option Addr)(n c:Nat)(w:World)(h:Sl w A n c v)(hn:n<=140737488355328) :
  Calls Tryz.prog 29 #[.slice A n c] w λe w'=>∃F G,e=.returned (.slice F n G)/\Own w' w.1.size 5 F n G (Zd v)/\Below w.1.size w w':=by
 have T:=h.len;by_cases I:n=3
 ·subst I;by_cases h1:Wh v 0=1
  ·have p:Zd v=v.set 0 2:=by unfold Zd;rw[if_pos ⟨T,h1⟩]
   go_enter Tryz.func29,Tryz.ntmps29
   go_wp2_with (first
    |(at_builtin;refine q3y _ Gy rfl (.tmp 3) (.tmp 4) rfl w.1.size w.1.size rfl (q2s w 5) A 3 c v rfl (h.alloc _) (by omega) (by simp) ?_;intro y c2 u d m
      obtain⟨g,rfl,R,B⟩:=qvk d (by omega);obtain⟨E,U⟩:=d.at_ 0 (by omega);rw[h1] at E)
    |fail)
   go_ret;have f:Below w.1.size w u:=(Qm).trans (m.mono (by simp));rw[p];exact⟨some ⟨g,0,none⟩,c2,rfl,d.Vr 0 2,f.trans ((Ez (S:=λk=>k=g) (a:=⟨g,0,none⟩) _ rfl).below (λk K=>by have K:k=g:=K;omega) (by omega))⟩
  ·have p:Zd v=v:=by unfold Zd;rw[if_neg (λJ=>h1 J.2)]
   obtain⟨x,M⟩:∃x,Wh v 0=x:=⟨_,rfl⟩;rw[M] at h1;have O:¬(x:Int)=1:=by omega
   go_enter Tryz.func29,Tryz.ntmps29
   go_wp2_with (first
    |(at_builtin;refine q3y _ Gy rfl (.tmp 3) (.tmp 4) rfl w.1.size w.1.size rfl (q2s w 5) A 3 c v rfl (h.alloc _) (by omega) (by simp) ?_;intro y c2 u d m
      obtain⟨g,rfl,R,B⟩:=qvk d (by omega);obtain⟨E,U⟩:=d.at_ 0 (by omega);rw[M] at E)
    |fail)
   go_ret;have f:Below w.1.size w u:=(Qm).trans (m.mono (by simp));rw[p];exact⟨some ⟨g,0,none⟩,c2,rfl,d,f⟩
 ·have p:Zd v=v:=by unfold Zd;rw[if_neg (λJ=>I (by omega))]
  have Q:¬(n:Int)=3:=by omega
  go_enter Tryz.func29,Tryz.ntmps29
  go_wp2_with (first
   |(at_builtin;refine q3y _ Gy rfl (.tmp 3) (.tmp 4) rfl w.1.size w.1.size rfl (q2s w 5) A n c v rfl (h.alloc _) (by omega) (by simp) ?_;intro y c2 u d m)
   |fail)
  go_ret;have f:Below w.1.size w u:=(Qm).trans (m.mono (by simp));rw[p];exact⟨y,c2,rfl,d,f⟩
