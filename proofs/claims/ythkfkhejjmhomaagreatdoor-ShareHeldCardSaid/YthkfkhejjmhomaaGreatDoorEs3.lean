/- Rows of structs: slices whose elements are rows of s cells; nothing here speaks of one pro -/
import Derived.Test.YthkfkhejjmhomaaGreatDoorEs2
import Derived.Deep.MidRow
import Derived.Deep.Slices
import Derived.Deep.Fields
import Derived.WideShapes
import Derived.Deep.WholeRow
import Derived.Test.YthkfkhejjmhomaaGreatDoorChecked
namespace Go.Proofs.YthkfkhejjmhomaaGreatDoor
open Go Go.RowKit Go.Proofs
set_option maxHeartbeats 1000000
set_option maxRecDepth 100000
def Js (w:World)(s:Nat)(A:Option Addr)(n c:Nat)(xs:List (List Value)):Prop:=
 xs.length=n/\n<=c/\c<=maxLen/\∀(j:Nat) x,xs[j]?=some x->∃g o,A=some ⟨g,o,none⟩/\g<w.1.size/\x.length=s/\w.rangeAt g (o+j*s) x
section
variable {w w':World}{s n c:Nat}{A:Option Addr}{xs:List (List Value)}
theorem Js.len (h:Js w s A n c xs):xs.length=n:=h.1
theorem Js.cap (h:Js w s A n c xs):n<=c:=h.2.1
theorem Js.max (h:Js w s A n c xs):c<=maxLen:=h.2.2.1
theorem Js.keep (h:Js w s A n c xs)(hz:w.1.size<=w'.1.size)(hk:∀g o,A=some ⟨g,o,none⟩->g<w.1.size->w'.1[g]?=w.1[g]?):Js w' s A n c xs:=
 ⟨h.1,h.2.1,h.2.2.1,λj x u=>by
  obtain⟨g,o,e,d,f,m⟩:=h.2.2.2 j x u;exact⟨g,o,e,by omega,f,λi v p=>(World.cell?_of_block (a:=⟨g,o+j*s+i,none⟩) (hk g o e d)).trans (m i v p)⟩⟩
theorem Js.below (h:Js w s A n c xs)(hb:Below w.1.size w w'):Js w' s A n c xs:=h.keep hb.size λg _ _ d=>hb.block g d
theorem Js.take (h:Js w s A n c xs){k:Nat}(hk:k<=n):Js w s A k c (xs.take k):=by
 refine⟨by have:=h.len;simp;omega,by have:=h.cap;omega,h.max,λj x d=>h.2.2.2 j x ?_⟩;rw[List.getElem?_take] at d;split at d
 ·exact d
 ·cases d
theorem Js.at_ (h:Js w s A n c xs){j:Nat}(hj:j<n):∃g o,A=some ⟨g,o,none⟩/\g<w.1.size/\(xs.getD j []).length=s/\w.rangeAt g (o+j*s) (xs.getD j []):=by
 have d:j<xs.length:=by have:=h.len;omega
 exact h.2.2.2 j _ (by simp[List.getD,d])
theorem q8a (w:World)(s:Nat):Js w s none 0 0 []:=⟨rfl,Nat.le_refl _,Nat.zero_le _,λj u d=>by simp at d⟩
end
structure Aa (P:Program)(t e:TypeId)(s b:Nat)(z:Value):Prop where
 sl:P.underlying t=some (.slice e)
 info:(P.info? e).map (λi=>(i.zero,i.size,i.bytes))=some (some z,s,b)
 cells:z.cells.size=s
 pos:0<s
def Qo (w:World)(base:Nat)(e:TypeId)(s:Nat)(A:Option Addr)(n c:Nat)(xs:List (List Value)):Prop:=w.ownsRow base e s (.slice A n c) n xs.flatten/\∀x∈xs,x.length=s
theorem qcl {s:Nat}:∀{xs:List (List Value)},(∀x∈xs,x.length=s)->xs.flatten.length=xs.length*s
 |[],_=>by simp
 |x::xs,h=>by
  rw[List.flatten_cons,List.length_append,qcl (λy d=>h y (List.mem_cons_of_mem _ d)),h x (List.mem_cons_self ..),List.length_cons,Nat.add_mul,Nat.one_mul,Nat.add_comm]
theorem qqc {s:Nat}:∀{xs:List (List Value)},(∀x∈xs,x.length=s)->∀(j:Nat) x,xs[j]?=some x->∀(i:Nat) v,x[i]?=some v->xs.flatten[j*s+i]?=some v
 |[],_,j,x,hx,_,_,_=>by simp at hx
 |y::xs,h,0,x,hx,i,v,hv=>by
  obtain rfl:y=x:=by simpa using hx
  rw[List.flatten_cons,Nat.zero_mul,Nat.zero_add,List.getElem?_append_left (List.getElem?_eq_some_iff.1 hv).1];exact hv
 |y::xs,h,j+1,x,hx,i,v,hv=>by
  have d:=h y (List.mem_cons_self ..);rw[List.flatten_cons,List.getElem?_append_right (by rw[d,Nat.add_mul];omega),d,show (j+1)*s+i-s=j*s+i by rw[Nat.add_mul];omega];exact qqc (λz f=>h z (List.mem_cons_of_mem _ f)) j x (by simpa using hx) i v hv
theorem qz2 {s:Nat}(y:0<s){xs:List (List Value)}(h:∀x∈xs,x.length=s)(m:Nat)(v:Value)(p:xs.flatten[m]?=some v):∃x,xs[m / s]?=some x/\x[m % s]?=some v:=by
 have hm:m<xs.length*s:=by rw[<-qcl h];exact (List.getElem?_eq_some_iff.1 p).1
 have f:m / s<xs.length:=Nat.div_lt_of_lt_mul (by rw[Nat.mul_comm];exact hm);have u:xs[m / s]?=some xs[m / s]:=List.getElem?_eq_getElem f;have d:m % s<xs[m / s].length:=by rw[h _ (List.getElem_mem f)];exact Nat.mod_lt _ y
 refine⟨_,u,?_⟩;have h2:=qqc h (m / s) _ u (m % s) _ (List.getElem?_eq_getElem d);rw[Nat.mul_comm,Nat.div_add_mod] at h2;rw[List.getElem?_eq_getElem d,<-p,h2]
section
variable {w w':World}{base s n c:Nat}{e:TypeId}{A:Option Addr}{xs:List (List Value)}
theorem Qo.len (h:Qo w base e s A n c xs)(hs:0<s):xs.length=n:=by
 have h1:=h.1.1;rw[qcl h.2] at h1;exact Nat.eq_of_mul_eq_mul_right hs h1
theorem Qo.Kt (h:Qo w base e s A n c xs)(hs:0<s):Js w s A n c xs:=by
 have G:=h.len hs;refine⟨G,?_,?_,λj x u=>?_⟩
 ·rcases h.1.2 with⟨d,rfl⟩|⟨g,cap,f,d,_,_,h1,h2,_⟩
  ·omega
  ·injection d with _ _ p;omega
 ·rcases h.1.2 with⟨d,rfl⟩|⟨g,cap,f,d,_,_,h1,h2,_⟩
  ·injection d with _ _ p;unfold maxLen;omega
  ·injection d with _ _ p;omega
 ·have J:=(List.getElem?_eq_some_iff.1 u).1;rcases h.1.2 with⟨d,rfl⟩|⟨g,cap,f,d,I,y,h1,h2,p,B⟩
  ·omega
  ·have E:A=some ⟨g,0,none⟩:=by injection d
   refine⟨g,0,E,(Array.getElem?_eq_some_iff.1 y).1,h.2 x (List.mem_of_getElem? u),λi v F=>?_⟩;have m:=qqc h.2 j x u i v F;rw[<-B,List.getElem?_take] at m;split at m
   ·rw[cell_of_row _ _ _ _ _ _ y,Nat.zero_add];simpa using m
   ·cases m
theorem Qo.less {b:Nat}(h:Qo w base e s A n c xs)(hb:b<=base):Qo w b e s A n c xs:=by
 refine⟨⟨h.1.1,?_⟩,h.2⟩;rcases h.1.2 with f|⟨g,cap,d,f,h1,r⟩
 ·exact .inl f
 ·exact .inr ⟨g,cap,d,f,Nat.le_trans hb h1,r⟩
theorem Qo.keep (h:Qo w base e s A n c xs)(hk:∀g,base<=g->g<w.1.size->w'.1[g]?=w.1[g]?):Qo w' base e s A n c xs:=by
 refine⟨⟨h.1.1,?_⟩,h.2⟩;rcases h.1.2 with f|⟨g,cap,d,f,h1,m,r⟩
 ·exact .inl f
 ·exact .inr ⟨g,cap,d,f,h1,(hk g h1 (Array.getElem?_eq_some_iff.1 m).1).trans m,r⟩
theorem Qo.below (h:Qo w base e s A n c xs)(hb:Below w.1.size w w'):Qo w' base e s A n c xs:=h.keep λg _ d=>hb.block g d
theorem Ir (w:World)(base:Nat)(e:TypeId)(s:Nat):Qo w base e s none 0 0 []:=⟨⟨by simp,.inl ⟨rfl,rfl⟩⟩,λx d=>by simp at d⟩
theorem q1q (w:World)(e:TypeId)(s:Nat)(x:List Value)(d:Array Value)(f:d=x.toArray)(m:x.length=s):Qo (w.alloc (.cells d e)) w.1.size e s (some ⟨w.1.size,0,none⟩) 1 1 [x]:=by
 subst f;subst m;refine⟨⟨by simp,.inr ⟨w.1.size,1,x.toArray,rfl,Nat.le_refl _,heap_alloc_new w _,Nat.le_refl _,by unfold maxLen;omega,by simp,by simp⟩⟩,λy p=>?_⟩;obtain rfl:y=x:=by simpa using p
 rfl
end
section
variable {P:Program}{t e:TypeId}{s b:Nat}{z:Value}(w:World)
theorem q4z (T:Aa P t e s b z)(ty:TypeId)(base:Nat)(A:Option Addr)(n c:Nat)(xs:List (List Value))(p:Qo w base e s A n c xs)
  (B:Option Addr) (m d:Nat) (ys:List (List Value)) (Q:Js w s B m d ys) (Y:0<m) (h1:∀y∈ys,∀u∈y,u.oneCell'=true) (Z:n+m<=1000000) (hb:b<=100000) (f:base<=w.1.size) :
  ∃A' c' w',(Builtin.append_ #[t,t] ty #[.slice A n c,.slice B m d]).run P w=.ok (.slice A' (n+m) c') w'/\Qo w' base e s A' (n+m) c' (xs++ys)/\Below base w w':=by
 obtain⟨i,hi,a1,a2,a3⟩:=info_parts T.info;obtain⟨g,o,rfl,hg,a4,a5⟩:=Q.at_ Y;have F:∀y∈ys,y.length=s:=λy M=>by
  obtain⟨j,hj⟩:=List.mem_iff_getElem?.1 M;obtain⟨_,_,_,_,h,_⟩:=Q.2.2.2 j y hj;exact h
 have E:∀j u,ys.flatten[j]?=some u->w.cell? ((⟨g,o,none⟩:Addr).add j)=some u:=by
  intro j u J;obtain⟨y,M,K⟩:=qz2 T.pos F j u J;obtain⟨g',o',U,_,_,a0⟩:=Q.2.2.2 _ y M;injection U with U;injection U with e1 e2;subst e1 e2;have:=a0 _ u K;rw[Addr.add_mid];rw[Nat.add_assoc,Nat.mul_comm,Nat.div_add_mod] at this;exact this
 have X:(n+m)*b<=140737488355328:=Nat.le_trans (Nat.mul_le_mul Z hb) (by decide);obtain⟨v',w',I,h2,h3,h4,_⟩:=run_append_own_at (P:=P) w base t ty e i z s b T.sl hi a1 a2 a3 T.cells T.pos _ n _ p.1 ⟨g,o,none⟩ m d ys.flatten (by rw[qcl F,Q.len]) E (λu J=>by
  obtain⟨y,M,J⟩:=List.mem_flatten.1 J;exact h1 y M u J) (by unfold maxLen;omega) X f
 have hB:Below base w w':=(Below.refl _ _).grown h3 f (λk O=>by
  rcases p.1.2 with⟨K,_⟩|⟨g,cap,R,K,h1,_⟩
  ·rw[K] at O;simp[Value.ownBlock] at O
  ·rw[K] at O;simp[Value.ownBlock] at O;omega)
 rw[<-List.flatten_append] at h2;have G:∀x∈xs++ys,x.length=s:=λx hx=>by
  rcases List.mem_append.1 hx with h|h
  ·exact p.2 x h
  ·exact F x h
 rcases h2.2 with⟨rfl,h0⟩|⟨g',cap,R,rfl,_⟩
 ·omega
 ·exact⟨_,_,w',I,⟨h2,G⟩,hB⟩
theorem q4b (T:Aa P t e s b z){ops:Array Oper}{f:List Oper}{o:Oper}{a:Act}{Q:Exit->Act->World->Prop}(J:o.guard=none)(R x:Operand)
  (Z:o.op=.call { callee:=.builtin .append,args:=#[R,x],argTypes:=#[t,t] })
  (base:Nat) (A:Option Addr) (n c:Nat) (xs:List (List Value)) (hs:a.eval R=.slice A n c) (E:Qo w base e s A n c xs)
  (B:Option Addr) (m d:Nat) (ys:List (List Value)) (hx:a.eval x=.slice B m d) (hr:Js w s B m d ys) (M:0<m) (h1:∀y∈ys,∀u∈y,u.oneCell'=true) (O:n+m<=1000000) (Y:b<=100000) (p:base<=w.1.size)
  (h:∀G I w',Qo w' base e s G (n+m) I (xs++ys)->Below base w w'->wpList P ops Q f (a.put o.dst (.slice G (n+m) I)) w'):wpList P ops Q (o::f) a w:=
 wpList_plain J λK X=>by
  obtain⟨G,I,w',F,h2,U⟩:=q4z (P:=P) w T o.type base A n c xs E B m d ys hr M h1 O Y p;unfold Oper.wp execOp;simp only[Z,resolve,invoke,builtin,Sem.run_bind,Sem.run_pure,Result.andThen_ok,List.map_toArray,List.map_cons,List.map_nil,hs,hx,F];exact X _ _ (h G I w' h2 U)
end
section
open Go.ChangeShapes Go.WideShapes Go.ChangeAt Go.Deep
structure Qg where
 k:Kd
 v:List UInt8
structure Qm where
 k:Kd
 a:Int
structure Nd where
 lvl:Int
 items:List Qg
 kids:List Qm
def kvs (k:Kd):List Value:=[.int .i64 k.obj,.int .i64 k.kind,.int .i64 k.off]
def Qm.vs (x:Qm):List Value:=[.int .i64 x.k.obj,.int .i64 x.k.kind,.int .i64 x.k.off,.int .i64 x.a]
def Qao (w:World)(r:List Value)(x:Qg):Prop:=∃B m d,r=[.int .i64 x.k.obj,.int .i64 x.k.kind,.int .i64 x.k.off,.slice B m d]/\Sl w B m d x.v
def Jd (w:World)(A:Option Addr)(n c:Nat)(xs:List Qg):Prop:=∃d,Js w 4 A n c d/\d.length=xs.length/\∀(j:Nat) r x,d[j]?=some r->xs[j]?=some x->Qao w r x
def Zp (w:World)(A:Option Addr)(n c:Nat)(xs:List Qm):Prop:=Js w 4 A n c (xs.map Qm.vs)
def Qap (w:World)(A:Option Addr)(n c:Nat)(xs:List Kd):Prop:=Js w 3 A n c (xs.map kvs)
section
variable {w w':World}{n c:Nat}{A:Option Addr}
theorem Qao.below {r:List Value}{x:Qg}(h:Qao w r x)(hb:Below w.1.size w w'):Qao w' r x:=by
 obtain⟨B,m,d,e,f⟩:=h;exact⟨B,m,d,e,f.below hb⟩
theorem Jd.below {xs:List Qg}(h:Jd w A n c xs)(hb:Below w.1.size w w'):Jd w' A n c xs:=by
 obtain⟨d,h1,h2,f⟩:=h;exact⟨d,h1.below hb,h2,λj r x m p=>(f j r x m p).below hb⟩
theorem Zp.below {xs:List Qm}(h:Zp w A n c xs)(hb:Below w.1.size w w'):Zp w' A n c xs:=Js.below h hb
theorem Jd.len {xs:List Qg}(h:Jd w A n c xs):xs.length=n:=by
 obtain⟨d,h1,h2,_⟩:=h;rw[<-h2];exact h1.len
theorem Zp.len {xs:List Qm}(h:Zp w A n c xs):xs.length=n:=by simpa using Js.len h
theorem Qap.len {xs:List Kd}(h:Qap w A n c xs):xs.length=n:=by simpa using Js.len h
theorem Jd.bounds {xs:List Qg}(h:Jd w A n c xs):n<=c/\c<=maxLen:=by
 obtain⟨d,h1,_⟩:=h;exact⟨h1.cap,h1.max⟩
theorem Zp.bounds {xs:List Qm}(h:Zp w A n c xs):n<=c/\c<=maxLen:=⟨Js.cap h,Js.max h⟩
theorem Jd.take {xs:List Qg}(h:Jd w A n c xs){k:Nat}(hk:k<=n):Jd w A k c (xs.take k):=by
 obtain⟨m,h1,h2,p⟩:=h;refine⟨m.take k,h1.take hk,by simp[h2],λj r x d f=>?_⟩;rw[List.getElem?_take] at d f;split at d
 ·rename_i u;rw[if_pos u] at f;exact p j r x d f
 ·cases d
theorem Zp.take {xs:List Qm}(h:Zp w A n c xs){k:Nat}(hk:k<=n):Zp w A k c (xs.take k):=by
 have:=Js.take h hk;rw[<-List.map_take] at this;exact this
def Qz (xs:List Qg)(j:Nat):Qg:=xs.getD j ⟨⟨0,0,0⟩,[]⟩
def Qh (xs:List Qm)(j:Nat):Qm:=xs.getD j ⟨⟨0,0,0⟩,0⟩
def keyAt (xs:List Kd)(j:Nat):Kd:=xs.getD j ⟨0,0,0⟩
theorem q1x {xs:List Qg}{j:Nat}(h:j<xs.length):xs[j]?=some (Qz xs j):=by simp[Qz,List.getD,h]
theorem q11 {xs:List Qm}{j:Nat}(h:j<xs.length):xs[j]?=some (Qh xs j):=by simp[Qh,List.getD,h]
theorem qqd {xs:List Kd}{j:Nat}(h:j<xs.length):xs[j]?=some (keyAt xs j):=by simp[keyAt,List.getD,h]
theorem Jd.cell {xs:List Qg}(h:Jd w A n c xs){j:Nat}(hj:j<n):∃g o B m d,A=some ⟨g,o,none⟩/\g<w.1.size/\w.cell? ⟨g,o+j*4,none⟩=some (.int .i64 (Qz xs j).k.obj)/\w.cell? ⟨g,o+j*4+1,none⟩=some (.int .i64 (Qz xs j).k.kind)/\
  w.cell? ⟨g,o+j*4+2,none⟩=some (.int .i64 (Qz xs j).k.off)/\w.cell? ⟨g,o+j*4+3,none⟩=some (.slice B m d)/\Sl w B m d (Qz xs j).v:=by
 have G:=h.len;obtain⟨p,h1,h2,y⟩:=h;have u:p[j]?=some (p[j]'(by omega)):=List.getElem?_eq_getElem (by omega);obtain⟨B,m,d,e,F⟩:=y j _ _ u (q1x (by omega));obtain⟨g,o,rfl,E,_,f⟩:=h1.2.2.2 j _ u;rw[e] at f;exact⟨g,o,B,m,d,rfl,E,f 0 _ rfl,f 1 _ rfl,f 2 _ rfl,f 3 _ rfl,F⟩
theorem Zp.cell {xs:List Qm}(h:Zp w A n c xs){j:Nat}(hj:j<n):∃g o,A=some ⟨g,o,none⟩/\g<w.1.size/\w.cell? ⟨g,o+j*4,none⟩=some (.int .i64 (Qh xs j).k.obj)/\w.cell? ⟨g,o+j*4+1,none⟩=some (.int .i64 (Qh xs j).k.kind)/\
  w.cell? ⟨g,o+j*4+2,none⟩=some (.int .i64 (Qh xs j).k.off)/\w.cell? ⟨g,o+j*4+3,none⟩=some (.int .i64 (Qh xs j).a):=by
 have m:=h.len;obtain⟨g,o,rfl,f,_,d⟩:=h.2.2.2 j (Qh xs j).vs (by rw[List.getElem?_map,q11 (by omega)];rfl);exact⟨g,o,rfl,f,d 0 _ rfl,d 1 _ rfl,d 2 _ rfl,d 3 _ rfl⟩
theorem Qap.cell {xs:List Kd}(h:Qap w A n c xs){j:Nat}(hj:j<n):∃g o,A=some ⟨g,o,none⟩/\g<w.1.size/\w.cell? ⟨g,o+j*3,none⟩=some (.int .i64 (keyAt xs j).obj)/\w.cell? ⟨g,o+j*3+1,none⟩=some (.int .i64 (keyAt xs j).kind)/\
  w.cell? ⟨g,o+j*3+2,none⟩=some (.int .i64 (keyAt xs j).off):=by
 have m:=h.len;obtain⟨g,o,rfl,f,_,d⟩:=h.2.2.2 j (kvs (keyAt xs j)) (by rw[List.getElem?_map,qqd (by omega)];rfl);exact⟨g,o,rfl,f,d 0 _ rfl,d 1 _ rfl,d 2 _ rfl⟩
theorem qe8 (w:World):Jd w none 0 0 []:=⟨[],q8a w 4,rfl,λj r x d=>by simp at d⟩
theorem q9m (w:World):Zp w none 0 0 []:=q8a w 4
end
section
variable {H:Type}{enc:TypeId × Value->H}{P:Program}{W:World}
theorem qmv {g o:Nat}{s:Option Nat}{v:Value}(h:W.cell? ⟨g,o,s⟩=some v):s=none:=by
 cases s with
 |none=>rfl
 |some k=>
  unfold World.cell? at h;split at h<;>simp at h
theorem qmw {t e:TypeId}(T:Y6 P t e)(B:P.underlying e=some (.int .u8)){fuel:Nat}{v:Value}{y:DataW H × List MemPlace}(u:DataW.trod enc P W 0 (λ_=>true) true fuel t [v]=some y):∃A n c l,v=.slice A n c/\Sl W A n c l:=by
 have E:∃a len cap,v=.slice a len cap:=by
  rcases Deep.open_slice T.sl u with⟨p,_⟩|⟨a,len,cap,m,f,D,Pl,p,_⟩
  ·exact⟨_,_,_,by simpa using p⟩
  ·exact⟨_,_,_,by simpa using p⟩
 obtain⟨a,len,cap,rfl⟩:=E;exact qlq (d:=y.1) (ps:=y.2) T B ⟨_,_,_,rfl⟩ ⟨fuel,u⟩
structure Qc7 (P:Program)(t:TypeId)(f0 f1 f2:Field):Prop where
 st:P.underlying t=some (.struct #[f0,f1,f2])
 one:oneCellFields P #[f0,f1,f2]=true
 cells:P.cellsOf t=3
 h0:P.underlying f0.type=some (.int .i64)
 h1:P.underlying f1.type=some (.int .i64)
 h2:P.underlying f2.type=some (.int .i64)
end
end
section
open Go.ChangeMaps (setBlock)
structure Turn (S:Nat->Prop)(w w':World):Prop where
 os:w'.os=w.os
 tape:w'.tape=w.tape
 output:w'.output=w.output
 size:w.heap.size<=w'.heap.size
 block:∀k,k<w.heap.size->¬S k->w'.heap[k]?=w.heap[k]?
section
variable {S S':Nat->Prop}{w w' w'':World}
theorem Turn.refl (S:Nat->Prop)(w:World):Turn S w w:=⟨rfl,rfl,rfl,Nat.le_refl _,λ_ _ _=>rfl⟩
theorem Turn.trans (h:Turn S w w')(k:Turn S' w' w'')(hs:∀x,S' x->S x\/w.1.size<=x):Turn S w w'':=
 ⟨k.os.trans h.os,k.tape.trans h.tape,k.output.trans h.output,Nat.le_trans h.size k.size,λi d hn=>(k.block i (Nat.lt_of_lt_of_le d h.size) (λf=>by rcases hs i f with h1|h1;exact hn h1;omega)).trans (h.block i d hn)⟩
theorem Turn.then (h:Turn S w w')(k:Turn S w' w''):Turn S w w'':=h.trans k λ_=>.inl
theorem Turn.mono (h:Turn S w w')(hs:∀x,S x->S' x):Turn S' w w':=⟨h.os,h.tape,h.output,h.size,λk d hn=>h.block k d λf=>hn (hs k f)⟩
theorem Turn.drew (h:Turn S w w'):Turn S w w'.drew:=⟨h.os,h.tape,h.output,h.size,h.block⟩
theorem Qu (h:Below w.1.size w w'):Turn S w w':=⟨h.os,h.tape,h.output,h.size,λk d _=>h.block k d⟩
theorem Turn.below {B:Nat}(h:Turn S w w')(hs:∀x,S x->B<=x)(hB:B<=w.1.size):Below B w w':=
 ⟨h.os,h.tape,h.output,h.size,λk f=>h.block k (by omega) λd=>by have:=hs k d;omega⟩
theorem qmx (S:Nat->Prop)(w:World)(o:Obj):Turn S w (w.alloc o):=Qu ((Below.refl _ _).alloc (Nat.le_refl _) o)
theorem qmy {row:Option Nat}(h:w.grownBy w' row)(f:∀k,row=some k->S k):Turn S w w':=
 ⟨h.os,h.tape,h.output,h.size,λk d hn=>h.block k d λe=>hn (f k e.symm)⟩
theorem Dy {a:Addr}(u:Value)(h:S a.block):Turn S w (w.setCell a u):=
 ⟨rfl,rfl,rfl,by simp[World.setCell],λk _ hn=>Below.heap_setCell _ _ _ _ (λe=>hn (e▸h))⟩
theorem Um {b:Nat}(h:S b):∀(vs:List Value) (o:Nat) (w:World),Turn S w (w.setCells b o vs)
 |[],_,w=>Turn.refl S w
 |v::r,o,w=>by
  rw[World.setCells];exact (Dy (a:=⟨b,o,none⟩) v h).then (Um h r (o+1) _)
theorem Rj {b:Nat}(o:Obj)(h:S b):Turn S w (setBlock w b o):=
 ⟨rfl,rfl,rfl,by simp[setBlock],λk _ hn=>by
  show (w.1.setIfInBounds b o)[k]?=_;rw[Array.getElem?_setIfInBounds_ne (λ(e:b=k)=>hn (e▸h))]⟩
theorem q4c (b:Nat):∀(vs:List Value) (o:Nat) (w:World),(w.setCells b o vs).1.size=w.1.size
 |[],_,w=>rfl
 |v::r,o,w=>by rw[World.setCells,q4c b r];simp[World.setCell]
theorem qe9 (w:World)(b:Nat)(o:Obj):(setBlock w b o).1.size=w.1.size:=by simp[setBlock]
theorem q1s {b:Nat}{o:Obj}(h:b<w.1.size):(setBlock w b o).1[b]?=some o:=by
 show (w.1.setIfInBounds b o)[b]?=_;rw[Array.getElem?_setIfInBounds_self_of_lt h]
theorem Dz {b j:Nat}{c:Array Value}{t:TypeId}{fr:Nat × Nat}(u:Value)(h:w.1[b]?=some (.cells c t fr)):(w.setCell ⟨b,j,none⟩ u).1[b]?=some (.cells (c.setIfInBounds j u) t fr):=by
 simp[World.setCell,Array.getElem?_modify,h]
theorem Wx {b:Nat}{o:Obj}(h:w.1[b]?=some o):b<w.1.size:=(Array.getElem?_eq_some_iff.1 h).1
theorem q5p {b o:Nat}{d:List Value}(h:w.rangeAt b o d)(e:w'.1[b]?=w.1[b]?):w'.rangeAt b o d:=λj v f=>(World.cell?_of_block (a:=⟨b,o+j,none⟩) e).trans (h j v f)
theorem q8b {b o n:Nat}(h:w.there b o n)(e:w'.1[b]?=w.1[b]?):w'.there b o n:=λj d=>by
 obtain⟨h1,h2⟩:=h j d;exact⟨by rw[World.cell?_of_block (a:=⟨b,o+j,none⟩) e];exact h1,by rw[World.frozen?_of_block (a:=⟨b,o+j,none⟩) e];exact h2⟩
theorem q2c {base:Nat}{e:TypeId}{size n:Nat}{v:Value}{xs:List Value}(h:w.ownsRow base e size v n xs)(p:∀g,v.ownBlock=some g->w'.1[g]?=w.1[g]?):w'.ownsRow base e size v n xs:=by
 refine⟨h.1,?_⟩;rcases h.2 with d|⟨g,cap,f,d,h1,m,r⟩
 ·exact .inl d
 ·exact .inr ⟨g,cap,f,d,h1,(p g (by rw[d];rfl)).trans m,r⟩
theorem qg8 {base:Nat}{e:TypeId}{size n:Nat}{v:Value}{xs:List Value}(h:w.ownsRow base e size v n xs)(hn:0<n):∃g c,v=.slice (some ⟨g,0,none⟩) n c/\n<=c/\c<=maxLen:=by
 rcases h.2 with d|⟨g,cap,f,d,_,_,h1,h2,_⟩
 ·omega
 ·exact⟨g,cap,d,h1,h2⟩
theorem qu9 {base:Nat}{e:TypeId}{size n:Nat}{v:Value}{xs:List Value}(h:w.ownsRow base e size v n xs):∃A c,v=.slice A n c/\n<=c/\c<=maxLen:=by
 rcases h.2 with⟨rfl,rfl⟩|⟨g,cap,d,f,_,_,h1,h2,_⟩
 ·exact⟨none,0,rfl,Nat.le_refl _,Nat.zero_le _⟩
 ·exact⟨_,cap,f,h1,h2⟩
end
def flat (d:List (List UInt8)):List Value:=d.flatten.map bv
def Ll (d:List (List UInt8)):Prop:=∀l∈d,l.length=256
def Yn (l:List UInt8):List Value:=l.map bv
theorem Iw (l:List UInt8):(Yn l).length=l.length:=by simp[Yn]
theorem qij (l:List UInt8):∀u∈Yn l,u.oneCell'=true:=qf3 l
theorem qqe (d:List (List UInt8))(l:List UInt8):flat (d++[l])=flat d++Yn l:=by simp[flat,Yn]
theorem qqf (l:List UInt8)(d:List (List UInt8)):flat (l::d)=Yn l++flat d:=by simp[flat,Yn]
theorem qqg:∀{d:List (List UInt8)},Ll d->∀(i:Nat) (f:i<d.length) (j:Nat) (_:j<256),(flat d)[i*256+j]?=(Yn d[i])[j]?
 |l::d,h,i,f,j,hj=>by
  have m:(Yn l).length=256:=by rw[Iw,h l (by simp)]
  rw[qqf];rcases i with _|i
  ·rw[List.getElem?_append_left (by omega)];simp
  ·rw[List.getElem?_append_right (by omega),m];have e:(i+1)*256+j-256=i*256+j:=by omega
   rw[e,qqg (λx p=>h x (by simp[p])) i (by simpa using f) j hj];simp
theorem qcm {w:World}{base g n c:Nat}{e:TypeId}{d:List (List UInt8)}(h:w.ownsRow base e 256 (.slice (some ⟨g,0,none⟩) n c) n (flat d))(m:Ll d)(hn:d.length=n)(i:Nat)(f:i<d.length) :
  w.rangeAt g (i*256) (Yn d[i]):=λj v p=>by
 have u:j<256:=by
  have:=(List.getElem?_eq_some_iff.1 p).1;rw[Iw,m _ (List.getElem_mem f)] at this;exact this
 rw[World.ownsRow.cellAt h (i*256+j) (by subst hn;have:i*256+256<=d.length*256:=(by omega);omega),qqg m i f j u];exact p
theorem qua {w:World}{g o c:Nat}{l:List UInt8}(h:w.rangeAt g o (Yn l))(f:g<w.1.size)(d:l.length<=c)(hm:c<=maxLen):Sl w (some ⟨g,o,none⟩) l.length c l:=
 ⟨by simp,d,hm,λj u m=>⟨_,rfl,f,by rw[Addr.add_mid];exact h j u m⟩⟩
theorem qkn {w:World}{A:Option Addr}{n c:Nat}{l:List UInt8}(h:Sl w A n c l)(F:0<l.length):∃g o,A=some ⟨g,o,none⟩/\g<w.1.size/\w.rangeAt g o (Yn l):=by
 obtain⟨p,e,B,d⟩:=h.2.2.2 0 (bv l[0]) (by simp[F]);obtain⟨g,o,m⟩:=p;have f:m=none:=by
  cases m with
  |none=>rfl
  |some x=>
   simp only[World.cell?,Addr.add,if_true] at d;split at d<;>simp at d
 subst f;refine⟨g,o,e,B,λj v G=>?_⟩;obtain⟨u,y,_,E⟩:=h.2.2.2 j v G;obtain rfl:=Option.some.inj (e.symm.trans y);rw[<-Addr.add_mid];exact E
end
def q01:Option Addr->Option Nat
 |some a=>some a.block
 |none=>none
section
variable {P:Program}{t e:TypeId}{s b:Nat}{z:Value}(w:World)
theorem q38 (T:Aa P t e s b z)(ty:TypeId)(base:Nat)(A:Option Addr)(n c:Nat)(xs:List (List Value))(E:Qo w base e s A n c xs)
  (B:Option Addr) (m d:Nat) (ys:List (List Value)) (R:Js w s B m d ys) (a0:0<m) (h1:∀y∈ys,∀u∈y,u.oneCell'=true) (a1:n+m<=1000000) (hb:b<=100000) (F:base<=w.1.size) :
  ∃I c' w',(Builtin.append_ #[t,t] ty #[.slice A n c,.slice B m d]).run P w=.ok (.slice I (n+m) c') w'/\Qo w' base e s I (n+m) c' (xs++ys)/\Turn (λk=>q01 A=some k) w w'/\(q01 I=q01 A\/q01 I=some w.1.size)/\q01 I≠none:=by
 obtain⟨i,hi,a3,a4,a5⟩:=info_parts T.info;obtain⟨g,o,rfl,hg,a7,a8⟩:=R.at_ a0;have G:∀y∈ys,y.length=s:=λy Q=>by
  obtain⟨j,hj⟩:=List.mem_iff_getElem?.1 Q;obtain⟨_,_,_,_,h,_⟩:=R.2.2.2 j y hj;exact h
 have f:∀j u,ys.flatten[j]?=some u->w.cell? ((⟨g,o,none⟩:Addr).add j)=some u:=by
  intro j u O;obtain⟨y,Q,hv⟩:=qz2 T.pos G j u O;obtain⟨g',o',U,_,_,a2⟩:=R.2.2.2 _ y Q;injection U with U;injection U with e1 e2;subst e1 e2;have:=a2 _ u hv;rw[Addr.add_mid];rw[Nat.add_assoc,Nat.mul_comm,Nat.div_add_mod] at this;exact this
 have Z:(n+m)*b<=140737488355328:=Nat.le_trans (Nat.mul_le_mul a1 hb) (by decide);obtain⟨v',w',M,h2,h3,h4,Y⟩:=run_append_own_at (P:=P) w base t ty e i z s b T.sl hi a3 a4 a5 T.cells T.pos _ n _ E.1 ⟨g,o,none⟩ m d ys.flatten (by rw[qcl G,R.len]) f (λu O=>by
  obtain⟨y,Q,O⟩:=List.mem_flatten.1 O;exact h1 y Q u O) (by unfold maxLen;omega) Z F
 have K:∀(X:Option Addr) p q,Value.ownBlock (.slice X p q)=q01 X:=λX p q=>by cases X<;>rfl
 rw[K] at h3 Y;rw[<-List.flatten_append] at h2;have J:∀x∈xs++ys,x.length=s:=λx hx=>by
  rcases List.mem_append.1 hx with h|h
  ·exact E.2 x h
  ·exact G x h
 rcases h2.2 with⟨rfl,h0⟩|⟨g',cap,a6,rfl,_⟩
 ·omega
 ·rw[K] at Y;exact⟨_,_,w',M,⟨h2,J⟩,qmy h3 (λk hk=>hk),Y,by simp[q01]⟩
theorem q4d (T:Aa P t e s b z){ops:Array Oper}{f:List Oper}{o:Oper}{a:Act}{Q:Exit->Act->World->Prop}(J:o.guard=none)(R x:Operand)
  (ho:o.op=.call { callee:=.builtin .append,args:=#[R,x],argTypes:=#[t,t] })
  (base:Nat) (A:Option Addr) (n c:Nat) (xs:List (List Value)) (hs:a.eval R=.slice A n c) (F:Qo w base e s A n c xs)
  (B:Option Addr) (m d:Nat) (ys:List (List Value)) (hx:a.eval x=.slice B m d) (hr:Js w s B m d ys) (M:0<m) (h1:∀y∈ys,∀u∈y,u.oneCell'=true) (O:n+m<=1000000) (hb:b<=100000) (E:base<=w.1.size)
  (h:∀p I w',Qo w' base e s p (n+m) I (xs++ys)->Turn (λk=>q01 A=some k) w w'->(q01 p=q01 A\/q01 p=some w.1.size)->q01 p≠none->wpList P ops Q f (a.put o.dst (.slice p (n+m) I)) w'):wpList P ops Q (o::f) a w:=
 wpList_plain J λK Z=>by
  obtain⟨p,I,w',G,h2,U,X,Y⟩:=q38 (P:=P) w T o.type base A n c xs F B m d ys hr M h1 O hb E;unfold Oper.wp execOp;simp only[ho,resolve,invoke,builtin,Sem.run_bind,Sem.run_pure,Result.andThen_ok,List.map_toArray,List.map_cons,List.map_nil,hs,hx,G];exact Z _ _ (h p I w' h2 U X Y)
end
theorem Sl.turned {w w':World}{A:Option Addr}{n c:Nat}{l:List UInt8}(h:Sl w A n c l){S:Nat->Prop}(T:Turn S w w')(hA:∀k,q01 A=some k->¬S k):Sl w' A n c l:=
 ⟨h.1,h.2.1,h.2.2.1,λj u p=>by
  obtain⟨d,e,f,m⟩:=h.2.2.2 j u p;refine⟨d,e,by have:=T.size;omega,?_⟩;rw[World.cell?_of_block (a:=d.add j) (w':=w') (w:=w) (by rw[Nl];exact T.block _ f (hA _ (by rw[e];rfl)))];exact m⟩
theorem Qo.turned {w w':World}{base:Nat}{e:TypeId}{s:Nat}{A:Option Addr}{n c:Nat}{xs:List (List Value)}(h:Qo w base e s A n c xs){S:Nat->Prop}(T:Turn S w w')(hA:∀k,q01 A=some k->¬S k):Qo w' base e s A n c xs:=by
 refine⟨⟨h.1.1,?_⟩,h.2⟩;rcases h.1.2 with d|⟨g,cap,f,d,h1,m,r⟩
 ·exact .inl d
 ·refine .inr ⟨g,cap,f,d,h1,(T.block g (Array.getElem?_eq_some_iff.1 m).1 (hA g ?_)).trans m,r⟩;injection d with d;rw[d];rfl
theorem Qo.Qc {w:World}{base:Nat}{e:TypeId}{s:Nat}{A:Option Addr}{n c:Nat}{xs:List (List Value)}(h:Qo w base e s A n c xs):∀k,q01 A=some k->base<=k/\k<w.1.size:=by
 intro k f;rcases h.1.2 with⟨d,_⟩|⟨g,cap,m,d,h1,p,r⟩
 ·injection d with d;rw[d] at f;cases f
 ·injection d with d;rw[d] at f;obtain rfl:g=k:=Option.some.inj f;exact⟨h1,(Array.getElem?_eq_some_iff.1 p).1⟩
section
open Go.ChangeMaps (setBlock)
structure DM where
 n:Nat
 Xk:Nat->List UInt8
 Zu:Nat->List (List UInt8)
 off:Bool
 fused:Bool
 left:Nat
 steps:Nat
 cap:Nat
def upd {α:Type}(f:Nat->α)(s:Nat)(x:α):Nat->α:=λk=>if k=s then x else f k
theorem q0n {α:Type}(f:Nat->α)(s:Nat)(x:α):upd f s x s=x:=by simp[upd]
theorem Ag {α:Type}(f:Nat->α){s k:Nat}(x:α)(h:k≠s):upd f s x k=f k:=by simp[upd,h]
def Qb (n:Nat):Prop:=32<=n/\n<=2048
theorem TB:(Tryz.prog.info? 289).map (λi=>(i.zero,i.size,i.bytes))=some (some (.agg (Array.replicate 256 (.int .u8 0))),256,256):=by kernel_rfl
structure Lay (w:World)(bp bd bm:Nat)(l:List MapEntry)(clock:Nat)(v:Nat->Value)(S:Nat->Prop)(D:DM):Prop where
 me:w.heap[bp]?=some (.cells #[.slice (some ⟨bd,0,none⟩) D.n D.cap,.map (some bm),.bool D.off,.bool D.fused,.int .i64 D.left,.int .i64 D.steps] 152 (0,0))
 Xk:∀s,s<D.n->w.rangeAt bd (s*256) (Yn (D.Xk s))
 Ef:∀s,s<D.n->w.there bd (s*256) 256
 map:w.heap[bm]?=some (.map l.toArray clock)
 ents:Un l clock
 look:∀s:Nat,Zg s l=if D.Zu s=[] then none else some (v s)
 keys:∀e∈l,∃s:Nat,s<D.n/\kI e=s
 row:∀s,w.ownsRow 0 289 256 (v s) (D.Zu s).length (flat (D.Zu s))
 nil:∀s,D.Zu s=[]->v s=.slice none 0 0
 dl:∀s,(D.Xk s).length=256
 cl:∀s,Ll (D.Zu s)
 out:∀s,D.n<=s->D.Zu s=[]
 Yj:S bp/\S bd/\S bm/\∀s g,(v s).ownBlock=some g->S g
 ne:bp≠bd/\∀s g,(v s).ownBlock=some g->g≠bp/\g≠bd
 sep:∀s s' g,(v s).ownBlock=some g->(v s').ownBlock=some g->s=s'
 n32:Qb D.n
 left:D.left<=9223372036854775807
def Vp (w:World)(bp:Nat)(S:Nat->Prop)(D:DM):Prop:=∃bd bm l clock v,Lay w bp bd bm l clock v S D
section
variable {w w':World}{bp bd bm clock:Nat}{l:List MapEntry}{v:Nat->Value}{S:Nat->Prop}{D:DM}
theorem Lay.pos (L:Lay w bp bd bm l clock v S D):0<D.n:=by have:=L.n32;unfold Qb at this;omega
theorem Lay.Tc (L:Lay w bp bd bm l clock v S D):∃c t d,w.1[bd]?=some (.cells c t d):=by
 have h:=(L.Ef 0 L.pos 0 (by omega)).1;unfold World.cell? at h;split at h
 ·rename_i c t d f;exact⟨c,t,d,f⟩
 ·cases h
theorem Lay.Qa8 (L:Lay w bp bd bm l clock v S D):bd≠bm:=λe=>by
 obtain⟨c,t,d,h⟩:=L.Tc;rw[e,L.map] at h;cases h
theorem Lay.Qa9 (L:Lay w bp bd bm l clock v S D):bp≠bm:=λe=>by
 have h:=L.me;rw[e,L.map] at h;cases h
theorem Lay.Wu (L:Lay w bp bd bm l clock v S D){s g:Nat}(h:(v s).ownBlock=some g):∃c t,w.1[g]?=some (.cells c t (0,0)):=by
 rcases (L.row s).2 with⟨d,_⟩|⟨p,cap,f,d,_,m,_⟩
 ·rw[d] at h;cases h
 ·rw[d] at h;cases h;exact⟨_,_,m⟩
theorem Lay.Qak (L:Lay w bp bd bm l clock v S D){s g:Nat}(h:(v s).ownBlock=some g):g≠bm:=λe=>by
 obtain⟨c,t,d⟩:=L.Wu h;rw[e,L.map] at d;cases d
theorem Lay.keep (L:Lay w bp bd bm l clock v S D)(hk:∀k,k<w.1.size->S k->w'.1[k]?=w.1[k]?):Lay w' bp bd bm l clock v S D:=by
 obtain⟨c,t,B,d⟩:=L.Tc;have u:=hk bp (Wx L.me) L.Yj.1;have m:=hk bd (Wx d) L.Yj.2.1;have y:=hk bm (Wx L.map) L.Yj.2.2.1;exact⟨u.trans L.me,λs f=>q5p (L.Xk s f) m,λs f=>q8b (L.Ef s f) m,y.trans L.map,L.ents,L.look,L.keys,
  λs=>q2c (L.row s) λg p=>by obtain⟨c,t,h⟩:=L.Wu p;exact hk g (Wx h) (L.Yj.2.2.2 s g p),L.nil,L.dl,L.cl,L.out,L.Yj,L.ne,L.sep,L.n32,L.left⟩
theorem Lay.mono {S':Nat->Prop}(L:Lay w bp bd bm l clock v S D)(h:∀k,k<w.1.size->S k->S' k):Lay w bp bd bm l clock v S' D:=by
 obtain⟨c,t,m,d⟩:=L.Tc;exact⟨L.me,L.Xk,L.Ef,L.map,L.ents,L.look,L.keys,L.row,L.nil,L.dl,L.cl,L.out,
  ⟨h _ (Wx L.me) L.Yj.1,h _ (Wx d) L.Yj.2.1,h _ (Wx L.map) L.Yj.2.2.1,λs g f=>by obtain⟨c,t,h2⟩:=L.Wu f;exact h g (Wx h2) (L.Yj.2.2.2 s g f)⟩,L.ne,L.sep,L.n32,L.left⟩
theorem Lay.struct (L:Lay w bp bd bm l clock v S D)(off fused:Bool)(left steps:Nat)(hl:left<=9223372036854775807)
  (h1:w'.1[bp]?=some (.cells #[.slice (some ⟨bd,0,none⟩) D.n D.cap,.map (some bm),.bool off,.bool fused,.int .i64 left,.int .i64 steps] 152 (0,0)))
  (h2:∀k,k<w.1.size->k≠bp->w'.1[k]?=w.1[k]?):Lay w' bp bd bm l clock v S { D with off:=off,fused:=fused,left:=left,steps:=steps }:=by
 obtain⟨c,t,y,d⟩:=L.Tc;have m:=h2 bd (Wx d) (λe=>L.ne.1 e.symm);have u:=h2 bm (Wx L.map) (λe=>L.Qa9 e.symm);exact⟨h1,λs f=>q5p (L.Xk s f) m,λs f=>q8b (L.Ef s f) m,u.trans L.map,L.ents,L.look,L.keys,
  λs=>q2c (L.row s) λg p=>by obtain⟨c,t,h⟩:=L.Wu p;exact h2 g (Wx h) (L.ne.2 s g p).1,L.nil,L.dl,L.cl,L.out,L.Yj,L.ne,L.sep,L.n32,hl⟩
theorem Lay.Qbz (L:Lay w bp bd bm l clock v S D)(s:Nat)(x:List UInt8)(hx:x.length=256)
  (h1:∀k,k<w.1.size->k≠bd->w'.1[k]?=w.1[k]?) (h2:s<D.n->w'.rangeAt bd (s*256) (Yn x)) (h3:∀z,z<D.n->z≠s->w'.rangeAt bd (z*256) (Yn (D.Xk z))) (h4:∀z,z<D.n->w'.there bd (z*256) 256) :
  Lay w' bp bd bm l clock v S { D with Xk:=upd D.Xk s x }:=by
 have p:=h1 bp (Wx L.me) L.ne.1;have u:=h1 bm (Wx L.map) (λe=>L.Qa8 e.symm);refine⟨p.trans L.me,λz m=>?_,h4,u.trans L.map,L.ents,L.look,L.keys,
  λs=>q2c (L.row s) λg f=>by obtain⟨c,t,h⟩:=L.Wu f;exact h1 g (Wx h) (L.ne.2 s g f).2,L.nil,λz=>?_,L.cl,L.out,L.Yj,L.ne,L.sep,L.n32,L.left⟩
 ·show w'.rangeAt bd (z*256) (Yn (upd D.Xk s x z));by_cases d:z=s
  ·subst d;rw[q0n];exact h2 m
  ·rw[Ag _ _ d];exact h3 z m d
 ·show (upd D.Xk s x z).length=256;by_cases d:z=s
  ·rw[d,q0n];exact hx
  ·rw[Ag _ _ d];exact L.dl z
theorem Lay.store (L:Lay w bp bd bm l clock v S D)(s:Nat)(hs:s<D.n)(x:List UInt8)(hx:x.length=256) :
  Lay (w.setCells bd (s*256) (Yn x)) bp bd bm l clock v S { D with Xk:=upd D.Xk s x }:=by
 have m:=Um (S:=λk=>k=bd) (b:=bd) rfl (Yn x) (s*256) w;refine L.Qbz s x hx (λk p hn=>m.block k p hn) (λ_=>World.rangeAt_setCells_same _ _ _ _ ?_) (λz d f=>World.rangeAt_setCells_apart (L.Xk z d) _ _ _ ?_) λz d=>World.there_setCells (L.Ef z d) _ _ _
 ·rw[Iw,hx];exact L.Ef s hs
 ·rw[Iw,Iw,hx,L.dl z];rcases Nat.lt_or_gt_of_ne f with h|h
  ·right;left;omega
  ·right;right;omega
theorem Lay.Qal (L:Lay w bp bd bm l clock v S D)(s:Nat)(hs:s<D.n){l':List MapEntry}{clock':Nat}{S':Nat->Prop}(v1:Value)(ls:List (List UInt8))(hls:Ll ls)
  (hS:∀k,k<w.1.size->S k->S' k) (h1:∀k,k<w.1.size->k≠bm->some k≠(v s).ownBlock->w'.1[k]?=w.1[k]?) (hm:w'.1[bm]?=some (.map l'.toArray clock')) (hE:Un l' clock')
  (hlook:∀z:Nat,Zg z l'=if z=s then (if ls=[] then none else some v1) else Zg z l) (hkeys:∀e∈l',e∈l\/kI e=s)
  (hrow:w'.ownsRow 0 289 256 v1 ls.length (flat ls)) (hnil:ls=[]->v1=.slice none 0 0)
  (hat:v1.ownBlock=none\/v1.ownBlock=(v s).ownBlock\/∃g,v1.ownBlock=some g/\w.1.size<=g/\S' g) :
  Lay w' bp bd bm l' clock' (upd v s v1) S' { D with Zu:=upd D.Zu s ls }:=by
 obtain⟨c,t,R,B⟩:=L.Tc;have G:=Wx L.me;have I:=Wx B;have K:=Wx L.map;have M:=h1 bp G L.Qa9 (λe=>(L.ne.2 s bp e.symm).1 rfl);have J:=h1 bd I L.Qa8 (λe=>(L.ne.2 s bd e.symm).2 rfl);have m:∀z g,(upd v s v1 z).ownBlock=some g->(z≠s/\(v z).ownBlock=some g)\/(z=s/\((v s).ownBlock=some g\/(w.1.size<=g/\S' g))):=by
  intro z g f;by_cases d:z=s
  ·subst d;rw[q0n] at f;rcases hat with h|h|⟨T,h,h2,O⟩
   ·rw[h] at f;cases f
   ·exact .inr ⟨rfl,.inl (h▸f)⟩
   ·rw[h] at f;cases f;exact .inr ⟨rfl,.inr ⟨h2,O⟩⟩
  ·rw[Ag _ _ d] at f;exact .inl ⟨d,f⟩
 have u:∀z g,(v z).ownBlock=some g->g<w.1.size:=λz g f=>by obtain⟨c,t,h⟩:=L.Wu f;exact Wx h
 refine⟨M.trans L.me,λz d=>q5p (L.Xk z d) J,λz d=>q8b (L.Ef z d) J,hm,hE,λz=>?_,λe Q=>?_,λz=>?_,λz d=>?_,L.dl,λz=>?_,λz d=>?_,
  ⟨hS _ G L.Yj.1,hS _ I L.Yj.2.1,hS _ K L.Yj.2.2.1,λz g f=>?_⟩,⟨L.ne.1,λz g f=>?_⟩,λz y g f E=>?_,L.n32,L.left⟩
 ·rw[hlook z];show _=if upd D.Zu s ls z=[] then none else some (upd v s v1 z)
  by_cases d:z=s
  ·rw[d,if_pos rfl,q0n,q0n]
  ·rw[if_neg d,Ag _ _ d,Ag _ _ d];exact L.look z
 ·rcases hkeys e Q with h|h
  ·exact L.keys e h
  ·exact⟨s,hs,h⟩
 ·show w'.ownsRow 0 _ 256 (upd v s v1 z) (upd D.Zu s ls z).length (flat (upd D.Zu s ls z));by_cases d:z=s
  ·rw[d,q0n,q0n];exact hrow
  ·rw[Ag _ _ d,Ag _ _ d];exact q2c (L.row z) λg f=>h1 g (u z g f) (L.Qak f) λe=>d (L.sep z s g f e.symm)
 ·show upd v s v1 z=_;by_cases p:z=s
  ·subst p;rw[q0n];exact hnil (by simpa [q0n] using d)
  ·rw[Ag _ _ p];exact L.nil z (by simpa [Ag _ _ p] using d)
 ·show Ll (upd D.Zu s ls z);by_cases p:z=s
  ·rw[p,q0n];exact hls
  ·rw[Ag _ _ p];exact L.cl z
 ·show upd D.Zu s ls z=[];have:D.n<=z:=d;rw[Ag _ _ (by omega)];exact L.out z d
 ·rcases m z g f with⟨_,h⟩|⟨_,h|h⟩
  ·exact hS _ (u z g h) (L.Yj.2.2.2 z g h)
  ·exact hS _ (u s g h) (L.Yj.2.2.2 s g h)
  ·exact h.2
 ·rcases m z g f with⟨_,h⟩|⟨_,h|h⟩
  ·exact L.ne.2 z g h
  ·exact L.ne.2 s g h
  ·omega
 ·rcases m z g f with⟨h0,h⟩|⟨h0,h⟩<;>rcases m y g E with⟨F,k⟩|⟨F,k⟩
  ·exact L.sep z y g h k
  ·rcases k with k|k
   ·rw[F];exact L.sep z s g h k
   ·have:=u z g h;omega
  ·rcases h with h|h
   ·rw[h0];exact L.sep s y g h k
   ·have:=u y g k;omega
  ·rw[h0,F]
theorem Lay.forget (L:Lay w bp bd bm l clock v S D)(s:Nat)(hs:s<D.n) :
  Lay (setBlock w bm (.map (Xp s l).toArray clock)) bp bd bm (Xp s l) clock (upd v s (.slice none 0 0)) S { D with Zu:=upd D.Zu s [] }:=by
 have d:=Rj (w:=w) (S:=λk=>k=bm) (b:=bm) (.map (Xp s l).toArray clock) rfl;refine L.Qal s hs _ [] (by simp[Ll]) (λ_ _ h=>h) (λk m hn _=>d.block k m hn) (q1s (Wx L.map)) (L.ents.del s) (λz=>?_) (λe f=>.inl (q6c f)) (World.ownsRow_nil _ _ _ _) (λ_=>rfl) (.inl rfl);rw[q9g z L.ents.one,if_pos rfl];by_cases h:z=s
 ·subst h;simp
 ·rw[if_neg (by omega),if_neg h]
end
end
section
variable {w:World}{bp bd bm clock:Nat}{l:List MapEntry}{v:Nat->Value}{S:Nat->Prop}{D:DM}
theorem Lay.c0 (L:Lay w bp bd bm l clock v S D):w.cell? ⟨bp,0,none⟩=some (.slice (some ⟨bd,0,none⟩) D.n D.cap):=by rw[cell_of_row w bp 0 _ _ _ L.me];rfl
theorem Lay.c1 (L:Lay w bp bd bm l clock v S D):w.cell? ⟨bp,1,none⟩=some (.map (some bm)):=by rw[cell_of_row w bp 1 _ _ _ L.me];rfl
theorem Lay.c2 (L:Lay w bp bd bm l clock v S D):w.cell? ⟨bp,2,none⟩=some (.bool D.off):=by rw[cell_of_row w bp 2 _ _ _ L.me];rfl
theorem Lay.c3 (L:Lay w bp bd bm l clock v S D):w.cell? ⟨bp,3,none⟩=some (.bool D.fused):=by rw[cell_of_row w bp 3 _ _ _ L.me];rfl
theorem Lay.c4 (L:Lay w bp bd bm l clock v S D):w.cell? ⟨bp,4,none⟩=some (.int .i64 D.left):=by rw[cell_of_row w bp 4 _ _ _ L.me];rfl
theorem Lay.c5 (L:Lay w bp bd bm l clock v S D):w.cell? ⟨bp,5,none⟩=some (.int .i64 D.steps):=by rw[cell_of_row w bp 5 _ _ _ L.me];rfl
theorem Lay.fz (L:Lay w bp bd bm l clock v S D)(j:Nat):w.frozen? ⟨bp,j,none⟩=false:=by simp[World.frozen?,L.me]
end
theorem qea {w:World}{bp bd bm clock:Nat}{l:List MapEntry}{v:Nat->Value}{S:Nat->Prop}{D:DM}(L:Lay w bp bd bm l clock v S D)(s:Int) :
  Calls Tryz.prog 205 #[.pointer (some ⟨bp,0,none⟩),.int .i64 s] w λe w'=>e=.returned (.bool (decide (0<=s/\s<(D.n:Int))))/\w=w':=by
 have c0:=L.c0;go_enter Tryz.func205,Tryz.ntmps205
 by_cases h0:0<=s
 ·by_cases h1:s<(D.n:Int)
  ·go_wp2;go_ret;simp[h0,h1]
  ·go_wp2;go_ret;simp[h1];try omega
 ·go_wp2;go_ret;simp;intro;omega
theorem q9n {w:World}{bp bd bm clock:Nat}{l:List MapEntry}{v:Nat->Value}{S:Nat->Prop}{D:DM}(L:Lay w bp bd bm l clock v S D) :
  Calls Tryz.prog 90 #[.pointer (some ⟨bp,0,none⟩)] w λe w'=>e=.returned (.int .i64 (D.n:Int))/\w=w':=by
 have c0:=L.c0;go_enter Tryz.func90,Tryz.ntmps90
 go_wp2;go_ret;exact⟨rfl,rfl⟩
theorem qz3 {w:World}{bp bd bm clock:Nat}{l:List MapEntry}{v:Nat->Value}{S:Nat->Prop}{D:DM}(L:Lay w bp bd bm l clock v S D) :
  Calls Tryz.prog 153 #[.pointer (some ⟨bp,0,none⟩)] w λe w'=>e=.returned (.bool (!D.off))/\w=w':=by
 have c0:=L.c2;go_enter Tryz.func153,Tryz.ntmps153
 go_wp2;go_ret;exact⟨rfl,rfl⟩
def md (x:Int)(m:Nat):Nat:=((if x<0 then -(x+1) else x) % (m:Int)).toNat
theorem qxh (x:Int){m:Nat}(h:0<m):md x m<m:=by
 unfold md;have h1:=Int.emod_nonneg (if x<0 then -(x+1) else x) (show (m:Int)≠0 by omega);have h2:=Int.emod_lt_of_pos (if x<0 then -(x+1) else x) (show (0:Int)<m by omega);omega
theorem qz4 {x:Int}(m:Nat)(h:0<=x)(hm:0<m):x.tmod (m:Int)=(md x m:Int):=by
 unfold md;rw[if_neg (by omega),Int.tmod_eq_emod_of_nonneg h];have:=Int.emod_nonneg x (show (m:Int)≠0 by omega);omega
theorem qz5 {x:Int}(m:Nat)(h:x<0)(hm:0<m):(-(x+1)).tmod (m:Int)=(md x m:Int):=by
 unfold md;rw[if_pos h,Int.tmod_eq_emod_of_nonneg (by omega)];have:=Int.emod_nonneg (-(x+1)) (show (m:Int)≠0 by omega);omega
def DM.stop (D:DM):Bool:=D.off||(D.fused&&decide (D.left=0))
def DM.stepD (D:DM):DM:={ D with off:=D.stop,left:=if D.stop then D.left else if D.fused then D.left-1 else D.left,steps:=if D.stop then D.steps else D.steps+1 }
def DM.err (D:DM):Int:=if D.stop then 4 else 0
theorem Lay.off1 {w:World}{bp bd bm clock:Nat}{l:List MapEntry}{v:Nat->Value}{S:Nat->Prop}{D:DM}(L:Lay w bp bd bm l clock v S D)(b:Bool) :
  Lay (w.setCell ⟨bp,2,none⟩ (.bool b)) bp bd bm l clock v S { D with off:=b }:=
 L.struct b D.fused D.left D.steps L.left (by rw[Dz _ L.me];rfl) λk _ hn=>Below.heap_setCell _ _ _ _ hn
theorem Lay.left1 {w:World}{bp bd bm clock:Nat}{l:List MapEntry}{v:Nat->Value}{S:Nat->Prop}{D:DM}(L:Lay w bp bd bm l clock v S D)(n:Nat)(hn:n<=9223372036854775807){x:Int}(hx:x=(n:Int)) :
  Lay (w.setCell ⟨bp,4,none⟩ (.int .i64 x)) bp bd bm l clock v S { D with left:=n }:=by
 subst hx;exact L.struct D.off D.fused n D.steps hn (by rw[Dz _ L.me];rfl) λk _ hn=>Below.heap_setCell _ _ _ _ hn
theorem Lay.Qam {w:World}{bp bd bm clock:Nat}{l:List MapEntry}{v:Nat->Value}{S:Nat->Prop}{D:DM}(L:Lay w bp bd bm l clock v S D)(n:Nat){x:Int}(hx:x=(n:Int)) :
  Lay (w.setCell ⟨bp,5,none⟩ (.int .i64 x)) bp bd bm l clock v S { D with steps:=n }:=by
 subst hx;exact L.struct D.off D.fused D.left n L.left (by rw[Dz _ L.me];rfl) λk _ hn=>Below.heap_setCell _ _ _ _ hn
theorem qas {bp:Nat}(w:World)(j:Nat)(u:Value):Turn (λk=>k=bp) w (w.setCell ⟨bp,j,none⟩ u):=Dy u rfl
theorem qko {w:World}{bp bd bm clock:Nat}{l:List MapEntry}{v:Nat->Value}{S:Nat->Prop}{D:DM}(L:Lay w bp bd bm l clock v S D)(f:D.steps<=1000000000) :
  Calls Tryz.prog 206 #[.pointer (some ⟨bp,0,none⟩)] w λe w'=>e=.returned (.int .i64 D.err)/\Lay w' bp bd bm l clock v S D.stepD/\Turn (λk=>k=bp) w w':=by
 have c2:=L.c2;have c3:=L.c3;have c4:=L.c4;have c5:=L.c5;have y:=L.fz 2;have B:=L.fz 4;have E:=L.fz 5;have d:=L.left;obtain⟨n,Xk,Zu,off,fused,left,steps,cap⟩:=D;simp only at c2 c3 c4 c5 f d
 cases off with
 |true=>
  rw[show (DM.stepD ⟨n,Xk,Zu,true,fused,left,steps,cap⟩)=⟨n,Xk,Zu,true,fused,left,steps,cap⟩ from rfl,show (DM.err ⟨n,Xk,Zu,true,fused,left,steps,cap⟩)=4 from rfl]
  cases fused with
  |true=>
   by_cases h0:left=0
   ·subst h0;go_enter Tryz.func206,Tryz.ntmps206
    go_wp2;go_ret;exact⟨rfl,L.off1 true,qas _ _ _⟩
   ·go_enter Tryz.func206,Tryz.ntmps206
    go_wp2;go_ret;exact⟨rfl,L,Turn.refl _ _⟩
  |false=>
   go_enter Tryz.func206,Tryz.ntmps206
   go_wp2;go_ret;exact⟨rfl,L,Turn.refl _ _⟩
 |false=>
  cases fused with
  |true=>
   by_cases h0:left=0
   ·subst h0;rw[show (DM.stepD ⟨n,Xk,Zu,false,true,0,steps,cap⟩)=⟨n,Xk,Zu,true,true,0,steps,cap⟩ from rfl,show (DM.err ⟨n,Xk,Zu,false,true,0,steps,cap⟩)=4 from rfl];go_enter Tryz.func206,Tryz.ntmps206
    go_wp2;go_ret;exact⟨rfl,L.off1 true,qas _ _ _⟩
   ·have m:(DM.stop ⟨n,Xk,Zu,false,true,left,steps,cap⟩)=false:=by simp[DM.stop,h0]
    have p:(DM.stepD ⟨n,Xk,Zu,false,true,left,steps,cap⟩)=⟨n,Xk,Zu,false,true,left-1,steps+1,cap⟩:=by simp[DM.stepD,m]
    have u:(DM.err ⟨n,Xk,Zu,false,true,left,steps,cap⟩)=0:=by simp[DM.err,m]
    rw[p,u];go_enter Tryz.func206,Tryz.ntmps206
    go_wp2;go_ret;exact⟨rfl,(L.left1 (left-1) (by omega) (by omega)).Qam (steps+1) (by omega),(qas _ _ _).then (qas _ _ _)⟩
  |false=>
   rw[show (DM.stepD ⟨n,Xk,Zu,false,false,left,steps,cap⟩)=⟨n,Xk,Zu,false,false,left,steps+1,cap⟩ from rfl,show (DM.err ⟨n,Xk,Zu,false,false,left,steps,cap⟩)=0 from rfl];go_enter Tryz.func206,Tryz.ntmps206
   go_wp2;go_ret;exact⟨rfl,L.Qam (steps+1) (by omega),qas _ _ _⟩
theorem qz6 {w:World}{base n c:Nat}{e:TypeId}{A:Option Addr}{l:List UInt8}(h:Own w base e A n c l)(hn:0<n):∃g,A=some ⟨g,0,none⟩/\base<=g/\g<w.1.size:=by
 have y:=h.len;rcases h.2 with⟨d,u⟩|⟨g,cap,f,d,m,p,_⟩
 ·omega
 ·injection d with d;exact⟨g,d,m,(Array.getElem?_eq_some_iff.1 p).1⟩
