/- Rows of structs: slices whose elements are rows of s cells; nothing here speaks of one pro -/
import Derived.Test.YtnjacafcocnicaaGreatDoorDv1
import Derived.Deep.MidRow
import Derived.Deep.Slices
import Derived.Deep.WholeRow
import Derived.Deep.Fields
import Derived.WideShapes
import Derived.Test.YtnjacafcocnicaaGreatDoorChecked
namespace Go.Proofs.YtnjacafcocnicaaGreatDoor
open Go Go.RowKit Go.Proofs Tryz
set_option maxHeartbeats 1000000
set_option maxRecDepth 100000
def Jp (w:WD)(s:Nat)(A:OA)(n c:Nat)(xs:List (LV)):Prop:=
 xs.length=n/\n<=c/\c<=maxLen/\∀(j:Nat) x,xs[j]?=some x->∃g o,A=some ⟨g,o,none⟩/\g<w.1.size/\x.length=s/\w.rangeAt g (o+j*s) x
section
variable {w w':WD}{s n c:Nat}{A:OA}{xs:List (LV)}
theorem Jp.len (h:Jp w s A n c xs):xs.length=n:=h.1
theorem Jp.cap (h:Jp w s A n c xs):n<=c:=h.2.1
theorem Jp.max (h:Jp w s A n c xs):c<=maxLen:=h.2.2.1
theorem Jp.keep (h:Jp w s A n c xs)(hz:w.1.size<=w'.1.size)(hk:∀g o,A=some ⟨g,o,none⟩->g<w.1.size->w'.1[g]?=w.1[g]?):Jp w' s A n c xs:=
 ⟨h.1,h.2.1,h.2.2.1,λj x u=>by
  obtain⟨g,o,e,f,m,p⟩:=h.2.2.2 j x u;exact⟨g,o,e,by omega,m,λi v q=>(AY (a:=⟨g,o+j*s+i,none⟩) (hk g o e f)).trans (p i v q)⟩⟩
theorem Jp.below (h:Jp w s A n c xs)(hb:Below w.1.size w w'):Jp w' s A n c xs:=h.keep hb.size λg _ _ f=>hb.block g f
theorem Jp.take (h:Jp w s A n c xs){k:Nat}(hk:k<=n):Jp w s A k c (xs.take k):=by
 refine⟨by have:=h.len;simp;omega,by have:=h.cap;omega,h.max,λj x f=>h.2.2.2 j x ?_⟩;rw[List.getElem?_take] at f;split at f
 ·exact f
 ·cases f
theorem Jp.at_ (h:Jp w s A n c xs){j:Nat}(hj:j<n):∃g o,A=some ⟨g,o,none⟩/\g<w.1.size/\(xs.getD j []).length=s/\w.rangeAt g (o+j*s) (xs.getD j []):=by
 have f:j<xs.length:=by have:=h.len;omega
 exact h.2.2.2 j _ (by simp[List.getD,f])
theorem q6n (w:WD)(s:Nat):Jp w s none 0 0 []:=⟨rfl,AE _,AW _,λj u f=>by simp at f⟩
end
structure Eh (P:Program)(t e:TypeId)(s b:Nat)(z:Value):Prop where
 sl:P.underlying t=some (.slice e)
 info:(P.info? e).map (λi=>(i.zero,i.size,i.bytes))=some (some z,s,b)
 cells:z.cells.size=s
 pos:0<s
def Q8 (w:WD)(base:Nat)(e:TypeId)(s:Nat)(A:OA)(n c:Nat)(xs:List (LV)):Prop:=w.ownsRow base e s (.slice A n c) n xs.flatten/\∀x∈xs,x.length=s
theorem qdy {s:Nat}:∀{xs:List (LV)},(∀x∈xs,x.length=s)->xs.flatten.length=xs.length*s
 |[],_=>by simp
 |x::xs,h=>by
  rw[List.flatten_cons,AD,qdy (λy f=>h y (AO _ f)),h x (AP ..),AX,Nat.add_mul,Nat.one_mul,Nat.add_comm]
theorem qn2 {s:Nat}:∀{xs:List (LV)},(∀x∈xs,x.length=s)->∀(j:Nat) x,xs[j]?=some x->∀(i:Nat) v,x[i]?=some v->xs.flatten[j*s+i]?=some v
 |[],_,j,x,hx,_,_,_=>by simp at hx
 |y::xs,h,0,x,hx,i,v,hv=>by
  obtain rfl:y=x:=by simpa using hx
  rw[List.flatten_cons,Nat.zero_mul,AT,List.getElem?_append_left (List.getElem?_eq_some_iff.1 hv).1];exact hv
 |y::xs,h,j+1,x,hx,i,v,hv=>by
  have f:=h y (AP ..);rw[List.flatten_cons,List.getElem?_append_right (by rw[f,Nat.add_mul];omega),f,show (j+1)*s+i-s=j*s+i by rw[Nat.add_mul];omega];exact qn2 (λz m=>h z (AO _ m)) j x (by simpa using hx) i v hv
theorem qCh {s:Nat}(u:0<s){xs:List (LV)}(h:∀x∈xs,x.length=s)(m:Nat)(v:Value)(p:xs.flatten[m]?=some v):∃x,xs[m / s]?=some x/\x[m % s]?=some v:=by
 have hm:m<xs.length*s:=by rw[<-qdy h];exact (List.getElem?_eq_some_iff.1 p).1
 have f:m / s<xs.length:=Nat.div_lt_of_lt_mul (by rw[Nat.mul_comm];exact hm);have q:xs[m / s]?=some xs[m / s]:=AC f;have hi:m % s<xs[m / s].length:=by rw[h _ (List.getElem_mem f)];exact Nat.mod_lt _ u
 refine⟨_,q,?_⟩;have h2:=qn2 h (m / s) _ q (m % s) _ (AC hi);rw[Nat.mul_comm,Nat.div_add_mod] at h2;rw[AC hi,<-p,h2]
section
variable {w w':WD}{base s n c:Nat}{e:TypeId}{A:OA}{xs:List (LV)}
theorem Q8.len (h:Q8 w base e s A n c xs)(hs:0<s):xs.length=n:=by
 have h1:=h.1.1;rw[qdy h.2] at h1;exact Nat.eq_of_mul_eq_mul_right hs h1
theorem Q8.Gn (h:Q8 w base e s A n c xs)(hs:0<s):Jp w s A n c xs:=by
 have F:=h.len hs;refine⟨F,?_,?_,λj x u=>?_⟩
 ·rcases h.1.2 with⟨f,rfl⟩|⟨g,cap,m,f,_,_,h1,h2,_⟩
  ·omega
  ·injection f with _ _ q;omega
 ·rcases h.1.2 with⟨f,rfl⟩|⟨g,cap,m,f,_,_,h1,h2,_⟩
  ·injection f with _ _ q;unfold maxLen;omega
  ·injection f with _ _ q;omega
 ·have I:=(List.getElem?_eq_some_iff.1 u).1;rcases h.1.2 with⟨f,rfl⟩|⟨g,cap,m,f,G,y,h1,h2,q,B⟩
  ·omega
  ·have E:A=some ⟨g,0,none⟩:=by injection f
   refine⟨g,0,E,(Array.getElem?_eq_some_iff.1 y).1,h.2 x (List.mem_of_getElem? u),λi v hi=>?_⟩;have p:=qn2 h.2 j x u i v hi;rw[<-B,List.getElem?_take] at p;split at p
   ·rw[cell_of_row _ _ _ _ _ _ y,AT];simpa using p
   ·cases p
theorem Q8.less {b:Nat}(h:Q8 w base e s A n c xs)(hb:b<=base):Q8 w b e s A n c xs:=by
 refine⟨⟨h.1.1,?_⟩,h.2⟩;rcases h.1.2 with m|⟨g,cap,f,m,h1,r⟩
 ·exact .inl m
 ·exact .inr ⟨g,cap,f,m,AZ hb h1,r⟩
theorem Q8.keep (h:Q8 w base e s A n c xs)(hk:∀g,base<=g->g<w.1.size->w'.1[g]?=w.1[g]?):Q8 w' base e s A n c xs:=by
 refine⟨⟨h.1.1,?_⟩,h.2⟩;rcases h.1.2 with m|⟨g,cap,f,m,h1,p,r⟩
 ·exact .inl m
 ·exact .inr ⟨g,cap,f,m,h1,(hk g h1 (Array.getElem?_eq_some_iff.1 p).1).trans p,r⟩
theorem Q8.below (h:Q8 w base e s A n c xs)(hb:Below w.1.size w w'):Q8 w' base e s A n c xs:=h.keep λg _ f=>hb.block g f
theorem q0z (w:WD)(base:Nat)(e:TypeId)(s:Nat):Q8 w base e s none 0 0 []:=⟨⟨by simp,.inl ⟨rfl,rfl⟩⟩,λx f=>by simp at f⟩
theorem qtq (w:WD)(e:TypeId)(s:Nat):Q8 (w.alloc (.cells #[] e)) w.1.size e s (some ⟨w.1.size,0,none⟩) 0 0 []:=
 ⟨⟨by simp,.inr ⟨w.1.size,0,#[],rfl,AE _,BE w _,AE _,AW _,by simp,by simp⟩⟩,λx f=>by simp at f⟩
theorem q1n (w:WD)(e:TypeId)(s:Nat)(x:LV)(f:Array Value)(m:f=x.toArray)(p:x.length=s):Q8 (w.alloc (.cells f e)) w.1.size e s (some ⟨w.1.size,0,none⟩) 1 1 [x]:=by
 subst m;subst p;refine⟨⟨by simp,.inr ⟨w.1.size,1,x.toArray,rfl,AE _,BE w _,AE _,by unfold maxLen;omega,by simp,by simp⟩⟩,λy q=>?_⟩;obtain rfl:y=x:=by simpa using q
 rfl
end
section
variable {P:Program}{t e:TypeId}{s b:Nat}{z:Value}(w:WD)
theorem q9j (T:Eh P t e s b z)(ty:TypeId)(base:Nat)(A:OA)(n c:Nat)(xs:List (LV))(p:Q8 w base e s A n c xs)
  (B:OA) (m d:Nat) (F:List (LV)) (Q:Jp w s B m d F) (X:0<m) (h1:∀y∈F,∀u∈y,u.oneCell'=true) (Y:n+m<=1000000) (hb:b<=100000) (f:base<=w.1.size) :
  ∃A' c' w',(Builtin.append_ #[t,t] ty #[.slice A n c,.slice B m d]).run P w=.ok (.slice A' (n+m) c') w'/\Q8 w' base e s A' (n+m) c' (xs++F)/\Below base w w':=by
 obtain⟨i,hi,a1,a2,a6⟩:=info_parts T.info;obtain⟨g,o,rfl,hg,a7,a8⟩:=Q.at_ X;have E:∀y∈F,y.length=s:=λy M=>by
  obtain⟨j,hj⟩:=List.mem_iff_getElem?.1 M;obtain⟨_,_,_,_,h,_⟩:=Q.2.2.2 j y hj;exact h
 have q:∀j u,F.flatten[j]?=some u->w.cell? ((⟨g,o,none⟩:Addr).add j)=some u:=by
  intro j u J;obtain⟨y,M,K⟩:=qCh T.pos E j u J;obtain⟨g',o',U,_,_,Z⟩:=Q.2.2.2 _ y M;injection U with U;injection U with e1 e2;subst e1 e2;have:=Z _ u K;rw[Addr.add_mid];rw[Nat.add_assoc,Nat.mul_comm,Nat.div_add_mod] at this;exact this
 have V:(n+m)*b<=140737488355328:=AZ (Nat.mul_le_mul Y hb) (by decide);obtain⟨v',w',I,h2,h3,h4,_⟩:=run_append_own_at (P:=P) w base t ty e i z s b T.sl hi a1 a2 a6 T.cells T.pos _ n _ p.1 ⟨g,o,none⟩ m d F.flatten (by rw[qdy E,Q.len]) q (λu J=>by
  obtain⟨y,M,J⟩:=List.mem_flatten.1 J;exact h1 y M u J) (by unfold maxLen;omega) V f
 have hB:Below base w w':=(AI _ _).grown h3 f (λk O=>by
  rcases p.1.2 with⟨K,_⟩|⟨g,cap,R,K,h1,_⟩
  ·rw[K] at O;simp[Value.ownBlock] at O
  ·rw[K] at O;simp[Value.ownBlock] at O;omega)
 rw[<-List.flatten_append] at h2;have G:∀x∈xs++F,x.length=s:=λx hx=>by
  rcases List.mem_append.1 hx with h|h
  ·exact p.2 x h
  ·exact E x h
 rcases h2.2 with⟨rfl,h0⟩|⟨g',cap,R,rfl,_⟩
 ·omega
 ·exact⟨_,_,w',I,⟨h2,G⟩,hB⟩
theorem qbt (T:Eh P t e s b z){F:Array Oper}{f:List Oper}{o:Oper}{a:Act}{Q:Exit->Act->WD->Prop}(M:o.guard=none)(U x:Operand)
  (Z:o.op=.call { callee:=.builtin .append,args:=#[U,x],argTypes:=#[t,t] })
  (base:Nat) (A:OA) (n c:Nat) (xs:List (LV)) (hs:a.eval U=.slice A n c) (q:Q8 w base e s A n c xs)
  (B:OA) (m d:Nat) (J:List (LV)) (hx:a.eval x=.slice B m d) (hr:Jp w s B m d J) (O:0<m) (h1:∀y∈J,∀u∈y,u.oneCell'=true) (R:n+m<=1000000) (Y:b<=100000) (p:base<=w.1.size)
  (h:∀G I w',Q8 w' base e s G (n+m) I (xs++J)->Below base w w'->wpList P F Q f (a.put o.dst (.slice G (n+m) I)) w'):wpList P F Q (o::f) a w:=
 wpList_plain M λK X=>by
  obtain⟨G,I,w',E,h2,V⟩:=q9j (P:=P) w T o.type base A n c xs q B m d J hr O h1 R Y p;unfold Oper.wp execOp;simp only[Z,resolve,invoke,builtin,Sem.run_bind,Sem.run_pure,Result.andThen_ok,List.map_toArray,BJ,List.map_nil,hs,hx,E];exact X _ _ (h G I w' h2 V)
end
section
open Go.ChangeMaps (setBlock)
structure Turn (S:NP)(w w':WD):Prop where
 os:w'.os=w.os
 tape:w'.tape=w.tape
 output:w'.output=w.output
 size:w.heap.size<=w'.heap.size
 block:∀k,k<w.heap.size->¬S k->w'.heap[k]?=w.heap[k]?
section
variable {S S':NP}{w w' w'':WD}
theorem Turn.refl (S:NP)(w:WD):Turn S w w:=⟨rfl,rfl,rfl,AE _,λ_ _ _=>rfl⟩
theorem Turn.trans (h:Turn S w w')(k:Turn S' w' w'')(hs:∀x,S' x->S x\/w.1.size<=x):Turn S w w'':=
 ⟨k.os.trans h.os,k.tape.trans h.tape,k.output.trans h.output,AZ h.size k.size,λi hi hn=>(k.block i (Nat.lt_of_lt_of_le hi h.size) (λf=>by rcases hs i f with h1|h1;exact hn h1;omega)).trans (h.block i hi hn)⟩
theorem Turn.then (h:Turn S w w')(k:Turn S w' w''):Turn S w w'':=h.trans k λ_=>.inl
theorem Turn.mono (h:Turn S w w')(hs:∀x,S x->S' x):Turn S' w w':=⟨h.os,h.tape,h.output,h.size,λk f hn=>h.block k f λm=>hn (hs k m)⟩
theorem Turn.drew (h:Turn S w w'):Turn S w w'.drew:=⟨h.os,h.tape,h.output,h.size,h.block⟩
theorem Qz (h:Below w.1.size w w'):Turn S w w':=⟨h.os,h.tape,h.output,h.size,λk f _=>h.block k f⟩
theorem Turn.below {B:Nat}(h:Turn S w w')(hs:∀x,S x->B<=x)(hB:B<=w.1.size):Below B w w':=
 ⟨h.os,h.tape,h.output,h.size,λk m=>h.block k (by omega) λf=>by have:=hs k f;omega⟩
theorem qpe (S:NP)(w:WD)(o:Obj):Turn S w (w.alloc o):=Qz ((AI _ _).alloc (AE _) o)
theorem qpf {row:Option Nat}(h:w.grownBy w' row)(m:∀k,row=some k->S k):Turn S w w':=
 ⟨h.os,h.tape,h.output,h.size,λk f hn=>h.block k f λe=>hn (m k e.symm)⟩
theorem Gw {a:Addr}(u:Value)(h:S a.block):Turn S w (w.setCell a u):=
 ⟨rfl,rfl,rfl,by simp[World.setCell],λk _ hn=>Below.heap_setCell _ _ _ _ (λe=>hn (e▸h))⟩
theorem Vp {b:Nat}(h:S b):∀(vs:LV) (o:Nat) (w:WD),Turn S w (w.setCells b o vs)
 |[],_,w=>Turn.refl S w
 |v::r,o,w=>by
  rw[World.setCells];exact (Gw (a:=⟨b,o,none⟩) v h).then (Vp h r (o+1) _)
theorem q0t {b:Nat}(o:Obj)(h:S b):Turn S w (setBlock w b o):=
 ⟨rfl,rfl,rfl,by simp[setBlock],λk _ hn=>by
  show (w.1.setIfInBounds b o)[k]?=_;rw[Array.getElem?_setIfInBounds_ne (λ(e:b=k)=>hn (e▸h))]⟩
theorem q2v (b:Nat):∀(vs:LV) (o:Nat) (w:WD),(w.setCells b o vs).1.size=w.1.size
 |[],_,w=>rfl
 |v::r,o,w=>by rw[World.setCells,q2v b r];simp[World.setCell]
theorem qfn (w:WD)(b:Nat)(o:Obj):(setBlock w b o).1.size=w.1.size:=by simp[setBlock]
theorem q2a {b:Nat}{o:Obj}(h:b<w.1.size):(setBlock w b o).1[b]?=some o:=by
 show (w.1.setIfInBounds b o)[b]?=_;rw[Array.getElem?_setIfInBounds_self_of_lt h]
theorem Fv {b j:Nat}{c:Array Value}{t:TypeId}{fr:Nat × Nat}(u:Value)(h:w.1[b]?=some (.cells c t fr)):(w.setCell ⟨b,j,none⟩ u).1[b]?=some (.cells (c.setIfInBounds j u) t fr):=by
 simp[World.setCell,Array.getElem?_modify,h]
theorem Ky {b:Nat}{o:Obj}(h:w.1[b]?=some o):b<w.1.size:=(Array.getElem?_eq_some_iff.1 h).1
theorem q5v {b o:Nat}{f:LV}(h:w.rangeAt b o f)(e:w'.1[b]?=w.1[b]?):w'.rangeAt b o f:=λj v m=>(AY (a:=⟨b,o+j,none⟩) e).trans (h j v m)
theorem q8m {b o n:Nat}(h:w.there b o n)(e:w'.1[b]?=w.1[b]?):w'.there b o n:=λj f=>by
 obtain⟨h1,h2⟩:=h j f;exact⟨by rw[AY (a:=⟨b,o+j,none⟩) e];exact h1,by rw[World.frozen?_of_block (a:=⟨b,o+j,none⟩) e];exact h2⟩
theorem q3d {base:Nat}{e:TypeId}{size n:Nat}{v:Value}{xs:LV}(h:w.ownsRow base e size v n xs)(q:∀g,v.ownBlock=some g->w'.1[g]?=w.1[g]?):w'.ownsRow base e size v n xs:=by
 refine⟨h.1,?_⟩;rcases h.2 with f|⟨g,cap,m,f,h1,p,r⟩
 ·exact .inl f
 ·exact .inr ⟨g,cap,m,f,h1,(q g (by rw[f];rfl)).trans p,r⟩
theorem qtr {base f:Nat}{e:TypeId}{size n:Nat}{v:Value}{xs:LV}(h:w.ownsRow base e size v n xs)(q:f<=base):w.ownsRow f e size v n xs:=by
 refine⟨h.1,?_⟩;rcases h.2 with p|⟨g,cap,m,p,h1,r⟩
 ·exact .inl p
 ·exact .inr ⟨g,cap,m,p,by omega,r⟩
theorem q7g {base:Nat}{e:TypeId}{size n:Nat}{v:Value}{xs:LV}(h:w.ownsRow base e size v n xs)(hn:0<n):∃g c,v=.slice (some ⟨g,0,none⟩) n c/\n<=c/\c<=maxLen:=by
 rcases h.2 with f|⟨g,cap,m,f,_,_,h1,h2,_⟩
 ·omega
 ·exact⟨g,cap,f,h1,h2⟩
theorem qn3 {base:Nat}{e:TypeId}{size n:Nat}{v:Value}{xs:LV}(h:w.ownsRow base e size v n xs):∃A c,v=.slice A n c/\n<=c/\c<=maxLen:=by
 rcases h.2 with⟨rfl,rfl⟩|⟨g,cap,f,m,_,_,h1,h2,_⟩
 ·exact⟨none,0,rfl,AE _,AW _⟩
 ·exact⟨_,cap,m,h1,h2⟩
end
def flat (f:List (LU)):LV:=f.flatten.map bv
def Oj (f:List (LU)):Prop:=∀l∈f,l.length=256
def Y2 (l:LU):LV:=l.map bv
theorem Oe (l:LU):(Y2 l).length=l.length:=by simp[Y2]
theorem qki (l:LU):∀u∈Y2 l,u.oneCell'=true:=qg2 l
theorem qts (f:List (LU))(l:LU):flat (f++[l])=flat f++Y2 l:=by simp[flat,Y2]
theorem qtt (l:LU)(f:List (LU)):flat (l::f)=Y2 l++flat f:=by simp[flat,Y2]
theorem qtu:∀{f:List (LU)},Oj f->∀(i:Nat) (hi:i<f.length) (j:Nat) (_:j<256),(flat f)[i*256+j]?=(Y2 f[i])[j]?
 |l::f,h,i,hi,j,hj=>by
  have m:(Y2 l).length=256:=by rw[Oe,h l (by simp)]
  rw[qtt];rcases i with _|i
  ·rw[List.getElem?_append_left (by omega)];simp
  ·rw[List.getElem?_append_right (by omega),m];have e:(i+1)*256+j-256=i*256+j:=by omega
   rw[e,qtu (λx p=>h x (by simp[p])) i (by simpa using hi) j hj];simp
theorem qdz {w:WD}{base g n c:Nat}{e:TypeId}{f:List (LU)}(h:w.ownsRow base e 256 (.slice (some ⟨g,0,none⟩) n c) n (flat f))(m:Oj f)(hn:f.length=n)(i:Nat)(hi:i<f.length) :
  w.rangeAt g (i*256) (Y2 f[i]):=λj v p=>by
 have q:j<256:=by
  have:=(List.getElem?_eq_some_iff.1 p).1;rw[Oe,m _ (List.getElem_mem hi)] at this;exact this
 rw[World.ownsRow.cellAt h (i*256+j) (by subst hn;have:i*256+256<=f.length*256:=(by omega);omega),qtu m i hi j q];exact p
theorem qxu {w:WD}{g o c:Nat}{l:LU}(h:w.rangeAt g o (Y2 l))(m:g<w.1.size)(f:l.length<=c)(hm:c<=maxLen):Sl w (some ⟨g,o,none⟩) l.length c l:=
 ⟨by simp,f,hm,λj u p=>⟨_,rfl,m,by rw[Addr.add_mid];exact h j u p⟩⟩
theorem qn4 {w:WD}{A:OA}{n c:Nat}{l:LU}(h:Sl w A n c l)(F:0<l.length):∃g o,A=some ⟨g,o,none⟩/\g<w.1.size/\w.rangeAt g o (Y2 l):=by
 obtain⟨q,e,B,f⟩:=h.2.2.2 0 (bv l[0]) (by simp[F]);obtain⟨g,o,p⟩:=q;have m:p=none:=by
  cases p with
  |none=>rfl
  |some x=>
   simp only[World.cell?,Addr.add,if_true] at f;split at f<;>simp at f
 subst m;refine⟨g,o,e,B,λj v G=>?_⟩;obtain⟨u,y,_,E⟩:=h.2.2.2 j v G;obtain rfl:=OI (e.symm.trans y);rw[<-Addr.add_mid];exact E
end
def q01:OA->Option Nat
 |some a=>some a.block
 |none=>none
section
variable {P:Program}{t e:TypeId}{s b:Nat}{z:Value}(w:WD)
theorem q2m (T:Eh P t e s b z)(ty:TypeId)(base:Nat)(A:OA)(n c:Nat)(xs:List (LV))(E:Q8 w base e s A n c xs)
  (B:OA) (m d:Nat) (I:List (LV)) (U:Jp w s B m d I) (a1:0<m) (h1:∀y∈I,∀u∈y,u.oneCell'=true) (a2:n+m<=1000000) (hb:b<=100000) (F:base<=w.1.size) :
  ∃J c' w',(Builtin.append_ #[t,t] ty #[.slice A n c,.slice B m d]).run P w=.ok (.slice J (n+m) c') w'/\Q8 w' base e s J (n+m) c' (xs++I)/\Turn (λk=>q01 A=some k) w w'/\(q01 J=q01 A\/q01 J=some w.1.size)/\q01 J≠none:=by
 obtain⟨i,hi,a7,a8,b0⟩:=info_parts T.info;obtain⟨g,o,rfl,hg,b2,b3⟩:=U.at_ a1;have G:∀y∈I,y.length=s:=λy R=>by
  obtain⟨j,hj⟩:=List.mem_iff_getElem?.1 R;obtain⟨_,_,_,_,h,_⟩:=U.2.2.2 j y hj;exact h
 have f:∀j u,I.flatten[j]?=some u->w.cell? ((⟨g,o,none⟩:Addr).add j)=some u:=by
  intro j u Q;obtain⟨y,R,hv⟩:=qCh T.pos G j u Q;obtain⟨g',o',V,_,_,a6⟩:=U.2.2.2 _ y R;injection V with V;injection V with e1 e2;subst e1 e2;have:=a6 _ u hv;rw[Addr.add_mid];rw[Nat.add_assoc,Nat.mul_comm,Nat.div_add_mod] at this;exact this
 have Z:(n+m)*b<=140737488355328:=AZ (Nat.mul_le_mul a2 hb) (by decide);obtain⟨v',w',O,h2,h3,h4,Y⟩:=run_append_own_at (P:=P) w base t ty e i z s b T.sl hi a7 a8 b0 T.cells T.pos _ n _ E.1 ⟨g,o,none⟩ m d I.flatten (by rw[qdy G,U.len]) f (λu Q=>by
  obtain⟨y,R,Q⟩:=List.mem_flatten.1 Q;exact h1 y R u Q) (by unfold maxLen;omega) Z F
 have M:∀(X:OA) p q,Value.ownBlock (.slice X p q)=q01 X:=λX p q=>by cases X<;>rfl
 rw[M] at h3 Y;rw[<-List.flatten_append] at h2;have K:∀x∈xs++I,x.length=s:=λx hx=>by
  rcases List.mem_append.1 hx with h|h
  ·exact E.2 x h
  ·exact G x h
 rcases h2.2 with⟨rfl,h0⟩|⟨g',cap,b1,rfl,_⟩
 ·omega
 ·rw[M] at Y;exact⟨_,_,w',O,⟨h2,K⟩,qpf h3 (λk hk=>hk),Y,by simp[q01]⟩
theorem qbu (T:Eh P t e s b z){G:Array Oper}{f:List Oper}{o:Oper}{a:Act}{Q:Exit->Act->WD->Prop}(M:o.guard=none)(U x:Operand)
  (ho:o.op=.call { callee:=.builtin .append,args:=#[U,x],argTypes:=#[t,t] })
  (base:Nat) (A:OA) (n c:Nat) (xs:List (LV)) (hs:a.eval U=.slice A n c) (E:Q8 w base e s A n c xs)
  (B:OA) (m d:Nat) (J:List (LV)) (hx:a.eval x=.slice B m d) (hr:Jp w s B m d J) (O:0<m) (h1:∀y∈J,∀u∈y,u.oneCell'=true) (R:n+m<=1000000) (hb:b<=100000) (q:base<=w.1.size)
  (h:∀p I w',Q8 w' base e s p (n+m) I (xs++J)->Turn (λk=>q01 A=some k) w w'->(q01 p=q01 A\/q01 p=some w.1.size)->q01 p≠none->wpList P G Q f (a.put o.dst (.slice p (n+m) I)) w'):wpList P G Q (o::f) a w:=
 wpList_plain M λK Z=>by
  obtain⟨p,I,w',F,h2,V,X,Y⟩:=q2m (P:=P) w T o.type base A n c xs E B m d J hr O h1 R hb q;unfold Oper.wp execOp;simp only[ho,resolve,invoke,builtin,Sem.run_bind,Sem.run_pure,Result.andThen_ok,List.map_toArray,BJ,List.map_nil,hs,hx,F];exact Z _ _ (h p I w' h2 V X Y)
end
theorem Sl.turned {w w':WD}{A:OA}{n c:Nat}{l:LU}(h:Sl w A n c l){S:NP}(T:Turn S w w')(hA:∀k,q01 A=some k->¬S k):Sl w' A n c l:=
 ⟨h.1,h.2.1,h.2.2.1,λj u q=>by
  obtain⟨f,e,m,p⟩:=h.2.2.2 j u q;refine⟨f,e,by have:=T.size;omega,?_⟩;rw[AY (a:=f.add j) (w':=w') (w:=w) (by rw[q14];exact T.block _ m (hA _ (by rw[e];rfl)))];exact p⟩
theorem Q8.turned {w w':WD}{base:Nat}{e:TypeId}{s:Nat}{A:OA}{n c:Nat}{xs:List (LV)}(h:Q8 w base e s A n c xs){S:NP}(T:Turn S w w')(hA:∀k,q01 A=some k->¬S k):Q8 w' base e s A n c xs:=by
 refine⟨⟨h.1.1,?_⟩,h.2⟩;rcases h.1.2 with f|⟨g,cap,m,f,h1,p,r⟩
 ·exact .inl f
 ·refine .inr ⟨g,cap,m,f,h1,(T.block g (Array.getElem?_eq_some_iff.1 p).1 (hA g ?_)).trans p,r⟩;injection f with f;rw[f];rfl
theorem Q8.Qa {w:WD}{base:Nat}{e:TypeId}{s:Nat}{A:OA}{n c:Nat}{xs:List (LV)}(h:Q8 w base e s A n c xs):∀k,q01 A=some k->base<=k/\k<w.1.size:=by
 intro k m;rcases h.1.2 with⟨f,_⟩|⟨g,cap,p,f,h1,q,r⟩
 ·injection f with f;rw[f] at m;cases m
 ·injection f with f;rw[f] at m;obtain rfl:g=k:=OI m;exact⟨h1,(Array.getElem?_eq_some_iff.1 q).1⟩
section
open Go.ChangeShapes Go.WideShapes Go.ChangeAt Go.Deep
structure Qc where
 k:Kd
 v:LU
structure Qn where
 k:Kd
 a:Int
structure Nd where
 lvl:Int
 items:List Qc
 kids:List Qn
def kvs (k:Kd):LV:=[.int .i64 k.obj,.int .i64 k.kind,.int .i64 k.off]
def Qn.vs (x:Qn):LV:=[.int .i64 x.k.obj,.int .i64 x.k.kind,.int .i64 x.k.off,.int .i64 x.a]
def Qa2 (w:WD)(r:LV)(x:Qc):Prop:=∃B m d,r=[.int .i64 x.k.obj,.int .i64 x.k.kind,.int .i64 x.k.off,.slice B m d]/\Sl w B m d x.v
def J3 (w:WD)(A:OA)(n c:Nat)(xs:List Qc):Prop:=∃f,Jp w 4 A n c f/\f.length=xs.length/\∀(j:Nat) r x,f[j]?=some r->xs[j]?=some x->Qa2 w r x
def Zr (w:WD)(A:OA)(n c:Nat)(xs:List Qn):Prop:=Jp w 4 A n c (xs.map Qn.vs)
def Qa3 (w:WD)(A:OA)(n c:Nat)(xs:List Kd):Prop:=Jp w 3 A n c (xs.map kvs)
section
variable {w w':WD}{n c:Nat}{A:OA}
theorem Qa2.below {r:LV}{x:Qc}(h:Qa2 w r x)(hb:Below w.1.size w w'):Qa2 w' r x:=by
 obtain⟨B,m,d,e,f⟩:=h;exact⟨B,m,d,e,f.below hb⟩
theorem J3.below {xs:List Qc}(h:J3 w A n c xs)(hb:Below w.1.size w w'):J3 w' A n c xs:=by
 obtain⟨f,h1,h2,m⟩:=h;exact⟨f,h1.below hb,h2,λj r x p q=>(m j r x p q).below hb⟩
theorem Zr.below {xs:List Qn}(h:Zr w A n c xs)(hb:Below w.1.size w w'):Zr w' A n c xs:=Jp.below h hb
theorem J3.len {xs:List Qc}(h:J3 w A n c xs):xs.length=n:=by
 obtain⟨f,h1,h2,_⟩:=h;rw[<-h2];exact h1.len
theorem Zr.len {xs:List Qn}(h:Zr w A n c xs):xs.length=n:=by simpa using Jp.len h
theorem Qa3.len {xs:List Kd}(h:Qa3 w A n c xs):xs.length=n:=by simpa using Jp.len h
theorem J3.bounds {xs:List Qc}(h:J3 w A n c xs):n<=c/\c<=maxLen:=by
 obtain⟨f,h1,_⟩:=h;exact⟨h1.cap,h1.max⟩
theorem Zr.bounds {xs:List Qn}(h:Zr w A n c xs):n<=c/\c<=maxLen:=⟨Jp.cap h,Jp.max h⟩
theorem J3.take {xs:List Qc}(h:J3 w A n c xs){k:Nat}(hk:k<=n):J3 w A k c (xs.take k):=by
 obtain⟨p,h1,h2,q⟩:=h;refine⟨p.take k,h1.take hk,by simp[h2],λj r x f m=>?_⟩;rw[List.getElem?_take] at f m;split at f
 ·rename_i u;rw[AA u] at m;exact q j r x f m
 ·cases f
theorem Zr.take {xs:List Qn}(h:Zr w A n c xs){k:Nat}(hk:k<=n):Zr w A k c (xs.take k):=by
 have:=Jp.take h hk;rw[<-List.map_take] at this;exact this
def Zc (xs:List Qc)(j:Nat):Qc:=xs.getD j ⟨⟨0,0,0⟩,[]⟩
def Qk (xs:List Qn)(j:Nat):Qn:=xs.getD j ⟨⟨0,0,0⟩,0⟩
def keyAt (xs:List Kd)(j:Nat):Kd:=xs.getD j ⟨0,0,0⟩
theorem q22 {xs:List Qc}{j:Nat}(h:j<xs.length):xs[j]?=some (Zc xs j):=by simp[Zc,List.getD,h]
theorem q16 {xs:List Qn}{j:Nat}(h:j<xs.length):xs[j]?=some (Qk xs j):=by simp[Qk,List.getD,h]
theorem qtv {xs:List Kd}{j:Nat}(h:j<xs.length):xs[j]?=some (keyAt xs j):=by simp[keyAt,List.getD,h]
theorem J3.cell {xs:List Qc}(h:J3 w A n c xs){j:Nat}(hj:j<n):∃g o B m d,A=some ⟨g,o,none⟩/\g<w.1.size/\w.cell? ⟨g,o+j*4,none⟩=some (.int .i64 (Zc xs j).k.obj)/\w.cell? ⟨g,o+j*4+1,none⟩=some (.int .i64 (Zc xs j).k.kind)/\
  w.cell? ⟨g,o+j*4+2,none⟩=some (.int .i64 (Zc xs j).k.off)/\w.cell? ⟨g,o+j*4+3,none⟩=some (.slice B m d)/\Sl w B m d (Zc xs j).v:=by
 have F:=h.len;obtain⟨p,h1,h2,u⟩:=h;have q:p[j]?=some (p[j]'(by omega)):=AC (by omega);obtain⟨B,m,d,e,E⟩:=u j _ _ q (q22 (by omega));obtain⟨g,o,rfl,y,_,f⟩:=h1.2.2.2 j _ q;rw[e] at f;exact⟨g,o,B,m,d,rfl,y,f 0 _ rfl,f 1 _ rfl,f 2 _ rfl,f 3 _ rfl,E⟩
theorem Zr.cell {xs:List Qn}(h:Zr w A n c xs){j:Nat}(hj:j<n):∃g o,A=some ⟨g,o,none⟩/\g<w.1.size/\w.cell? ⟨g,o+j*4,none⟩=some (.int .i64 (Qk xs j).k.obj)/\w.cell? ⟨g,o+j*4+1,none⟩=some (.int .i64 (Qk xs j).k.kind)/\
  w.cell? ⟨g,o+j*4+2,none⟩=some (.int .i64 (Qk xs j).k.off)/\w.cell? ⟨g,o+j*4+3,none⟩=some (.int .i64 (Qk xs j).a):=by
 have p:=h.len;obtain⟨g,o,rfl,m,_,f⟩:=h.2.2.2 j (Qk xs j).vs (by rw[BA,q16 (by omega)];rfl);exact⟨g,o,rfl,m,f 0 _ rfl,f 1 _ rfl,f 2 _ rfl,f 3 _ rfl⟩
theorem Qa3.cell {xs:List Kd}(h:Qa3 w A n c xs){j:Nat}(hj:j<n):∃g o,A=some ⟨g,o,none⟩/\g<w.1.size/\w.cell? ⟨g,o+j*3,none⟩=some (.int .i64 (keyAt xs j).obj)/\w.cell? ⟨g,o+j*3+1,none⟩=some (.int .i64 (keyAt xs j).kind)/\
  w.cell? ⟨g,o+j*3+2,none⟩=some (.int .i64 (keyAt xs j).off):=by
 have p:=h.len;obtain⟨g,o,rfl,m,_,f⟩:=h.2.2.2 j (kvs (keyAt xs j)) (by rw[BA,qtv (by omega)];rfl);exact⟨g,o,rfl,m,f 0 _ rfl,f 1 _ rfl,f 2 _ rfl⟩
theorem qn5 (w:WD):J3 w none 0 0 []:=⟨[],q6n w 4,rfl,λj r x f=>by simp at f⟩
theorem qn6 (w:WD):Zr w none 0 0 []:=q6n w 4
end
section
variable {H:Type}{enc:TypeId × Value->H}{P:Program}{W:WD}
theorem qpg {g o:Nat}{s:Option Nat}{v:Value}(h:W.cell? ⟨g,o,s⟩=some v):s=none:=by
 cases s with
 |none=>rfl
 |some k=>
  unfold World.cell? at h;split at h<;>simp at h
structure Qdf (P:Program)(t:TypeId)(f0 f1 f2:Field):Prop where
 st:P.underlying t=some (.struct #[f0,f1,f2])
 one:oneCellFields P #[f0,f1,f2]=true
 cells:P.cellsOf t=3
 h0:P.underlying f0.type=some (.int .i64)
 h1:P.underlying f1.type=some (.int .i64)
 h2:P.underlying f2.type=some (.int .i64)
end
end
section
open Go.ChangeMaps (setBlock)
structure DM where
 n:Nat
 Jq:Nat->LU
 Zq:Nat->List (LU)
 off:Bool
 fused:Bool
 left:Nat
 steps:Nat
 cap:Nat
def upd {α:Type}(f:Nat->α)(s:Nat)(x:α):Nat->α:=λk=>if k=s then x else f k
theorem Ci {α:Type}(f:Nat->α)(s:Nat)(x:α):upd f s x s=x:=by simp[upd]
theorem Bv {α:Type}(f:Nat->α){s k:Nat}(x:α)(h:k≠s):upd f s x k=f k:=by simp[upd,h]
def Qb (n:Nat):Prop:=32<=n/\n<=2048
theorem TB:(prog.info? 223).map (λi=>(i.zero,i.size,i.bytes))=some (some (.agg (Array.replicate 256 (.int .u8 0))),256,256):=by kernel_rfl
structure Lay (w:WD)(bp bd bm:Nat)(l:List MapEntry)(clock:Nat)(v:Nat->Value)(S:NP)(D:DM):Prop where
 me:w.heap[bp]?=some (.cells #[.slice (some ⟨bd,0,none⟩) D.n D.cap,.map (some bm),.bool D.off,.bool D.fused,.int .i64 D.left,.int .i64 D.steps] 92 (0,0))
 Jq:∀s,s<D.n->w.rangeAt bd (s*256) (Y2 (D.Jq s))
 Ie:∀s,s<D.n->w.there bd (s*256) 256
 map:w.heap[bm]?=some (.map l.toArray clock)
 ents:Uo l clock
 look:∀s:Nat,Zf s l=if D.Zq s=[] then none else some (v s)
 keys:∀e∈l,∃s:Nat,s<D.n/\kI e=s
 row:∀s,w.ownsRow 0 223 256 (v s) (D.Zq s).length (flat (D.Zq s))
 nil:∀s,D.Zq s=[]->v s=.slice none 0 0
 dl:∀s,(D.Jq s).length=256
 cl:∀s,Oj (D.Zq s)
 out:∀s,D.n<=s->D.Zq s=[]
 Yl:S bp/\S bd/\S bm/\∀s g,(v s).ownBlock=some g->S g
 ne:bp≠bd/\∀s g,(v s).ownBlock=some g->g≠bp/\g≠bd
 sep:∀s s' g,(v s).ownBlock=some g->(v s').ownBlock=some g->s=s'
 n32:Qb D.n
 left:D.left<=9223372036854775807
def Vk (w:WD)(bp:Nat)(S:NP)(D:DM):Prop:=∃bd bm l clock v,Lay w bp bd bm l clock v S D
section
variable {w w':WD}{bp bd bm clock:Nat}{l:List MapEntry}{v:Nat->Value}{S:NP}{D:DM}
theorem Lay.pos (L:Lay w bp bd bm l clock v S D):0<D.n:=by have:=L.n32;unfold Qb at this;omega
theorem Lay.Qaj (L:Lay w bp bd bm l clock v S D):∃c t f,w.1[bd]?=some (.cells c t f):=by
 have h:=(L.Ie 0 L.pos 0 (by omega)).1;unfold World.cell? at h;split at h
 ·rename_i c t f m;exact⟨c,t,f,m⟩
 ·cases h
theorem Lay.Qbf (L:Lay w bp bd bm l clock v S D):bd≠bm:=λe=>by
 obtain⟨c,t,f,h⟩:=L.Qaj;rw[e,L.map] at h;cases h
theorem Lay.Qbg (L:Lay w bp bd bm l clock v S D):bp≠bm:=λe=>by
 have h:=L.me;rw[e,L.map] at h;cases h
theorem Lay.Va (L:Lay w bp bd bm l clock v S D){s g:Nat}(h:(v s).ownBlock=some g):∃c t,w.1[g]?=some (.cells c t (0,0)):=by
 rcases (L.row s).2 with⟨f,_⟩|⟨q,cap,m,f,_,p,_⟩
 ·rw[f] at h;cases h
 ·rw[f] at h;cases h;exact⟨_,_,p⟩
theorem Lay.Qaw (L:Lay w bp bd bm l clock v S D){s g:Nat}(h:(v s).ownBlock=some g):g≠bm:=λe=>by
 obtain⟨c,t,f⟩:=L.Va h;rw[e,L.map] at f;cases f
theorem Lay.keep (L:Lay w bp bd bm l clock v S D)(hk:∀k,k<w.1.size->S k->w'.1[k]?=w.1[k]?):Lay w' bp bd bm l clock v S D:=by
 obtain⟨c,t,B,f⟩:=L.Qaj;have u:=hk bp (Ky L.me) L.Yl.1;have p:=hk bd (Ky f) L.Yl.2.1;have y:=hk bm (Ky L.map) L.Yl.2.2.1;exact⟨u.trans L.me,λs m=>q5v (L.Jq s m) p,λs m=>q8m (L.Ie s m) p,y.trans L.map,L.ents,L.look,L.keys,
  λs=>q3d (L.row s) λg q=>by obtain⟨c,t,h⟩:=L.Va q;exact hk g (Ky h) (L.Yl.2.2.2 s g q),L.nil,L.dl,L.cl,L.out,L.Yl,L.ne,L.sep,L.n32,L.left⟩
theorem Lay.mono {S':NP}(L:Lay w bp bd bm l clock v S D)(h:∀k,k<w.1.size->S k->S' k):Lay w bp bd bm l clock v S' D:=by
 obtain⟨c,t,p,f⟩:=L.Qaj;exact⟨L.me,L.Jq,L.Ie,L.map,L.ents,L.look,L.keys,L.row,L.nil,L.dl,L.cl,L.out,
  ⟨h _ (Ky L.me) L.Yl.1,h _ (Ky f) L.Yl.2.1,h _ (Ky L.map) L.Yl.2.2.1,λs g m=>by obtain⟨c,t,h2⟩:=L.Va m;exact h g (Ky h2) (L.Yl.2.2.2 s g m)⟩,L.ne,L.sep,L.n32,L.left⟩
theorem Lay.struct (L:Lay w bp bd bm l clock v S D)(off fused:Bool)(left steps:Nat)(hl:left<=9223372036854775807)
  (h1:w'.1[bp]?=some (.cells #[.slice (some ⟨bd,0,none⟩) D.n D.cap,.map (some bm),.bool off,.bool fused,.int .i64 left,.int .i64 steps] 92 (0,0)))
  (h2:∀k,k<w.1.size->k≠bp->w'.1[k]?=w.1[k]?):Lay w' bp bd bm l clock v S { D with off:=off,fused:=fused,left:=left,steps:=steps }:=by
 obtain⟨c,t,y,f⟩:=L.Qaj;have p:=h2 bd (Ky f) (λe=>L.ne.1 e.symm);have u:=h2 bm (Ky L.map) (λe=>L.Qbg e.symm);exact⟨h1,λs m=>q5v (L.Jq s m) p,λs m=>q8m (L.Ie s m) p,u.trans L.map,L.ents,L.look,L.keys,
  λs=>q3d (L.row s) λg q=>by obtain⟨c,t,h⟩:=L.Va q;exact h2 g (Ky h) (L.ne.2 s g q).1,L.nil,L.dl,L.cl,L.out,L.Yl,L.ne,L.sep,L.n32,hl⟩
theorem Lay.Qb8 (L:Lay w bp bd bm l clock v S D)(s:Nat)(x:LU)(hx:x.length=256)
  (h1:∀k,k<w.1.size->k≠bd->w'.1[k]?=w.1[k]?) (h2:s<D.n->w'.rangeAt bd (s*256) (Y2 x)) (h3:∀z,z<D.n->z≠s->w'.rangeAt bd (z*256) (Y2 (D.Jq z))) (h4:∀z,z<D.n->w'.there bd (z*256) 256) :
  Lay w' bp bd bm l clock v S { D with Jq:=upd D.Jq s x }:=by
 have q:=h1 bp (Ky L.me) L.ne.1;have u:=h1 bm (Ky L.map) (λe=>L.Qbf e.symm);refine⟨q.trans L.me,λz p=>?_,h4,u.trans L.map,L.ents,L.look,L.keys,
  λs=>q3d (L.row s) λg m=>by obtain⟨c,t,h⟩:=L.Va m;exact h1 g (Ky h) (L.ne.2 s g m).2,L.nil,λz=>?_,L.cl,L.out,L.Yl,L.ne,L.sep,L.n32,L.left⟩
 ·show w'.rangeAt bd (z*256) (Y2 (upd D.Jq s x z));by_cases f:z=s
  ·subst f;rw[Ci];exact h2 p
  ·rw[Bv _ _ f];exact h3 z p f
 ·show (upd D.Jq s x z).length=256;by_cases f:z=s
  ·rw[f,Ci];exact hx
  ·rw[Bv _ _ f];exact L.dl z
theorem Lay.store (L:Lay w bp bd bm l clock v S D)(s:Nat)(hs:s<D.n)(x:LU)(hx:x.length=256) :
  Lay (w.setCells bd (s*256) (Y2 x)) bp bd bm l clock v S { D with Jq:=upd D.Jq s x }:=by
 have p:=Vp (S:=λk=>k=bd) (b:=bd) rfl (Y2 x) (s*256) w;refine L.Qb8 s x hx (λk q hn=>p.block k q hn) (λ_=>World.rangeAt_setCells_same _ _ _ _ ?_) (λz f m=>World.rangeAt_setCells_apart (L.Jq z f) _ _ _ ?_) λz f=>World.there_setCells (L.Ie z f) _ _ _
 ·rw[Oe,hx];exact L.Ie s hs
 ·rw[Oe,Oe,hx,L.dl z];rcases Nat.lt_or_gt_of_ne m with h|h
  ·right;left;omega
  ·right;right;omega
theorem Lay.Qax (L:Lay w bp bd bm l clock v S D)(s:Nat)(hs:s<D.n){l':List MapEntry}{clock':Nat}{S':NP}(v1:Value)(ls:List (LU))(hls:Oj ls)
  (hS:∀k,k<w.1.size->S k->S' k) (h1:∀k,k<w.1.size->k≠bm->some k≠(v s).ownBlock->w'.1[k]?=w.1[k]?) (hm:w'.1[bm]?=some (.map l'.toArray clock')) (hE:Uo l' clock')
  (hlook:∀z:Nat,Zf z l'=if z=s then (if ls=[] then none else some v1) else Zf z l) (hkeys:∀e∈l',e∈l\/kI e=s)
  (hrow:w'.ownsRow 0 223 256 v1 ls.length (flat ls)) (hnil:ls=[]->v1=.slice none 0 0)
  (hat:v1.ownBlock=none\/v1.ownBlock=(v s).ownBlock\/∃g,v1.ownBlock=some g/\w.1.size<=g/\S' g) :
  Lay w' bp bd bm l' clock' (upd v s v1) S' { D with Zq:=upd D.Zq s ls }:=by
 obtain⟨c,t,R,B⟩:=L.Qaj;have G:=Ky L.me;have I:=Ky B;have K:=Ky L.map;have M:=h1 bp G L.Qbg (λe=>(L.ne.2 s bp e.symm).1 rfl);have J:=h1 bd I L.Qbf (λe=>(L.ne.2 s bd e.symm).2 rfl);have p:∀z g,(upd v s v1 z).ownBlock=some g->(z≠s/\(v z).ownBlock=some g)\/(z=s/\((v s).ownBlock=some g\/(w.1.size<=g/\S' g))):=by
  intro z g m;by_cases f:z=s
  ·subst f;rw[Ci] at m;rcases hat with h|h|⟨T,h,h2,O⟩
   ·rw[h] at m;cases m
   ·exact .inr ⟨rfl,.inl (h▸m)⟩
   ·rw[h] at m;cases m;exact .inr ⟨rfl,.inr ⟨h2,O⟩⟩
  ·rw[Bv _ _ f] at m;exact .inl ⟨f,m⟩
 have u:∀z g,(v z).ownBlock=some g->g<w.1.size:=λz g m=>by obtain⟨c,t,h⟩:=L.Va m;exact Ky h
 refine⟨M.trans L.me,λz f=>q5v (L.Jq z f) J,λz f=>q8m (L.Ie z f) J,hm,hE,λz=>?_,λe Q=>?_,λz=>?_,λz f=>?_,L.dl,λz=>?_,λz f=>?_,
  ⟨hS _ G L.Yl.1,hS _ I L.Yl.2.1,hS _ K L.Yl.2.2.1,λz g m=>?_⟩,⟨L.ne.1,λz g m=>?_⟩,λz y g m E=>?_,L.n32,L.left⟩
 ·rw[hlook z];show _=if upd D.Zq s ls z=[] then none else some (upd v s v1 z)
  by_cases f:z=s
  ·rw[f,AA rfl,Ci,Ci]
  ·rw[AB f,Bv _ _ f,Bv _ _ f];exact L.look z
 ·rcases hkeys e Q with h|h
  ·exact L.keys e h
  ·exact⟨s,hs,h⟩
 ·show w'.ownsRow 0 _ 256 (upd v s v1 z) (upd D.Zq s ls z).length (flat (upd D.Zq s ls z));by_cases f:z=s
  ·rw[f,Ci,Ci];exact hrow
  ·rw[Bv _ _ f,Bv _ _ f];exact q3d (L.row z) λg m=>h1 g (u z g m) (L.Qaw m) λe=>f (L.sep z s g m e.symm)
 ·show upd v s v1 z=_;by_cases q:z=s
  ·subst q;rw[Ci];exact hnil (by simpa [Ci] using f)
  ·rw[Bv _ _ q];exact L.nil z (by simpa [Bv _ _ q] using f)
 ·show Oj (upd D.Zq s ls z);by_cases q:z=s
  ·rw[q,Ci];exact hls
  ·rw[Bv _ _ q];exact L.cl z
 ·show upd D.Zq s ls z=[];have:D.n<=z:=f;rw[Bv _ _ (by omega)];exact L.out z f
 ·rcases p z g m with⟨_,h⟩|⟨_,h|h⟩
  ·exact hS _ (u z g h) (L.Yl.2.2.2 z g h)
  ·exact hS _ (u s g h) (L.Yl.2.2.2 s g h)
  ·exact h.2
 ·rcases p z g m with⟨_,h⟩|⟨_,h|h⟩
  ·exact L.ne.2 z g h
  ·exact L.ne.2 s g h
  ·omega
 ·rcases p z g m with⟨h0,h⟩|⟨h0,h⟩<;>rcases p y g E with⟨F,k⟩|⟨F,k⟩
  ·exact L.sep z y g h k
  ·rcases k with k|k
   ·rw[F];exact L.sep z s g h k
   ·have:=u z g h;omega
  ·rcases h with h|h
   ·rw[h0];exact L.sep s y g h k
   ·have:=u y g k;omega
  ·rw[h0,F]
theorem Lay.forget (L:Lay w bp bd bm l clock v S D)(s:Nat)(hs:s<D.n) :
  Lay (setBlock w bm (.map (Ye s l).toArray clock)) bp bd bm (Ye s l) clock (upd v s (.slice none 0 0)) S { D with Zq:=upd D.Zq s [] }:=by
 have f:=q0t (w:=w) (S:=λk=>k=bm) (b:=bm) (.map (Ye s l).toArray clock) rfl;refine L.Qax s hs _ [] (by simp[Oj]) (λ_ _ h=>h) (λk p hn _=>f.block k p hn) (q2a (Ky L.map)) (L.ents.del s) (λz=>?_) (λe m=>.inl (q69 m)) (World.ownsRow_nil _ _ _ _) (λ_=>rfl) (.inl rfl);rw[q9p z L.ents.one,AA rfl];by_cases h:z=s
 ·subst h;simp
 ·rw[AB (by omega),AB h]
end
end
section
variable {w:WD}{bp bd bm clock:Nat}{l:List MapEntry}{v:Nat->Value}{S:NP}{D:DM}
theorem Lay.c0 (L:Lay w bp bd bm l clock v S D):w.cell? ⟨bp,0,none⟩=some (.slice (some ⟨bd,0,none⟩) D.n D.cap):=by rw[cell_of_row w bp 0 _ _ _ L.me];rfl
theorem Lay.c1 (L:Lay w bp bd bm l clock v S D):w.cell? ⟨bp,1,none⟩=some (.map (some bm)):=by rw[cell_of_row w bp 1 _ _ _ L.me];rfl
theorem Lay.c2 (L:Lay w bp bd bm l clock v S D):w.cell? ⟨bp,2,none⟩=some (.bool D.off):=by rw[cell_of_row w bp 2 _ _ _ L.me];rfl
theorem Lay.c3 (L:Lay w bp bd bm l clock v S D):w.cell? ⟨bp,3,none⟩=some (.bool D.fused):=by rw[cell_of_row w bp 3 _ _ _ L.me];rfl
theorem Lay.c4 (L:Lay w bp bd bm l clock v S D):w.cell? ⟨bp,4,none⟩=some (.int .i64 D.left):=by rw[cell_of_row w bp 4 _ _ _ L.me];rfl
theorem Lay.c5 (L:Lay w bp bd bm l clock v S D):w.cell? ⟨bp,5,none⟩=some (.int .i64 D.steps):=by rw[cell_of_row w bp 5 _ _ _ L.me];rfl
theorem Lay.fz (L:Lay w bp bd bm l clock v S D)(j:Nat):w.frozen? ⟨bp,j,none⟩=false:=by simp[World.frozen?,L.me]
end
theorem qfo {w:WD}{bp bd bm clock:Nat}{l:List MapEntry}{v:Nat->Value}{S:NP}{D:DM}(L:Lay w bp bd bm l clock v S D)(s:Int) :
  Calls prog 138 #[.pointer (some ⟨bp,0,none⟩),.int .i64 s] w λe w'=>e=.returned (.bool (decide (0<=s/\s<(D.n:Int))))/\w=w':=by
 have c0:=L.c0;go_enter func138,ntmps138
 by_cases h0:0<=s
 ·by_cases h1:s<(D.n:Int)
  ·go_wp2;go_ret;simp[h0,h1]
  ·go_wp2;go_ret;simp[h1];try omega
 ·go_wp2;go_ret;simp;intro;omega
theorem qa3 {w:WD}{bp bd bm clock:Nat}{l:List MapEntry}{v:Nat->Value}{S:NP}{D:DM}(L:Lay w bp bd bm l clock v S D) :
  Calls prog 45 #[.pointer (some ⟨bp,0,none⟩)] w λe w'=>e=.returned (.int .i64 (D.n:Int))/\w=w':=by
 have c0:=L.c0;go_enter func45,ntmps45
 go_wp2;go_ret;exact⟨rfl,rfl⟩
theorem qCi {w:WD}{bp bd bm clock:Nat}{l:List MapEntry}{v:Nat->Value}{S:NP}{D:DM}(L:Lay w bp bd bm l clock v S D) :
  Calls prog 81 #[.pointer (some ⟨bp,0,none⟩)] w λe w'=>e=.returned (.bool (!D.off))/\w=w':=by
 have c0:=L.c2;go_enter func81,ntmps81
 go_wp2;go_ret;exact⟨rfl,rfl⟩
def md (x:Int)(m:Nat):Nat:=((if x<0 then -(x+1) else x) % (m:Int)).toNat
theorem qCj (x:Int){m:Nat}(h:0<m):md x m<m:=by
 unfold md;have h1:=Int.emod_nonneg (if x<0 then -(x+1) else x) (show (m:Int)≠0 by omega);have h2:=Int.emod_lt_of_pos (if x<0 then -(x+1) else x) (show (0:Int)<m by omega);omega
theorem qCk {x:Int}(m:Nat)(h:0<=x)(hm:0<m):x.tmod (m:Int)=(md x m:Int):=by
 unfold md;rw[AB (by omega),Int.tmod_eq_emod_of_nonneg h];have:=Int.emod_nonneg x (show (m:Int)≠0 by omega);omega
theorem qCl {x:Int}(m:Nat)(h:x<0)(hm:0<m):(-(x+1)).tmod (m:Int)=(md x m:Int):=by
 unfold md;rw[AA h,Int.tmod_eq_emod_of_nonneg (by omega)];have:=Int.emod_nonneg (-(x+1)) (show (m:Int)≠0 by omega);omega
def DM.stop (D:DM):Bool:=D.off||(D.fused&&decide (D.left=0))
def DM.stepD (D:DM):DM:={ D with off:=D.stop,left:=if D.stop then D.left else if D.fused then D.left-1 else D.left,steps:=if D.stop then D.steps else D.steps+1 }
def DM.err (D:DM):Int:=if D.stop then 4 else 0
theorem Lay.off1 {w:WD}{bp bd bm clock:Nat}{l:List MapEntry}{v:Nat->Value}{S:NP}{D:DM}(L:Lay w bp bd bm l clock v S D)(b:Bool) :
  Lay (w.setCell ⟨bp,2,none⟩ (.bool b)) bp bd bm l clock v S { D with off:=b }:=
 L.struct b D.fused D.left D.steps L.left (by rw[Fv _ L.me];rfl) λk _ hn=>Below.heap_setCell _ _ _ _ hn
theorem Lay.left1 {w:WD}{bp bd bm clock:Nat}{l:List MapEntry}{v:Nat->Value}{S:NP}{D:DM}(L:Lay w bp bd bm l clock v S D)(n:Nat)(hn:n<=9223372036854775807){x:Int}(hx:x=(n:Int)) :
  Lay (w.setCell ⟨bp,4,none⟩ (.int .i64 x)) bp bd bm l clock v S { D with left:=n }:=by
 subst hx;exact L.struct D.off D.fused n D.steps hn (by rw[Fv _ L.me];rfl) λk _ hn=>Below.heap_setCell _ _ _ _ hn
theorem Lay.Qay {w:WD}{bp bd bm clock:Nat}{l:List MapEntry}{v:Nat->Value}{S:NP}{D:DM}(L:Lay w bp bd bm l clock v S D)(n:Nat){x:Int}(hx:x=(n:Int)) :
  Lay (w.setCell ⟨bp,5,none⟩ (.int .i64 x)) bp bd bm l clock v S { D with steps:=n }:=by
 subst hx;exact L.struct D.off D.fused D.left n L.left (by rw[Fv _ L.me];rfl) λk _ hn=>Below.heap_setCell _ _ _ _ hn
theorem qbv {bp:Nat}(w:WD)(j:Nat)(u:Value):Turn (λk=>k=bp) w (w.setCell ⟨bp,j,none⟩ u):=Gw u rfl
theorem qn7 {w:WD}{bp bd bm clock:Nat}{l:List MapEntry}{v:Nat->Value}{S:NP}{D:DM}(L:Lay w bp bd bm l clock v S D)(m:D.steps<=1000000000) :
  Calls prog 139 #[.pointer (some ⟨bp,0,none⟩)] w λe w'=>e=.returned (.int .i64 D.err)/\Lay w' bp bd bm l clock v S D.stepD/\Turn (λk=>k=bp) w w':=by
 have c2:=L.c2;have c3:=L.c3;have c4:=L.c4;have c5:=L.c5;have y:=L.fz 2;have B:=L.fz 4;have f5:=L.fz 5;have f:=L.left;obtain⟨n,Jq,Zq,off,fused,left,steps,cap⟩:=D;simp only at c2 c3 c4 c5 m f
 cases off with
 |true=>
  rw[show (DM.stepD ⟨n,Jq,Zq,true,fused,left,steps,cap⟩)=⟨n,Jq,Zq,true,fused,left,steps,cap⟩ from rfl,show (DM.err ⟨n,Jq,Zq,true,fused,left,steps,cap⟩)=4 from rfl]
  cases fused with
  |true=>
   by_cases h0:left=0
   ·subst h0;go_enter func139,ntmps139
    go_wp2;go_ret;exact⟨rfl,L.off1 true,qbv _ _ _⟩
   ·go_enter func139,ntmps139
    go_wp2;go_ret;exact⟨rfl,L,Turn.refl _ _⟩
  |false=>
   go_enter func139,ntmps139
   go_wp2;go_ret;exact⟨rfl,L,Turn.refl _ _⟩
 |false=>
  cases fused with
  |true=>
   by_cases h0:left=0
   ·subst h0;rw[show (DM.stepD ⟨n,Jq,Zq,false,true,0,steps,cap⟩)=⟨n,Jq,Zq,true,true,0,steps,cap⟩ from rfl,show (DM.err ⟨n,Jq,Zq,false,true,0,steps,cap⟩)=4 from rfl];go_enter func139,ntmps139
    go_wp2;go_ret;exact⟨rfl,L.off1 true,qbv _ _ _⟩
   ·have p:(DM.stop ⟨n,Jq,Zq,false,true,left,steps,cap⟩)=false:=by simp[DM.stop,h0]
    have q:(DM.stepD ⟨n,Jq,Zq,false,true,left,steps,cap⟩)=⟨n,Jq,Zq,false,true,left-1,steps+1,cap⟩:=by simp[DM.stepD,p]
    have u:(DM.err ⟨n,Jq,Zq,false,true,left,steps,cap⟩)=0:=by simp[DM.err,p]
    rw[q,u];go_enter func139,ntmps139
    go_wp2;go_ret;exact⟨rfl,(L.left1 (left-1) (by omega) (by omega)).Qay (steps+1) (by omega),(qbv _ _ _).then (qbv _ _ _)⟩
  |false=>
   rw[show (DM.stepD ⟨n,Jq,Zq,false,false,left,steps,cap⟩)=⟨n,Jq,Zq,false,false,left,steps+1,cap⟩ from rfl,show (DM.err ⟨n,Jq,Zq,false,false,left,steps,cap⟩)=0 from rfl];go_enter func139,ntmps139
   go_wp2;go_ret;exact⟨rfl,L.Qay (steps+1) (by omega),qbv _ _ _⟩
