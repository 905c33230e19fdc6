/- What the reference's Read answers, as plain data; its takes as one contract each -/
import Derived.Test.YtloolbmdiimanaaGreatDoorGv8
namespace Go.Proofs.YtloolbmdiimanaaGreatDoor
open Go Go.RowKit Go.Proofs Tryz
theorem Qbb (s:ByteArray)(w:WD):(convert 9 22 (.string s)).run prog w=.ok (.slice (some ⟨w.1.size,0,none⟩) s.size (grownCap w s.size 0 5)) (Lib.bytesWorld w 5 s):=
 Lib.run_convert_string_bytes w 9 22 5 s underlying9 underlying22 underlying5
def ttY (l:LU):Bool:=decide (1<=l.length/\1+Qq (l.take 1)<=l.length)
def Lc (l:LU):LU:=if ttY l=true then bodyT l 1 else []
def Nj (l:LU):LU:=if ttY l=true then Uz l 1 else []
def Ir (l:LU):Int:=if ttY l=true then 0 else 2
theorem qyb (l:LU):(Lc l).length<=l.length:=by
 unfold Lc;split
 ·exact ql1 l 1
 ·simp
theorem qvk (l:LU):(Wl l).length<=l.length:=by
 unfold Wl;split<;>simp
def t2Y (l:LU):Bool:=decide (2<=l.length)
def Pm (l:LU):Int:=if t2Y l=true then (Qq (l.take 2):Int) else 0
def Nh (l:LU):LU:=if t2Y l=true then l.drop 2 else []
def Iq (l:LU):Int:=if t2Y l=true then 0 else 2
def Xa (N:Nd)(r:LU):Option (Nd × LU):=
 if U8 r=0 then
  if N.lvl=0 then if Ir (Wl r)=0 then some (⟨N.lvl,N.items++[⟨Gx r,Lc (Wl r)⟩],N.kids⟩,Nj (Wl r)) else none
  else if Iq (Wl r)=0 then some (⟨N.lvl,N.items,N.kids++[⟨Gx r,Pm (Wl r)⟩]⟩,Nh (Wl r)) else none
 else none
def Js (l:Int)(body:LU):Nat->Option (Nd × LU)
 |0=>some (⟨l,[],[]⟩,body)
 |j+1=>match Js l body j with
  |some (N,r)=>Xa N r
  |none=>none
theorem q4m (l:Int)(body:LU)(j:Nat)(N:Nd)(r:LU)(h:Js l body j=some (N,r)):Js l body (j+1)=Xa N r:=by
 show (match Js l body j with|some (N,r)=>Xa N r|none=>none)=_;rw[h]
theorem qa5 (l:Int)(body:LU)(j k:Nat)(h:Js l body j=none)(g:j<=k):Js l body k=none:=by
 induction k with
 |zero=>
  obtain rfl:j=0:=by omega
  exact h
 |succ k ih=>
  rcases (by omega:j<=k\/j=k+1) with h1|rfl
  ·show (match Js l body k with|some (N,r)=>Xa N r|none=>none)=_;rw[ih h1]
  ·exact h
def qe1 (b:LU):Nat:=min (Xo b).count.toNat 20
def qe2 (b:LU)(addr gen:Int):Option (Nd × LU)->Option Nd
 |some (N,_)=>if Zh N addr gen=0/\Jr N addr gen=b then some N else none
 |none=>none
def Ip (b:LU)(addr:Int):Option Nd:=if Me b=0 then qe2 b addr (Xo b).gen (Js (Xo b).level (Un b) (qe1 b)) else none
theorem qvl {b:LU}(h:Me b=0):(Xo b).ok=true:=by
 cases g:okB b
 ·obtain⟨_,_,p⟩:=qh8 g;rw[p] at h;omega
 ·obtain⟨h1,_,_⟩:=q5y g;rw[h1];exact (AK g).2.2.1
theorem Nq:Az prog 77 84 4 48 (.agg #[.int .i64 0,.int .i64 0,.int .i64 0,.slice none 0 0]):=⟨underlying77,by kernel_rfl,rfl,by omega⟩
theorem Qah:Az prog 106 159 4 32 (.agg #[.int .i64 0,.int .i64 0,.int .i64 0,.int .i64 0]):=⟨underlying106,by kernel_rfl,rfl,by omega⟩
theorem Sl.turned' {w w':WD}{A:OA}{n c:Nat}{l:LU}(h:Sl w A n c l){S:NP}(T:Turn S w w')(hA:l≠[]->∀k,q01 A=some k->¬S k):Sl w' A n c l:=by
 by_cases g:l=[]
 ·subst g;exact⟨h.1,h.2.1,h.2.2.1,λj u p=>by simp at p⟩
 ·exact h.turned T (hA g)
theorem Sl.Qc {w:WD}{A:OA}{n c:Nat}{l:LU}(h:Sl w A n c l)(hl:l≠[]):∀k,q01 A=some k->k<w.1.size:=by
 intro k u;have hn:0<n:=by have:=h.len;have:l.length≠0:=λe=>hl (BF e);omega
 obtain⟨g,rfl,p,_⟩:=h.cell hn;obtain rfl:g.block=k:=OI u;exact p
def Vg (k:Kd)(V:OA)(p q:Nat):LV:=[.int .i64 k.obj,.int .i64 k.kind,.int .i64 k.off,.slice V p q]
def J5 (w:WD)(base:Nat)(A:OA)(n c:Nat)(xs:List Qb):Prop:=
 ∃u,Qz w base 84 4 A n c u/\u.length=xs.length/\∀(j:Nat) r x,u[j]?=some r->xs[j]?=some x->∃V p q,r=Vg x.k V p q/\Sl w V p q x.v/\(x.v≠[]->∀g,q01 V=some g->base<=g/\q01 A≠some g)
section
variable {w w':WD}{base n c:Nat}{A:OA}{xs:List Qb}
theorem P6 (w:WD)(base:Nat):J5 w base none 0 0 []:=⟨[],I5 _ _ _ _,rfl,λj r x g=>by simp at g⟩
theorem J5.below (h:J5 w base A n c xs)(hb:Below w.1.size w w'):J5 w' base A n c xs:=by
 obtain⟨u,h1,h2,y⟩:=h;refine⟨u,h1.below hb,h2,λj r x D G=>?_⟩;obtain⟨V,p,q,e,E,g⟩:=y j r x D G;exact⟨V,p,q,e,E.below hb,g⟩
theorem J5.Y6 (h:J5 w base A n c xs):Ji w A n c xs:=by
 obtain⟨g,h1,h2,u⟩:=h;refine⟨g,h1.Um (by omega),h2,λj r x y E=>?_⟩;obtain⟨V,p,q,e,D,_⟩:=u j r x y E;exact⟨V,p,q,e,D⟩
theorem J5.Qc (h:J5 w base A n c xs):∀k,q01 A=some k->base<=k/\k<w.1.size:=by
 obtain⟨g,h1,_⟩:=h;exact h1.Qc
theorem J5.low (h:J5 w base A n c xs){S:NP}(T:Turn S w w')(hS:∀k,S k->k<base):J5 w' base A n c xs:=by
 obtain⟨y,h1,h2,D⟩:=h;refine⟨y,h1.turned T (λk u e=>by have:=(h1.Qc k u).1;have:=hS k e;omega),h2,λj r x G I=>?_⟩;obtain⟨V,p,q,e,H,g⟩:=D j r x G I;exact⟨V,p,q,e,H.turned' T (λE k u e=>by have:=(g E k u).1;have:=hS k e;omega),g⟩
end
theorem qjn (k:Kd)(V:OA)(p q:Nat):∀y∈[Vg k V p q],∀u∈y,u.oneCell'=true:=by
 intro y D u g;obtain rfl:y=Vg k V p q:=by simpa using D
 simp[Vg] at g;rcases g with rfl|rfl|rfl|rfl<;>rfl
theorem q5w {w:WD}{R:Array Oper}{E:List Oper}{o:Oper}{a:Act}{Q:Exit->Act->WD->Prop}(a0:o.guard=none)(so x:Operand)
  (ho:o.op=.call { callee:=.builtin .append,args:=#[so,x],argTypes:=#[77,77] })
  (base:Nat) (A:OA) (n c:Nat) (xs:List Qb) (X:a.eval so=.slice A n c) (P:J5 w base A n c xs)
  (B:OA) (d:Nat) (D:Qb) (V:OA) (p q:Nat) (I:a.eval x=.slice B 1 d) (y:Jy w 4 B 1 d [Vg D.k V p q]) (hv:Sl w V p q D.v) (a2:D.v≠[]->∀g,q01 V=some g->base<=g/\q01 A≠some g) (hn:n<=100000) (H:base<=w.1.size)
  (h:∀G W w',J5 w' base G (n+1) W (xs++[D])->Turn (λk=>q01 A=some k) w w'->(q01 G=q01 A\/q01 G=some w.1.size)->wpList prog R Q E (a.put o.dst (.slice G (n+1) W)) w'):wpList prog R Q (o::E) a w:=by
 obtain⟨J,h1,h2,h3⟩:=P;refine q47 w Nq a0 so x ho base A n c J X h1 B 1 d [Vg D.k V p q] I y (by omega) (qjn _ _ _ _) (by omega) (by omega) H ?_;intro G W w' U T K _;refine h G W w' ⟨_,U,by simp[h2],λj r x y I=>?_⟩ T K;have old:∀(V:OA) (p q:Nat) (v:LU),Sl w V p q v->(v≠[]->∀g,q01 V=some g->base<=g/\q01 A≠some g)->Sl w' V p q v/\(v≠[]->∀g,q01 V=some g->base<=g/\q01 G≠some g):=by
  intro V p q v X u;refine⟨X.turned' T (λO k hk e=>(u O k hk).2 e),λO g Z=>⟨(u O g Z).1,λe=>?_⟩⟩;rcases K with Y|Y
  ·exact (u O g Z).2 (Y.symm.trans e)
  ·have:=X.Qc O g Z;rw[Y] at e;have:=OI e;omega
 by_cases hj:j<J.length
 ·rw[List.getElem?_append_left hj] at y;rw[List.getElem?_append_left (by omega)] at I;obtain⟨V',p',q',e,a1,u⟩:=h3 j r x y I;obtain⟨o1,o2⟩:=old V' p' q' x.v a1 u;exact⟨V',p',q',e,o1,o2⟩
 ·rw[List.getElem?_append_right (by omega)] at y I;have M:j-J.length=0:=by
   have:=(List.getElem?_eq_some_iff.1 y).1;simp at this;omega
  rw[M] at y;rw[<-h2,M] at I;obtain rfl:Vg D.k V p q=r:=by simpa using y
  obtain rfl:D=x:=by simpa using I
  obtain⟨o1,o2⟩:=old V p q D.v hv a2;exact⟨V,p,q,rfl,o1,o2⟩
section
variable {w w':WD}{s n c:Nat}{A:OA}
theorem Jy.drop {xs:List (LV)}(h:Jy w s A n c xs){k:Nat}(hk:k<=n):Jy w s (if c=k then A else A.map (·.add (k*s))) (n-k) (c-k) (xs.drop k):=by
 have H:=h.len;have E:=h.cap;have hm:=h.max;refine⟨by rw[AS];omega,by omega,by omega,λj x p=>?_⟩;rw[List.getElem?_drop] at p;have G:=(List.getElem?_eq_some_iff.1 p).1;obtain⟨g,o,rfl,y,u,D⟩:=h.2.2.2 _ x p;rw[AB (by omega)];refine⟨g,o+k*s,by rw[Option.map_some,Addr.add_mid],y,u,?_⟩;have e:o+k*s+j*s=o+(k+j)*s:=by rw[Nat.add_mul];omega
 rw[e];exact D
theorem Ji.drop {xs:List Qb}(h:Ji w A n c xs){k:Nat}(hk:k<=n):Ji w (if c=k then A else A.map (·.add (k*4))) (n-k) (c-k) (xs.drop k):=by
 obtain⟨g,h1,h2,y⟩:=h;refine⟨g.drop k,h1.drop hk,by rw[AS,AS,h2],λj r x p u=>?_⟩;rw[List.getElem?_drop] at p u;exact y _ r x p u
theorem Ji.sub {xs:List Qb}(h:Ji w A n c xs){i j:Nat}(hi:i<=j)(hj:j<=n):Ji w (if c=i then A else A.map (·.add (i*4))) (j-i) (c-i) ((xs.drop i).take (j-i)):=(h.drop (by omega)).take (by omega)
theorem Zn.drop {xs:List Qk}(h:Zn w A n c xs){k:Nat}(hk:k<=n):Zn w (if c=k then A else A.map (·.add (k*4))) (n-k) (c-k) (xs.drop k):=by
 have:=Jy.drop h hk;rw[<-List.map_drop] at this;exact this
theorem Zn.sub {xs:List Qk}(h:Zn w A n c xs){i j:Nat}(hi:i<=j)(hj:j<=n):Zn w (if c=i then A else A.map (·.add (i*4))) (j-i) (c-i) ((xs.drop i).take (j-i)):=(h.drop (by omega)).take (by omega)
end
def Vj (l:Int)(A:OA)(n c:Nat)(B:OA)(m d:Nat):LV:=[.int .i64 l,.slice A n c,.slice B m d]
theorem qsz (l:Int)(A:OA)(n c:Nat)(B:OA)(m d:Nat):∀y∈[Vj l A n c B m d],∀u∈y,u.oneCell'=true:=by
 intro y p u g;obtain rfl:y=Vj l A n c B m d:=by simpa using p
 simp[Vj] at g;rcases g with rfl|rfl|rfl<;>rfl
def Qbu (Q:WD->Prop)(r:LV)(N:Nd):Prop:=∃A n c B m d,r=Vj N.lvl A n c B m d/\n<=1000/\m<=1000/\∀w,Q w->Ji w A n c N.items/\Zn w B m d N.kids
def Qbv (Q:WD->Prop)(w:WD)(base:Nat)(A:OA)(n c:Nat)(Ns:List Nd):Prop:=
 ∃g,Qz w base 108 3 A n c g/\g.length=Ns.length/\∀(j:Nat) r N,g[j]?=some r->Ns[j]?=some N->Qbu Q r N
def Ndl (Q:WD->Prop)(w:WD)(A:OA)(n c:Nat)(Ns:List Nd):Prop:=
 ∃g,Jy w 3 A n c g/\g.length=Ns.length/\∀(j:Nat) r N,g[j]?=some r->Ns[j]?=some N->Qbu Q r N
section
variable {Q:WD->Prop}{w w':WD}{base n c:Nat}{A:OA}{Ns:List Nd}
theorem Ndl.len (h:Ndl Q w A n c Ns):Ns.length=n:=by
 obtain⟨g,h1,h2,_⟩:=h;rw[<-h2];exact h1.len
def U7 (Ns:List Nd)(j:Nat):Nd:=Ns.getD j ⟨0,[],[]⟩
theorem q55 {j:Nat}(h:j<Ns.length):Ns[j]?=some (U7 Ns j):=by simp[U7,List.getD,h]
theorem Ndl.get (h:Ndl Q w A n c Ns){j:Nat}(hj:j<n):∃g o D u c1 E p G,A=some ⟨g,o,none⟩/\g<w.1.size/\w.rangeAt g (o+j*3) (Vj (U7 Ns j).lvl D u c1 E p G)/\u<=1000/\p<=1000/\∀w',Q w'->Ji w' D u c1 (U7 Ns j).items/\Zn w' E p G (U7 Ns j).kids:=by
 have R:=h.len;obtain⟨y,h1,h2,J⟩:=h;have I:y[j]?=some (y[j]'(by omega)):=AC (by omega);obtain⟨D,u,c1,E,p,G,e,M,O,P⟩:=J j _ _ I (q55 (by omega));obtain⟨g,o,rfl,K,_,H⟩:=h1.2.2.2 j _ I;rw[e] at H;exact⟨g,o,D,u,c1,E,p,G,rfl,K,H,M,O,P⟩
end
section
variable {w w':WD}{b:Nat}{l:Int}{A B:OA}{n c m d:Nat}
theorem NB.keep (H:NB w b l A n c B m d)(h:w'.1[b]?=w.1[b]?):NB w' b l A n c B m d:=by
 obtain⟨t,H⟩:=H;exact⟨t,h.trans H⟩
theorem NB.fz (H:NB w b l A n c B m d)(i:Nat):w.frozen? ⟨b,i,none⟩=false:=by
 obtain⟨t,H⟩:=H;unfold World.frozen?;rw[H];simp
theorem NB.set1 (H:NB w b l A n c B m d)(A':OA)(n' c':Nat):NB (w.setCell ⟨b,1,none⟩ (.slice A' n' c')) b l A' n' c' B m d:=by
 obtain⟨t,H⟩:=H;exact⟨t,D6 _ H⟩
theorem NB.set2 (H:NB w b l A n c B m d)(A':OA)(n' c':Nat):NB (w.setCell ⟨b,2,none⟩ (.slice A' n' c')) b l A n c A' n' c':=by
 obtain⟨t,H⟩:=H;exact⟨t,D6 _ H⟩
theorem NB.there (H:NB w b l A n c B m d):w.there b 0 3:=λj g=>by
 obtain⟨t,H⟩:=H;refine⟨?_,by unfold World.frozen?;rw[H];simp⟩;rw[cell_of_row _ _ _ _ _ _ H,AT,Array.getElem?_eq_getElem (by simpa using g)];rfl
theorem NB.stored (H:NB w b l A n c B m d)(l2:Int)(A2:OA)(n2 c2:Nat)(B2:OA)(m2 d2:Nat):NB (w.setCells b 0 [.int .i64 l2,.slice A2 n2 c2,.slice B2 m2 d2]) b l2 A2 n2 c2 B2 m2 d2:=by
 obtain⟨t,H⟩:=H;exact⟨t,D6 _ (D6 _ (D6 _ H))⟩
end
theorem Ae {u:Array Oper}{p:List Oper}{o:Oper}{a:Act}{w:WD}{Q:Exit->Act->WD->Prop}(P:o.guard=none)(x y:Operand)(M:o.op=Op.store 108 x y)
  (b:Nat) (R:a.eval x=.pointer (some ⟨b,0,none⟩)) (I:Int) (D:OA) (K c2:Nat) (E:OA) (J G:Nat) (T:a.eval y=.agg #[.int .i64 I,.slice D K c2,.slice E J G]) {l:Int} {A B:OA} {n c m d:Nat} (H:NB w b l A n c B m d)
  (O:∀w',NB w' b I D K c2 E J G->Turn (λg=>g=b) w w'->wpList prog u Q p (a.put o.dst undef) w'):wpList prog u Q (o::p) a w:=
 wpList_store_mid P _ x y M b 0 #[.int .i64 I,.slice D K c2,.slice E J G] R T H.there (by kernel_rfl) (by simp[Value.oneCell'])
  (O _ (H.stored I D K c2 E J G) (Us (S:=λg=>g=b) rfl _ 0 w))
def Yp (k:Kd)(v:LU):Bool->List Qb->List Qb
 |done,[]=>if done=true then [] else [⟨k,v⟩]
 |done,x::r=>(if (!done&&(k.less x.k||x.k.same k))=true then [⟨k,v⟩] else [])++((if x.k.same k=true then [] else [x])++Yp k v (done||(k.less x.k||x.k.same k)) r)
theorem qa6 (k:Kd)(v:LU):∀(l:List Qb),(∀x∈l,x.k.same k=false)->Yp k v true l=l
 |[],_=>rfl
 |x::r,h=>by
  unfold Yp;rw[h x (AP ..),Bool.true_or,qa6 k v r λy g=>h y (AO _ g)];rfl
theorem Nb {a b:Kd}(h:a.less b=true):a.same b=false/\b.same a=false:=by
 constructor
 ·cases g:a.same b with
  |false=>rfl
  |true=>have:=q7c (a:=b) g;rw[q5r,h] at this;cases this
 ·cases g:b.same a with
  |false=>rfl
  |true=>have:=q7b (a:=a) g;rw[q5r,h] at this;cases this
theorem q1v {k:Kd}{v:LU}{x:Qb}{r:List Qb}(E:Qg (x::r)) :
  Yp k v false (x::r)=if k.less x.k=true then ⟨k,v⟩::x::r else if x.k.same k=true then ⟨k,v⟩::r else x::Yp k v false r:=by
 obtain⟨h1,h2⟩:=List.pairwise_cons.1 E;rw[Yp];by_cases g:k.less x.k=true
 ·rw[AA g,g];have p:=(Nb g).2;rw[p];show [(⟨k,v⟩:Qb)]++([x]++Yp k v true r)=_;rw[qa6]
  ·rfl
  ·intro y u;exact (Nb (Kd.trans _ _ _ g (h1 y u))).2
 ·have g:k.less x.k=false:=by simpa using g
  rw[g];by_cases p:x.k.same k=true
  ·rw[p];show [(⟨k,v⟩:Qb)]++([]++Yp k v true r)=_;rw[qa6]
   ·rfl
   ·intro y u;have D:=h1 y u;rw[<-q7c p] at D;exact (Nb D).2
  ·have p:x.k.same k=false:=by simpa using p
   rw[p];rfl
theorem q95 {k:Kd}{v:LU}:∀{l:List Qb},Qg l->∀y∈Yp k v false l,y=⟨k,v⟩\/y∈l
 |[],_,y,hy=>.inl (by simpa [Yp] using hy)
 |x::r,hr,y,hy=>by
  rw[q1v hr] at hy;have g:=(List.pairwise_cons.1 hr).2;split at hy
  ·rcases List.mem_cons.1 hy with h|h
   ·exact .inl h
   ·exact .inr h
  ·split at hy
   ·rcases List.mem_cons.1 hy with h|h
    ·exact .inl h
    ·exact .inr (AO _ h)
   ·rcases List.mem_cons.1 hy with h|h
    ·exact .inr (h▸AP ..)
    ·rcases q95 g y h with h|h
     ·exact .inl h
     ·exact .inr (AO _ h)
theorem q3j {k:Kd}{v:LU}:∀{l:List Qb},Qg l->Qg (Yp k v false l)
 |[],_=>by
  show Qg [⟨k,v⟩];exact List.pairwise_singleton ..
 |x::r,hr=>by
  obtain⟨h1,h2⟩:=List.pairwise_cons.1 hr;rw[q1v hr];split
  ·rename_i p;refine List.pairwise_cons.2 ⟨λy g=>?_,hr⟩;rcases List.mem_cons.1 g with rfl|g
   ·exact p
   ·exact Kd.trans _ _ _ p (h1 y g)
  ·rename_i p;split
   ·rename_i u;exact List.pairwise_cons.2 ⟨λy g=>by show k.less y.k=true;rw[q7c u];exact h1 y g,h2⟩
   ·rename_i u;have D:x.k.less k=true:=by
     rcases Kd.total x.k k with⟨h,_,_⟩|⟨_,h,_⟩|⟨_,_,h⟩
     ·exact h
     ·exact absurd h p
     ·exact absurd (by rw[h,Kd.same_iff];exact⟨rfl,rfl,rfl⟩) u
    refine List.pairwise_cons.2 ⟨λy g=>?_,q3j h2⟩;rcases q95 h2 y g with rfl|g
    ·exact D
    ·exact h1 y g
theorem qe3 {k:Kd}{v:LU}:∀{l:List Qb},Qg l->(Yp k v false l).length<=l.length+1
 |[],_=>by simp[Yp]
 |x::r,hr=>by
  rw[q1v hr];have:=qe3 (k:=k) (v:=v) (List.pairwise_cons.1 hr).2;split
  ·simp
  ·split<;>simp<;>omega
structure Qcm (l:List Qb)(m:Nat):Prop where
 Qg:Qg l
 may:∀x∈l,x.k.may=true/\x.v.length<=28
 len:l.length<=m
theorem q6p:∀{l:List Qb},Qg l->∀x∈l,valOf l x.k=some x.v
 |[],_,x,g=>by cases g
 |y::r,hr,x,g=>by
  obtain⟨h1,h2⟩:=List.pairwise_cons.1 hr;unfold valOf;rw[List.find?_cons];rcases List.mem_cons.1 g with rfl|g
  ·have:x.k.same x.k=true:=(Kd.same_iff _ _).2 ⟨rfl,rfl,rfl⟩;rw[this];rfl
  ·rw[(Nb (h1 x g)).1];exact q6p h2 x g
def Qb1 (a l:Int)(A:OA)(n c:Nat)(B:OA)(m d:Nat):LV:=[.int .i64 a,.int .i64 l,.slice A n c,.slice B m d]
def Qae (Q:WD->Prop)(r:LV)(x:Int × Nd):Prop:=∃A n c B m d,r=Qb1 x.1 x.2.lvl A n c B m d/\n<=1000/\m<=1000/\∀w,Q w->Ji w A n c x.2.items/\Zn w B m d x.2.kids
def Anl (Q:WD->Prop)(w:WD)(A:OA)(n c:Nat)(Ns:List (Int × Nd)):Prop:=
 ∃g,Jy w 4 A n c g/\g.length=Ns.length/\∀(j:Nat) r x,g[j]?=some r->Ns[j]?=some x->Qae Q r x
section
variable {Q Q':WD->Prop}{w w':WD}{base n c:Nat}{A:OA}{Ns:List (Int × Nd)}
theorem Qae.mono {r:LV}{x:Int × Nd}(h:Qae Q r x)(hq:∀w,Q' w->Q w):Qae Q' r x:=by
 obtain⟨g,I,c1,p,H,u,e,D,E,G⟩:=h;exact⟨g,I,c1,p,H,u,e,D,E,λw y=>G w (hq w y)⟩
theorem Anl.mono (h:Anl Q w A n c Ns)(hq:∀w,Q' w->Q w):Anl Q' w A n c Ns:=by
 obtain⟨g,h1,h2,p⟩:=h;exact⟨g,h1,h2,λj r x u y=>(p j r x u y).mono hq⟩
theorem Anl.len (h:Anl Q w A n c Ns):Ns.length=n:=by
 obtain⟨g,h1,h2,_⟩:=h;rw[<-h2];exact h1.len
def Oj (Ns:List (Int × Nd))(j:Nat):Int × Nd:=Ns.getD j (0,⟨0,[],[]⟩)
theorem qt0 {j:Nat}(h:j<Ns.length):Ns[j]?=some (Oj Ns j):=by simp[Oj,List.getD,h]
theorem Anl.get (h:Anl Q w A n c Ns){j:Nat}(hj:j<n):∃g o D u c1 E p G,A=some ⟨g,o,none⟩/\g<w.1.size/\w.rangeAt g (o+j*4) (Qb1 (Oj Ns j).1 (Oj Ns j).2.lvl D u c1 E p G)/\u<=1000/\p<=1000/\∀w',Q w'->Ji w' D u c1 (Oj Ns j).2.items/\Zn w' E p G (Oj Ns j).2.kids:=by
 have R:=h.len;obtain⟨y,h1,h2,J⟩:=h;have I:y[j]?=some (y[j]'(by omega)):=AC (by omega);obtain⟨D,u,c1,E,p,G,e,M,O,P⟩:=J j _ _ I (qt0 (by omega));obtain⟨g,o,rfl,K,_,H⟩:=h1.2.2.2 j _ I;rw[e] at H;exact⟨g,o,D,u,c1,E,p,G,rfl,K,H,M,O,P⟩
end
section
variable {w w':WD}{base n c:Nat}{A:OA}{xs:List Qb}
end
theorem qwh {l:List Qb}{j:Nat}(h:j<l.length):l.drop j=Qu l j::l.drop (j+1):=by
 have g:=Et h;rw[AC h] at g;rw[<-List.getElem_cons_drop (h:=h),OI g]
def SlF (F:OA->LU->Prop)(w:WD)(V:OA)(p q:Nat)(v:LU):Prop:=Sl w V p q v/\F V v
def Rn (F:OA->LU->Prop)(w:WD)(A:OA)(n c:Nat)(xs:List Qb):Prop:=
 ∃g,Jy w 4 A n c g/\g.length=xs.length/\∀(j:Nat) r x,g[j]?=some r->xs[j]?=some x->∃V p q,r=Vg x.k V p q/\SlF F w V p q x.v
theorem Rn.mono {F F':OA->LU->Prop}{w:WD}{A:OA}{n c:Nat}{xs:List Qb}(h:Rn F w A n c xs)(hF:∀V v,F V v->F' V v):Rn F' w A n c xs:=by
 obtain⟨g,h1,h2,y⟩:=h;refine⟨g,h1,h2,λj r x D E=>?_⟩;obtain⟨V,p,q,e,u⟩:=y j r x D E;exact⟨V,p,q,e,u.1,hF _ _ u.2⟩
section
variable {F:OA->LU->Prop}{w w':WD}{base n c:Nat}{A:OA}{xs:List Qb}
end
section
variable {α:Type}{s:Nat}{e:TypeId}{f:α->OA->Nat->Nat->LV}{val:α->LU}
def Kq (s:Nat)(e:TypeId)(f:α->OA->Nat->Nat->LV)(val:α->LU)(w:WD)(base:Nat)(A:OA)(n c:Nat)(xs:List α):Prop:=
 ∃u,Qz w base e s A n c u/\u.length=xs.length/\∀(j:Nat) r x,u[j]?=some r->xs[j]?=some x->∃V p q,r=f x V p q/\Sl w V p q (val x)/\(val x≠[]->∀g,q01 V=some g->base<=g/\q01 A≠some g)
variable {w w':WD}{base n c:Nat}{A:OA}{xs:List α}
theorem qt1 (w:WD)(base:Nat):Kq s e f val w base none 0 0 []:=⟨[],I5 _ _ _ _,rfl,λj r x g=>by simp at g⟩
theorem Kq.below (h:Kq s e f val w base A n c xs)(hb:Below w.1.size w w'):Kq s e f val w' base A n c xs:=by
 obtain⟨u,h1,h2,y⟩:=h;refine⟨u,h1.below hb,h2,λj r x D G=>?_⟩;obtain⟨V,p,q,e,E,g⟩:=y j r x D G;exact⟨V,p,q,e,E.below hb,g⟩
theorem Kq.less {b:Nat}(h:Kq s e f val w base A n c xs)(hb:b<=base):Kq s e f val w b A n c xs:=by
 obtain⟨y,h1,h2,E⟩:=h;refine⟨y,h1.less hb,h2,λj r x G I=>?_⟩;obtain⟨V,p,q,e,H,u⟩:=E j r x G I;exact⟨V,p,q,e,H,λh0 g D=>⟨AZ hb (u h0 g D).1,(u h0 g D).2⟩⟩
theorem Kq.Qc (h:Kq s e f val w base A n c xs):∀k,q01 A=some k->base<=k/\k<w.1.size:=by
 obtain⟨g,h1,_⟩:=h;exact h1.Qc
theorem Kq.turned (h:Kq s e f val w base A n c xs){S:NP}(T:Turn S w w')(hS:∀k,S k->k<base):Kq s e f val w' base A n c xs:=by
 obtain⟨y,h1,h2,D⟩:=h;refine⟨y,h1.turned T (λk u e=>by have:=(h1.Qc k u).1;have:=hS k e;omega),h2,λj r x G I=>?_⟩;obtain⟨V,p,q,e,H,g⟩:=D j r x G I;exact⟨V,p,q,e,H.turned' T (λE k u e=>by have:=(g E k u).1;have:=hS k e;omega),g⟩
theorem Kq.len (h:Kq s e f val w base A n c xs)(hs:0<s):xs.length=n:=by
 obtain⟨g,h1,h2,_⟩:=h;rw[<-h2];exact h1.len hs
theorem Kq.bounds (h:Kq s e f val w base A n c xs)(hs:0<s):n<=c/\c<=maxLen:=by
 obtain⟨g,h1,_⟩:=h;exact⟨(h1.Um hs).cap,(h1.Um hs).max⟩
theorem Kq.at_ (h:Kq s e f val w base A n c xs)(hs:0<s){j:Nat}{x:α}(hx:xs[j]?=some x):∃g V p q,A=some ⟨g,0,none⟩/\base<=g/\g<w.1.size/\w.rangeAt g (j*s) (f x V p q)/\Sl w V p q (val x)/\(val x≠[]->∀k,q01 V=some k->base<=k/\k≠g):=by
 have W:=h.len hs;have U:=(List.getElem?_eq_some_iff.1 hx).1;obtain⟨E,h1,h2,K⟩:=h;obtain⟨r,I⟩:∃r,E[j]?=some r:=⟨E[j]'(by omega),AC _⟩;obtain⟨V,p,q,J,G,D⟩:=K j r x I hx;obtain⟨g,o,rfl,M,O,u⟩:=(h1.Um hs).2.2.2 j r I;have P:o=0:=by
  obtain⟨T,R,y,_⟩:=qaq h1.1 (by omega);injection y with y _ _;injection y with y;injection y
 subst P;rw[AT] at u;exact⟨g,V,p,q,rfl,(h1.Qc g rfl).1,M,J▸u,G,λh0 k H=>⟨(D h0 k H).1,λe=>(D h0 k H).2 (by rw[e];rfl)⟩⟩
variable {t:TypeId}{b:Nat}{z:Value}
theorem qfk (T:Az prog t e s b z)(a0:b<=100000)(hf:∀x V p q,(f x V p q).length=s/\∀u∈f x V p q,u.oneCell'=true){W:Array Oper}{H:List Oper}{o:Oper}{a:Act}{Q:Exit->Act->WD->Prop}(a1:o.guard=none)(so x:Operand)
  (ho:o.op=.call { callee:=.builtin .append,args:=#[so,x],argTypes:=#[t,t] })
  (Z:a.eval so=.slice A n c) (U:Kq s e f val w base A n c xs)
  (B:OA) (d:Nat) (E:α) (V:OA) (p q:Nat) (K:a.eval x=.slice B 1 d) (G:Jy w s B 1 d [f E V p q]) (hv:Sl w V p q (val E)) (a3:val E≠[]->∀g,q01 V=some g->base<=g/\q01 A≠some g) (hn:n<=100000) (J:base<=w.1.size)
  (h:∀I Y w',Kq s e f val w' base I (n+1) Y (xs++[E])->Turn (λk=>q01 A=some k) w w'->(q01 I=q01 A\/q01 I=some w.1.size)->wpList prog W Q H (a.put o.dst (.slice I (n+1) Y)) w'):wpList prog W Q (o::H) a w:=by
 obtain⟨M,h1,h2,h3⟩:=U;refine q47 w T a1 so x ho base A n c M Z h1 B 1 d [f E V p q] K G (by omega) (λy hy u hu=>(hf E V p q).2 u (by rw[List.mem_singleton.1 hy] at hu;exact hu)) (by omega) a0 J ?_;intro I Y w' X T O _;refine h I Y w' ⟨_,X,by simp[h2],λj r x G K=>?_⟩ T O;have old:∀(V:OA) (p q:Nat) (v:LU),Sl w V p q v->(v≠[]->∀g,q01 V=some g->base<=g/\q01 A≠some g)->Sl w' V p q v/\(v≠[]->∀g,q01 V=some g->base<=g/\q01 I≠some g):=by
  intro V p q v Z D;refine⟨Z.turned' T (λR k hk e=>(D R k hk).2 e),λR g hg=>⟨(D R g hg).1,λe=>?_⟩⟩;rcases O with h5|h5
  ·exact (D R g hg).2 (h5.symm.trans e)
  ·have:=Z.Qc R g hg;rw[h5] at e;have:=OI e;omega
 by_cases hj:j<M.length
 ·rw[List.getElem?_append_left hj] at G;rw[List.getElem?_append_left (by omega)] at K;obtain⟨V',p',q',e,a2,D⟩:=h3 j r x G K;obtain⟨o1,o2⟩:=old V' p' q' (val x) a2 D;exact⟨V',p',q',e,o1,o2⟩
 ·rw[List.getElem?_append_right (by omega)] at G K;have P:j-M.length=0:=by
   have:=(List.getElem?_eq_some_iff.1 G).1;simp at this;omega
  rw[P] at G;rw[<-h2,P] at K;obtain rfl:f E V p q=r:=by simpa using G
  obtain rfl:E=x:=by simpa using K
  obtain⟨o1,o2⟩:=old V p q (val E) hv a3;exact⟨V,p,q,rfl,o1,o2⟩
end
