/- What the reference's Read answers, as plain data; its takes as one contract each -/
import Derived.Test.YtnnbaihfboacoaaGreatDoorEr19
namespace Go.Proofs.YtnnbaihfboacoaaGreatDoor
open Go Go.RowKit Go.Proofs
theorem Qbb (s:ByteArray)(w:World):(convert 9 31 (.string s)).run Tryz.prog w=.ok (.slice (some ⟨w.1.size,0,none⟩) s.size (grownCap w s.size 0 5)) (Lib.bytesWorld w 5 s):=
 Lib.run_convert_string_bytes w 9 31 5 s Tryz.underlying9 Tryz.underlying31 Tryz.underlying5
def ttY (l:List UInt8):Bool:=decide (1<=l.length/\1+Q8 (l.take 1)<=l.length)
def Iy (l:List UInt8):List UInt8:=if ttY l=true then bodyT l 1 else []
def Nq (l:List UInt8):List UInt8:=if ttY l=true then Uw l 1 else []
def Il (l:List UInt8):Int:=if ttY l=true then 0 else 2
theorem qxj (l:List UInt8):(Iy l).length<=l.length:=by
 unfold Iy;split
 ·exact qka l 1
 ·simp
theorem qv3 (l:List UInt8):(Wp l).length<=l.length:=by
 unfold Wp;split<;>simp
def t2Y (l:List UInt8):Bool:=decide (2<=l.length)
def Pm (l:List UInt8):Int:=if t2Y l=true then (Q8 (l.take 2):Int) else 0
def Np (l:List UInt8):List UInt8:=if t2Y l=true then l.drop 2 else []
def Ik (l:List UInt8):Int:=if t2Y l=true then 0 else 2
def Xh (N:Nd)(r:List UInt8):Option (Nd × List UInt8):=
 if U9 r=0 then
  if N.lvl=0 then if Il (Wp r)=0 then some (⟨N.lvl,N.items++[⟨G8 r,Iy (Wp r)⟩],N.kids⟩,Nq (Wp r)) else none
  else if Ik (Wp r)=0 then some (⟨N.lvl,N.items,N.kids++[⟨G8 r,Pm (Wp r)⟩]⟩,Np (Wp r)) else none
 else none
def Jt (l:Int)(body:List UInt8):Nat->Option (Nd × List UInt8)
 |0=>some (⟨l,[],[]⟩,body)
 |j+1=>match Jt l body j with
  |some (N,r)=>Xh N r
  |none=>none
theorem q4p (l:Int)(body:List UInt8)(j:Nat)(N:Nd)(r:List UInt8)(h:Jt l body j=some (N,r)):Jt l body (j+1)=Xh N r:=by
 show (match Jt l body j with|some (N,r)=>Xh N r|none=>none)=_;rw[h]
theorem q9u (l:Int)(body:List UInt8)(j k:Nat)(h:Jt l body j=none)(e:j<=k):Jt l body k=none:=by
 induction k with
 |zero=>
  obtain rfl:j=0:=by omega
  exact h
 |succ k ih=>
  rcases (by omega:j<=k\/j=k+1) with h1|rfl
  ·show (match Jt l body k with|some (N,r)=>Xh N r|none=>none)=_;rw[ih h1]
  ·exact h
def qdp (b:List UInt8):Nat:=min (Yq b).count.toNat 20
def qdq (b:List UInt8)(addr gen:Int):Option (Nd × List UInt8)->Option Nd
 |some (N,_)=>if Zk N addr gen=0/\Jm N addr gen=b then some N else none
 |none=>none
def Ij (b:List UInt8)(addr:Int):Option Nd:=if Na b=0 then qdq b addr (Yq b).gen (Jt (Yq b).level (Un b) (qdp b)) else none
theorem qv4 {b:List UInt8}(h:Na b=0):(Yq b).ok=true:=by
 cases e:okB b
 ·obtain⟨_,_,f⟩:=qik e;rw[f] at h;omega
 ·obtain⟨h1,_,_⟩:=q78 e;rw[h1];exact (of_decide_eq_true e).2.2.1
theorem Ad:Em Tryz.prog 26 68 4 48 (.agg #[.int .i64 0,.int .i64 0,.int .i64 0,.slice none 0 0]):=⟨Tryz.underlying26,by kernel_rfl,rfl,by omega⟩
theorem Qak:Em Tryz.prog 73 81 4 32 (.agg #[.int .i64 0,.int .i64 0,.int .i64 0,.int .i64 0]):=⟨Tryz.underlying73,by kernel_rfl,rfl,by omega⟩
theorem Sl.turned' {w w':World}{A:Option Addr}{n c:Nat}{l:List UInt8}(h:Sl w A n c l){S:Nat->Prop}(T:Turn S w w')(hA:l≠[]->∀k,q01 A=some k->¬S k):Sl w' A n c l:=by
 by_cases e:l=[]
 ·subst e;exact⟨h.1,h.2.1,h.2.2.1,λj u f=>by simp at f⟩
 ·exact h.turned T (hA e)
theorem Sl.Qa {w:World}{A:Option Addr}{n c:Nat}{l:List UInt8}(h:Sl w A n c l)(hl:l≠[]):∀k,q01 A=some k->k<w.1.size:=by
 intro k u;have hn:0<n:=by have:=h.len;have:l.length≠0:=λe=>hl (List.eq_nil_of_length_eq_zero e);omega
 obtain⟨f,rfl,p,_⟩:=h.cell hn;obtain rfl:f.block=k:=Option.some.inj u;exact p
def Yi (k:Kd)(V:Option Addr)(p q:Nat):List Value:=[.int .i64 k.obj,.int .i64 k.kind,.int .i64 k.off,.slice V p q]
def J4 (w:World)(base:Nat)(A:Option Addr)(n c:Nat)(xs:List Qc):Prop:=
 ∃e,Qs w base 68 4 A n c e/\e.length=xs.length/\∀(j:Nat) r x,e[j]?=some r->xs[j]?=some x->∃V p q,r=Yi x.k V p q/\Sl w V p q x.v/\(x.v≠[]->∀g,q01 V=some g->base<=g/\q01 A≠some g)
section
variable {w w':World}{base n c:Nat}{A:Option Addr}{xs:List Qc}
theorem O8 (w:World)(base:Nat):J4 w base none 0 0 []:=⟨[],q10 _ _ _ _,rfl,λj r x e=>by simp at e⟩
theorem J4.below (h:J4 w base A n c xs)(hb:Below w.1.size w w'):J4 w' base A n c xs:=by
 obtain⟨u,h1,h2,y⟩:=h;refine⟨u,h1.below hb,h2,λj r x D G=>?_⟩;obtain⟨V,p,q,e,E,f⟩:=y j r x D G;exact⟨V,p,q,e,E.below hb,f⟩
theorem J4.Zq (h:J4 w base A n c xs):Zl w A n c xs:=by
 obtain⟨f,h1,h2,u⟩:=h;refine⟨f,h1.Vs (by omega),h2,λj r x y E=>?_⟩;obtain⟨V,p,q,e,D,_⟩:=u j r x y E;exact⟨V,p,q,e,D⟩
theorem J4.Qa (h:J4 w base A n c xs):∀k,q01 A=some k->base<=k/\k<w.1.size:=by
 obtain⟨e,h1,_⟩:=h;exact h1.Qa
theorem J4.low (h:J4 w base A n c xs){S:Nat->Prop}(T:Turn S w w')(hS:∀k,S k->k<base):J4 w' base A n c xs:=by
 obtain⟨y,h1,h2,D⟩:=h;refine⟨y,h1.turned T (λk u e=>by have:=(h1.Qa k u).1;have:=hS k e;omega),h2,λj r x G I=>?_⟩;obtain⟨V,p,q,e,H,f⟩:=D j r x G I;exact⟨V,p,q,e,H.turned' T (λE k u e=>by have:=(f E k u).1;have:=hS k e;omega),f⟩
end
theorem HB.keep {w w':World}{bp:Nat}{h:Hd}(H:HB w bp h)(e:w'.1[bp]?=w.1[bp]?):HB w' bp h:=by
 obtain⟨t,H⟩:=H;exact⟨t,e.trans H⟩
theorem q91 (k:Kd)(V:Option Addr)(p q:Nat):∀y∈[Yi k V p q],∀u∈y,u.oneCell'=true:=by
 intro y f u e;obtain rfl:y=Yi k V p q:=by simpa using f
 simp[Yi] at e;rcases e with rfl|rfl|rfl|rfl<;>rfl
theorem q60 {w:World}{P:Array Oper}{D:List Oper}{o:Oper}{a:Act}{Q:Exit->Act->World->Prop}(Z:o.guard=none)(so x:Operand)
  (ho:o.op=.call { callee:=.builtin .append,args:=#[so,x],argTypes:=#[26,26] })
  (base:Nat) (A:Option Addr) (n c:Nat) (xs:List Qc) (W:a.eval so=.slice A n c) (O:J4 w base A n c xs)
  (B:Option Addr) (d:Nat) (y:Qc) (V:Option Addr) (p q:Nat) (H:a.eval x=.slice B 1 d) (u:Jf w 4 B 1 d [Yi y.k V p q]) (hv:Sl w V p q y.v) (a2:y.v≠[]->∀g,q01 V=some g->base<=g/\q01 A≠some g) (hn:n<=100000) (G:base<=w.1.size)
  (h:∀E U w',J4 w' base E (n+1) U (xs++[y])->Turn (λk=>q01 A=some k) w w'->(q01 E=q01 A\/q01 E=some w.1.size)->wpList Tryz.prog P Q D (a.put o.dst (.slice E (n+1) U)) w'):wpList Tryz.prog P Q (o::D) a w:=by
 obtain⟨I,h1,h2,h3⟩:=O;refine qa4 w Ad Z so x ho base A n c I W h1 B 1 d [Yi y.k V p q] H u (by omega) (q91 _ _ _ _) (by omega) (by omega) G ?_;intro E U w' R T J _;refine h E U w' ⟨_,R,by simp[h2],λj r x u H=>?_⟩ T J;have old:∀(V:Option Addr) (p q:Nat) (v:List UInt8),Sl w V p q v->(v≠[]->∀g,q01 V=some g->base<=g/\q01 A≠some g)->Sl w' V p q v/\(v≠[]->∀g,q01 V=some g->base<=g/\q01 E≠some g):=by
  intro V p q v W f;refine⟨W.turned' T (λM k hk e=>(f M k hk).2 e),λM g Y=>⟨(f M g Y).1,λe=>?_⟩⟩;rcases J with X|X
  ·exact (f M g Y).2 (X.symm.trans e)
  ·have:=W.Qa M g Y;rw[X] at e;have:=Option.some.inj e;omega
 by_cases hj:j<I.length
 ·rw[List.getElem?_append_left hj] at u;rw[List.getElem?_append_left (by omega)] at H;obtain⟨V',p',q',e,a1,f⟩:=h3 j r x u H;obtain⟨o1,o2⟩:=old V' p' q' x.v a1 f;exact⟨V',p',q',e,o1,o2⟩
 ·rw[List.getElem?_append_right (by omega)] at u H;have K:j-I.length=0:=by
   have:=(List.getElem?_eq_some_iff.1 u).1;simp at this;omega
  rw[K] at u;rw[<-h2,K] at H;obtain rfl:Yi y.k V p q=r:=by simpa using u
  obtain rfl:y=x:=by simpa using H
  obtain⟨o1,o2⟩:=old V p q y.v hv a2;exact⟨V,p,q,rfl,o1,o2⟩
section
variable {w w':World}{s n c:Nat}{A:Option Addr}
theorem Jf.drop {xs:List (List Value)}(h:Jf w s A n c xs){k:Nat}(hk:k<=n):Jf w s (if c=k then A else A.map (·.add (k*s))) (n-k) (c-k) (xs.drop k):=by
 have G:=h.len;have D:=h.cap;have hm:=h.max;refine⟨by rw[List.length_drop];omega,by omega,by omega,λj x f=>?_⟩;rw[List.getElem?_drop] at f;have E:=(List.getElem?_eq_some_iff.1 f).1;obtain⟨g,o,rfl,u,p,y⟩:=h.2.2.2 _ x f;rw[if_neg (by omega)];refine⟨g,o+k*s,by rw[Option.map_some,Addr.add_mid],u,p,?_⟩;have e:o+k*s+j*s=o+(k+j)*s:=by rw[Nat.add_mul];omega
 rw[e];exact y
theorem Zl.drop {xs:List Qc}(h:Zl w A n c xs){k:Nat}(hk:k<=n):Zl w (if c=k then A else A.map (·.add (k*4))) (n-k) (c-k) (xs.drop k):=by
 obtain⟨e,h1,h2,u⟩:=h;refine⟨e.drop k,h1.drop hk,by rw[List.length_drop,List.length_drop,h2],λj r x f p=>?_⟩;rw[List.getElem?_drop] at f p;exact u _ r x f p
theorem Zl.sub {xs:List Qc}(h:Zl w A n c xs){i j:Nat}(hi:i<=j)(hj:j<=n):Zl w (if c=i then A else A.map (·.add (i*4))) (j-i) (c-i) ((xs.drop i).take (j-i)):=(h.drop (by omega)).take (by omega)
theorem Zm.drop {xs:List Ql}(h:Zm w A n c xs){k:Nat}(hk:k<=n):Zm w (if c=k then A else A.map (·.add (k*4))) (n-k) (c-k) (xs.drop k):=by
 have:=Jf.drop h hk;rw[<-List.map_drop] at this;exact this
theorem Zm.sub {xs:List Ql}(h:Zm w A n c xs){i j:Nat}(hi:i<=j)(hj:j<=n):Zm w (if c=i then A else A.map (·.add (i*4))) (j-i) (c-i) ((xs.drop i).take (j-i)):=(h.drop (by omega)).take (by omega)
end
def Vg (l:Int)(A:Option Addr)(n c:Nat)(B:Option Addr)(m d:Nat):List Value:=[.int .i64 l,.slice A n c,.slice B m d]
theorem qsm (l:Int)(A:Option Addr)(n c:Nat)(B:Option Addr)(m d:Nat):∀y∈[Vg l A n c B m d],∀u∈y,u.oneCell'=true:=by
 intro y f u e;obtain rfl:y=Vg l A n c B m d:=by simpa using f
 simp[Vg] at e;rcases e with rfl|rfl|rfl<;>rfl
def Qbs (Q:World->Prop)(r:List Value)(N:Nd):Prop:=∃A n c B m d,r=Vg N.lvl A n c B m d/\n<=1000/\m<=1000/\∀w,Q w->Zl w A n c N.items/\Zm w B m d N.kids
def Bg (Q:World->Prop)(w:World)(base:Nat)(A:Option Addr)(n c:Nat)(Ns:List Nd):Prop:=
 ∃e,Qs w base 75 3 A n c e/\e.length=Ns.length/\∀(j:Nat) r N,e[j]?=some r->Ns[j]?=some N->Qbs Q r N
def Ndl (Q:World->Prop)(w:World)(A:Option Addr)(n c:Nat)(Ns:List Nd):Prop:=
 ∃e,Jf w 3 A n c e/\e.length=Ns.length/\∀(j:Nat) r N,e[j]?=some r->Ns[j]?=some N->Qbs Q r N
section
variable {Q:World->Prop}{w w':World}{base n c:Nat}{A:Option Addr}{Ns:List Nd}
theorem Bg.below (h:Bg Q w base A n c Ns)(hb:Below w.1.size w w'):Bg Q w' base A n c Ns:=by
 obtain⟨e,h1,h2,f⟩:=h;exact⟨e,h1.below hb,h2,f⟩
theorem Ndl.below (h:Ndl Q w A n c Ns)(hb:Below w.1.size w w'):Ndl Q w' A n c Ns:=by
 obtain⟨e,h1,h2,f⟩:=h;exact⟨e,h1.below hb,h2,f⟩
theorem Ndl.len (h:Ndl Q w A n c Ns):Ns.length=n:=by
 obtain⟨e,h1,h2,_⟩:=h;rw[<-h2];exact h1.len
def U4 (Ns:List Nd)(j:Nat):Nd:=Ns.getD j ⟨0,[],[]⟩
theorem q5e {j:Nat}(h:j<Ns.length):Ns[j]?=some (U4 Ns j):=by simp[U4,List.getD,h]
theorem Ndl.get (h:Ndl Q w A n c Ns){j:Nat}(hj:j<n):∃g o y p c1 D f E,A=some ⟨g,o,none⟩/\g<w.1.size/\w.rangeAt g (o+j*3) (Vg (U4 Ns j).lvl y p c1 D f E)/\p<=1000/\f<=1000/\∀w',Q w'->Zl w' y p c1 (U4 Ns j).items/\Zm w' D f E (U4 Ns j).kids:=by
 have P:=h.len;obtain⟨u,h1,h2,I⟩:=h;have H:u[j]?=some (u[j]'(by omega)):=List.getElem?_eq_getElem (by omega);obtain⟨y,p,c1,D,f,E,e,K,M,O⟩:=I j _ _ H (q5e (by omega));obtain⟨g,o,rfl,J,_,G⟩:=h1.2.2.2 j _ H;rw[e] at G;exact⟨g,o,y,p,c1,D,f,E,rfl,J,G,K,M,O⟩
end
section
variable {w w':World}{b:Nat}{l:Int}{A B:Option Addr}{n c m d:Nat}
theorem NB.keep (H:NB w b l A n c B m d)(h:w'.1[b]?=w.1[b]?):NB w' b l A n c B m d:=by
 obtain⟨t,H⟩:=H;exact⟨t,h.trans H⟩
theorem NB.fz (H:NB w b l A n c B m d)(i:Nat):w.frozen? ⟨b,i,none⟩=false:=by
 obtain⟨t,H⟩:=H;unfold World.frozen?;rw[H];simp
theorem NB.set1 (H:NB w b l A n c B m d)(A':Option Addr)(n' c':Nat):NB (w.setCell ⟨b,1,none⟩ (.slice A' n' c')) b l A' n' c' B m d:=by
 obtain⟨t,H⟩:=H;exact⟨t,Fa _ H⟩
theorem NB.set2 (H:NB w b l A n c B m d)(A':Option Addr)(n' c':Nat):NB (w.setCell ⟨b,2,none⟩ (.slice A' n' c')) b l A n c A' n' c':=by
 obtain⟨t,H⟩:=H;exact⟨t,Fa _ H⟩
theorem NB.there (H:NB w b l A n c B m d):w.there b 0 3:=λj e=>by
 obtain⟨t,H⟩:=H;refine⟨?_,by unfold World.frozen?;rw[H];simp⟩;rw[cell_of_row _ _ _ _ _ _ H,Nat.zero_add,Array.getElem?_eq_getElem (by simpa using e)];rfl
theorem NB.stored (H:NB w b l A n c B m d)(l2:Int)(A2:Option Addr)(n2 c2:Nat)(B2:Option Addr)(m2 d2:Nat):NB (w.setCells b 0 [.int .i64 l2,.slice A2 n2 c2,.slice B2 m2 d2]) b l2 A2 n2 c2 B2 m2 d2:=by
 obtain⟨t,H⟩:=H;exact⟨t,Fa _ (Fa _ (Fa _ H))⟩
end
theorem Gt {f:Array Oper}{e:List Oper}{o:Oper}{a:Act}{w:World}{Q:Exit->Act->World->Prop}(M:o.guard=none)(x y:Operand)(J:o.op=Op.store 75 x y)
  (b:Nat) (O:a.eval x=.pointer (some ⟨b,0,none⟩)) (E:Int) (p:Option Addr) (I c2:Nat) (u:Option Addr) (G D:Nat) (P:a.eval y=.agg #[.int .i64 E,.slice p I c2,.slice u G D]) {l:Int} {A B:Option Addr} {n c m d:Nat} (H:NB w b l A n c B m d)
  (K:∀w',NB w' b E p I c2 u G D->Turn (λg=>g=b) w w'->wpList Tryz.prog f Q e (a.put o.dst undef) w'):wpList Tryz.prog f Q (o::e) a w:=
 wpList_store_mid M _ x y J b 0 #[.int .i64 E,.slice p I c2,.slice u G D] O P H.there (by kernel_rfl) (by simp[Value.oneCell'])
  (K _ (H.stored E p I c2 u G D) (Us (S:=λg=>g=b) rfl _ 0 w))
def Zo (k:Kd)(v:List UInt8):Bool->List Qc->List Qc
 |done,[]=>if done=true then [] else [⟨k,v⟩]
 |done,x::r=>(if (!done&&(k.less x.k||x.k.same k))=true then [⟨k,v⟩] else [])++((if x.k.same k=true then [] else [x])++Zo k v (done||(k.less x.k||x.k.same k)) r)
theorem q9v (k:Kd)(v:List UInt8):∀(l:List Qc),(∀x∈l,x.k.same k=false)->Zo k v true l=l
 |[],_=>rfl
 |x::r,h=>by
  unfold Zo;rw[h x (List.mem_cons_self ..),Bool.true_or,q9v k v r λy e=>h y (List.mem_cons_of_mem _ e)];rfl
theorem Iq {a b:Kd}(h:a.less b=true):a.same b=false/\b.same a=false:=by
 constructor
 ·cases e:a.same b with
  |false=>rfl
  |true=>have:=q4m (a:=b) e;rw[q38,h] at this;cases this
 ·cases e:b.same a with
  |false=>rfl
  |true=>have:=q6j (a:=a) e;rw[q38,h] at this;cases this
theorem q1p {k:Kd}{v:List UInt8}{x:Qc}{r:List Qc}(D:Qd (x::r)) :
  Zo k v false (x::r)=if k.less x.k=true then ⟨k,v⟩::x::r else if x.k.same k=true then ⟨k,v⟩::r else x::Zo k v false r:=by
 obtain⟨h1,h2⟩:=List.pairwise_cons.1 D;rw[Zo];by_cases e:k.less x.k=true
 ·rw[if_pos e,e];have f:=(Iq e).2;rw[f];show [(⟨k,v⟩:Qc)]++([x]++Zo k v true r)=_;rw[q9v]
  ·rfl
  ·intro y p;exact (Iq (Kd.trans _ _ _ e (h1 y p))).2
 ·have e:k.less x.k=false:=by simpa using e
  rw[e];by_cases f:x.k.same k=true
  ·rw[f];show [(⟨k,v⟩:Qc)]++([]++Zo k v true r)=_;rw[q9v]
   ·rfl
   ·intro y p;have u:=h1 y p;rw[<-q4m f] at u;exact (Iq u).2
  ·have f:x.k.same k=false:=by simpa using f
   rw[f];rfl
theorem q41 {k:Kd}{v:List UInt8}:∀{l:List Qc},Qd l->∀y∈Zo k v false l,y=⟨k,v⟩\/y∈l
 |[],_,y,hy=>.inl (by simpa [Zo] using hy)
 |x::r,hr,y,hy=>by
  rw[q1p hr] at hy;have e:=(List.pairwise_cons.1 hr).2;split at hy
  ·rcases List.mem_cons.1 hy with h|h
   ·exact .inl h
   ·exact .inr h
  ·split at hy
   ·rcases List.mem_cons.1 hy with h|h
    ·exact .inl h
    ·exact .inr (List.mem_cons_of_mem _ h)
   ·rcases List.mem_cons.1 hy with h|h
    ·exact .inr (h▸List.mem_cons_self ..)
    ·rcases q41 e y h with h|h
     ·exact .inl h
     ·exact .inr (List.mem_cons_of_mem _ h)
theorem q25 {k:Kd}{v:List UInt8}:∀{l:List Qc},Qd l->Qd (Zo k v false l)
 |[],_=>by
  show Qd [⟨k,v⟩];exact List.pairwise_singleton ..
 |x::r,hr=>by
  obtain⟨h1,h2⟩:=List.pairwise_cons.1 hr;rw[q1p hr];split
  ·rename_i f;refine List.pairwise_cons.2 ⟨λy e=>?_,hr⟩;rcases List.mem_cons.1 e with rfl|e
   ·exact f
   ·exact Kd.trans _ _ _ f (h1 y e)
  ·rename_i f;split
   ·rename_i p;exact List.pairwise_cons.2 ⟨λy e=>by show k.less y.k=true;rw[q4m p];exact h1 y e,h2⟩
   ·rename_i p;have u:x.k.less k=true:=by
     rcases Kd.total x.k k with⟨h,_,_⟩|⟨_,h,_⟩|⟨_,_,h⟩
     ·exact h
     ·exact absurd h f
     ·exact absurd (by rw[h,Kd.same_iff];exact⟨rfl,rfl,rfl⟩) p
    refine List.pairwise_cons.2 ⟨λy e=>?_,q25 h2⟩;rcases q41 h2 y e with rfl|e
    ·exact u
    ·exact h1 y e
theorem q5f {k:Kd}{v:List UInt8}:∀{l:List Qc},Qd l->(Zo k v false l).length<=l.length+1
 |[],_=>by simp[Zo]
 |x::r,hr=>by
  rw[q1p hr];have:=q5f (k:=k) (v:=v) (List.pairwise_cons.1 hr).2;split
  ·simp
  ·split<;>simp<;>omega
structure Ky (l:List Qc)(m:Nat):Prop where
 Qd:Qd l
 may:∀x∈l,x.k.may=true/\x.v.length<=28
 len:l.length<=m
def Qby (a l:Int)(A:Option Addr)(n c:Nat)(B:Option Addr)(m d:Nat):List Value:=[.int .i64 a,.int .i64 l,.slice A n c,.slice B m d]
def Rl (Q:World->Prop)(r:List Value)(x:Int × Nd):Prop:=∃A n c B m d,r=Qby x.1 x.2.lvl A n c B m d/\n<=1000/\m<=1000/\∀w,Q w->Zl w A n c x.2.items/\Zm w B m d x.2.kids
def Dy (Q:World->Prop)(w:World)(base:Nat)(A:Option Addr)(n c:Nat)(Ns:List (Int × Nd)):Prop:=
 ∃e,Qs w base 79 4 A n c e/\e.length=Ns.length/\∀(j:Nat) r x,e[j]?=some r->Ns[j]?=some x->Rl Q r x
def Anl (Q:World->Prop)(w:World)(A:Option Addr)(n c:Nat)(Ns:List (Int × Nd)):Prop:=
 ∃e,Jf w 4 A n c e/\e.length=Ns.length/\∀(j:Nat) r x,e[j]?=some r->Ns[j]?=some x->Rl Q r x
section
variable {Q Q':World->Prop}{w w':World}{base n c:Nat}{A:Option Addr}{Ns:List (Int × Nd)}
theorem Rl.mono {r:List Value}{x:Int × Nd}(h:Rl Q r x)(hq:∀w,Q' w->Q w):Rl Q' r x:=by
 obtain⟨f,I,c1,p,H,u,e,D,E,G⟩:=h;exact⟨f,I,c1,p,H,u,e,D,E,λw y=>G w (hq w y)⟩
theorem Dy.mono (h:Dy Q w base A n c Ns)(hq:∀w,Q' w->Q w):Dy Q' w base A n c Ns:=by
 obtain⟨e,h1,h2,f⟩:=h;exact⟨e,h1,h2,λj r x p u=>(f j r x p u).mono hq⟩
theorem Anl.mono (h:Anl Q w A n c Ns)(hq:∀w,Q' w->Q w):Anl Q' w A n c Ns:=by
 obtain⟨e,h1,h2,f⟩:=h;exact⟨e,h1,h2,λj r x p u=>(f j r x p u).mono hq⟩
theorem Dy.below (h:Dy Q w base A n c Ns)(hb:Below w.1.size w w'):Dy Q w' base A n c Ns:=by
 obtain⟨e,h1,h2,f⟩:=h;exact⟨e,h1.below hb,h2,f⟩
theorem Anl.below (h:Anl Q w A n c Ns)(hb:Below w.1.size w w'):Anl Q w' A n c Ns:=by
 obtain⟨e,h1,h2,f⟩:=h;exact⟨e,h1.below hb,h2,f⟩
theorem Anl.len (h:Anl Q w A n c Ns):Ns.length=n:=by
 obtain⟨e,h1,h2,_⟩:=h;rw[<-h2];exact h1.len
def Om (Ns:List (Int × Nd))(j:Nat):Int × Nd:=Ns.getD j (0,⟨0,[],[]⟩)
theorem qso {j:Nat}(h:j<Ns.length):Ns[j]?=some (Om Ns j):=by simp[Om,List.getD,h]
theorem Anl.get (h:Anl Q w A n c Ns){j:Nat}(hj:j<n):∃g o y p c1 D f E,A=some ⟨g,o,none⟩/\g<w.1.size/\w.rangeAt g (o+j*4) (Qby (Om Ns j).1 (Om Ns j).2.lvl y p c1 D f E)/\p<=1000/\f<=1000/\∀w',Q w'->Zl w' y p c1 (Om Ns j).2.items/\Zm w' D f E (Om Ns j).2.kids:=by
 have P:=h.len;obtain⟨u,h1,h2,I⟩:=h;have H:u[j]?=some (u[j]'(by omega)):=List.getElem?_eq_getElem (by omega);obtain⟨y,p,c1,D,f,E,e,K,M,O⟩:=I j _ _ H (qso (by omega));obtain⟨g,o,rfl,J,_,G⟩:=h1.2.2.2 j _ H;rw[e] at G;exact⟨g,o,y,p,c1,D,f,E,rfl,J,G,K,M,O⟩
end
def Ag (w:World)(base:Nat)(A:Option Addr)(n c:Nat)(xs:List Qc):Prop:=
 ∃e,Qs w base 68 4 A n c e/\e.length=xs.length/\∀(j:Nat) r x,e[j]?=some r->xs[j]?=some x->∃V p q,r=Yi x.k V p q/\Sl w V p q x.v/\(x.v≠[]->∀g,q01 V=some g->q01 A≠some g)
section
variable {w w':World}{base n c:Nat}{A:Option Addr}{xs:List Qc}
theorem Ag.below (h:Ag w base A n c xs)(hb:Below w.1.size w w'):Ag w' base A n c xs:=by
 obtain⟨u,h1,h2,y⟩:=h;refine⟨u,h1.below hb,h2,λj r x D G=>?_⟩;obtain⟨V,p,q,e,E,f⟩:=y j r x D G;exact⟨V,p,q,e,E.below hb,f⟩
theorem Ag.Zq (h:Ag w base A n c xs):Zl w A n c xs:=by
 obtain⟨f,h1,h2,u⟩:=h;refine⟨f,h1.Vs (by omega),h2,λj r x y E=>?_⟩;obtain⟨V,p,q,e,D,_⟩:=u j r x y E;exact⟨V,p,q,e,D⟩
theorem Ag.Qa (h:Ag w base A n c xs):∀k,q01 A=some k->base<=k/\k<w.1.size:=by
 obtain⟨e,h1,_⟩:=h;exact h1.Qa
end
theorem Ag.len {w:World}{base n c:Nat}{A:Option Addr}{xs:List Qc}(h:Ag w base A n c xs):xs.length=n:=h.Zq.len
def Le (F:Option Addr->List UInt8->Prop)(w:World)(V:Option Addr)(p q:Nat)(v:List UInt8):Prop:=Sl w V p q v/\F V v
theorem Le.below {F:Option Addr->List UInt8->Prop}{w w':World}{V:Option Addr}{p q:Nat}{v:List UInt8}(h:Le F w V p q v)(hb:Below w.1.size w w'):Le F w' V p q v:=⟨h.1.below hb,h.2⟩
def Zg (F:Option Addr->List UInt8->Prop)(w:World)(A:Option Addr)(n c:Nat)(xs:List Qc):Prop:=
 ∃e,Jf w 4 A n c e/\e.length=xs.length/\∀(j:Nat) r x,e[j]?=some r->xs[j]?=some x->∃V p q,r=Yi x.k V p q/\Le F w V p q x.v
theorem Zg.Zq {F:Option Addr->List UInt8->Prop}{w:World}{A:Option Addr}{n c:Nat}{xs:List Qc}(h:Zg F w A n c xs):Zl w A n c xs:=by
 obtain⟨f,h1,h2,u⟩:=h;refine⟨f,h1,h2,λj r x y E=>?_⟩;obtain⟨V,p,q,e,D⟩:=u j r x y E;exact⟨V,p,q,e,D.1⟩
theorem Zg.below {F:Option Addr->List UInt8->Prop}{w w':World}{A:Option Addr}{n c:Nat}{xs:List Qc}(h:Zg F w A n c xs)(hb:Below w.1.size w w'):Zg F w' A n c xs:=by
 obtain⟨f,h1,h2,u⟩:=h;refine⟨f,h1.below hb,h2,λj r x y E=>?_⟩;obtain⟨V,p,q,e,D⟩:=u j r x y E;exact⟨V,p,q,e,D.below hb⟩
theorem Zg.mono {F F':Option Addr->List UInt8->Prop}{w:World}{A:Option Addr}{n c:Nat}{xs:List Qc}(h:Zg F w A n c xs)(hF:∀V v,F V v->F' V v):Zg F' w A n c xs:=by
 obtain⟨f,h1,h2,y⟩:=h;refine⟨f,h1,h2,λj r x D E=>?_⟩;obtain⟨V,p,q,e,u⟩:=y j r x D E;exact⟨V,p,q,e,u.1,hF _ _ u.2⟩
theorem Zg.cell {F:Option Addr->List UInt8->Prop}{w:World}{A:Option Addr}{n c:Nat}{xs:List Qc}(h:Zg F w A n c xs){j:Nat}(hj:j<n):∃b o V p q,A=some ⟨b,o,none⟩/\b<w.1.size/\w.cell? ⟨b,o+j*4,none⟩=some (.int .i64 (Qj xs j).k.obj)/\w.cell? ⟨b,o+j*4+1,none⟩=some (.int .i64 (Qj xs j).k.kind)/\w.cell? ⟨b,o+j*4+2,none⟩=some (.int .i64 (Qj xs j).k.off)/\w.cell? ⟨b,o+j*4+3,none⟩=some (.slice V p q)/\Le F w V p q (Qj xs j).v:=by
 have H:=h.Zq.len;obtain⟨u,h1,h2,D⟩:=h;have y:u[j]?=some (u[j]'(by omega)):=List.getElem?_eq_getElem (by omega);obtain⟨B,m,d,e,G⟩:=D j _ _ y (q11 (by omega));obtain⟨g,o,rfl,E,_,f⟩:=h1.2.2.2 j _ y;rw[e] at f;exact⟨g,o,B,m,d,rfl,E,f 0 _ rfl,f 1 _ rfl,f 2 _ rfl,f 3 _ rfl,G⟩
def Je (F:Option Addr->List UInt8->Prop)(w:World)(base:Nat)(A:Option Addr)(n c:Nat)(xs:List Qc):Prop:=
 ∃e,Qs w base 68 4 A n c e/\e.length=xs.length/\∀(j:Nat) r x,e[j]?=some r->xs[j]?=some x->∃V p q,r=Yi x.k V p q/\Le F w V p q x.v/\(x.v≠[]->∀g,q01 V=some g->q01 A≠some g)
section
variable {F:Option Addr->List UInt8->Prop}{w w':World}{base n c:Nat}{A:Option Addr}{xs:List Qc}
theorem Je.below (h:Je F w base A n c xs)(hb:Below w.1.size w w'):Je F w' base A n c xs:=by
 obtain⟨u,h1,h2,y⟩:=h;refine⟨u,h1.below hb,h2,λj r x D G=>?_⟩;obtain⟨V,p,q,e,E,f⟩:=y j r x D G;exact⟨V,p,q,e,E.below hb,f⟩
theorem Je.Zq (h:Je F w base A n c xs):Zl w A n c xs:=by
 obtain⟨f,h1,h2,u⟩:=h;refine⟨f,h1.Vs (by omega),h2,λj r x y E=>?_⟩;obtain⟨V,p,q,e,D,_⟩:=u j r x y E;exact⟨V,p,q,e,D.1⟩
theorem Je.Qa (h:Je F w base A n c xs):∀k,q01 A=some k->base<=k/\k<w.1.size:=by
 obtain⟨e,h1,_⟩:=h;exact h1.Qa
end
theorem Zg.turned {S:Nat->Prop}{F:Option Addr->List UInt8->Prop}{w w':World}{A:Option Addr}{n c:Nat}{xs:List Qc}(h:Zg F w A n c xs)(T:Turn S w w')(hA:∀k,q01 A=some k->¬S k)(hF:∀V v,F V v->v≠[]->∀g,q01 V=some g->¬S g):Zg F w' A n c xs:=by
 obtain⟨u,h1,h2,y⟩:=h;refine⟨u,h1.keep T.size λg o e D=>T.block g D (hA g (by rw[e];rfl)),h2,λj r x H I=>?_⟩;obtain⟨V,p,q,e,f⟩:=y j r x H I;exact⟨V,p,q,e,f.1.turned' T (λG k E e=>hF _ _ f.2 G k E e),f.2⟩
