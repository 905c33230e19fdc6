/- What the reference's Read answers, as plain data; its takes as one contract each -/
import Derived.Test.YthkfkhejjmhomaaGreatDoorDb9
namespace Go.Proofs.YthkfkhejjmhomaaGreatDoor
open Go Go.RowKit Go.Proofs
theorem Qa5 (s:ByteArray)(w:World):(convert 9 48 (.string s)).run Tryz.prog w=.ok (.slice (some ⟨w.1.size,0,none⟩) s.size (grownCap w s.size 0 5)) (Lib.bytesWorld w 5 s):=
 Lib.run_convert_string_bytes w 9 48 5 s Tryz.underlying9 Tryz.underlying48 Tryz.underlying5
def ttY (l:List UInt8):Bool:=decide (1<=l.length/\1+Qw (l.take 1)<=l.length)
def Io (l:List UInt8):List UInt8:=if ttY l=true then bodyT l 1 else []
def Nc (l:List UInt8):List UInt8:=if ttY l=true then Yg l 1 else []
def Ib (l:List UInt8):Int:=if ttY l=true then 0 else 2
theorem qyj (l:List UInt8):(Io l).length<=l.length:=by
 unfold Io;split
 ·exact qk9 l 1
 ·simp
theorem qvs (l:List UInt8):(Wj l).length<=l.length:=by
 unfold Wj;split<;>simp
def t2Y (l:List UInt8):Bool:=decide (2<=l.length)
def O0 (l:List UInt8):Int:=if t2Y l=true then (Qw (l.take 2):Int) else 0
def Nb (l:List UInt8):List UInt8:=if t2Y l=true then l.drop 2 else []
def Ia (l:List UInt8):Int:=if t2Y l=true then 0 else 2
def Xb (N:Nd)(r:List UInt8):Option (Nd × List UInt8):=
 if Gf r=0 then
  if N.lvl=0 then if Ib (Wj r)=0 then some (⟨N.lvl,N.items++[⟨G8 r,Io (Wj r)⟩],N.kids⟩,Nc (Wj r)) else none
  else if Ia (Wj r)=0 then some (⟨N.lvl,N.items,N.kids++[⟨G8 r,O0 (Wj r)⟩]⟩,Nb (Wj r)) else none
 else none
def Jr (l:Int)(body:List UInt8):Nat->Option (Nd × List UInt8)
 |0=>some (⟨l,[],[]⟩,body)
 |j+1=>match Jr l body j with
  |some (N,r)=>Xb N r
  |none=>none
theorem q49 (l:Int)(body:List UInt8)(j:Nat)(N:Nd)(r:List UInt8)(h:Jr l body j=some (N,r)):Jr l body (j+1)=Xb N r:=by
 show (match Jr l body j with|some (N,r)=>Xb N r|none=>none)=_;rw[h]
theorem q9j (l:Int)(body:List UInt8)(j k:Nat)(h:Jr l body j=none)(e:j<=k):Jr l body k=none:=by
 induction k with
 |zero=>
  obtain rfl:j=0:=by omega
  exact h
 |succ k ih=>
  rcases (by omega:j<=k\/j=k+1) with h1|rfl
  ·show (match Jr l body k with|some (N,r)=>Xb N r|none=>none)=_;rw[ih h1]
  ·exact h
def qd6 (b:List UInt8):Nat:=min (Yk b).count.toNat 20
def qd7 (b:List UInt8)(addr gen:Int):Option (Nd × List UInt8)->Option Nd
 |some (N,_)=>if Zg N addr gen=0/\Jp N addr gen=b then some N else none
 |none=>none
def Hu (b:List UInt8)(addr:Int):Option Nd:=if Lp b=0 then qd7 b addr (Yk b).gen (Jr (Yk b).level (Un b) (qd6 b)) else none
theorem qvt {b:List UInt8}(h:Lp b=0):(Yk b).ok=true:=by
 cases e:okB b
 ·obtain⟨_,_,f⟩:=qif e;rw[f] at h;omega
 ·obtain⟨h1,_,_⟩:=q6x e;rw[h1];exact (of_decide_eq_true e).2.2.1
theorem Nl:Dh Tryz.prog 41 50 4 48 (.agg #[.int .i64 0,.int .i64 0,.int .i64 0,.slice none 0 0]):=⟨Tryz.underlying41,by kernel_rfl,rfl,by omega⟩
theorem Qaf:Dh Tryz.prog 75 148 4 32 (.agg #[.int .i64 0,.int .i64 0,.int .i64 0,.int .i64 0]):=⟨Tryz.underlying75,by kernel_rfl,rfl,by omega⟩
theorem Sl.turned' {w w':World}{A:Option Addr}{n c:Nat}{l:List UInt8}(h:Sl w A n c l){S:Nat->Prop}(T:Turn S w w')(hA:l≠[]->∀k,q01 A=some k->¬S k):Sl w' A n c l:=by
 by_cases e:l=[]
 ·subst e;exact⟨h.1,h.2.1,h.2.2.1,λj u f=>by simp at f⟩
 ·exact h.turned T (hA e)
theorem Sl.Qc {w:World}{A:Option Addr}{n c:Nat}{l:List UInt8}(h:Sl w A n c l)(hl:l≠[]):∀k,q01 A=some k->k<w.1.size:=by
 intro k u;have hn:0<n:=by have:=h.len;have:l.length≠0:=λe=>hl (List.eq_nil_of_length_eq_zero e);omega
 obtain⟨f,rfl,p,_⟩:=h.cell hn;obtain rfl:f.block=k:=Option.some.inj u;exact p
def Vm (k:Kd)(V:Option Addr)(p q:Nat):List Value:=[.int .i64 k.obj,.int .i64 k.kind,.int .i64 k.off,.slice V p q]
def J4 (w:World)(base:Nat)(A:Option Addr)(n c:Nat)(xs:List Qb):Prop:=
 ∃e,Qr w base 50 4 A n c e/\e.length=xs.length/\∀(j:Nat) r x,e[j]?=some r->xs[j]?=some x->∃V p q,r=Vm x.k V p q/\Sl w V p q x.v/\(x.v≠[]->∀g,q01 V=some g->base<=g/\q01 A≠some g)
section
variable {w w':World}{base n c:Nat}{A:Option Addr}{xs:List Qb}
theorem Ox (w:World)(base:Nat):J4 w base none 0 0 []:=⟨[],Lu _ _ _ _,rfl,λj r x e=>by simp at e⟩
theorem J4.below (h:J4 w base A n c xs)(hb:Below w.1.size w w'):J4 w' base A n c xs:=by
 obtain⟨u,h1,h2,y⟩:=h;refine⟨u,h1.below hb,h2,λj r x D F=>?_⟩;obtain⟨V,p,q,e,E,f⟩:=y j r x D F;exact⟨V,p,q,e,E.below hb,f⟩
theorem J4.Yc (h:J4 w base A n c xs):Jg w A n c xs:=by
 obtain⟨f,h1,h2,u⟩:=h;refine⟨f,h1.Uo (by omega),h2,λj r x y E=>?_⟩;obtain⟨V,p,q,e,D,_⟩:=u j r x y E;exact⟨V,p,q,e,D⟩
theorem J4.Qc (h:J4 w base A n c xs):∀k,q01 A=some k->base<=k/\k<w.1.size:=by
 obtain⟨e,h1,_⟩:=h;exact h1.Qc
theorem J4.low (h:J4 w base A n c xs){S:Nat->Prop}(T:Turn S w w')(hS:∀k,S k->k<base):J4 w' base A n c xs:=by
 obtain⟨y,h1,h2,D⟩:=h;refine⟨y,h1.turned T (λk u e=>by have:=(h1.Qc k u).1;have:=hS k e;omega),h2,λj r x F H=>?_⟩;obtain⟨V,p,q,e,G,f⟩:=D j r x F H;exact⟨V,p,q,e,G.turned' T (λE k u e=>by have:=(f E k u).1;have:=hS k e;omega),f⟩
end
theorem HB.keep {w w':World}{bp:Nat}{h:Hd}(H:HB w bp h)(e:w'.1[bp]?=w.1[bp]?):HB w' bp h:=by
 obtain⟨t,H⟩:=H;exact⟨t,e.trans H⟩
theorem qiy (k:Kd)(V:Option Addr)(p q:Nat):∀y∈[Vm k V p q],∀u∈y,u.oneCell'=true:=by
 intro y f u e;obtain rfl:y=Vm k V p q:=by simpa using f
 simp[Vm] at e;rcases e with rfl|rfl|rfl|rfl<;>rfl
theorem q5k {w:World}{O:Array Oper}{D:List Oper}{o:Oper}{a:Act}{Q:Exit->Act->World->Prop}(Y:o.guard=none)(so x:Operand)
  (ho:o.op=.call { callee:=.builtin .append,args:=#[so,x],argTypes:=#[41,41] })
  (base:Nat) (A:Option Addr) (n c:Nat) (xs:List Qb) (U:a.eval so=.slice A n c) (M:J4 w base A n c xs)
  (B:Option Addr) (d:Nat) (y:Qb) (V:Option Addr) (p q:Nat) (G:a.eval x=.slice B 1 d) (u:Jq w 4 B 1 d [Vm y.k V p q]) (hv:Sl w V p q y.v) (a1:y.v≠[]->∀g,q01 V=some g->base<=g/\q01 A≠some g) (hn:n<=100000) (F:base<=w.1.size)
  (h:∀E R w',J4 w' base E (n+1) R (xs++[y])->Turn (λk=>q01 A=some k) w w'->(q01 E=q01 A\/q01 E=some w.1.size)->wpList Tryz.prog O Q D (a.put o.dst (.slice E (n+1) R)) w'):wpList Tryz.prog O Q (o::D) a w:=by
 obtain⟨H,h1,h2,h3⟩:=M;refine qab w Nl Y so x ho base A n c H U h1 B 1 d [Vm y.k V p q] G u (by omega) (qiy _ _ _ _) (by omega) (by omega) F ?_;intro E R w' P T I _;refine h E R w' ⟨_,P,by simp[h2],λj r x u G=>?_⟩ T I;have old:∀(V:Option Addr) (p q:Nat) (v:List UInt8),Sl w V p q v->(v≠[]->∀g,q01 V=some g->base<=g/\q01 A≠some g)->Sl w' V p q v/\(v≠[]->∀g,q01 V=some g->base<=g/\q01 E≠some g):=by
  intro V p q v U f;refine⟨U.turned' T (λK k hk e=>(f K k hk).2 e),λK g X=>⟨(f K g X).1,λe=>?_⟩⟩;rcases I with W|W
  ·exact (f K g X).2 (W.symm.trans e)
  ·have:=U.Qc K g X;rw[W] at e;have:=Option.some.inj e;omega
 by_cases hj:j<H.length
 ·rw[List.getElem?_append_left hj] at u;rw[List.getElem?_append_left (by omega)] at G;obtain⟨V',p',q',e,Z,f⟩:=h3 j r x u G;obtain⟨o1,o2⟩:=old V' p' q' x.v Z f;exact⟨V',p',q',e,o1,o2⟩
 ·rw[List.getElem?_append_right (by omega)] at u G;have J:j-H.length=0:=by
   have:=(List.getElem?_eq_some_iff.1 u).1;simp at this;omega
  rw[J] at u;rw[<-h2,J] at G;obtain rfl:Vm y.k V p q=r:=by simpa using u
  obtain rfl:y=x:=by simpa using G
  obtain⟨o1,o2⟩:=old V p q y.v hv a1;exact⟨V,p,q,rfl,o1,o2⟩
section
variable {w w':World}{s n c:Nat}{A:Option Addr}
theorem Jq.drop {xs:List (List Value)}(h:Jq w s A n c xs){k:Nat}(hk:k<=n):Jq w s (if c=k then A else A.map (·.add (k*s))) (n-k) (c-k) (xs.drop k):=by
 have F:=h.len;have D:=h.cap;have hm:=h.max;refine⟨by rw[List.length_drop];omega,by omega,by omega,λj x f=>?_⟩;rw[List.getElem?_drop] at f;have E:=(List.getElem?_eq_some_iff.1 f).1;obtain⟨g,o,rfl,u,p,y⟩:=h.2.2.2 _ x f;rw[if_neg (by omega)];refine⟨g,o+k*s,by rw[Option.map_some,Addr.add_mid],u,p,?_⟩;have e:o+k*s+j*s=o+(k+j)*s:=by rw[Nat.add_mul];omega
 rw[e];exact y
theorem Jg.drop {xs:List Qb}(h:Jg w A n c xs){k:Nat}(hk:k<=n):Jg w (if c=k then A else A.map (·.add (k*4))) (n-k) (c-k) (xs.drop k):=by
 obtain⟨e,h1,h2,u⟩:=h;refine⟨e.drop k,h1.drop hk,by rw[List.length_drop,List.length_drop,h2],λj r x f p=>?_⟩;rw[List.getElem?_drop] at f p;exact u _ r x f p
theorem Jg.sub {xs:List Qb}(h:Jg w A n c xs){i j:Nat}(hi:i<=j)(hj:j<=n):Jg w (if c=i then A else A.map (·.add (i*4))) (j-i) (c-i) ((xs.drop i).take (j-i)):=(h.drop (by omega)).take (by omega)
theorem Zk.drop {xs:List Qj}(h:Zk w A n c xs){k:Nat}(hk:k<=n):Zk w (if c=k then A else A.map (·.add (k*4))) (n-k) (c-k) (xs.drop k):=by
 have:=Jq.drop h hk;rw[<-List.map_drop] at this;exact this
theorem Zk.sub {xs:List Qj}(h:Zk w A n c xs){i j:Nat}(hi:i<=j)(hj:j<=n):Zk w (if c=i then A else A.map (·.add (i*4))) (j-i) (c-i) ((xs.drop i).take (j-i)):=(h.drop (by omega)).take (by omega)
end
def Va (l:Int)(A:Option Addr)(n c:Nat)(B:Option Addr)(m d:Nat):List Value:=[.int .i64 l,.slice A n c,.slice B m d]
theorem qsr (l:Int)(A:Option Addr)(n c:Nat)(B:Option Addr)(m d:Nat):∀y∈[Va l A n c B m d],∀u∈y,u.oneCell'=true:=by
 intro y f u e;obtain rfl:y=Va l A n c B m d:=by simpa using f
 simp[Va] at e;rcases e with rfl|rfl|rfl<;>rfl
def Qbr (Q:World->Prop)(r:List Value)(N:Nd):Prop:=∃A n c B m d,r=Va N.lvl A n c B m d/\n<=1000/\m<=1000/\∀w,Q w->Jg w A n c N.items/\Zk w B m d N.kids
def Nk (Q:World->Prop)(w:World)(base:Nat)(A:Option Addr)(n c:Nat)(Ns:List Nd):Prop:=
 ∃e,Qr w base 77 3 A n c e/\e.length=Ns.length/\∀(j:Nat) r N,e[j]?=some r->Ns[j]?=some N->Qbr Q r N
def Ndl (Q:World->Prop)(w:World)(A:Option Addr)(n c:Nat)(Ns:List Nd):Prop:=
 ∃e,Jq w 3 A n c e/\e.length=Ns.length/\∀(j:Nat) r N,e[j]?=some r->Ns[j]?=some N->Qbr Q r N
section
variable {Q:World->Prop}{w w':World}{base n c:Nat}{A:Option Addr}{Ns:List Nd}
theorem Nk.below (h:Nk Q w base A n c Ns)(hb:Below w.1.size w w'):Nk Q w' base A n c Ns:=by
 obtain⟨e,h1,h2,f⟩:=h;exact⟨e,h1.below hb,h2,f⟩
theorem Ndl.below (h:Ndl Q w A n c Ns)(hb:Below w.1.size w w'):Ndl Q w' A n c Ns:=by
 obtain⟨e,h1,h2,f⟩:=h;exact⟨e,h1.below hb,h2,f⟩
theorem Ndl.len (h:Ndl Q w A n c Ns):Ns.length=n:=by
 obtain⟨e,h1,h2,_⟩:=h;rw[<-h2];exact h1.len
def U8 (Ns:List Nd)(j:Nat):Nd:=Ns.getD j ⟨0,[],[]⟩
theorem q4u {j:Nat}(h:j<Ns.length):Ns[j]?=some (U8 Ns j):=by simp[U8,List.getD,h]
theorem Ndl.get (h:Ndl Q w A n c Ns){j:Nat}(hj:j<n):∃g o y p c1 D f E,A=some ⟨g,o,none⟩/\g<w.1.size/\w.rangeAt g (o+j*3) (Va (U8 Ns j).lvl y p c1 D f E)/\p<=1000/\f<=1000/\∀w',Q w'->Jg w' y p c1 (U8 Ns j).items/\Zk w' D f E (U8 Ns j).kids:=by
 have O:=h.len;obtain⟨u,h1,h2,H⟩:=h;have G:u[j]?=some (u[j]'(by omega)):=List.getElem?_eq_getElem (by omega);obtain⟨y,p,c1,D,f,E,e,J,K,M⟩:=H j _ _ G (q4u (by omega));obtain⟨g,o,rfl,I,_,F⟩:=h1.2.2.2 j _ G;rw[e] at F;exact⟨g,o,y,p,c1,D,f,E,rfl,I,F,J,K,M⟩
end
section
variable {w w':World}{b:Nat}{l:Int}{A B:Option Addr}{n c m d:Nat}
theorem NB.keep (H:NB w b l A n c B m d)(h:w'.1[b]?=w.1[b]?):NB w' b l A n c B m d:=by
 obtain⟨t,H⟩:=H;exact⟨t,h.trans H⟩
theorem NB.fz (H:NB w b l A n c B m d)(i:Nat):w.frozen? ⟨b,i,none⟩=false:=by
 obtain⟨t,H⟩:=H;unfold World.frozen?;rw[H];simp
theorem NB.set1 (H:NB w b l A n c B m d)(A':Option Addr)(n' c':Nat):NB (w.setCell ⟨b,1,none⟩ (.slice A' n' c')) b l A' n' c' B m d:=by
 obtain⟨t,H⟩:=H;exact⟨t,D7 _ H⟩
theorem NB.set2 (H:NB w b l A n c B m d)(A':Option Addr)(n' c':Nat):NB (w.setCell ⟨b,2,none⟩ (.slice A' n' c')) b l A n c A' n' c':=by
 obtain⟨t,H⟩:=H;exact⟨t,D7 _ H⟩
theorem NB.there (H:NB w b l A n c B m d):w.there b 0 3:=λj e=>by
 obtain⟨t,H⟩:=H;refine⟨?_,by unfold World.frozen?;rw[H];simp⟩;rw[cell_of_row _ _ _ _ _ _ H,Nat.zero_add,Array.getElem?_eq_getElem (by simpa using e)];rfl
theorem NB.stored (H:NB w b l A n c B m d)(l2:Int)(A2:Option Addr)(n2 c2:Nat)(B2:Option Addr)(m2 d2:Nat):NB (w.setCells b 0 [.int .i64 l2,.slice A2 n2 c2,.slice B2 m2 d2]) b l2 A2 n2 c2 B2 m2 d2:=by
 obtain⟨t,H⟩:=H;exact⟨t,D7 _ (D7 _ (D7 _ H))⟩
end
theorem Gp {f:Array Oper}{e:List Oper}{o:Oper}{a:Act}{w:World}{Q:Exit->Act->World->Prop}(K:o.guard=none)(x y:Operand)(I:o.op=Op.store 77 x y)
  (b:Nat) (M:a.eval x=.pointer (some ⟨b,0,none⟩)) (E:Int) (p:Option Addr) (G c2:Nat) (u:Option Addr) (F D:Nat) (O:a.eval y=.agg #[.int .i64 E,.slice p G c2,.slice u F D]) {l:Int} {A B:Option Addr} {n c m d:Nat} (H:NB w b l A n c B m d)
  (J:∀w',NB w' b E p G c2 u F D->Turn (λg=>g=b) w w'->wpList Tryz.prog f Q e (a.put o.dst undef) w'):wpList Tryz.prog f Q (o::e) a w:=
 wpList_store_mid K _ x y I b 0 #[.int .i64 E,.slice p G c2,.slice u F D] M O H.there (by kernel_rfl) (by simp[Value.oneCell'])
  (J _ (H.stored E p G c2 u F D) (Vb (S:=λg=>g=b) rfl _ 0 w))
def Xu (k:Kd)(v:List UInt8):Bool->List Qb->List Qb
 |done,[]=>if done=true then [] else [⟨k,v⟩]
 |done,x::r=>(if (!done&&(k.less x.k||x.k.same k))=true then [⟨k,v⟩] else [])++((if x.k.same k=true then [] else [x])++Xu k v (done||(k.less x.k||x.k.same k)) r)
theorem q6e (k:Kd)(v:List UInt8):∀(l:List Qb),(∀x∈l,x.k.same k=false)->Xu k v true l=l
 |[],_=>rfl
 |x::r,h=>by
  unfold Xu;rw[h x (List.mem_cons_self ..),Bool.true_or,q6e k v r λy e=>h y (List.mem_cons_of_mem _ e)];rfl
theorem Sr {a b:Kd}(h:a.less b=true):a.same b=false/\b.same a=false:=by
 constructor
 ·cases e:a.same b with
  |false=>rfl
  |true=>have:=q4p (a:=b) e;rw[q43,h] at this;cases this
 ·cases e:b.same a with
  |false=>rfl
  |true=>have:=q6z (a:=a) e;rw[q43,h] at this;cases this
theorem q20 {k:Kd}{v:List UInt8}{x:Qb}{r:List Qb}(D:Ql (x::r)) :
  Xu k v false (x::r)=if k.less x.k=true then ⟨k,v⟩::x::r else if x.k.same k=true then ⟨k,v⟩::r else x::Xu k v false r:=by
 obtain⟨h1,h2⟩:=List.pairwise_cons.1 D;rw[Xu];by_cases e:k.less x.k=true
 ·rw[if_pos e,e];have f:=(Sr e).2;rw[f];show [(⟨k,v⟩:Qb)]++([x]++Xu k v true r)=_;rw[q6e]
  ·rfl
  ·intro y p;exact (Sr (Kd.trans _ _ _ e (h1 y p))).2
 ·have e:k.less x.k=false:=by simpa using e
  rw[e];by_cases f:x.k.same k=true
  ·rw[f];show [(⟨k,v⟩:Qb)]++([]++Xu k v true r)=_;rw[q6e]
   ·rfl
   ·intro y p;have u:=h1 y p;rw[<-q4p f] at u;exact (Sr u).2
  ·have f:x.k.same k=false:=by simpa using f
   rw[f];rfl
theorem qd8 {k:Kd}{v:List UInt8}:∀{l:List Qb},Ql l->∀y∈Xu k v false l,y=⟨k,v⟩\/y∈l
 |[],_,y,hy=>.inl (by simpa [Xu] using hy)
 |x::r,hr,y,hy=>by
  rw[q20 hr] at hy;have e:=(List.pairwise_cons.1 hr).2;split at hy
  ·rcases List.mem_cons.1 hy with h|h
   ·exact .inl h
   ·exact .inr h
  ·split at hy
   ·rcases List.mem_cons.1 hy with h|h
    ·exact .inl h
    ·exact .inr (List.mem_cons_of_mem _ h)
   ·rcases List.mem_cons.1 hy with h|h
    ·exact .inr (h▸List.mem_cons_self ..)
    ·rcases qd8 e y h with h|h
     ·exact .inl h
     ·exact .inr (List.mem_cons_of_mem _ h)
theorem qbj {k:Kd}{v:List UInt8}:∀{l:List Qb},Ql l->Ql (Xu k v false l)
 |[],_=>by
  show Ql [⟨k,v⟩];exact List.pairwise_singleton ..
 |x::r,hr=>by
  obtain⟨h1,h2⟩:=List.pairwise_cons.1 hr;rw[q20 hr];split
  ·rename_i f;refine List.pairwise_cons.2 ⟨λy e=>?_,hr⟩;rcases List.mem_cons.1 e with rfl|e
   ·exact f
   ·exact Kd.trans _ _ _ f (h1 y e)
  ·rename_i f;split
   ·rename_i p;exact List.pairwise_cons.2 ⟨λy e=>by show k.less y.k=true;rw[q4p p];exact h1 y e,h2⟩
   ·rename_i p;have u:x.k.less k=true:=by
     rcases Kd.total x.k k with⟨h,_,_⟩|⟨_,h,_⟩|⟨_,_,h⟩
     ·exact h
     ·exact absurd h f
     ·exact absurd (by rw[h,Kd.same_iff];exact⟨rfl,rfl,rfl⟩) p
    refine List.pairwise_cons.2 ⟨λy e=>?_,qbj h2⟩;rcases qd8 h2 y e with rfl|e
    ·exact u
    ·exact h1 y e
theorem qiz {k:Kd}{v:List UInt8}:∀{l:List Qb},Ql l->(Xu k v false l).length<=l.length+1
 |[],_=>by simp[Xu]
 |x::r,hr=>by
  rw[q20 hr];have:=qiz (k:=k) (v:=v) (List.pairwise_cons.1 hr).2;split
  ·simp
  ·split<;>simp<;>omega
structure Qcn (l:List Qb)(m:Nat):Prop where
 Ql:Ql l
 may:∀x∈l,x.k.may=true/\x.v.length<=28
 len:l.length<=m
def Qby (a l:Int)(A:Option Addr)(n c:Nat)(B:Option Addr)(m d:Nat):List Value:=[.int .i64 a,.int .i64 l,.slice A n c,.slice B m d]
def Pq (Q:World->Prop)(r:List Value)(x:Int × Nd):Prop:=∃A n c B m d,r=Qby x.1 x.2.lvl A n c B m d/\n<=1000/\m<=1000/\∀w,Q w->Jg w A n c x.2.items/\Zk w B m d x.2.kids
def Pv (Q:World->Prop)(w:World)(base:Nat)(A:Option Addr)(n c:Nat)(Ns:List (Int × Nd)):Prop:=
 ∃e,Qr w base 218 4 A n c e/\e.length=Ns.length/\∀(j:Nat) r x,e[j]?=some r->Ns[j]?=some x->Pq Q r x
def Anl (Q:World->Prop)(w:World)(A:Option Addr)(n c:Nat)(Ns:List (Int × Nd)):Prop:=
 ∃e,Jq w 4 A n c e/\e.length=Ns.length/\∀(j:Nat) r x,e[j]?=some r->Ns[j]?=some x->Pq Q r x
section
variable {Q Q':World->Prop}{w w':World}{base n c:Nat}{A:Option Addr}{Ns:List (Int × Nd)}
theorem Pq.mono {r:List Value}{x:Int × Nd}(h:Pq Q r x)(hq:∀w,Q' w->Q w):Pq Q' r x:=by
 obtain⟨f,H,c1,p,G,u,e,D,E,F⟩:=h;exact⟨f,H,c1,p,G,u,e,D,E,λw y=>F w (hq w y)⟩
theorem Pv.mono (h:Pv Q w base A n c Ns)(hq:∀w,Q' w->Q w):Pv Q' w base A n c Ns:=by
 obtain⟨e,h1,h2,f⟩:=h;exact⟨e,h1,h2,λj r x p u=>(f j r x p u).mono hq⟩
theorem Anl.mono (h:Anl Q w A n c Ns)(hq:∀w,Q' w->Q w):Anl Q' w A n c Ns:=by
 obtain⟨e,h1,h2,f⟩:=h;exact⟨e,h1,h2,λj r x p u=>(f j r x p u).mono hq⟩
theorem Anl.len (h:Anl Q w A n c Ns):Ns.length=n:=by
 obtain⟨e,h1,h2,_⟩:=h;rw[<-h2];exact h1.len
def Og (Ns:List (Int × Nd))(j:Nat):Int × Nd:=Ns.getD j (0,⟨0,[],[]⟩)
theorem qss {j:Nat}(h:j<Ns.length):Ns[j]?=some (Og Ns j):=by simp[Og,List.getD,h]
theorem Anl.get (h:Anl Q w A n c Ns){j:Nat}(hj:j<n):∃g o y p c1 D f E,A=some ⟨g,o,none⟩/\g<w.1.size/\w.rangeAt g (o+j*4) (Qby (Og Ns j).1 (Og Ns j).2.lvl y p c1 D f E)/\p<=1000/\f<=1000/\∀w',Q w'->Jg w' y p c1 (Og Ns j).2.items/\Zk w' D f E (Og Ns j).2.kids:=by
 have O:=h.len;obtain⟨u,h1,h2,H⟩:=h;have G:u[j]?=some (u[j]'(by omega)):=List.getElem?_eq_getElem (by omega);obtain⟨y,p,c1,D,f,E,e,J,K,M⟩:=H j _ _ G (qss (by omega));obtain⟨g,o,rfl,I,_,F⟩:=h1.2.2.2 j _ G;rw[e] at F;exact⟨g,o,y,p,c1,D,f,E,rfl,I,F,J,K,M⟩
end
section
variable {w w':World}{base n c:Nat}{A:Option Addr}{xs:List Qb}
end
theorem qwl {l:List Qb}{j:Nat}(h:j<l.length):l.drop j=Zb l j::l.drop (j+1):=by
 have e:=Tf h;rw[List.getElem?_eq_getElem h] at e;rw[<-List.getElem_cons_drop (h:=h),Option.some.inj e]
