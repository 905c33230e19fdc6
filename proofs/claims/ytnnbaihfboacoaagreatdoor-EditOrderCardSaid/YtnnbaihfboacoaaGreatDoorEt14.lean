/- What the reference's Read answers, as plain data; its takes as one contract each -/
import Derived.Test.YtnnbaihfboacoaaGreatDoorEt13
namespace Go.Proofs.YtnnbaihfboacoaaGreatDoor
open Go Go.RowKit Go.Proofs
set_option maxHeartbeats 8000000
set_option maxRecDepth 100000
theorem Qbb (s:ByteArray)(w:World):(convert 9 31 (.string s)).run Tryz.prog w=.ok (.slice (some ⟨w.1.size,0,none⟩) s.size (grownCap w s.size 0 5)) (Lib.bytesWorld w 5 s):=
 Lib.run_convert_string_bytes w 9 31 5 s Tryz.underlying9 Tryz.underlying31 Tryz.underlying5
def ttY (l:List UInt8):Bool:=decide (1<=l.length/\1+Q8 (l.take 1)<=l.length)
def Iy (l:List UInt8):List UInt8:=if ttY l=true then bodyT l 1 else []
def Nq (l:List UInt8):List UInt8:=if ttY l=true then Uw l 1 else []
def Il (l:List UInt8):Int:=if ttY l=true then 0 else 2
theorem qxj (l:List UInt8):(Iy l).length<=l.length:=by
 unfold Iy;split
 ·exact qka l 1
 ·simp
theorem qv3 (l:List UInt8):(Wp l).length<=l.length:=by
 unfold Wp;split<;>simp
def t2Y (l:List UInt8):Bool:=decide (2<=l.length)
def Pm (l:List UInt8):Int:=if t2Y l=true then (Q8 (l.take 2):Int) else 0
def Np (l:List UInt8):List UInt8:=if t2Y l=true then l.drop 2 else []
def Ik (l:List UInt8):Int:=if t2Y l=true then 0 else 2
def Xh (N:Nd)(r:List UInt8):Option (Nd × List UInt8):=
 if U9 r=0 then
  if N.lvl=0 then if Il (Wp r)=0 then some (⟨N.lvl,N.items++[⟨G8 r,Iy (Wp r)⟩],N.kids⟩,Nq (Wp r)) else none
  else if Ik (Wp r)=0 then some (⟨N.lvl,N.items,N.kids++[⟨G8 r,Pm (Wp r)⟩]⟩,Np (Wp r)) else none
 else none
def Jt (l:Int)(body:List UInt8):Nat->Option (Nd × List UInt8)
 |0=>some (⟨l,[],[]⟩,body)
 |j+1=>match Jt l body j with
  |some (N,r)=>Xh N r
  |none=>none
theorem q4p (l:Int)(body:List UInt8)(j:Nat)(N:Nd)(r:List UInt8)(h:Jt l body j=some (N,r)):Jt l body (j+1)=Xh N r:=by
 show (match Jt l body j with|some (N,r)=>Xh N r|none=>none)=_;rw[h]
theorem q9u (l:Int)(body:List UInt8)(j k:Nat)(h:Jt l body j=none)(e:j<=k):Jt l body k=none:=by
 induction k with
 |zero=>
  obtain rfl:j=0:=by omega
  exact h
 |succ k ih=>
  rcases (by omega:j<=k\/j=k+1) with h1|rfl
  ·show (match Jt l body k with|some (N,r)=>Xh N r|none=>none)=_;rw[ih h1]
  ·exact h
def qdp (b:List UInt8):Nat:=min (Yq b).count.toNat 20
def qdq (b:List UInt8)(addr gen:Int):Option (Nd × List UInt8)->Option Nd
 |some (N,_)=>if Zk N addr gen=0/\Jm N addr gen=b then some N else none
 |none=>none
def Ij (b:List UInt8)(addr:Int):Option Nd:=if Na b=0 then qdq b addr (Yq b).gen (Jt (Yq b).level (Un b) (qdp b)) else none
theorem qv4 {b:List UInt8}(h:Na b=0):(Yq b).ok=true:=by
 cases e:okB b
 ·obtain⟨_,_,f⟩:=qik e;rw[f] at h;omega
 ·obtain⟨h1,_,_⟩:=q78 e;rw[h1];exact (of_decide_eq_true e).2.2.1
theorem Ad:Em Tryz.prog 26 68 4 48 (.agg #[.int .i64 0,.int .i64 0,.int .i64 0,.slice none 0 0]):=⟨Tryz.underlying26,by kernel_rfl,rfl,by omega⟩
theorem Qak:Em Tryz.prog 73 81 4 32 (.agg #[.int .i64 0,.int .i64 0,.int .i64 0,.int .i64 0]):=⟨Tryz.underlying73,by kernel_rfl,rfl,by omega⟩
theorem Sl.turned' {w w':World}{A:Option Addr}{n c:Nat}{l:List UInt8}(h:Sl w A n c l){S:Nat->Prop}(T:Turn S w w')(hA:l≠[]->∀k,q01 A=some k->¬S k):Sl w' A n c l:=by
 by_cases e:l=[]
 ·subst e;exact⟨h.1,h.2.1,h.2.2.1,λj u f=>by simp at f⟩
 ·exact h.turned T (hA e)
theorem Sl.Qa {w:World}{A:Option Addr}{n c:Nat}{l:List UInt8}(h:Sl w A n c l)(hl:l≠[]):∀k,q01 A=some k->k<w.1.size:=by
 intro k u;have hn:0<n:=by have:=h.len;have:l.length≠0:=λe=>hl (List.eq_nil_of_length_eq_zero e);omega
 obtain⟨f,rfl,p,_⟩:=h.cell hn;obtain rfl:f.block=k:=Option.some.inj u;exact p
def Yi (k:Kd)(V:Option Addr)(p q:Nat):List Value:=[.int .i64 k.obj,.int .i64 k.kind,.int .i64 k.off,.slice V p q]
def J4 (w:World)(base:Nat)(A:Option Addr)(n c:Nat)(xs:List Qc):Prop:=
 ∃e,Qs w base 68 4 A n c e/\e.length=xs.length/\∀(j:Nat) r x,e[j]?=some r->xs[j]?=some x->∃V p q,r=Yi x.k V p q/\Sl w V p q x.v/\(x.v≠[]->∀g,q01 V=some g->base<=g/\q01 A≠some g)
section
variable {w w':World}{base n c:Nat}{A:Option Addr}{xs:List Qc}
theorem O8 (w:World)(base:Nat):J4 w base none 0 0 []:=⟨[],q10 _ _ _ _,rfl,λj r x e=>by simp at e⟩
theorem J4.below (h:J4 w base A n c xs)(hb:Below w.1.size w w'):J4 w' base A n c xs:=by
 obtain⟨u,h1,h2,G⟩:=h;refine⟨u,h1.below hb,h2,λj r x y E=>?_⟩;obtain⟨V,p,q,e,D,f⟩:=G j r x y E;exact⟨V,p,q,e,D.below hb,f⟩
theorem J4.Zq (h:J4 w base A n c xs):Zl w A n c xs:=by
 obtain⟨f,h1,h2,E⟩:=h;refine⟨f,h1.Vs (by omega),h2,λj r x u D=>?_⟩;obtain⟨V,p,q,e,y,_⟩:=E j r x u D;exact⟨V,p,q,e,y⟩
theorem J4.Qa (h:J4 w base A n c xs):∀k,q01 A=some k->base<=k/\k<w.1.size:=by
 obtain⟨e,h1,_⟩:=h;exact h1.Qa
theorem J4.low (h:J4 w base A n c xs){S:Nat->Prop}(T:Turn S w w')(hS:∀k,S k->k<base):J4 w' base A n c xs:=by
 obtain⟨y,h1,h2,I⟩:=h;refine⟨y,h1.turned T (λk u e=>by have:=(h1.Qa k u).1;have:=hS k e;omega),h2,λj r x D H=>?_⟩;obtain⟨V,p,q,e,E,f⟩:=I j r x D H;exact⟨V,p,q,e,E.turned' T (λG k u e=>by have:=(f G k u).1;have:=hS k e;omega),f⟩
end
theorem HB.keep {w w':World}{bp:Nat}{h:Hd}(H:HB w bp h)(e:w'.1[bp]?=w.1[bp]?):HB w' bp h:=by
 obtain⟨t,H⟩:=H;exact⟨t,e.trans H⟩
theorem q91 (k:Kd)(V:Option Addr)(p q:Nat):∀y∈[Yi k V p q],∀u∈y,u.oneCell'=true:=by
 intro y f u e;obtain rfl:y=Yi k V p q:=by simpa using f
 simp[Yi] at e;rcases e with rfl|rfl|rfl|rfl<;>rfl
theorem q60 {w:World}{M:Array Oper}{D:List Oper}{o:Oper}{a:Act}{Q:Exit->Act->World->Prop}(a2:o.guard=none)(so x:Operand)
  (ho:o.op=.call { callee:=.builtin .append,args:=#[so,x],argTypes:=#[26,26] })
  (base:Nat) (A:Option Addr) (n c:Nat) (xs:List Qc) (U:a.eval so=.slice A n c) (P:J4 w base A n c xs)
  (B:Option Addr) (d:Nat) (u:Qc) (V:Option Addr) (p q:Nat) (G:a.eval x=.slice B 1 d) (y:Jf w 4 B 1 d [Yi u.k V p q]) (hv:Sl w V p q u.v) (Z:u.v≠[]->∀g,q01 V=some g->base<=g/\q01 A≠some g) (hn:n<=100000) (E:base<=w.1.size)
  (h:∀H W w',J4 w' base H (n+1) W (xs++[u])->Turn (λk=>q01 A=some k) w w'->(q01 H=q01 A\/q01 H=some w.1.size)->wpList Tryz.prog M Q D (a.put o.dst (.slice H (n+1) W)) w'):wpList Tryz.prog M Q (o::D) a w:=by
 obtain⟨I,h1,h2,h3⟩:=P;refine qa4 w Ad a2 so x ho base A n c I U h1 B 1 d [Yi u.k V p q] G y (by omega) (q91 _ _ _ _) (by omega) (by omega) E ?_;intro H W w' O T R _;refine h H W w' ⟨_,O,by simp[h2],λj r x y G=>?_⟩ T R;have old:∀(V:Option Addr) (p q:Nat) (v:List UInt8),Sl w V p q v->(v≠[]->∀g,q01 V=some g->base<=g/\q01 A≠some g)->Sl w' V p q v/\(v≠[]->∀g,q01 V=some g->base<=g/\q01 H≠some g):=by
  intro V p q v U f;refine⟨U.turned' T (λK k hk e=>(f K k hk).2 e),λK g Y=>⟨(f K g Y).1,λe=>?_⟩⟩;rcases R with h5|h5
  ·exact (f K g Y).2 (h5.symm.trans e)
  ·have:=U.Qa K g Y;rw[h5] at e;have:=Option.some.inj e;omega
 by_cases hj:j<I.length
 ·rw[List.getElem?_append_left hj] at y;rw[List.getElem?_append_left (by omega)] at G;obtain⟨V',p',q',e,a1,f⟩:=h3 j r x y G;obtain⟨X,o2⟩:=old V' p' q' x.v a1 f;exact⟨V',p',q',e,X,o2⟩
 ·rw[List.getElem?_append_right (by omega)] at y G;have J:j-I.length=0:=by
   have:=(List.getElem?_eq_some_iff.1 y).1;simp at this;omega
  rw[J] at y;rw[<-h2,J] at G;obtain rfl:Yi u.k V p q=r:=by simpa using y
  obtain rfl:u=x:=by simpa using G
  obtain⟨X,o2⟩:=old V p q u.v hv Z;exact⟨V,p,q,rfl,X,o2⟩
def RB (w:World)(b:Nat)(r:List Value):Prop:=∃t,w.1[b]?=some (.cells r.toArray t (0,0))
section
variable {w w':World}{b:Nat}{r:List Value}
theorem RB.new (w:World)(r:List Value)(t:TypeId):RB (w.alloc (.cells r.toArray t)) w.1.size r:=⟨t,heap_alloc_new w _⟩
theorem RB.below (H:RB w b r){B:Nat}(hb:Below B w w')(hB:b<B):RB w' b r:=by
 obtain⟨t,H⟩:=H;exact⟨t,(hb.block b hB).trans H⟩
theorem RB.keep (H:RB w b r)(h:w'.1[b]?=w.1[b]?):RB w' b r:=by
 obtain⟨t,H⟩:=H;exact⟨t,h.trans H⟩
theorem RB.lt (H:RB w b r):b<w.1.size:=by
 obtain⟨t,H⟩:=H;exact (Array.getElem?_eq_some_iff.1 H).1
theorem RB.range (H:RB w b r):w.rangeAt b 0 r:=λj v e=>by
 obtain⟨t,H⟩:=H;rw[cell_of_row _ _ _ _ _ _ H,Nat.zero_add];simpa using e
theorem RB.there (H:RB w b r):w.there b 0 r.length:=λj e=>by
 obtain⟨t,H⟩:=H;refine⟨?_,by unfold World.frozen?;rw[H];simp⟩;rw[cell_of_row _ _ _ _ _ _ H,Nat.zero_add,Array.getElem?_eq_getElem (by simpa using e)];rfl
theorem RB.Oh {x0 x1 x2 x3:Value}(H:RB w b r)(h4:r.length=4):RB (w.setCells b 0 [x0,x1,x2,x3]) b [x0,x1,x2,x3]:=by
 obtain⟨t,H⟩:=H;match r,h4 with
 |[a0,a1,a2,a3],_=>exact⟨t,Fa _ (Fa _ (Fa _ (Fa _ H)))⟩
end
def zit:List Value:=[.int .i64 0,.int .i64 0,.int .i64 0,.slice none 0 0]
def Qaw:List Value:=[.int .i64 0,.int .i64 0,.int .i64 0,.int .i64 0]
theorem qho {w:World}{b:Nat}{k:Kd}{V:Option Addr}{p q:Nat}(H:RB w b (Yi k V p q)):(loadVar 68 ⟨b,0,none⟩).run Tryz.prog w=.ok (.agg #[.int .i64 k.obj,.int .i64 k.kind,.int .i64 k.off,.slice V p q]) w:=
 run_loadVar_mid w b 0 68 _ _ H.range Tryz.underlying68 rfl (by kernel_rfl)
theorem q92 {w:World}{b:Nat}{x:Ql}(H:RB w b x.vs):(loadVar 81 ⟨b,0,none⟩).run Tryz.prog w=.ok (.agg #[.int .i64 x.k.obj,.int .i64 x.k.kind,.int .i64 x.k.off,.int .i64 x.a]) w:=
 run_loadVar_mid w b 0 81 _ _ H.range Tryz.underlying81 rfl (by kernel_rfl)
theorem q66 {f:Array Oper}{e:List Oper}{o:Oper}{a:Act}{w:World}{Q:Exit->Act->World->Prop}(G:o.guard=none)(x y:Operand)(u:o.op=Op.store 68 x y)
  (b:Nat) (E:a.eval x=.pointer (some ⟨b,0,none⟩)) (k:Kd) (V:Option Addr) (p q:Nat) (I:a.eval y=.agg #[.int .i64 k.obj,.int .i64 k.kind,.int .i64 k.off,.slice V p q]) {r:List Value} (H:RB w b r) (D:r.length=4)
  (J:∀w',RB w' b (Yi k V p q)->Turn (λg=>g=b) w w'->wpList Tryz.prog f Q e (a.put o.dst undef) w'):wpList Tryz.prog f Q (o::e) a w:=
 wpList_store_mid G _ x y u b 0 #[.int .i64 k.obj,.int .i64 k.kind,.int .i64 k.off,.slice V p q] E I (by have:=H.there;rw[D] at this;exact this) (by kernel_rfl) (by simp[Value.oneCell'])
  (J _ (H.Oh D) (Us (S:=λg=>g=b) rfl _ 0 w))
theorem q3a {f:Array Oper}{e:List Oper}{o:Oper}{a:Act}{w:World}{Q:Exit->Act->World->Prop}(D:o.guard=none)(x y:Operand)(p:o.op=Op.store 81 x y)
  (b:Nat) (I:a.eval x=.pointer (some ⟨b,0,none⟩)) (z:Ql) (E:a.eval y=.agg #[.int .i64 z.k.obj,.int .i64 z.k.kind,.int .i64 z.k.off,.int .i64 z.a]) {r:List Value} (H:RB w b r) (u:r.length=4)
  (G:∀w',RB w' b z.vs->Turn (λg=>g=b) w w'->wpList Tryz.prog f Q e (a.put o.dst undef) w'):wpList Tryz.prog f Q (o::e) a w:=
 wpList_store_mid D _ x y p b 0 #[.int .i64 z.k.obj,.int .i64 z.k.kind,.int .i64 z.k.off,.int .i64 z.a] I E (by have:=H.there;rw[u] at this;exact this) (by kernel_rfl) (by simp[Value.oneCell'])
  (G _ (H.Oh u) (Us (S:=λg=>g=b) rfl _ 0 w))
theorem qvy (A:Option Addr)(k c:Nat)(l:List UInt8)(S R:List UInt8)(E:Int)(K:Iy l=S)(J:Nq l=R)(G:Il l=E)(w:World)(h:Sl w A k c l)(H:k<=17592186044416) :
  Calls Tryz.prog 148 #[.slice A k c] w λe w'=>∃u D c2,e=.returned (.tuple #[.string ⟨S.toArray⟩,.slice u D c2,.int .i64 E])/\Sl w' u D c2 R/\(∀f,u=some f->w.1.size<=f.block)/\Below w.1.size w w':=by
 subst K J G;by_cases p:G5 l 1
 ·have y:ttY l=true:=decide_eq_true p;unfold Iy Nq Il;rw[y,if_pos rfl,if_pos rfl,if_pos rfl];refine (qef A k c l w h H p).mono ?_;rintro e w' ⟨u,D,c2,rfl,own,I⟩;exact⟨_,_,_,rfl,own.sl,λf h=>(own.block f h).1,I⟩
 ·have y:ttY l=false:=decide_eq_false p;unfold Iy Nq Il;rw[y,if_neg (by simp),if_neg (by simp),if_neg (by simp)];refine (qgb A k c l w h p).mono ?_;rintro e w' ⟨rfl,rfl⟩;exact⟨_,_,_,rfl,q24 _,λf h=>(by cases h),Below.refl _ _⟩
theorem qvz (A:Option Addr)(k c:Nat)(l:List UInt8)(V:Int)(R:List UInt8)(E:Int)(J:Pm l=V)(I:Np l=R)(D:Ik l=E)(w:World)(h:Sl w A k c l)(G:k<=17592186044416) :
  Calls Tryz.prog 149 #[.slice A k c,.int .i64 2] w λe w'=>∃u y c2,e=.returned (.tuple #[.int .i64 V,.slice u y c2,.int .i64 E])/\Sl w' u y c2 R/\(∀f,u=some f->w.1.size<=f.block)/\Below w.1.size w w':=by
 subst J I D;have T:=h.len;by_cases O:2<=k
 ·have p:t2Y l=true:=decide_eq_true (by omega);unfold Pm Np Ik;rw[p,if_pos rfl,if_pos rfl,if_pos rfl];refine (q6w A k c l 2 w h G (by omega) (by omega) (by omega)).mono ?_;rintro e w' ⟨K,M,P,rfl,own,H⟩;exact⟨_,_,_,rfl,own.sl,λf h=>(own.block f h).1,H⟩
 ·have p:t2Y l=false:=decide_eq_false (by omega);unfold Pm Np Ik;rw[p,if_neg (by simp),if_neg (by simp),if_neg (by simp)];refine (qmg A k c 2 w (by omega) (by omega) (by omega)).mono ?_;rintro e w' ⟨rfl,rfl⟩;exact⟨_,_,_,rfl,q24 _,λf h=>(by cases h),Below.refl _ _⟩
def Qbw (l:List UInt8)(w:World)(e:Ending)(w':World):Prop:=
 ∃V p q u y c2,e=.returned (.tuple #[.agg #[.int .i64 (G8 l).obj,.int .i64 (G8 l).kind,.int .i64 (G8 l).off,.slice V p q],.slice u y c2,.int .i64 0])/\Sl w' V p q (Iy (Wp l))/\Sl w' u y c2 (Nq (Wp l))/\
  (∀f,V=some f->w.1.size<=f.block)/\(∀f,u=some f->w.1.size<=f.block)/\Below w.1.size w w'
def Qbv (zero:Value)(w:World)(e:Ending)(w':World):Prop:=
 ∃E:Int,E≠0/\e=.returned (.tuple #[zero,.slice none 0 0,.int .i64 E])/\Below w.1.size w w'
def Qck:Value:=.agg #[.int .i64 0,.int .i64 0,.int .i64 0,.slice none 0 0]
def Qa4:Value:=.agg #[.int .i64 0,.int .i64 0,.int .i64 0,.int .i64 0]
def Ll (l:List UInt8)(w:World)(e:Ending)(w':World):Prop:=(U9 l=0/\Il (Wp l)=0/\Qbw l w e w')\/(¬(U9 l=0/\Il (Wp l)=0)/\Qbv Qck w e w')
theorem Qci {l M H I:List UInt8}{K:Kd}{w w':World}(P:G8 l=K)(J:Wp l=M)(u:U9 l=0)(E:Iy M=H)(D:Nq M=I)(y:Il M=0){V:Option Addr}{p q:Nat}{f:Option Addr}{G c2:Nat}(R:Sl w' V p q H)(W:Sl w' f G c2 I)
  (T:∀e,V=some e->w.1.size<=e.block) (U:∀e,f=some e->w.1.size<=e.block) (O:Below w.1.size w w') :
  Ll l w (.returned (.tuple #[.agg #[.int .i64 K.obj,.int .i64 K.kind,.int .i64 K.off,.slice V p q],.slice f G c2,.int .i64 0])) w':=by
 subst P J E D;exact .inl ⟨u,y,V,p,q,f,G,c2,rfl,R,W,T,U,O⟩
theorem qxk {l M:List UInt8}{w w':World}{p u E:Int}(D:Wp l=M)(e:U9 l=p)(f:Il M=u)(h:¬(p=0/\u=0))(y:E≠0)(G:Below w.1.size w w') :
  Ll l w (.returned (.tuple #[.agg #[.int .i64 0,.int .i64 0,.int .i64 0,.slice none 0 0],.slice none 0 0,.int .i64 E])) w':=by
 subst D e f;exact .inr ⟨h,E,y,rfl,G⟩
theorem qdr (A:Option Addr)(n c:Nat)(l:List UInt8)(w:World)(h:Sl w A n c l)(hn:n<=100000) :
  Calls Tryz.prog 114 #[.slice A n c] w λe w'=>Ll l w e w':=by
 have Z:=h.len;obtain⟨K,hK⟩:∃x,G8 l=x:=⟨_,rfl⟩;obtain⟨M,hM⟩:∃x,Wp l=x:=⟨_,rfl⟩;obtain⟨E1,b0⟩:∃x,U9 l=x:=⟨_,rfl⟩;obtain⟨S2,G⟩:∃x,Iy M=x:=⟨_,rfl⟩;obtain⟨R2,b3⟩:∃x,Nq M=x:=⟨_,rfl⟩;obtain⟨E2,a1⟩:∃x,Il M=x:=⟨_,rfl⟩;have d1:M.length<=100000:=by have:=qv3 l;rw[hM] at this;omega
 have b6:S2.length<=100000:=by have:=qxj M;rw[G] at this;omega
 have HK:=Lib.hid hK;have HM:=Lib.hid hM;have y:=Lib.hid b0;have b2:=Lib.hid G;have a7:=Lib.hid b3;have D:=Lib.hid a1;clear hK hM b0 G b3 a1 Z;have R1:RB (w.alloc (.cells #[.int .i64 0,.int .i64 0,.int .i64 0,.slice none 0 0] 68)) w.1.size zit:=RB.new w zit _;have b1:Below w.1.size w (w.alloc (.cells #[.int .i64 0,.int .i64 0,.int .i64 0,.slice none 0 0] 68)):=Qm;go_enter Tryz.func114,Tryz.ntmps114
 go_wp2_with fail
 generalize w.alloc (.cells #[.int .i64 0,.int .i64 0,.int .i64 0,.slice none 0 0] 68)=w1 at R1 b1 ⊢;refine (qgz A n c l K M E1 HK.out HM.out y.out w1 (h.below b1) (by omega)).mono ?_;rintro e v ⟨A2,n2,c2,rfl,u,I⟩;have c7:n2<=100000:=by have:=u.len;omega
 have bk:Below v.1.size v (v.alloc (.cells #[.int .i64 K.obj,.int .i64 K.kind,.int .i64 K.off] 30)):=Qm;have K2:=KB.new v K.obj K.kind K.off 30;have E:=R1.below I R1.lt;have B2:=b1.trans (I.mono b1.size);have P:=E.below bk E.lt;have W:=B2.trans (bk.mono B2.size);have s3:=u.sl.below bk;have c8:w.1.size<v.1.size:=E.lt;clear E B2 R1 b1 I u;by_cases p:E1=0
 ·subst p;go_wp2_with fail
  generalize v.alloc (.cells #[.int .i64 K.obj,.int .i64 K.kind,.int .i64 K.off] 30)=w3 at K2 P W s3 bk ⊢;refine (qvy A2 n2 c2 M S2 R2 E2 b2.out a7.out D.out w3 s3 (by omega)).mono ?_;rintro e R ⟨A4,n4,c4,rfl,s4,a2,O⟩;have U:=P.below O P.lt;have K4:=K2.below O K2.lt;have B4:=W.trans (O.mono W.size);have a6:w.1.size<=w3.1.size:=W.size;have c9:w.1.size<w3.1.size:=P.lt;clear K2 P s3 bk;by_cases f:E2=0
  ·subst f;obtain⟨X,hX⟩:∃X,(⟨S2.toArray⟩:ByteArray)=X:=⟨_,rfl⟩;have b5:X.data.toList=S2:=by rw[<-hX]
   have d0:X.size<=100000:=by rw[<-hX];show S2.toArray.size<=_;simpa using b6
   have b7:=Qbb X;have b4:=qbt R 5 X (by unfold maxLen;omega);have H:=q6h R 5 X;rw[b5] at b4;rw[hX];have k0:=K4.c0;have k1:=K4.c1;have k2:=K4.c2;have R5:=U.below H U.lt;have B5:=B4.trans (H.mono B4.size);have s5:=s4.below H;have zX:w.1.size<R.1.size:=U.lt;clear hX b5 U s4;go_wp2_with (first
    |(refine q66 rfl (.tmp 2) (.tmp 31) rfl w.1.size rfl K (some ⟨R.1.size,0,none⟩) X.size (grownCap R X.size 0 5) rfl R5 rfl ?_;intro w6 Y J)
    |fail)
   have b9:∀g,q01 A4=some g->w3.1.size<=g:=λg T=>by
    cases A4 with
    |none=>cases T
    |some ad=>have:=a2 ad rfl;have e:ad.block=g:=Option.some.inj T;omega
   have a8:=b4.turned J (λg T e=>by have e1:R.1.size=g:=Option.some.inj T;omega);have s6:=s5.turned J (λg T e=>by have:=b9 g T;omega);have B6:=B5.trans (J.Qw R5.lt);refine bodyPost_ret (q72 Tryz.results114 rfl (qho Y)) rfl ?_;exact Qci HK.out HM.out y.out b2.out a7.out D.out a8 s6 (λad h=>by injection h with h;rw[<-h];exact Nat.le_of_lt zX) (λad h=>Nat.le_trans a6 (a2 ad h)) B6
  ·have c6:decide (E2=0)=false:=decide_eq_false f;have b8:(E2==0)=false:=by simp[f]
   go_wp2_with (first
    |(refine q66 rfl (.tmp 2) (.tmp 26) rfl w.1.size rfl ⟨0,0,0⟩ none 0 0 rfl U rfl ?_;intro w6 Y J)
    |fail)
   refine bodyPost_ret (q72 Tryz.results114 rfl (qho Y)) rfl ?_;exact qxk HM.out y.out D.out (λh=>f h.2) f (B4.trans (J.Qw U.lt))
 ·have c6:decide (E1=0)=false:=decide_eq_false p;have b8:(E1==0)=false:=by simp[p]
  go_wp2_with (first
   |(refine q66 rfl (.tmp 2) (.tmp 16) rfl w.1.size rfl ⟨0,0,0⟩ none 0 0 rfl P rfl ?_;intro w6 Y J)
   |fail)
  refine bodyPost_ret (q72 Tryz.results114 rfl (qho Y)) rfl ?_;exact qxk HM.out y.out D.out (λh=>p h.1) p (W.trans (J.Qw P.lt))
def Qbx (l:List UInt8)(w:World)(e:Ending)(w':World):Prop:=
 ∃f p c2,e=.returned (.tuple #[.agg #[.int .i64 (G8 l).obj,.int .i64 (G8 l).kind,.int .i64 (G8 l).off,.int .i64 (Pm (Wp l))],.slice f p c2,.int .i64 0])/\Sl w' f p c2 (Np (Wp l))/\
  (∀u,f=some u->w.1.size<=u.block)/\Below w.1.size w w'
def Lm (l:List UInt8)(w:World)(e:Ending)(w':World):Prop:=(U9 l=0/\Ik (Wp l)=0/\Qbx l w e w')\/(¬(U9 l=0/\Ik (Wp l)=0)/\Qbv Qa4 w e w')
theorem Qcj {l M H:List UInt8}{K:Kd}{G:Int}{w w':World}(O:G8 l=K)(I:Wp l=M)(f:U9 l=0)(y:Pm M=G)(u:Np M=H)(p:Ik M=0){e:Option Addr}{D c2:Nat}(R:Sl w' e D c2 H)
  (P:∀E,e=some E->w.1.size<=E.block) (J:Below w.1.size w w') :
  Lm l w (.returned (.tuple #[.agg #[.int .i64 K.obj,.int .i64 K.kind,.int .i64 K.off,.int .i64 G],.slice e D c2,.int .i64 0])) w':=by
 subst O I y u;exact .inl ⟨f,p,e,D,c2,rfl,R,P,J⟩
theorem qxl {l M:List UInt8}{w w':World}{p u E:Int}(D:Wp l=M)(e:U9 l=p)(f:Ik M=u)(h:¬(p=0/\u=0))(y:E≠0)(G:Below w.1.size w w') :
  Lm l w (.returned (.tuple #[.agg #[.int .i64 0,.int .i64 0,.int .i64 0,.int .i64 0],.slice none 0 0,.int .i64 E])) w':=by
 subst D e f;exact .inr ⟨h,E,y,rfl,G⟩
theorem qfl (A:Option Addr)(n c:Nat)(l:List UInt8)(w:World)(h:Sl w A n c l)(hn:n<=100000) :
  Calls Tryz.prog 116 #[.slice A n c] w λe w'=>Lm l w e w':=by
 have T:=h.len;obtain⟨K,hK⟩:∃x,G8 l=x:=⟨_,rfl⟩;obtain⟨M,hM⟩:∃x,Wp l=x:=⟨_,rfl⟩;obtain⟨E1,a1⟩:∃x,U9 l=x:=⟨_,rfl⟩;obtain⟨S2,W⟩:∃x,Pm M=x:=⟨_,rfl⟩;obtain⟨R2,a7⟩:∃x,Np M=x:=⟨_,rfl⟩;obtain⟨E2,U⟩:∃x,Ik M=x:=⟨_,rfl⟩;have b5:M.length<=100000:=by have:=qv3 l;rw[hM] at this;omega
 have HK:=Lib.hid hK;have HM:=Lib.hid hM;have D:=Lib.hid a1;have a6:=Lib.hid W;have X:=Lib.hid a7;have y:=Lib.hid U;clear hK hM a1 W a7 U T;have R1:RB (w.alloc (.cells #[.int .i64 0,.int .i64 0,.int .i64 0,.int .i64 0] 81)) w.1.size Qaw:=RB.new w Qaw _;have Y:Below w.1.size w (w.alloc (.cells #[.int .i64 0,.int .i64 0,.int .i64 0,.int .i64 0] 81)):=Qm;go_enter Tryz.func116,Tryz.ntmps116
 go_wp2_with fail
 generalize w.alloc (.cells #[.int .i64 0,.int .i64 0,.int .i64 0,.int .i64 0] 81)=w1 at R1 Y ⊢;refine (qgz A n c l K M E1 HK.out HM.out D.out w1 (h.below Y) (by omega)).mono ?_;rintro e v ⟨A2,n2,c2,rfl,u,G⟩;have b4:n2<=100000:=by have:=u.len;omega
 have Z:Below v.1.size v (v.alloc (.cells #[.int .i64 K.obj,.int .i64 K.kind,.int .i64 K.off] 30)):=Qm;have K2:=KB.new v K.obj K.kind K.off 30;have E:=R1.below G R1.lt;have B2:=Y.trans (G.mono Y.size);have I:=E.below Z E.lt;have O:=B2.trans (Z.mono B2.size);have s3:=u.sl.below Z;have b6:w.1.size<v.1.size:=E.lt;clear E B2 R1 Y G u;by_cases f:E1=0
 ·subst f;go_wp2_with fail
  generalize v.alloc (.cells #[.int .i64 K.obj,.int .i64 K.kind,.int .i64 K.off] 30)=w3 at K2 I O s3 Z ⊢;refine (qvz A2 n2 c2 M S2 R2 E2 a6.out X.out y.out w3 s3 (by omega)).mono ?_;rintro e w4 ⟨A4,n4,c4,rfl,s4,a2,H⟩;have R4:=I.below H I.lt;have K4:=K2.below H K2.lt;have B4:=O.trans (H.mono O.size);have P:w.1.size<=w3.1.size:=O.size;have b3:w.1.size<w3.1.size:=I.lt;clear K2 I s3 Z;by_cases p:E2=0
  ·subst p;have k0:=K4.c0;have k1:=K4.c1;have k2:=K4.c2;go_wp2_with (first
    |(refine q3a rfl (.tmp 2) (.tmp 30) rfl w.1.size rfl ⟨K,S2⟩ rfl R4 rfl ?_;intro w6 R J)
    |fail)
   have b0:∀g,q01 A4=some g->w3.1.size<=g:=λg hg=>by
    cases A4 with
    |none=>cases hg
    |some ad=>have:=a2 ad rfl;have e:ad.block=g:=Option.some.inj hg;omega
   have s6:=s4.turned J (λg hg e=>by have:=b0 g hg;omega);have B6:=B4.trans (J.Qw R4.lt);refine bodyPost_ret (q72 Tryz.results116 rfl (q92 R)) rfl ?_;exact Qcj HK.out HM.out D.out a6.out X.out y.out s6 (λad h=>Nat.le_trans P (a2 ad h)) B6
  ·have b2:decide (E2=0)=false:=decide_eq_false p;have a8:(E2==0)=false:=by simp[p]
   go_wp2_with (first
    |(refine q3a rfl (.tmp 2) (.tmp 26) rfl w.1.size rfl ⟨⟨0,0,0⟩,0⟩ rfl R4 rfl ?_;intro w6 R J)
    |fail)
   refine bodyPost_ret (q72 Tryz.results116 rfl (q92 R)) rfl ?_;exact qxl HM.out D.out y.out (λh=>p h.2) p (B4.trans (J.Qw R4.lt))
 ·have b2:decide (E1=0)=false:=decide_eq_false f;have a8:(E1==0)=false:=by simp[f]
  go_wp2_with (first
   |(refine q3a rfl (.tmp 2) (.tmp 16) rfl w.1.size rfl ⟨⟨0,0,0⟩,0⟩ rfl I rfl ?_;intro w6 R J)
   |fail)
  refine bodyPost_ret (q72 Tryz.results116 rfl (q92 R)) rfl ?_;exact qxl HM.out D.out y.out (λh=>f h.1) f (O.trans (J.Qw I.lt))
section
variable {w w':World}{s n c:Nat}{A:Option Addr}
theorem Jf.drop {xs:List (List Value)}(h:Jf w s A n c xs){k:Nat}(hk:k<=n):Jf w s (if c=k then A else A.map (·.add (k*s))) (n-k) (c-k) (xs.drop k):=by
 have D:=h.len;have E:=h.cap;have hm:=h.max;refine⟨by rw[List.length_drop];omega,by omega,by omega,λj x p=>?_⟩;rw[List.getElem?_drop] at p;have G:=(List.getElem?_eq_some_iff.1 p).1;obtain⟨g,o,rfl,y,f,u⟩:=h.2.2.2 _ x p;rw[if_neg (by omega)];refine⟨g,o+k*s,by rw[Option.map_some,Addr.add_mid],y,f,?_⟩;have e:o+k*s+j*s=o+(k+j)*s:=by rw[Nat.add_mul];omega
 rw[e];exact u
theorem Zl.drop {xs:List Qc}(h:Zl w A n c xs){k:Nat}(hk:k<=n):Zl w (if c=k then A else A.map (·.add (k*4))) (n-k) (c-k) (xs.drop k):=by
 obtain⟨e,h1,h2,u⟩:=h;refine⟨e.drop k,h1.drop hk,by rw[List.length_drop,List.length_drop,h2],λj r x f p=>?_⟩;rw[List.getElem?_drop] at f p;exact u _ r x f p
theorem Zl.sub {xs:List Qc}(h:Zl w A n c xs){i j:Nat}(hi:i<=j)(hj:j<=n):Zl w (if c=i then A else A.map (·.add (i*4))) (j-i) (c-i) ((xs.drop i).take (j-i)):=(h.drop (by omega)).take (by omega)
theorem Zm.drop {xs:List Ql}(h:Zm w A n c xs){k:Nat}(hk:k<=n):Zm w (if c=k then A else A.map (·.add (k*4))) (n-k) (c-k) (xs.drop k):=by
 have:=Jf.drop h hk;rw[<-List.map_drop] at this;exact this
theorem Zm.sub {xs:List Ql}(h:Zm w A n c xs){i j:Nat}(hi:i<=j)(hj:j<=n):Zm w (if c=i then A else A.map (·.add (i*4))) (j-i) (c-i) ((xs.drop i).take (j-i)):=(h.drop (by omega)).take (by omega)
end
def Vg (l:Int)(A:Option Addr)(n c:Nat)(B:Option Addr)(m d:Nat):List Value:=[.int .i64 l,.slice A n c,.slice B m d]
theorem qsm (l:Int)(A:Option Addr)(n c:Nat)(B:Option Addr)(m d:Nat):∀y∈[Vg l A n c B m d],∀u∈y,u.oneCell'=true:=by
 intro y f u e;obtain rfl:y=Vg l A n c B m d:=by simpa using f
 simp[Vg] at e;rcases e with rfl|rfl|rfl<;>rfl
def Qbs (Q:World->Prop)(r:List Value)(N:Nd):Prop:=∃A n c B m d,r=Vg N.lvl A n c B m d/\n<=1000/\m<=1000/\∀w,Q w->Zl w A n c N.items/\Zm w B m d N.kids
def Bg (Q:World->Prop)(w:World)(base:Nat)(A:Option Addr)(n c:Nat)(Ns:List Nd):Prop:=
 ∃e,Qs w base 75 3 A n c e/\e.length=Ns.length/\∀(j:Nat) r N,e[j]?=some r->Ns[j]?=some N->Qbs Q r N
def Ndl (Q:World->Prop)(w:World)(A:Option Addr)(n c:Nat)(Ns:List Nd):Prop:=
 ∃e,Jf w 3 A n c e/\e.length=Ns.length/\∀(j:Nat) r N,e[j]?=some r->Ns[j]?=some N->Qbs Q r N
section
variable {Q:World->Prop}{w w':World}{base n c:Nat}{A:Option Addr}{Ns:List Nd}
theorem Bg.below (h:Bg Q w base A n c Ns)(hb:Below w.1.size w w'):Bg Q w' base A n c Ns:=by
 obtain⟨e,h1,h2,f⟩:=h;exact⟨e,h1.below hb,h2,f⟩
theorem Ndl.below (h:Ndl Q w A n c Ns)(hb:Below w.1.size w w'):Ndl Q w' A n c Ns:=by
 obtain⟨e,h1,h2,f⟩:=h;exact⟨e,h1.below hb,h2,f⟩
theorem Ndl.len (h:Ndl Q w A n c Ns):Ns.length=n:=by
 obtain⟨e,h1,h2,_⟩:=h;rw[<-h2];exact h1.len
def U4 (Ns:List Nd)(j:Nat):Nd:=Ns.getD j ⟨0,[],[]⟩
theorem q5e {j:Nat}(h:j<Ns.length):Ns[j]?=some (U4 Ns j):=by simp[U4,List.getD,h]
theorem Ndl.get (h:Ndl Q w A n c Ns){j:Nat}(hj:j<n):∃g o y p c1 E f D,A=some ⟨g,o,none⟩/\g<w.1.size/\w.rangeAt g (o+j*3) (Vg (U4 Ns j).lvl y p c1 E f D)/\p<=1000/\f<=1000/\∀w',Q w'->Zl w' y p c1 (U4 Ns j).items/\Zm w' E f D (U4 Ns j).kids:=by
 have P:=h.len;obtain⟨u,h1,h2,O⟩:=h;have G:u[j]?=some (u[j]'(by omega)):=List.getElem?_eq_getElem (by omega);obtain⟨y,p,c1,E,f,D,e,I,M,J⟩:=O j _ _ G (q5e (by omega));obtain⟨g,o,rfl,K,_,H⟩:=h1.2.2.2 j _ G;rw[e] at H;exact⟨g,o,y,p,c1,E,f,D,rfl,K,H,I,M,J⟩
end
theorem qv5 {r:List UInt8}(h:U9 r=0):(Wp r).length+9<=r.length:=by
 unfold U9 at h;split at h
 ·rename_i e;have:=(of_decide_eq_true (Bool.and_eq_true ..▸e).1);unfold Wp;rw[if_pos e,List.length_drop];omega
 ·split at h<;>omega
theorem qxm {r:List UInt8}(h:Il r=0):(Nq r).length+1<=r.length:=by
 unfold Il at h;split at h
 ·rename_i e;have:=(of_decide_eq_true e).1;unfold Nq Uw;rw[if_pos e,List.length_drop];omega
 ·omega
theorem qxn {r:List UInt8}(h:Ik r=0):(Np r).length+1<=r.length:=by
 unfold Ik at h;split at h
 ·rename_i e;have:=of_decide_eq_true e;unfold Np;rw[if_pos e,List.length_drop];omega
 ·omega
theorem qw0 {xs:List Qc}{r:List UInt8}(h1:U9 r=0)(h2:Il (Wp r)=0):Xh ⟨0,xs,[]⟩ r=some (⟨0,xs++[⟨G8 r,Iy (Wp r)⟩],[]⟩,Nq (Wp r)):=by
 unfold Xh;rw[if_pos h1,if_pos rfl,if_pos h2]
theorem qll {xs:List Qc}{r:List UInt8}(h:¬(U9 r=0/\Il (Wp r)=0)):Xh ⟨0,xs,[]⟩ r=none:=by
 unfold Xh;by_cases h1:U9 r=0
 ·rw[if_pos h1,if_pos rfl,if_neg (λh2=>h ⟨h1,h2⟩)]
 ·rw[if_neg h1]
theorem qsn {l:Int}(e:l≠0){xs:List Ql}{r:List UInt8}(h1:U9 r=0)(h2:Ik (Wp r)=0):Xh ⟨l,[],xs⟩ r=some (⟨l,[],xs++[⟨G8 r,Pm (Wp r)⟩]⟩,Np (Wp r)):=by
 unfold Xh;rw[if_pos h1,if_neg e,if_pos h2]
theorem qhp {l:Int}(e:l≠0){xs:List Ql}{r:List UInt8}(h:¬(U9 r=0/\Ik (Wp r)=0)):Xh ⟨l,[],xs⟩ r=none:=by
 unfold Xh;by_cases h1:U9 r=0
 ·rw[if_pos h1,if_neg e,if_neg (λh2=>h ⟨h1,h2⟩)]
 ·rw[if_neg h1]
def Lh (A:Option Addr)(body:List UInt8)(cnt:Nat)(w:World)(e:Ending)(w':World):Prop:=
 (∃xs r u c1 f p c2,Jt 0 body cnt=some (⟨0,xs,[]⟩,r)/\e=.returned (.tuple #[.slice u cnt c1,.slice f p c2,.int .i64 0])/\cnt<=1000/\J4 w' w.1.size u cnt c1 xs/\Sl w' f p c2 r/\(∀g,q01 f=some g->q01 A=some g\/w.1.size<=g)/\Below w.1.size w w')\/
 (∃E:Int,E≠0/\Jt 0 body cnt=none/\e=.returned (.tuple #[.slice none 0 0,.slice none 0 0,.int .i64 E])/\Below w.1.size w w')
def Lj (l:Int)(A:Option Addr)(body:List UInt8)(cnt:Nat)(w:World)(e:Ending)(w':World):Prop:=
 (∃xs r u c1 f p c2,Jt l body cnt=some (⟨l,[],xs⟩,r)/\e=.returned (.tuple #[.slice u cnt c1,.slice f p c2,.int .i64 0])/\cnt<=1000/\Qs w' w.1.size 81 4 u cnt c1 (xs.map Ql.vs)/\Sl w' f p c2 r/\(∀g,q01 f=some g->q01 A=some g\/w.1.size<=g)/\Below w.1.size w w')\/
 (∃E:Int,E≠0/\Jt l body cnt=none/\e=.returned (.tuple #[.slice none 0 0,.slice none 0 0,.int .i64 E])/\Below w.1.size w w')
theorem qo5 {A:Option Addr}{body:List UInt8}{cnt:Nat}{w w':World}{xs:List Qc}{r:List UInt8}{f:Option Addr}{c1:Nat}{e:Option Addr}{p c2:Nat}(h1:Jt 0 body cnt=some (⟨0,xs,[]⟩,r))(h0:cnt<=1000)(h2:J4 w' w.1.size f cnt c1 xs)(D:Sl w' e p c2 r)(y:∀g,q01 e=some g->q01 A=some g\/w.1.size<=g)(u:Below w.1.size w w') :
  Lh A body cnt w (.returned (.tuple #[.slice f cnt c1,.slice e p c2,.int .i64 0])) w':=.inl ⟨xs,r,f,c1,e,p,c2,h1,rfl,h0,h2,D,y,u⟩
theorem qo6 {A:Option Addr}{body:List UInt8}{cnt:Nat}{w w':World}{E:Int}(e:E≠0)(h1:Jt 0 body cnt=none)(f:Below w.1.size w w') :
  Lh A body cnt w (.returned (.tuple #[.slice none 0 0,.slice none 0 0,.int .i64 E])) w':=.inr ⟨E,e,h1,rfl,f⟩
theorem qo7 {l:Int}{A:Option Addr}{body:List UInt8}{cnt:Nat}{w w':World}{xs:List Ql}{r:List UInt8}{f:Option Addr}{c1:Nat}{e:Option Addr}{p c2:Nat}(h1:Jt l body cnt=some (⟨l,[],xs⟩,r))(h0:cnt<=1000)(h2:Qs w' w.1.size 81 4 f cnt c1 (xs.map Ql.vs))(D:Sl w' e p c2 r)(y:∀g,q01 e=some g->q01 A=some g\/w.1.size<=g)(u:Below w.1.size w w') :
  Lj l A body cnt w (.returned (.tuple #[.slice f cnt c1,.slice e p c2,.int .i64 0])) w':=.inl ⟨xs,r,f,c1,e,p,c2,h1,rfl,h0,h2,D,y,u⟩
theorem qo8 {l:Int}{A:Option Addr}{body:List UInt8}{cnt:Nat}{w w':World}{E:Int}(e:E≠0)(h1:Jt l body cnt=none)(f:Below w.1.size w w') :
  Lj l A body cnt w (.returned (.tuple #[.slice none 0 0,.slice none 0 0,.int .i64 E])) w':=.inr ⟨E,e,h1,rfl,f⟩
theorem qlm (body:List UInt8)(cnt:Nat)(A:Option Addr)(k c:Nat)(w:World)(h:Sl w A k c body)(hk:k<=1000)(e1:cnt<=100000) :
  Calls Tryz.prog 113 #[.slice A k c,.int .i64 (cnt:Int),.func (.func 114) #[] #[]] w λe w'=>Lh A body cnt w e w':=by
 go_enter Tryz.func113,Tryz.ntmps113
 go_wp2_with fail
 go_loopw [0,9,14] (λt0 t9 a8 wr=>∃(j:Nat) (xs:List Qc) (r:List UInt8) (Rr:Option Addr) (p q:Nat) (X:Option Addr) (c':Nat),j<=cnt/\a8=.int .i64 (j:Int)/\t0=.slice Rr p q/\t9=.slice X j c'/\
  Jt 0 body j=some (⟨0,xs,[]⟩,r)/\Sl wr Rr p q r/\p+10*j<=k/\(r≠[]->∀g,q01 Rr=some g->q01 X≠some g)/\(∀g,q01 Rr=some g->q01 A=some g\/w.1.size<=g)/\J4 wr w.1.size X j c' xs/\Below w.1.size w wr) (λ_ _ a8 _=>cnt-(intOf a8).toNat)
 case atStart=>exact⟨0,[],body,A,k,c,none,0,Nat.zero_le _,rfl,rfl,rfl,rfl,h,by omega,(λ_ _ _ h=>by cases h),(λg f=>.inl f),O8 _ _,Below.refl _ _⟩
 case round=>
  obtain⟨j,xs,r,Rr,p,q,X,c',hj,rfl,rfl,rfl,U,P,hp,d1,R,u,hB⟩:=hrel;by_cases d9:j<cnt
  ·have y:=Lib.hid (q4p 0 body j _ r U);have O:∀x,Jt 0 body (j+1)=x->x=none->Jt 0 body cnt=none:=λx h1 h2=>q9u _ _ _ _ (h1.trans h2) d9
   have G:=Lib.hid O;clear O U;have D:∀g,q01 X=some g->g<wr.1.size:=λg f=>(u.Qa g f).2
   have H:∀g,q01 X=some g->w.1.size<=g:=λg f=>(u.Qa g f).1
   have d8:=P.len;go_wp2_with fail
   refine (qdr Rr p q r wr P (by omega)).mono ?_;rintro e v (⟨h1,h2,b8⟩|⟨c7,E,hE,rfl,I⟩)
   ·have a2:=qv5 h1;have a6:=qxm h2;have d0:=Lib.hid (qw0 (xs:=xs) h1 h2);have b5:=Lib.hid (y.out.trans d0.out);clear y d0 G h1 h2;obtain⟨V,J,M,A2,n2,c2,rfl,a1,s2,fV,f2,I⟩:=b8;obtain⟨S,hS⟩:∃S,Iy (Wp r)=S:=⟨_,rfl⟩;obtain⟨R2,a7⟩:∃S,Nq (Wp r)=S:=⟨_,rfl⟩;rw[hS] at a1;obtain⟨K,hK⟩:∃K,G8 r=K:=⟨_,rfl⟩;have d4:=s2.len;have d3:n2+10*(j+1)<=k:=by omega
    rw[a7] at s2;have b9:Jt 0 body (j+1)=some (⟨0,xs++[⟨K,S⟩],[]⟩,R2):=by rw[b5.out,hK,hS,a7]
    have d7:=Lib.hid b9;clear b9 b5;rw[hK];clear hK hS a7 d4 a2 a6 d8 hp;have bY:Below v.1.size v ((v.alloc (.cells #[.int .i64 K.obj,.int .i64 K.kind,.int .i64 K.off,.slice V J M] 68)).alloc (.cells #[.int .i64 K.obj,.int .i64 K.kind,.int .i64 K.off,.slice V J M] 68)):=(Qm).alloc (by simp) _;have Z:Jf ((v.alloc (.cells #[.int .i64 K.obj,.int .i64 K.kind,.int .i64 K.off,.slice V J M] 68)).alloc (.cells #[.int .i64 K.obj,.int .i64 K.kind,.int .i64 K.off,.slice V J M] 68)) 4 (some ⟨v.1.size+1,0,none⟩) 1 1 [Yi K V J M]:=by
     have:=(q1q (v.alloc (.cells #[.int .i64 K.obj,.int .i64 K.kind,.int .i64 K.off,.slice V J M] 68)) 68 4 (Yi K V J M) _ rfl rfl).Vs (by omega);rwa [World.size_alloc] at this
    have d5:wr.1.size<=v.1.size:=I.size;have b1:w.1.size<=wr.1.size:=hB.size;have Y:=(u.below I).below bY;have s3:=s2.below bY;have W3:=hB.trans ((I.trans (bY.mono I.size)).mono hB.size);have zY:w.1.size<=((v.alloc (.cells #[.int .i64 K.obj,.int .i64 K.kind,.int .i64 K.off,.slice V J M] 68)).alloc (.cells #[.int .i64 K.obj,.int .i64 K.kind,.int .i64 K.off,.slice V J M] 68)).1.size:=Nat.le_trans (Nat.le_trans b1 d5) bY.size;have e4:((v.alloc (.cells #[.int .i64 K.obj,.int .i64 K.kind,.int .i64 K.off,.slice V J M] 68)).alloc (.cells #[.int .i64 K.obj,.int .i64 K.kind,.int .i64 K.off,.slice V J M] 68)).1.size=v.1.size+2:=by simp
    have W:R2≠[]->∀g,q01 A2=some g->g<v.1.size:=λhl g f=>s2.Qa hl g f
    have T:∀g,q01 A2=some g->wr.1.size<=g:=λg f=>by
     cases A2 with
     |none=>cases f
     |some ad=>have:=f2 ad rfl;have e:ad.block=g:=Option.some.inj f;omega
    have b3:=a1.below bY;have b2:S≠[]->∀g,q01 V=some g->w.1.size<=g/\q01 X≠some g:=λ_ g f=>by
     cases V with
     |none=>cases f
     |some ad=>
      have h1:=fV ad rfl;have h2:ad.block=g:=Option.some.inj f;exact⟨by omega,λe=>by have:=D g e;omega⟩
    have d2:j<=1000:=by omega
    clear R u P s2 hB I d1 a1 fV f2;go_wp2_with (first
     |(at_builtin;refine q60 rfl _ _ rfl w.1.size X j c' xs rfl Y (some ⟨v.1.size+1,0,none⟩) 1 ⟨K,S⟩ V J M rfl Z b3 b2 (Nat.le_trans d2 (by decide)) zY ?_)
     |fail)
    intro A6 c6 v6 c9 T7 c8;have s7:=s3.turned' T7 (λ_ g f e=>by have h1:=D g e;have h2:=T g f;omega);have W7:=W3.trans (T7.below (B:=w.1.size) (λx hx=>H x hx) zY);have b7:R2≠[]->∀g,q01 A2=some g->q01 A6≠some g:=λhl g f e=>by
     have h1:=W hl g f;have h2:=T g f;rcases c8 with h3|h3
     ·have:=D g (h3.symm.trans e);omega
     ·rw[h3] at e;have:=Option.some.inj e;omega
    have b0:∀g,q01 A2=some g->q01 A=some g\/w.1.size<=g:=λg f=>.inr (Nat.le_trans b1 (T g f))
    clear Y s3 W3 Z bY b3 b2 D H T W c8;go_wp2;exact⟨⟨j+1,xs++[⟨K,S⟩],R2,A2,n2,c2,A6,c6,by omega,by go_num,rfl,rfl,d7.out,s7,d3,b7,b0,c9,W7⟩,by simp[intOf];omega⟩
   ·have b4:=Lib.hid (G.out _ y.out (qll c7));have b6:=hB.trans (I.mono hB.size);have e3:decide (E=0)=false:=decide_eq_false hE;have e2:(E==0)=false:=by simp[hE]
    have d6:Below w.1.size w (v.alloc (.cells #[.int .i64 0,.int .i64 0,.int .i64 0,.slice none 0 0] 68)):=b6.alloc b6.size _;clear R y G c7 u P d1 D H;unfold Qck;go_wp2;go_ret3;exact qo6 hE b4.out d6
  ·obtain rfl:j=cnt:=by omega
   have e0:=Lib.hid U;clear U;go_wp2;go_ret3;exact qo5 e0.out (by omega) u P R hB
theorem qln (l:Int)(hl:l≠0)(body:List UInt8)(cnt:Nat)(A:Option Addr)(k c:Nat)(w:World)(h:Sl w A k c body)(hk:k<=1000)(d7:cnt<=100000) :
  Calls Tryz.prog 115 #[.slice A k c,.int .i64 (cnt:Int),.func (.func 116) #[] #[]] w λe w'=>Lj l A body cnt w e w':=by
 go_enter Tryz.func115,Tryz.ntmps115
 go_wp2_with fail
 go_loopw [0,9,14] (λt0 t9 a7 wr=>∃(j:Nat) (xs:List Ql) (r:List UInt8) (Rr:Option Addr) (p q:Nat) (A':Option Addr) (c':Nat),j<=cnt/\a7=.int .i64 (j:Int)/\t0=.slice Rr p q/\t9=.slice A' j c'/\
  Jt l body j=some (⟨l,[],xs⟩,r)/\Sl wr Rr p q r/\p+10*j<=k/\(r≠[]->∀g,q01 Rr=some g->q01 A'≠some g)/\(∀g,q01 Rr=some g->q01 A=some g\/w.1.size<=g)/\Qs wr w.1.size 81 4 A' j c' (xs.map Ql.vs)/\Below w.1.size w wr) (λ_ _ a7 _=>cnt-(intOf a7).toNat)
 case atStart=>exact⟨0,[],body,A,k,c,none,0,Nat.zero_le _,rfl,rfl,rfl,rfl,h,by omega,(λ_ _ _ h=>by cases h),(λg G=>.inl G),q10 _ _ _ _,Below.refl _ _⟩
 case round=>
  obtain⟨j,xs,r,Rr,p,q,A',c',hj,rfl,rfl,rfl,W,P,hp,c7,T,f,hB⟩:=hrel;by_cases d5:j<cnt
  ·have D:=Lib.hid (q4p l body j _ r W);have O:∀x,Jt l body (j+1)=x->x=none->Jt l body cnt=none:=λx h1 h2=>q9u _ _ _ _ (h1.trans h2) d5
   have H:=Lib.hid O;clear O W;have M:∀g,q01 A'=some g->g<wr.1.size:=λg G=>(f.Qa g G).2
   have I:∀g,q01 A'=some g->w.1.size<=g:=λg G=>(f.Qa g G).1
   have d4:=P.len;go_wp2_with fail
   refine (qfl Rr p q r wr P (by omega)).mono ?_;rintro e v (⟨h1,h2,b5⟩|⟨b7,E,hE,rfl,J⟩)
   ·have a1:=qv5 h1;have a2:=qxn h2;have b9:=Lib.hid (qsn hl (xs:=xs) h1 h2);have b2:=Lib.hid (D.out.trans b9.out);clear D b9 H h1 h2;obtain⟨A2,n2,c2,rfl,s2,f2,J⟩:=b5;obtain⟨V,hS⟩:∃S,Pm (Wp r)=S:=⟨_,rfl⟩;obtain⟨R2,a6⟩:∃S,Np (Wp r)=S:=⟨_,rfl⟩;obtain⟨K,hK⟩:∃K,G8 r=K:=⟨_,rfl⟩;have d0:=s2.len;have c9:n2+10*(j+1)<=k:=by omega
    rw[a6] at s2;have b6:Jt l body (j+1)=some (⟨l,[],xs++[⟨K,V⟩]⟩,R2):=by rw[b2.out,hK,hS,a6]
    have d3:=Lib.hid b6;clear b6 b2;rw[hK,hS];clear hK hS a6 d0 a1 a2 d4 hp;have bY:Below v.1.size v ((v.alloc (.cells #[.int .i64 K.obj,.int .i64 K.kind,.int .i64 K.off,.int .i64 V] 81)).alloc (.cells #[.int .i64 K.obj,.int .i64 K.kind,.int .i64 K.off,.int .i64 V] 81)):=(Qm).alloc (by simp) _;have Z:Jf ((v.alloc (.cells #[.int .i64 K.obj,.int .i64 K.kind,.int .i64 K.off,.int .i64 V] 81)).alloc (.cells #[.int .i64 K.obj,.int .i64 K.kind,.int .i64 K.off,.int .i64 V] 81)) 4 (some ⟨v.1.size+1,0,none⟩) 1 1 [(⟨K,V⟩:Ql).vs]:=by
     have:=(q1q (v.alloc (.cells #[.int .i64 K.obj,.int .i64 K.kind,.int .i64 K.off,.int .i64 V] 81)) 81 4 ((⟨K,V⟩:Ql).vs) _ rfl rfl).Vs (by omega);rwa [World.size_alloc] at this
    have d1:wr.1.size<=v.1.size:=J.size;have b0:w.1.size<=wr.1.size:=hB.size;have Y:=(f.below J).below bY;have s3:=s2.below bY;have W3:=hB.trans ((J.trans (bY.mono J.size)).mono hB.size);have zY:w.1.size<=((v.alloc (.cells #[.int .i64 K.obj,.int .i64 K.kind,.int .i64 K.off,.int .i64 V] 81)).alloc (.cells #[.int .i64 K.obj,.int .i64 K.kind,.int .i64 K.off,.int .i64 V] 81)).1.size:=Nat.le_trans (Nat.le_trans b0 d1) bY.size;have e0:((v.alloc (.cells #[.int .i64 K.obj,.int .i64 K.kind,.int .i64 K.off,.int .i64 V] 81)).alloc (.cells #[.int .i64 K.obj,.int .i64 K.kind,.int .i64 K.off,.int .i64 V] 81)).1.size=v.1.size+2:=by simp
    have X:R2≠[]->∀g,q01 A2=some g->g<v.1.size:=λhl g G=>s2.Qa hl g G
    have U:∀g,q01 A2=some g->wr.1.size<=g:=λg G=>by
     cases A2 with
     |none=>cases G
     |some ad=>have:=f2 ad rfl;have e:ad.block=g:=Option.some.inj G;omega
    have c8:j+1<=1000000:=by omega
    have one:∀y∈[(⟨K,V⟩:Ql).vs],∀u∈y,u.oneCell'=true:=by
     intro y hy u hu;obtain rfl:y=(⟨K,V⟩:Ql).vs:=by simpa using hy
     simp[Ql.vs] at hu;rcases hu with rfl|rfl|rfl|rfl<;>rfl
    clear T f P s2 hB J c7 f2;go_wp2_with (first
     |(at_builtin;refine qa4 _ Qak rfl _ _ rfl w.1.size A' j c' (xs.map Ql.vs) rfl Y (some ⟨v.1.size+1,0,none⟩) 1 1 [(⟨K,V⟩:Ql).vs] rfl Z (by omega) one c8 (by omega) zY ?_)
     |fail)
    intro A6 c6 v6 R T7 b8 _;have R:Qs v6 w.1.size 81 4 A6 (j+1) c6 ((xs++[(⟨K,V⟩:Ql)]).map Ql.vs):=by rw[List.map_append];exact R
    have s7:=s3.turned' T7 (λ_ g G e=>by have h1:=M g e;have h2:=U g G;omega);have W7:=W3.trans (T7.below (B:=w.1.size) (λx hx=>I x hx) zY);have b4:R2≠[]->∀g,q01 A2=some g->q01 A6≠some g:=λhl g G e=>by
     have h1:=X hl g G;have h2:=U g G;rcases b8 with h3|h3
     ·have:=M g (h3.symm.trans e);omega
     ·rw[h3] at e;have:=Option.some.inj e;omega
    have a8:∀g,q01 A2=some g->q01 A=some g\/w.1.size<=g:=λg G=>.inr (Nat.le_trans b0 (U g G))
    clear Y s3 W3 Z bY one M I U X b8;go_wp2;exact⟨⟨j+1,xs++[⟨K,V⟩],R2,A2,n2,c2,A6,c6,by omega,by go_num,rfl,rfl,d3.out,s7,c9,b4,a8,R,W7⟩,by simp[intOf];omega⟩
   ·have b1:=Lib.hid (H.out _ D.out (qhp hl b7));have b3:=hB.trans (J.mono hB.size);have d9:decide (E=0)=false:=decide_eq_false hE;have d8:(E==0)=false:=by simp[hE]
    have d2:Below w.1.size w (v.alloc (.cells #[.int .i64 0,.int .i64 0,.int .i64 0,.int .i64 0] 81)):=b3.alloc b3.size _;clear T D H b7 f P c7 M I;unfold Qa4;go_wp2;go_ret3;exact qo8 hE b1.out d2
  ·obtain rfl:j=cnt:=by omega
   have d6:=Lib.hid W;clear W;go_wp2;go_ret3;exact qo7 d6.out (by omega) f P T hB
section
variable {w w':World}{b:Nat}{l:Int}{A B:Option Addr}{n c m d:Nat}
theorem NB.keep (H:NB w b l A n c B m d)(h:w'.1[b]?=w.1[b]?):NB w' b l A n c B m d:=by
 obtain⟨t,H⟩:=H;exact⟨t,h.trans H⟩
theorem NB.fz (H:NB w b l A n c B m d)(i:Nat):w.frozen? ⟨b,i,none⟩=false:=by
 obtain⟨t,H⟩:=H;unfold World.frozen?;rw[H];simp
theorem NB.set1 (H:NB w b l A n c B m d)(A':Option Addr)(n' c':Nat):NB (w.setCell ⟨b,1,none⟩ (.slice A' n' c')) b l A' n' c' B m d:=by
 obtain⟨t,H⟩:=H;exact⟨t,Fa _ H⟩
theorem NB.set2 (H:NB w b l A n c B m d)(A':Option Addr)(n' c':Nat):NB (w.setCell ⟨b,2,none⟩ (.slice A' n' c')) b l A n c A' n' c':=by
 obtain⟨t,H⟩:=H;exact⟨t,Fa _ H⟩
theorem NB.there (H:NB w b l A n c B m d):w.there b 0 3:=λj e=>by
 obtain⟨t,H⟩:=H;refine⟨?_,by unfold World.frozen?;rw[H];simp⟩;rw[cell_of_row _ _ _ _ _ _ H,Nat.zero_add,Array.getElem?_eq_getElem (by simpa using e)];rfl
theorem NB.stored (H:NB w b l A n c B m d)(l2:Int)(A2:Option Addr)(n2 c2:Nat)(B2:Option Addr)(m2 d2:Nat):NB (w.setCells b 0 [.int .i64 l2,.slice A2 n2 c2,.slice B2 m2 d2]) b l2 A2 n2 c2 B2 m2 d2:=by
 obtain⟨t,H⟩:=H;exact⟨t,Fa _ (Fa _ (Fa _ H))⟩
end
theorem Gt {f:Array Oper}{e:List Oper}{o:Oper}{a:Act}{w:World}{Q:Exit->Act->World->Prop}(K:o.guard=none)(x y:Operand)(J:o.op=Op.store 75 x y)
  (b:Nat) (P:a.eval x=.pointer (some ⟨b,0,none⟩)) (p:Int) (u:Option Addr) (G c2:Nat) (I:Option Addr) (D E:Nat) (M:a.eval y=.agg #[.int .i64 p,.slice u G c2,.slice I D E]) {l:Int} {A B:Option Addr} {n c m d:Nat} (H:NB w b l A n c B m d)
  (O:∀w',NB w' b p u G c2 I D E->Turn (λg=>g=b) w w'->wpList Tryz.prog f Q e (a.put o.dst undef) w'):wpList Tryz.prog f Q (o::e) a w:=
 wpList_store_mid K _ x y J b 0 #[.int .i64 p,.slice u G c2,.slice I D E] P M H.there (by kernel_rfl) (by simp[Value.oneCell'])
  (O _ (H.stored p u G c2 I D E) (Us (S:=λg=>g=b) rfl _ 0 w))
def Zo (k:Kd)(v:List UInt8):Bool->List Qc->List Qc
 |done,[]=>if done=true then [] else [⟨k,v⟩]
 |done,x::r=>(if (!done&&(k.less x.k||x.k.same k))=true then [⟨k,v⟩] else [])++((if x.k.same k=true then [] else [x])++Zo k v (done||(k.less x.k||x.k.same k)) r)
theorem q9v (k:Kd)(v:List UInt8):∀(l:List Qc),(∀x∈l,x.k.same k=false)->Zo k v true l=l
 |[],_=>rfl
 |x::r,h=>by
  unfold Zo;rw[h x (List.mem_cons_self ..),Bool.true_or,q9v k v r λy e=>h y (List.mem_cons_of_mem _ e)];rfl
theorem Iq {a b:Kd}(h:a.less b=true):a.same b=false/\b.same a=false:=by
 constructor
 ·cases e:a.same b with
  |false=>rfl
  |true=>have:=q4m (a:=b) e;rw[q38,h] at this;cases this
 ·cases e:b.same a with
  |false=>rfl
  |true=>have:=q6j (a:=a) e;rw[q38,h] at this;cases this
theorem q1p {k:Kd}{v:List UInt8}{x:Qc}{r:List Qc}(D:Qd (x::r)) :
  Zo k v false (x::r)=if k.less x.k=true then ⟨k,v⟩::x::r else if x.k.same k=true then ⟨k,v⟩::r else x::Zo k v false r:=by
 obtain⟨h1,h2⟩:=List.pairwise_cons.1 D;rw[Zo];by_cases f:k.less x.k=true
 ·rw[if_pos f,f];have e:=(Iq f).2;rw[e];show [(⟨k,v⟩:Qc)]++([x]++Zo k v true r)=_;rw[q9v]
  ·rfl
  ·intro y p;exact (Iq (Kd.trans _ _ _ f (h1 y p))).2
 ·have f:k.less x.k=false:=by simpa using f
  rw[f];by_cases e:x.k.same k=true
  ·rw[e];show [(⟨k,v⟩:Qc)]++([]++Zo k v true r)=_;rw[q9v]
   ·rfl
   ·intro y p;have u:=h1 y p;rw[<-q4m e] at u;exact (Iq u).2
  ·have e:x.k.same k=false:=by simpa using e
   rw[e];rfl
theorem q41 {k:Kd}{v:List UInt8}:∀{l:List Qc},Qd l->∀y∈Zo k v false l,y=⟨k,v⟩\/y∈l
 |[],_,y,hy=>.inl (by simpa [Zo] using hy)
 |x::r,hr,y,hy=>by
  rw[q1p hr] at hy;have e:=(List.pairwise_cons.1 hr).2;split at hy
  ·rcases List.mem_cons.1 hy with h|h
   ·exact .inl h
   ·exact .inr h
  ·split at hy
   ·rcases List.mem_cons.1 hy with h|h
    ·exact .inl h
    ·exact .inr (List.mem_cons_of_mem _ h)
   ·rcases List.mem_cons.1 hy with h|h
    ·exact .inr (h▸List.mem_cons_self ..)
    ·rcases q41 e y h with h|h
     ·exact .inl h
     ·exact .inr (List.mem_cons_of_mem _ h)
theorem q25 {k:Kd}{v:List UInt8}:∀{l:List Qc},Qd l->Qd (Zo k v false l)
 |[],_=>by
  show Qd [⟨k,v⟩];exact List.pairwise_singleton ..
 |x::r,hr=>by
  obtain⟨h1,h2⟩:=List.pairwise_cons.1 hr;rw[q1p hr];split
  ·rename_i f;refine List.pairwise_cons.2 ⟨λy e=>?_,hr⟩;rcases List.mem_cons.1 e with rfl|e
   ·exact f
   ·exact Kd.trans _ _ _ f (h1 y e)
  ·rename_i f;split
   ·rename_i p;exact List.pairwise_cons.2 ⟨λy e=>by show k.less y.k=true;rw[q4m p];exact h1 y e,h2⟩
   ·rename_i p;have u:x.k.less k=true:=by
     rcases Kd.total x.k k with⟨h,_,_⟩|⟨_,h,_⟩|⟨_,_,h⟩
     ·exact h
     ·exact absurd h f
     ·exact absurd (by rw[h,Kd.same_iff];exact⟨rfl,rfl,rfl⟩) p
    refine List.pairwise_cons.2 ⟨λy e=>?_,q25 h2⟩;rcases q41 h2 y e with rfl|e
    ·exact u
    ·exact h1 y e
theorem q5f {k:Kd}{v:List UInt8}:∀{l:List Qc},Qd l->(Zo k v false l).length<=l.length+1
 |[],_=>by simp[Zo]
 |x::r,hr=>by
  rw[q1p hr];have:=q5f (k:=k) (v:=v) (List.pairwise_cons.1 hr).2;split
  ·simp
  ·split<;>simp<;>omega
structure Ky (l:List Qc)(m:Nat):Prop where
 Qd:Qd l
 may:∀x∈l,x.k.may=true/\x.v.length<=28
 len:l.length<=m
def Qby (a l:Int)(A:Option Addr)(n c:Nat)(B:Option Addr)(m d:Nat):List Value:=[.int .i64 a,.int .i64 l,.slice A n c,.slice B m d]
def Rl (Q:World->Prop)(r:List Value)(x:Int × Nd):Prop:=∃A n c B m d,r=Qby x.1 x.2.lvl A n c B m d/\n<=1000/\m<=1000/\∀w,Q w->Zl w A n c x.2.items/\Zm w B m d x.2.kids
def Dy (Q:World->Prop)(w:World)(base:Nat)(A:Option Addr)(n c:Nat)(Ns:List (Int × Nd)):Prop:=
 ∃e,Qs w base 79 4 A n c e/\e.length=Ns.length/\∀(j:Nat) r x,e[j]?=some r->Ns[j]?=some x->Rl Q r x
def Anl (Q:World->Prop)(w:World)(A:Option Addr)(n c:Nat)(Ns:List (Int × Nd)):Prop:=
 ∃e,Jf w 4 A n c e/\e.length=Ns.length/\∀(j:Nat) r x,e[j]?=some r->Ns[j]?=some x->Rl Q r x
section
variable {Q Q':World->Prop}{w w':World}{base n c:Nat}{A:Option Addr}{Ns:List (Int × Nd)}
theorem Rl.mono {r:List Value}{x:Int × Nd}(h:Rl Q r x)(hq:∀w,Q' w->Q w):Rl Q' r x:=by
 obtain⟨p,u,c1,H,y,D,e,f,I,E⟩:=h;exact⟨p,u,c1,H,y,D,e,f,I,λw G=>E w (hq w G)⟩
theorem Dy.mono (h:Dy Q w base A n c Ns)(hq:∀w,Q' w->Q w):Dy Q' w base A n c Ns:=by
 obtain⟨e,h1,h2,u⟩:=h;exact⟨e,h1,h2,λj r x f p=>(u j r x f p).mono hq⟩
theorem Anl.mono (h:Anl Q w A n c Ns)(hq:∀w,Q' w->Q w):Anl Q' w A n c Ns:=by
 obtain⟨e,h1,h2,u⟩:=h;exact⟨e,h1,h2,λj r x f p=>(u j r x f p).mono hq⟩
theorem Dy.below (h:Dy Q w base A n c Ns)(hb:Below w.1.size w w'):Dy Q w' base A n c Ns:=by
 obtain⟨e,h1,h2,f⟩:=h;exact⟨e,h1.below hb,h2,f⟩
theorem Anl.below (h:Anl Q w A n c Ns)(hb:Below w.1.size w w'):Anl Q w' A n c Ns:=by
 obtain⟨e,h1,h2,f⟩:=h;exact⟨e,h1.below hb,h2,f⟩
theorem Anl.len (h:Anl Q w A n c Ns):Ns.length=n:=by
 obtain⟨e,h1,h2,_⟩:=h;rw[<-h2];exact h1.len
def Om (Ns:List (Int × Nd))(j:Nat):Int × Nd:=Ns.getD j (0,⟨0,[],[]⟩)
theorem qso {j:Nat}(h:j<Ns.length):Ns[j]?=some (Om Ns j):=by simp[Om,List.getD,h]
theorem Anl.get (h:Anl Q w A n c Ns){j:Nat}(hj:j<n):∃g o y p c1 E f D,A=some ⟨g,o,none⟩/\g<w.1.size/\w.rangeAt g (o+j*4) (Qby (Om Ns j).1 (Om Ns j).2.lvl y p c1 E f D)/\p<=1000/\f<=1000/\∀w',Q w'->Zl w' y p c1 (Om Ns j).2.items/\Zm w' E f D (Om Ns j).2.kids:=by
 have P:=h.len;obtain⟨u,h1,h2,O⟩:=h;have G:u[j]?=some (u[j]'(by omega)):=List.getElem?_eq_getElem (by omega);obtain⟨y,p,c1,E,f,D,e,I,M,J⟩:=O j _ _ G (qso (by omega));obtain⟨g,o,rfl,K,_,H⟩:=h1.2.2.2 j _ G;rw[e] at H;exact⟨g,o,y,p,c1,E,f,D,rfl,K,H,I,M,J⟩
end
def Ag (w:World)(base:Nat)(A:Option Addr)(n c:Nat)(xs:List Qc):Prop:=
 ∃e,Qs w base 68 4 A n c e/\e.length=xs.length/\∀(j:Nat) r x,e[j]?=some r->xs[j]?=some x->∃V p q,r=Yi x.k V p q/\Sl w V p q x.v/\(x.v≠[]->∀g,q01 V=some g->q01 A≠some g)
section
variable {w w':World}{base n c:Nat}{A:Option Addr}{xs:List Qc}
theorem Ag.below (h:Ag w base A n c xs)(hb:Below w.1.size w w'):Ag w' base A n c xs:=by
 obtain⟨u,h1,h2,G⟩:=h;refine⟨u,h1.below hb,h2,λj r x y E=>?_⟩;obtain⟨V,p,q,e,D,f⟩:=G j r x y E;exact⟨V,p,q,e,D.below hb,f⟩
theorem Ag.Zq (h:Ag w base A n c xs):Zl w A n c xs:=by
 obtain⟨f,h1,h2,E⟩:=h;refine⟨f,h1.Vs (by omega),h2,λj r x u D=>?_⟩;obtain⟨V,p,q,e,y,_⟩:=E j r x u D;exact⟨V,p,q,e,y⟩
theorem Ag.less {b:Nat}(h:Ag w base A n c xs)(hb:b<=base):Ag w b A n c xs:=by
 obtain⟨e,h1,h2⟩:=h;exact⟨e,h1.less hb,h2⟩
theorem Ag.Qa (h:Ag w base A n c xs):∀k,q01 A=some k->base<=k/\k<w.1.size:=by
 obtain⟨e,h1,_⟩:=h;exact h1.Qa
end
theorem q9w {l:List Qc}{j:Nat}(h:j<l.length):l.drop j=Qj l j::l.drop (j+1):=by
 have e:=q11 h;rw[List.getElem?_eq_getElem h] at e;rw[<-List.getElem_cons_drop (h:=h),Option.some.inj e]
theorem q1y (w:World)(k:Kd)(V:Option Addr)(p q:Nat):Jf (w.alloc (.cells #[.int .i64 k.obj,.int .i64 k.kind,.int .i64 k.off,.slice V p q] 68)) 4 (some ⟨w.1.size,0,none⟩) 1 1 [Yi k V p q]:=(q1q w 68 4 (Yi k V p q) _ rfl rfl).Vs (by omega)
theorem Ag.len {w:World}{base n c:Nat}{A:Option Addr}{xs:List Qc}(h:Ag w base A n c xs):xs.length=n:=h.Zq.len
theorem qlo {r:Result Bool}{s:Bool}{w:World}(h:r.andThen (λb w'=>.ok (Value.bool b) w')=.ok (.bool s) w):r.andThen (λb w'=>.ok (Value.bool (!b)) w')=.ok (.bool (!s)) w:=by
 cases r with
 |ok b w'=>
  simp only[Result.andThen_ok] at h ⊢;injection h with h1 h2;injection h1 with h1;rw[h1,h2]
 |_=>simp[Result.andThen] at h
theorem q9x (x y:Operand)(xs e:Array Value)(w:World):(eqGuard .neq 30 x y (.agg xs) (.agg e)).run Tryz.prog w=.ok () w:=
 run_eqGuard_agg w .neq 30 x y xs e (by kernel_rfl)
theorem q2b (a b:Kd)(r e:Bool)(h:a.same b=r)(f:e=!r)(w:World):(binOp .neq 30 (.agg #[.int .i64 a.obj,.int .i64 a.kind,.int .i64 a.off]) (.agg #[.int .i64 b.obj,.int .i64 b.kind,.int .i64 b.off])).run Tryz.prog w=.ok (.bool e) w:=by
 have h1:=O9 a b r h w;rw[run_eql_struct] at h1;rw[run_neq_struct,f];exact qlo h1
theorem q2d {w:World}{base n c:Nat}{e:TypeId}{A:Option Addr}{l:List UInt8}(h:Own w base e A n c l)(b:Nat)(f:q01 A=some b):base<=b/\b<w.1.size:=by
 match A,f,h with
 |some ad,f,h=>
  obtain rfl:ad.block=b:=Option.some.inj f;exact h.block ad rfl
theorem qo9 {k:Kd}{v:List UInt8}{done:Bool}{l:List Qc}{j:Nat}(e:j<l.length):Zo k v done (l.drop j)=(if (!done&&(k.less (Qj l j).k||(Qj l j).k.same k))=true then [⟨k,v⟩] else [])++((if (Qj l j).k.same k=true then [] else [Qj l j])++Zo k v (done||(k.less (Qj l j).k||(Qj l j).k.same k)) (l.drop (j+1))):=by
 rw[q9w e,Zo]
theorem qoa {k:Kd}{v:List UInt8}{done:Bool}{l:List Qc}{j:Nat}(h:l.length<=j):Zo k v done (l.drop j)=if done=true then [] else [⟨k,v⟩]:=by
 rw[List.drop_of_length_le h,Zo]
def Le (F:Option Addr->List UInt8->Prop)(w:World)(V:Option Addr)(p q:Nat)(v:List UInt8):Prop:=Sl w V p q v/\F V v
theorem Le.below {F:Option Addr->List UInt8->Prop}{w w':World}{V:Option Addr}{p q:Nat}{v:List UInt8}(h:Le F w V p q v)(hb:Below w.1.size w w'):Le F w' V p q v:=⟨h.1.below hb,h.2⟩
def Zg (F:Option Addr->List UInt8->Prop)(w:World)(A:Option Addr)(n c:Nat)(xs:List Qc):Prop:=
 ∃e,Jf w 4 A n c e/\e.length=xs.length/\∀(j:Nat) r x,e[j]?=some r->xs[j]?=some x->∃V p q,r=Yi x.k V p q/\Le F w V p q x.v
theorem Zg.Zq {F:Option Addr->List UInt8->Prop}{w:World}{A:Option Addr}{n c:Nat}{xs:List Qc}(h:Zg F w A n c xs):Zl w A n c xs:=by
 obtain⟨f,h1,h2,E⟩:=h;refine⟨f,h1,h2,λj r x u D=>?_⟩;obtain⟨V,p,q,e,y⟩:=E j r x u D;exact⟨V,p,q,e,y.1⟩
theorem Zg.below {F:Option Addr->List UInt8->Prop}{w w':World}{A:Option Addr}{n c:Nat}{xs:List Qc}(h:Zg F w A n c xs)(hb:Below w.1.size w w'):Zg F w' A n c xs:=by
 obtain⟨f,h1,h2,E⟩:=h;refine⟨f,h1.below hb,h2,λj r x u D=>?_⟩;obtain⟨V,p,q,e,y⟩:=E j r x u D;exact⟨V,p,q,e,y.below hb⟩
theorem Zg.mono {F F':Option Addr->List UInt8->Prop}{w:World}{A:Option Addr}{n c:Nat}{xs:List Qc}(h:Zg F w A n c xs)(hF:∀V v,F V v->F' V v):Zg F' w A n c xs:=by
 obtain⟨f,h1,h2,E⟩:=h;refine⟨f,h1,h2,λj r x y D=>?_⟩;obtain⟨V,p,q,e,u⟩:=E j r x y D;exact⟨V,p,q,e,u.1,hF _ _ u.2⟩
theorem Zg.cell {F:Option Addr->List UInt8->Prop}{w:World}{A:Option Addr}{n c:Nat}{xs:List Qc}(h:Zg F w A n c xs){j:Nat}(hj:j<n):∃b o V p q,A=some ⟨b,o,none⟩/\b<w.1.size/\w.cell? ⟨b,o+j*4,none⟩=some (.int .i64 (Qj xs j).k.obj)/\w.cell? ⟨b,o+j*4+1,none⟩=some (.int .i64 (Qj xs j).k.kind)/\w.cell? ⟨b,o+j*4+2,none⟩=some (.int .i64 (Qj xs j).k.off)/\w.cell? ⟨b,o+j*4+3,none⟩=some (.slice V p q)/\Le F w V p q (Qj xs j).v:=by
 have H:=h.Zq.len;obtain⟨f,h1,h2,G⟩:=h;have y:f[j]?=some (f[j]'(by omega)):=List.getElem?_eq_getElem (by omega);obtain⟨B,m,d,e,E⟩:=G j _ _ y (q11 (by omega));obtain⟨g,o,rfl,D,_,u⟩:=h1.2.2.2 j _ y;rw[e] at u;exact⟨g,o,B,m,d,rfl,D,u 0 _ rfl,u 1 _ rfl,u 2 _ rfl,u 3 _ rfl,E⟩
def Je (F:Option Addr->List UInt8->Prop)(w:World)(base:Nat)(A:Option Addr)(n c:Nat)(xs:List Qc):Prop:=
 ∃e,Qs w base 68 4 A n c e/\e.length=xs.length/\∀(j:Nat) r x,e[j]?=some r->xs[j]?=some x->∃V p q,r=Yi x.k V p q/\Le F w V p q x.v/\(x.v≠[]->∀g,q01 V=some g->q01 A≠some g)
section
variable {F:Option Addr->List UInt8->Prop}{w w':World}{base n c:Nat}{A:Option Addr}{xs:List Qc}
theorem q26 (w:World):Je F (w.alloc (.cells #[] 68)) w.1.size (some ⟨w.1.size,0,none⟩) 0 0 []:=⟨[],qor w _ 4,rfl,λj r x e=>by simp at e⟩
theorem Je.below (h:Je F w base A n c xs)(hb:Below w.1.size w w'):Je F w' base A n c xs:=by
 obtain⟨u,h1,h2,G⟩:=h;refine⟨u,h1.below hb,h2,λj r x y E=>?_⟩;obtain⟨V,p,q,e,D,f⟩:=G j r x y E;exact⟨V,p,q,e,D.below hb,f⟩
theorem Je.Zq (h:Je F w base A n c xs):Zl w A n c xs:=by
 obtain⟨f,h1,h2,E⟩:=h;refine⟨f,h1.Vs (by omega),h2,λj r x u D=>?_⟩;obtain⟨V,p,q,e,y,_⟩:=E j r x u D;exact⟨V,p,q,e,y.1⟩
theorem Je.less {b:Nat}(h:Je F w base A n c xs)(hb:b<=base):Je F w b A n c xs:=by
 obtain⟨e,h1,h2⟩:=h;exact⟨e,h1.less hb,h2⟩
theorem Je.Qa (h:Je F w base A n c xs):∀k,q01 A=some k->base<=k/\k<w.1.size:=by
 obtain⟨e,h1,_⟩:=h;exact h1.Qa
end
theorem qc6 {F:Option Addr->List UInt8->Prop}{w:World}(ty:TypeId)(base:Nat)(A:Option Addr)(n c:Nat)(xs:List Qc)(O:Je F w base A n c xs)
  (B:Option Addr) (d:Nat) (u:Qc) (V:Option Addr) (p q:Nat) (y:Jf w 4 B 1 d [Yi u.k V p q]) (hv:Le F w V p q u.v) (Y:u.v≠[]->∀g,q01 V=some g->q01 A≠some g) (hn:n<=100000) (D:base<=w.1.size) :
  ∃E R w',(Builtin.append_ #[26,26] ty #[.slice A n c,.slice B 1 d]).run Tryz.prog w=.ok (.slice E (n+1) R) w'/\Je F w' base E (n+1) R (xs++[u])/\Turn (λk=>q01 A=some k) w w'/\(q01 E=q01 A\/q01 E=some w.1.size):=by
 obtain⟨G,h1,h2,h3⟩:=O;obtain⟨E,R,w',J,M,T,H,_⟩:=q1w (P:=Tryz.prog) w Ad ty base A n c G h1 B 1 d [Yi u.k V p q] y (by omega) (q91 _ _ _ _) (by omega) (by omega) D;refine⟨E,R,w',J,⟨_,M,by simp[h2],λj r x y K=>?_⟩,T,H⟩;have old:∀(V:Option Addr) (p q:Nat) (v:List UInt8),Le F w V p q v->(v≠[]->∀g,q01 V=some g->q01 A≠some g)->Le F w' V p q v/\(v≠[]->∀g,q01 V=some g->q01 E≠some g):=by
  intro V p q v X f;refine⟨⟨X.1.turned' T (λU k hk e=>f U k hk e),X.2⟩,λU g hg=>λe=>?_⟩;rcases H with h5|h5
  ·exact (f U g hg) (h5.symm.trans e)
  ·have:=X.1.Qa U g hg;rw[h5] at e;have:=Option.some.inj e;omega
 by_cases hj:j<G.length
 ·rw[List.getElem?_append_left hj] at y;rw[List.getElem?_append_left (by omega)] at K;obtain⟨V',p',q',e,Z,f⟩:=h3 j r x y K;obtain⟨W,o2⟩:=old V' p' q' x.v Z f;exact⟨V',p',q',e,W,o2⟩
 ·rw[List.getElem?_append_right (by omega)] at y K;have I:j-G.length=0:=by
   have:=(List.getElem?_eq_some_iff.1 y).1;simp at this;omega
  rw[I] at y;rw[<-h2,I] at K;obtain rfl:Yi u.k V p q=r:=by simpa using y
  obtain rfl:u=x:=by simpa using K
  obtain⟨W,o2⟩:=old V p q u.v hv Y;exact⟨V,p,q,rfl,W,o2⟩
theorem q1b {F:Option Addr->List UInt8->Prop}{w:World}{D:Array Oper}{e:List Oper}{o:Oper}{a:Act}{Q:Exit->Act->World->Prop}(J:o.guard=none)(M x:Operand)
  (U:o.op=.call { callee:=.builtin .append,args:=#[M,x],argTypes:=#[26,26] })
  (base:Nat) (A:Option Addr) (n c:Nat) (xs:List Qc) (O:a.eval M=.slice A n c) (E:Je F w base A n c xs)
  (B:Option Addr) (d:Nat) (u:Qc) (V:Option Addr) (p q:Nat) (R:a.eval x=.slice B 1 d) (T:Jf w 4 B 1 d [Yi u.k V p q]) (P:Le F w V p q u.v) (I:u.v≠[]->∀g,q01 V=some g->q01 A≠some g) (hn:n<=100000) (f:base<=w.1.size)
  (h:∀H G w',Je F w' base H (n+1) G (xs++[u])->Turn (λk=>q01 A=some k) w w'->wpList Tryz.prog D Q e (a.put o.dst (.slice H (n+1) G)) w'):wpList Tryz.prog D Q (o::e) a w:=
 wpList_plain J λK W=>by
  obtain⟨H,G,w',y,h2,X,Y⟩:=qc6 o.type base A n c xs E B d u V p q T P I hn f;unfold Oper.wp execOp;simp only[U,resolve,invoke,builtin,Sem.run_bind,Sem.run_pure,Result.andThen_ok,List.map_toArray,List.map_cons,List.map_nil,O,R,y];exact W _ _ (h H G w' h2 X)
theorem q1e {F:Option Addr->List UInt8->Prop}{w:World}{I:Array Oper}{o:Oper}{a:Act}{K:Act->World->Prop}{Q:Exit->Act->World->Prop}{E:Prop}(H:o.guard=none)(M x:Operand)
  (U:o.op=.call { callee:=.builtin .append,args:=#[M,x],argTypes:=#[26,26] })
  (base:Nat) (A:Option Addr) (n c:Nat) (xs:List Qc) (R:a.eval M=.slice A n c) (u:Je F w base A n c xs)
  (B:Option Addr) (d:Nat) (f:Qc) (V:Option Addr) (p q:Nat) (W:a.eval x=.slice B 1 d) (O:Jf w 4 B 1 d [Yi f.k V p q]) (P:Le F w V p q f.v) (J:f.v≠[]->∀g,q01 V=some g->q01 A≠some g) (hn:n<=100000) (e:base<=w.1.size)
  (h:∀D G w',Je F w' base D (n+1) G (xs++[f])->Turn (λk=>q01 A=some k) w w'->K (a.put o.dst (.slice D (n+1) G)) w') :
  if Region.wanted o (yielded I a.tmps)=true then Oper.wp Tryz.prog o a w K Q else E:=by
 rw[if_pos (by simp[Region.wanted,H])];obtain⟨D,G,w',y,h2,T,X⟩:=qc6 o.type base A n c xs u B d f V p q O P J hn e;unfold Oper.wp execOp;simp only[U,resolve,invoke,builtin,Sem.run_bind,Sem.run_pure,Result.andThen_ok,List.map_toArray,List.map_cons,List.map_nil,R,W,y];exact h D G w' h2 T
theorem Je.Gn {F:Option Addr->List UInt8->Prop}{w:World}{base n c:Nat}{A:Option Addr}{xs:List Qc}(h:Je F w base A n c xs):Zg F w A n c xs:=by
 obtain⟨f,h1,h2,E⟩:=h;refine⟨f,h1.Vs (by omega),h2,λj r x u D=>?_⟩;obtain⟨V,p,q,e,y,_⟩:=E j r x u D;exact⟨V,p,q,e,y⟩
theorem Zg.turned {S:Nat->Prop}{F:Option Addr->List UInt8->Prop}{w w':World}{A:Option Addr}{n c:Nat}{xs:List Qc}(h:Zg F w A n c xs)(T:Turn S w w')(hA:∀k,q01 A=some k->¬S k)(hF:∀V v,F V v->v≠[]->∀g,q01 V=some g->¬S g):Zg F w' A n c xs:=by
 obtain⟨u,h1,h2,I⟩:=h;refine⟨u,h1.keep T.size λg o e E=>T.block g E (hA g (by rw[e];rfl)),h2,λj r x y H=>?_⟩;obtain⟨V,p,q,e,f⟩:=I j r x y H;exact⟨V,p,q,e,f.1.turned' T (λG k D e=>hF _ _ f.2 G k D e),f.2⟩
