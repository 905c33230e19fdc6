/- The reference's May: whether a node may be -/
import Derived.Test.YthkfkhejjmhomaaGreatDoorDz5
import Derived.Test.YthkfkhejjmhomaaGreatDoorDz8
namespace Go.Proofs.YthkfkhejjmhomaaGreatDoor
open Go Go.RowKit Go.Proofs
set_option maxHeartbeats 4000000
set_option maxRecDepth 10000
def Ah (N:Nd):Bool:=N.items.all λx=>decide (x.v.length<=28)
def Xl (N:Nd):Bool:=N.kids.all λx=>decide (1<=x.a/\x.a<2048)
def Nd.may (N:Nd):Bool:=
 if N.lvl=0 then Ah N&&(rises N.keys&&decide (N.kids.length=0/\1<=N.items.length/\N.items.length<=6))
 else Xl N&&(rises N.keys&&decide (1<=N.lvl/\N.lvl<8/\N.items.length=0/\2<=N.kids.length/\N.kids.length<=12))
theorem Qo0 {N:Nd}(h:∀j,j<N.items.length->(Qx N.items j).v.length<=28):Ah N=true:=by
 unfold Ah;rw[List.all_eq_true];intro x p;obtain⟨j,f⟩:=List.mem_iff_getElem?.1 p;have g:=(List.getElem?_eq_some_iff.1 f).1;have:=Ae g;rw[f] at this;obtain rfl:=Option.some.inj this;exact decide_eq_true (h j g)
theorem Qry {N:Nd}(h:∀j,j<N.kids.length->1<=(Ql N.kids j).a/\(Ql N.kids j).a<2048):Xl N=true:=by
 unfold Xl;rw[List.all_eq_true];intro x p;obtain⟨j,f⟩:=List.mem_iff_getElem?.1 p;have g:=(List.getElem?_eq_some_iff.1 f).1;have:=q32 g;rw[f] at this;obtain rfl:=Option.some.inj this;exact decide_eq_true (h j g)
theorem Zc4 (T:Addr)(c:Nat)(l:List UInt8)(w:World)(G:Sl w (some T) 256 c l)(W:Tab w)(q:¬l.take 4=U3 l):Ox (some T) 256 c l w:=by
 unfold Ox;have V:=G.len;have U:=G.cap;have hm:=G.max;unfold maxLen at hm;have R:=HB.zero w 198;have g:Below w.1.size w (w.alloc (.cells #[.int .i64 0,.int .i64 0,.int .i64 0,.int .i64 0,.int .i64 0] 198)):=Ib;have E:w.1.size<(w.alloc (.cells #[.int .i64 0,.int .i64 0,.int .i64 0,.int .i64 0,.int .i64 0] 198)).1.size:=by simp
 have u:okB l=false:=decide_eq_false (λh=>q h.2.1);have h1:Vk l=Hd.zero:=by unfold Vk;rw[if_neg (by rw[u];simp)]
 have h2:Gf l=[]:=by unfold Gf;rw[if_neg (by rw[u];simp)]
 have Y:Cm l=3:=by unfold Cm;rw[if_neg (by rw[u];simp)]
 rw[h1,h2,Y];have p:¬((⟨(l.take 4).toArray⟩:ByteArray)=⟨(U3 l).toArray⟩):=λh=>q (by injection h with h;simpa using h)
 have D:((⟨(l.take 4).toArray⟩:ByteArray).toList==(⟨(U3 l).toArray⟩:ByteArray).toList)=false:=by rw[ByteArray.toList_eq,ByteArray.toList_eq];simpa using q
 generalize Z:(⟨(U3 l).toArray⟩:ByteArray)=S1 at p D;generalize z:(⟨(l.take 4).toArray⟩:ByteArray)=S2 at p D;go_enter Tryz.func139,Tryz.ntmps139
 go_wp2;generalize (w.alloc (.cells #[.int .i64 0,.int .i64 0,.int .i64 0,.int .i64 0,.int .i64 0] 198))=O at R g E ⊢;have y:=G.below g;have M:=W.below g W.1;have k1:=Qde (y.take (k:=4) (by omega)).drew;rw[z] at k1;go_region_with (first
  |(go_at_call 200;refine (Qev _ 256 c l _ y.drew (by omega) M).mono ?_;rintro e X ⟨A3,n3,c3,rfl,F,I⟩;have f:Below O.1.size O X:=Below.trans (Below.refl _ O).drew I;have k2:=Qde ((y.below f).take (k:=4) (by omega));have k3:=Qde F.sl;rw[z] at k2;rw[Z] at k3)
  |fail)
 all_goals
  have H:=R.below f E;have a1:=f.size;go_wp2_with (first
   |(refine Lm rfl (.tmp 2) (.tmp 19) rfl w.1.size rfl Hd.zero _ rfl (by exact H) (by show w.1.size<X.1.size;omega) ?_;intro w4 K J _)
   |fail)
  refine bodyPost_ret (Lu Tryz.results139 rfl (Qdp K)) rfl ?_;exact⟨_,_,_,rfl,Qa9 _ _ _,g.trans ((f.mono (by omega)).trans (J _ (Nat.le_refl _)))⟩
theorem open_any (A:Option Addr)(n c:Nat)(l:List UInt8)(w:World)(u:Sl w A n c l)(H:Tab w):Ox A n c l w:=by
 have G:=u.len;by_cases hn:n=256
 ·subst hn;obtain⟨F,rfl,_⟩:=u.cell (k:=0) (by omega);by_cases p:l.take 4=U3 l
  ·exact Zc3 F c l w u H p
  ·exact Zc4 F c l w u H p
 ·unfold Ox;have f:okB l=false:=decide_eq_false (λh=>hn (by omega));have h1:Vk l=Hd.zero:=by unfold Vk;rw[if_neg (by rw[f];simp)]
  have h2:Gf l=[]:=by unfold Gf;rw[if_neg (by rw[f];simp)]
  have I:Cm l=3:=by unfold Cm;rw[if_neg (by rw[f];simp)]
  rw[h1,h2,I];have z:¬(n:Int)=256:=by omega
  have J:decide ((n:Int)=256)=false:=decide_eq_false z;have E:=HB.zero w 198;have g:Below w.1.size w (w.alloc (.cells #[.int .i64 0,.int .i64 0,.int .i64 0,.int .i64 0,.int .i64 0] 198)):=Ib;have q:w.1.size<(w.alloc (.cells #[.int .i64 0,.int .i64 0,.int .i64 0,.int .i64 0,.int .i64 0] 198)).1.size:=by simp
  go_enter Tryz.func139,Tryz.ntmps139
  go_wp2;generalize (w.alloc (.cells #[.int .i64 0,.int .i64 0,.int .i64 0,.int .i64 0,.int .i64 0] 198))=K at E g q ⊢;go_quiet (fail)
  go_wp2_with (first
   |(refine Lm rfl (.tmp 2) (.tmp 19) rfl w.1.size rfl Hd.zero _ rfl (by exact E) (by exact q) ?_;intro M D y _)
   |fail)
  refine bodyPost_ret (Lu Tryz.results139 rfl (Qdp D)) rfl ?_;exact⟨_,_,_,rfl,Qa9 _ _ _,(below_drewN g _).trans (y _ (Nat.le_refl _))⟩
theorem Ze0 (l:List UInt8)(x n:Int)(h1:1<=n)(h2:n<=8):Qgr l x n=l++Zw x n.toNat:=if_pos ⟨h1,h2⟩
section
variable {P:Program}{t e:TypeId}(w:World)
end
def Vz (x:Qq):List UInt8:=x.k.bytes++(Zw (x.v.length:Int) 1++x.v)
def Vs (x:Qk):List UInt8:=x.k.bytes++Zw x.a 2
def Nd.body (N:Nd):List UInt8:=N.items.flatMap Vz++N.kids.flatMap Vs
def Nd.head (N:Nd)(addr gen:Int):Hd:=⟨if 0<N.lvl then 4 else 3,addr,(N.items.length:Int)+(N.kids.length:Int),N.lvl,gen⟩
def Jw (N:Nd)(addr gen:Int):List UInt8:=if N.may=true then Xu (N.head addr gen) N.body else []
def Qo (N:Nd)(addr gen:Int):Int:=if N.may=true then J5 (N.head addr gen) N.body else 1
theorem Gx {N:Nd}(h:N.may=true):N.items.length<=6/\N.kids.length<=12/\(∀j,j<N.items.length->(Qx N.items j).v.length<=28)/\0<=N.lvl:=by
 unfold Nd.may at h;split at h
 ·rename_i g;rw[Bool.and_eq_true,Bool.and_eq_true] at h;obtain⟨h1,_,h2⟩:=h;have h2:=of_decide_eq_true h2;refine⟨h2.2.2,by omega,λj f=>?_,by omega⟩;unfold Ah at h1;exact of_decide_eq_true (List.all_eq_true.1 h1 _ (List.mem_of_getElem? (Ae f)))
 ·rw[Bool.and_eq_true,Bool.and_eq_true] at h;obtain⟨_,_,h2⟩:=h;have h2:=of_decide_eq_true h2;exact⟨by omega,h2.2.2.2.2,λj f=>by omega,by omega⟩
theorem Qrn (l:List UInt8)(a:Nat):l.foldl (λa b=>256*a+b.toNat) a=a*256 ^ l.length+Zo l:=by
 induction l generalizing a with
 |nil=>simp[Zo]
 |cons b l ih=>
  unfold Zo;rw[List.foldl_cons,List.foldl_cons,ih,ih (256*0+b.toNat),List.length_cons,Nat.pow_succ,Nat.add_mul,Nat.add_mul];have e:256*a*256 ^ l.length=a*(256 ^ l.length*256):=by rw[Nat.mul_comm 256 a,Nat.mul_assoc,Nat.mul_comm 256]
  omega
theorem Qeo (b:UInt8)(l:List UInt8):Zo (b::l)=b.toNat*256 ^ l.length+Zo l:=by
 have h:=Qrn l (256*0+b.toNat);have e:(256*0+b.toNat)*256 ^ l.length=b.toNat*256 ^ l.length:=by rw[Nat.mul_zero,Nat.zero_add]
 rw[e] at h;exact h
theorem Qzn (u k:Nat):(low (u:Int) k).toNat=u / 256 ^ k % 256:=by
 unfold low;have e:((u:Int) / 2 ^ (8*k) % 256)=((u / 256 ^ k % 256:Nat):Int):=by
  rw[show (256:Nat) ^ k=2 ^ (8*k) by rw[Nat.pow_mul],Int.natCast_emod,Int.natCast_ediv,Int.natCast_pow];rfl
 rw[e,Int.toNat_natCast,UInt8.toNat_ofNat'];omega
theorem Qgn (u k:Nat):Zo (Zw (u:Int) k)=u % 256 ^ k:=by
 induction k with
 |zero=>simp[Zw,Zo,Nat.mod_one]
 |succ k ih=>
  rw[Zw,Qeo,Ye,ih,Qzn,Nat.mod_pow_succ,Nat.mul_comm];omega
theorem Qpo:∀{a b:List UInt8},a.length=b.length->Zo a=Zo b->a=b
 |[],[],_,_=>rfl
 |[],_::_,h,_=>by simp at h
 |_::_,[],h,_=>by simp at h
 |x::a,y::b,h,e=>by
  have f:a.length=b.length:=by simpa using h
  rw[Qeo,Qeo,f] at e;have h1:=Qdr a;have h2:=Qdr b;rw[f] at h1;have p:0<256 ^ b.length:=Nat.pow_pos (by omega);have q:(x.toNat*256 ^ b.length+Zo a) / 256 ^ b.length=x.toNat:=by rw[Nat.mul_comm,Nat.mul_add_div p,Nat.div_eq_of_lt h1];omega
  have u:(y.toNat*256 ^ b.length+Zo b) / 256 ^ b.length=y.toNat:=by rw[Nat.mul_comm,Nat.mul_add_div p,Nat.div_eq_of_lt h2];omega
  have g:x.toNat=y.toNat:=by rw[<-q,<-u,e]
  have D:=UInt8.toNat_inj.1 g;subst D;have z:Zo a=Zo b:=by omega
  rw[Qpo f z]
def gN (l:List UInt8)(p m:Nat):Nat:=Zo ((l.drop p).take m)
theorem Zea (s:ByteArray)(w:World):(convert 9 48 (.string s)).run Tryz.prog w=.ok (.slice (some ⟨w.1.size,0,none⟩) s.size (grownCap w s.size 0 5)) (Lib.bytesWorld w 5 s):=
 Lib.run_convert_string_bytes w 9 48 5 s Tryz.underlying9 Tryz.underlying48 Tryz.underlying5
def U5 (l:List UInt8):Bool:=decide (1<=l.length/\1+Zo (l.take 1)<=l.length)
def H7 (l:List UInt8):List UInt8:=if U5 l=true then bodyT l 1 else []
def H6 (l:List UInt8):List UInt8:=if U5 l=true then Kw l 1 else []
def Hz (l:List UInt8):Int:=if U5 l=true then 0 else 2
theorem Zfc (l:List UInt8):(H7 l).length<=l.length:=by
 unfold H7;split
 ·exact Qnq l 1
 ·simp
theorem Qy7 (l:List UInt8):(Y6 l).length<=l.length:=by
 unfold Y6;split<;>simp
def U4 (l:List UInt8):Bool:=decide (2<=l.length)
def Hy (l:List UInt8):Int:=if U4 l=true then (Zo (l.take 2):Int) else 0
def Hw (l:List UInt8):List UInt8:=if U4 l=true then l.drop 2 else []
def Hu (l:List UInt8):Int:=if U4 l=true then 0 else 2
def Y2 (N:Nd)(r:List UInt8):Option (Nd × List UInt8):=
 if Bq r=0 then
  if N.lvl=0 then if Hz (Y6 r)=0 then some (⟨N.lvl,N.items++[⟨U9 r,H7 (Y6 r)⟩],N.kids⟩,H6 (Y6 r)) else none
  else if Hu (Y6 r)=0 then some (⟨N.lvl,N.items,N.kids++[⟨U9 r,Hy (Y6 r)⟩]⟩,Hw (Y6 r)) else none
 else none
def Ky (l:Int)(body:List UInt8):Nat->Option (Nd × List UInt8)
 |0=>some (⟨l,[],[]⟩,body)
 |j+1=>match Ky l body j with
  |some (N,r)=>Y2 N r
  |none=>none
theorem Qbv (l:Int)(body:List UInt8)(j:Nat)(N:Nd)(r:List UInt8)(h:Ky l body j=some (N,r)):Ky l body (j+1)=Y2 N r:=by
 show (match Ky l body j with|some (N,r)=>Y2 N r|none=>none)=_;rw[h]
theorem Qgt (l:Int)(body:List UInt8)(j k:Nat)(h:Ky l body j=none)(f:j<=k):Ky l body k=none:=by
 induction k with
 |zero=>
  obtain rfl:j=0:=by omega
  exact h
 |succ k ih=>
  rcases (by omega:j<=k\/j=k+1) with h1|rfl
  ·show (match Ky l body k with|some (N,r)=>Y2 N r|none=>none)=_;rw[ih h1]
  ·exact h
def Qh1 (b:List UInt8):Nat:=min (Vk b).count.toNat 20
def Qh0 (b:List UInt8)(addr gen:Int):Option (Nd × List UInt8)->Option Nd
 |some (N,_)=>if Qo N addr gen=0/\Jw N addr gen=b then some N else none
 |none=>none
def Qp2 (b:List UInt8)(addr:Int):Option Nd:=if Cm b=0 then Qh0 b addr (Vk b).gen (Ky (Vk b).level (Gf b) (Qh1 b)) else none
theorem Qz1 {b:List UInt8}(h:Cm b=0):(Vk b).ok=true:=by
 cases f:okB b
 ·obtain⟨_,_,g⟩:=Qje f;rw[g] at h;omega
 ·obtain⟨h1,_,_⟩:=Qcc f;rw[h1];exact (of_decide_eq_true f).2.2.1
theorem Qtc:Bc Tryz.prog 41 50 4 48 (.agg #[.int .i64 0,.int .i64 0,.int .i64 0,.slice none 0 0]):=⟨Tryz.underlying41,by kernel_rfl,rfl,by omega⟩
theorem Zbs:Bc Tryz.prog 75 148 4 32 (.agg #[.int .i64 0,.int .i64 0,.int .i64 0,.int .i64 0]):=⟨Tryz.underlying75,by kernel_rfl,rfl,by omega⟩
theorem Sl.turned' {w w':World}{A:Option Addr}{n c:Nat}{l:List UInt8}(h:Sl w A n c l){S:Nat->Prop}(T:Turn S w w')(hA:l≠[]->∀k,Xq A=some k->¬S k):Sl w' A n c l:=by
 by_cases f:l=[]
 ·subst f;exact⟨h.1,h.2.1,h.2.2.1,λj u g=>by simp at g⟩
 ·exact h.turned T (hA f)
theorem Sl.Zx {w:World}{A:Option Addr}{n c:Nat}{l:List UInt8}(h:Sl w A n c l)(hl:l≠[]):∀k,Xq A=some k->k<w.1.size:=by
 intro k p;have hn:0<n:=by have:=h.len;have:l.length≠0:=λe=>hl (List.eq_nil_of_length_eq_zero e);omega
 obtain⟨f,rfl,g,_⟩:=h.cell hn;obtain rfl:f.block=k:=Option.some.inj p;exact g
def Yp (k:Kd)(V:Option Addr)(p q:Nat):List Value:=[.int .i64 k.obj,.int .i64 k.kind,.int .i64 k.off,.slice V p q]
def Zn (w:World)(base:Nat)(A:Option Addr)(n c:Nat)(xs:List Qq):Prop:=
 ∃f,Qr w base 50 4 A n c f/\f.length=xs.length/\∀(j:Nat) r x,f[j]?=some r->xs[j]?=some x->∃V p q,r=Yp x.k V p q/\Sl w V p q x.v/\(x.v≠[]->∀g,Xq V=some g->base<=g/\Xq A≠some g)
section
variable {w w':World}{base n c:Nat}{A:Option Addr}{xs:List Qq}
theorem Ob (w:World)(base:Nat):Zn w base none 0 0 []:=⟨[],Lp _ _ _ _,rfl,λj r x f=>by simp at f⟩
theorem Zn.below (h:Zn w base A n c xs)(hb:Below w.1.size w w'):Zn w' base A n c xs:=by
 obtain⟨g,h1,h2,u⟩:=h;refine⟨g,h1.below hb,h2,λj r x y D=>?_⟩;obtain⟨V,p,q,e,z,f⟩:=u j r x y D;exact⟨V,p,q,e,z.below hb,f⟩
theorem Zn.Qaf (h:Zn w base A n c xs):Je w A n c xs:=by
 obtain⟨f,h1,h2,g⟩:=h;refine⟨f,h1.Hr (by omega),h2,λj r x u z=>?_⟩;obtain⟨V,p,q,e,y,_⟩:=g j r x u z;exact⟨V,p,q,e,y⟩
theorem Zn.Zx (h:Zn w base A n c xs):∀k,Xq A=some k->base<=k/\k<w.1.size:=by
 obtain⟨f,h1,_⟩:=h;exact h1.Zx
theorem Zn.low (h:Zn w base A n c xs){S:Nat->Prop}(T:Turn S w w')(hS:∀k,S k->k<base):Zn w' base A n c xs:=by
 obtain⟨u,h1,h2,y⟩:=h;refine⟨u,h1.turned T (λk g e=>by have:=(h1.Zx k g).1;have:=hS k e;omega),h2,λj r x D F=>?_⟩;obtain⟨V,p,q,e,E,f⟩:=y j r x D F;exact⟨V,p,q,e,E.turned' T (λz k g e=>by have:=(f z k g).1;have:=hS k e;omega),f⟩
end
theorem Qo2 (k:Kd)(V:Option Addr)(p q:Nat):∀y∈[Yp k V p q],∀u∈y,u.oneCell'=true:=by
 intro y g u f;obtain rfl:y=Yp k V p q:=by simpa using g
 simp[Yp] at f;rcases f with rfl|rfl|rfl|rfl<;>rfl
theorem Qdg {w:World}{M:Array Oper}{z:List Oper}{o:Oper}{a:Act}{Q:Exit->Act->World->Prop}(Y:o.guard=none)(so x:Operand)
  (ho:o.op=.call { callee:=.builtin .append,args:=#[so,x],argTypes:=#[41,41] })
  (base:Nat) (A:Option Addr) (n c:Nat) (xs:List Qq) (U:a.eval so=.slice A n c) (K:Zn w base A n c xs)
  (B:Option Addr) (d:Nat) (y:Qq) (V:Option Addr) (p q:Nat) (F:a.eval x=.slice B 1 d) (u:Zg w 4 B 1 d [Yp y.k V p q]) (hv:Sl w V p q y.v) (a1:y.v≠[]->∀g,Xq V=some g->base<=g/\Xq A≠some g) (hn:n<=100000) (E:base<=w.1.size)
  (h:∀D R w',Zn w' base D (n+1) R (xs++[y])->Turn (λk=>Xq A=some k) w w'->(Xq D=Xq A\/Xq D=some w.1.size)->wpList Tryz.prog M Q z (a.put o.dst (.slice D (n+1) R)) w'):wpList Tryz.prog M Q (o::z) a w:=by
 obtain⟨G,h1,h2,h3⟩:=K;refine Qbh w Qtc Y so x ho base A n c G U h1 B 1 d [Yp y.k V p q] F u (by omega) (Qo2 _ _ _ _) (by omega) (by omega) E ?_;intro D R w' O T H _;refine h D R w' ⟨_,O,by simp[h2],λj r x u F=>?_⟩ T H;have old:∀(V:Option Addr) (p q:Nat) (v:List UInt8),Sl w V p q v->(v≠[]->∀g,Xq V=some g->base<=g/\Xq A≠some g)->Sl w' V p q v/\(v≠[]->∀g,Xq V=some g->base<=g/\Xq D≠some g):=by
  intro V p q v U f;refine⟨U.turned' T (λJ k hk e=>(f J k hk).2 e),λJ g X=>⟨(f J g X).1,λe=>?_⟩⟩;rcases H with W|W
  ·exact (f J g X).2 (W.symm.trans e)
  ·have:=U.Zx J g X;rw[W] at e;have:=Option.some.inj e;omega
 by_cases hj:j<G.length
 ·rw[List.getElem?_append_left hj] at u;rw[List.getElem?_append_left (by omega)] at F;obtain⟨V',p',q',e,Z,f⟩:=h3 j r x u F;obtain⟨o1,o2⟩:=old V' p' q' x.v Z f;exact⟨V',p',q',e,o1,o2⟩
 ·rw[List.getElem?_append_right (by omega)] at u F;have I:j-G.length=0:=by
   have:=(List.getElem?_eq_some_iff.1 u).1;simp at this;omega
  rw[I] at u;rw[<-h2,I] at F;obtain rfl:Yp y.k V p q=r:=by simpa using u
  obtain rfl:y=x:=by simpa using F
  obtain⟨o1,o2⟩:=old V p q y.v hv a1;exact⟨V,p,q,rfl,o1,o2⟩
section
variable {w w':World}{s n c:Nat}{A:Option Addr}
theorem Zg.drop {xs:List (List Value)}(h:Zg w s A n c xs){k:Nat}(hk:k<=n):Zg w s (if c=k then A else A.map (·.add (k*s))) (n-k) (c-k) (xs.drop k):=by
 have D:=h.len;have y:=h.cap;have hm:=h.max;refine⟨by rw[List.length_drop];omega,by omega,by omega,λj x f=>?_⟩;rw[List.getElem?_drop] at f;have z:=(List.getElem?_eq_some_iff.1 f).1;obtain⟨g,o,rfl,q,p,u⟩:=h.2.2.2 _ x f;rw[if_neg (by omega)];refine⟨g,o+k*s,by rw[Option.map_some,Addr.add_mid],q,p,?_⟩;have e:o+k*s+j*s=o+(k+j)*s:=by rw[Nat.add_mul];omega
 rw[e];exact u
theorem Je.drop {xs:List Qq}(h:Je w A n c xs){k:Nat}(hk:k<=n):Je w (if c=k then A else A.map (·.add (k*4))) (n-k) (c-k) (xs.drop k):=by
 obtain⟨f,h1,h2,q⟩:=h;refine⟨f.drop k,h1.drop hk,by rw[List.length_drop,List.length_drop,h2],λj r x g p=>?_⟩;rw[List.getElem?_drop] at g p;exact q _ r x g p
theorem Je.sub {xs:List Qq}(h:Je w A n c xs){i j:Nat}(hi:i<=j)(hj:j<=n):Je w (if c=i then A else A.map (·.add (i*4))) (j-i) (c-i) ((xs.drop i).take (j-i)):=(h.drop (by omega)).take (by omega)
theorem Q7.drop {xs:List Qk}(h:Q7 w A n c xs){k:Nat}(hk:k<=n):Q7 w (if c=k then A else A.map (·.add (k*4))) (n-k) (c-k) (xs.drop k):=by
 have:=Zg.drop h hk;rw[<-List.map_drop] at this;exact this
theorem Q7.sub {xs:List Qk}(h:Q7 w A n c xs){i j:Nat}(hi:i<=j)(hj:j<=n):Q7 w (if c=i then A else A.map (·.add (i*4))) (j-i) (c-i) ((xs.drop i).take (j-i)):=(h.drop (by omega)).take (by omega)
end
def Cj (l:Int)(A:Option Addr)(n c:Nat)(B:Option Addr)(m d:Nat):List Value:=[.int .i64 l,.slice A n c,.slice B m d]
theorem Qzw (l:Int)(A:Option Addr)(n c:Nat)(B:Option Addr)(m d:Nat):∀y∈[Cj l A n c B m d],∀u∈y,u.oneCell'=true:=by
 intro y g u f;obtain rfl:y=Cj l A n c B m d:=by simpa using g
 simp[Cj] at f;rcases f with rfl|rfl|rfl<;>rfl
section
variable {Q:World->Prop}{w w':World}{base n c:Nat}{A:Option Addr}{Ns:List Nd}
def Kt (Ns:List Nd)(j:Nat):Nd:=Ns.getD j ⟨0,[],[]⟩
theorem Ku {j:Nat}(h:j<Ns.length):Ns[j]?=some (Kt Ns j):=by simp[Kt,List.getD,h]
end
theorem Et {R:Int->Nd × Int}:∀{l:Nat} {a:Int} {its:List Qq},Qe R l a its->∃x r,its=x::r
 |0,a,its,h=>by
  match its,h.2 with
  |x::r,_=>exact⟨x,r,rfl⟩
 |l+1,a,its,h=>by
  obtain⟨kids,parts,_,h2,f,rfl,q⟩:=h;have g:0<kids.length:=List.length_pos_iff.2 h2;obtain⟨_,x,r,e,_⟩:=q 0 g;match parts,f with
  |[],f=>rw[<-f] at g;cases g
  |p::ps,_=>
   have e:p=x::r:=e;exact⟨x,r++ps.flatten,by rw[List.flatten_cons,e];rfl⟩
def within (fr «to»:Kd)(its:List Qq):List Qq:=its.filter λx=>!x.k.less fr&&!«to».less x.k
def P5 (f:Int->List Qq->List Qq × Int)(«to»:Kd)(most:Nat):List Qk->List Qq->List Qq × Int
 |[],acc=>(acc,0)
 |x::r,acc=>if «to».less x.k=true\/most<=acc.length then (acc,0) else if (f x.a acc).2≠0 then ([],(f x.a acc).2) else P5 f «to» most r (f x.a acc).1
def Ny (R:Int->Nd × Int)(fr «to»:Kd)(most:Nat):Nat->Int->List Qq->List Qq × Int
 |0,a,acc=>if (R a).2≠0 then ([],(R a).2) else if (R a).1.lvl≠0 then ([],5) else ((acc++within fr «to» (R a).1.items).take most,0)
 |l+1,a,acc=>if (R a).2≠0 then ([],(R a).2) else if (R a).1.lvl≠((l+1:Nat):Int) then ([],5) else P5 (Ny R fr «to» most l) «to» most ((R a).1.kids.drop ((R a).1.Xv fr)) acc
theorem Qbg {fr «to»:Kd}{its:List Qq}(h:∀x∈its,x.k.less fr=true\/«to».less x.k=true):within fr «to» its=[]:=by
 unfold within;rw[List.filter_eq_nil_iff];intro x f;rcases h x f with e|e<;>simp[e]
theorem Qbf {α:Type}{a b:List α}{m:Nat}(h:m<=a.length):(a++b).take m=a.take m:=by
 rw[List.take_append,Nat.sub_eq_zero_of_le h,List.take_zero,List.append_nil]
theorem Qgz {α:Type}(a b:List α)(m:Nat):(a.take m++b).take m=(a++b).take m:=by
 by_cases h:m<=a.length
 ·rw[Qbf h,Qbf (by rw[List.length_take];omega),List.take_take,Nat.min_self]
 ·rw[List.take_of_length_le (l:=a) (by omega)]
theorem Ql4 {f:Int->List Qq->List Qq × Int}{fr «to»:Kd}{most:Nat}:∀(kids:List Qk) (parts:List (List Qq)) (g:List Qq),parts.length=kids.length->g.length<=most->Zt parts.flatten->
  (∀j,j<kids.length->(∀g:List Qq,g.length<=most->f (Ql kids j).a g=((g++within fr «to» (parts.getD j [])).take most,0))/\∃x r,parts.getD j []=x::r/\(Ql kids j).k=x.k)->
  P5 f «to» most kids g=((g++within fr «to» parts.flatten).take most,0)
 |[],parts,g,hl,ha,_,_=>by
  obtain rfl:parts=[]:=List.length_eq_zero_iff.1 hl;unfold P5;rw[List.flatten_nil,show within fr «to» []=[] from rfl,List.append_nil,List.take_of_length_le ha]
 |x::kids,[],g,hl,_,_,_=>by simp at hl
 |x::kids,p::parts,g,hl,ha,hr,h=>by
  obtain⟨h0,y,r,E,F⟩:=h 0 (by rw[List.length_cons];omega);have E:p=y::r:=E;have F:x.k=y.k:=F;have h0:∀g:List Qq,g.length<=most->f x.a g=((g++within fr «to» p).take most,0):=h0;unfold P5;by_cases u:«to».less x.k=true
  ·rw[if_pos (.inl u)];have:within fr «to» (p::parts).flatten=[]:=Qbg λz D=>.inr (by
    have q:z=y\/y.k.less z.k=true:=by
     rw[List.flatten_cons,E,List.cons_append] at D hr;rcases List.mem_cons.1 D with rfl|D
     ·exact .inl rfl
     ·exact .inr ((List.pairwise_cons.1 hr).1 z D)
    rw[F] at u;rcases q with rfl|q
    ·exact u
    ·exact Kd.trans _ _ _ u q)
   rw[this,List.append_nil,List.take_of_length_le ha]
  ·by_cases hm:most<=g.length
   ·rw[if_pos (.inr hm),Qbf hm,List.take_of_length_le ha]
   ·rw[if_neg (by rintro (h|h);exact u h;exact hm h),h0 g ha];dsimp only;rw[if_neg (by simp),Ql4 kids parts _ (by simpa using hl) (by rw[List.length_take];omega) (by
     rw[List.flatten_cons] at hr;exact (List.pairwise_append.1 hr).2.1) λj J=>?_]
    ·have:within fr «to» (p::parts).flatten=within fr «to» p++within fr «to» parts.flatten:=by unfold within;rw[List.flatten_cons,List.filter_append]
     rw[this,Qgz,List.append_assoc]
    ·obtain⟨h1,z,s,G,H⟩:=h (j+1) (by rw[List.length_cons];omega);rw[getD_cons_succ] at h1 G;have I:Ql (x::kids) (j+1)=Ql kids j:=by unfold Ql;rw[getD_cons_succ]
     rw[I] at h1 H;exact⟨h1,z,s,G,H⟩
theorem Qk4 {α:Type}(l:List α)(n j:Nat)(d:α):(l.drop n).getD j d=l.getD (n+j) d:=by
 rw[List.getD_eq_getElem?_getD,List.getD_eq_getElem?_getD,List.getElem?_drop]
theorem Qiq {R:Int->Nd × Int}(fr «to»:Kd)(most:Nat):∀(l:Nat) (a:Int) (its f:List Qq),Qe R l a its->Zt its->f.length<=most->Ny R fr «to» most l a f=((f++within fr «to» its).take most,0)
 |0,a,its,f,h,hr,D=>by
  obtain⟨h1,_⟩:=h;unfold Ny;rw[h1];dsimp only;rw[if_neg (by simp),if_neg (by simp)]
 |l+1,a,its,f,h,hr,D=>by
  obtain⟨kids,parts,h1,h2,O,rfl,K⟩:=h;have X:(⟨((l+1:Nat):Int),[],kids⟩:Nd).Xv fr=lastTo (kids.map (·.k)) fr kids.length:=by
   unfold Nd.Xv;have:¬((l+1:Nat):Int)=0:=by omega
   dsimp only;rw[if_neg this,Gy,List.length_map]
  obtain⟨n,hn⟩:∃n,lastTo (kids.map (·.k)) fr kids.length=n:=⟨_,rfl⟩;have hl:0<kids.length:=List.length_pos_iff.2 h2;have y:n<kids.length:=by
   rcases D7 (kids.map (·.k)) fr kids.length with e|e<;>omega
  unfold Ny;rw[h1];dsimp only;rw[if_neg (by simp),if_neg (by simp),X,hn];have g:parts.flatten=(parts.take n).flatten++(parts.drop n).flatten:=by rw[<-List.flatten_append,List.take_append_drop]
  have u:within fr «to» (parts.take n).flatten=[]:=Qbg λx Z=>.inl (by
   obtain⟨p,V,I⟩:=List.mem_flatten.1 Z;obtain⟨q,W,e⟩:=List.getElem_of_mem V;have H:q<n:=by rw[List.length_take] at W;omega
   have J:x∈parts.getD q []:=by
    rw[List.getElem_take] at e;rw[List.getD_eq_getElem?_getD,List.getElem?_eq_getElem (by omega),e];exact I
   obtain⟨_,z,s,E,F⟩:=K n y;have G:x.k.less z.k=true:=Dk hr H (by omega) J (by rw[E];exact List.mem_cons_self ..);have T:fr.less z.k=false:=by
    have:=Qel (kids.map (·.k)) fr kids.length (by omega);rw[hn,D8 kids y,F] at this;exact this
   exact Qi0 G T)
  have Y:within fr «to» parts.flatten=within fr «to» (parts.drop n).flatten:=by
   have:within fr «to» parts.flatten=within fr «to» (parts.take n).flatten++within fr «to» (parts.drop n).flatten:=by
    conv=>lhs;rw[g]
    unfold within;rw[List.filter_append]
   rw[this,u,List.nil_append]
  rw[Y];refine Ql4 (kids.drop n) (parts.drop n) f (by rw[List.length_drop,List.length_drop,O]) D ?_ λj U=>?_
  ·rw[g] at hr;exact (List.pairwise_append.1 hr).2.1
  ·rw[List.length_drop] at U;have M:Ql (kids.drop n) j=Ql kids (n+j):=by unfold Ql;rw[Qk4]
   rw[M,Qk4];obtain⟨G,z,s,E,F⟩:=K (n+j) (by omega);exact⟨λf D=>Qiq fr «to» most l _ _ f G (Ij hr (n+j)) D,z,s,E,F⟩
theorem Dl {R R':Int->Nd × Int}(h:∀a,(R a).2=0->R' a=R a):∀{l:Nat} {a:Int} {its:List Qq},Qe R l a its->Qe R' l a its
 |0,a,its,hh=>⟨by rw[h a (by rw[hh.1])];exact hh.1,hh.2⟩
 |l+1,a,its,hh=>by
  obtain⟨kids,parts,h1,h2,p,q,f⟩:=hh;exact⟨kids,parts,by rw[h a (by rw[h1])];exact h1,h2,p,q,λj g=>⟨Dl h (f j g).1,(f j g).2⟩⟩
abbrev Zv:=Int × List Qq
def Qy (x:Zv):Qk:=⟨(Qx x.2 0).k,x.1⟩
def rowOf (G:List Zv):List Qq:=(G.map (·.2)).flatten
theorem Ew {G:List Zv}{j:Nat}(f:j<G.length):Ql (G.map Qy) j=Qy G[j]:=by
 unfold Ql;rw[List.getD_eq_getElem?_getD,List.getElem?_map,List.getElem?_eq_getElem f];rfl
theorem Uu {G:List Zv}{j:Nat}(f:j<G.length):(G.map (·.2)).getD j []=(G[j]).2:=by
 rw[List.getD_eq_getElem?_getD,List.getElem?_map,List.getElem?_eq_getElem f];rfl
theorem Ig {R:Int->Nd × Int}{l:Nat}{b:Int}{G:List Zv}(h:∀x∈G,Qe R l x.1 x.2)(g:G≠[])(p:R b=(⟨((l+1:Nat):Int),[],G.map Qy⟩,0)):Qe R (l+1) b (rowOf G):=by
 refine⟨G.map Qy,G.map (·.2),p,?_,by rw[List.length_map,List.length_map],rfl,λj f=>?_⟩
 ·intro e;exact g (List.map_eq_nil_iff.1 e)
 ·rw[List.length_map] at f;rw[Ew f,Uu f];have h1:=h _ (List.getElem_mem f);obtain⟨x,r,e⟩:=Et h1;exact⟨h1,x,r,e,by unfold Qy Qx;rw[e];rfl⟩
theorem Ey {ks:List Kd}(hm:∀k∈ks,k.may=true)(h:ks.Pairwise λa b=>a.less b=true):rises ks=true:=by
 refine D5 λj f=>?_
 have e:∀i,(hi:i<ks.length)->keyAt ks i=ks[i]:=λi hi=>by unfold keyAt;rw[List.getD_eq_getElem?_getD,List.getElem?_eq_getElem hi];rfl
 unfold Ja;rw[e j f,hm _ (List.getElem_mem f),Bool.true_and];by_cases h0:j=0
 ·subst h0;rfl
 ·rw[e (j-1) (by omega),List.pairwise_iff_getElem.1 h (j-1) j (by omega) f (by omega),Bool.or_true]
theorem Qzg {p:List Qq}(h1:1<=p.length)(u:p.length<=6)(y:Zt p)(q:∀x∈p,x.k.may=true/\x.v.length<=28):(⟨0,p,[]⟩:Nd).may=true:=by
 unfold Nd.may;rw[if_pos rfl,Bool.and_eq_true,Bool.and_eq_true];refine⟨?_,?_,decide_eq_true ⟨rfl,h1,u⟩⟩
 ·unfold Ah;rw[List.all_eq_true];exact λx f=>decide_eq_true (q x f).2
 ·rw[Ry];refine Ey (λk f=>?_) (List.Pairwise.map _ (λ_ _ h=>h) y);obtain⟨x,g,rfl⟩:=List.mem_map.1 f;exact (q x g).1
theorem Ip {l:Nat}{G:List Zv}(R:l<7)(h2:2<=G.length)(u:G.length<=12)(M:Zt (rowOf G))(K:∀x∈rowOf G,x.k.may=true)(J:∀x∈G,1<=x.1/\x.1<2048)(F:∀x∈G,x.2≠[]):(⟨((l+1:Nat):Int),[],G.map Qy⟩:Nd).may=true:=by
 unfold Nd.may;have h0:¬((l+1:Nat):Int)=0:=by omega
 dsimp only;rw[if_neg h0,Bool.and_eq_true,Bool.and_eq_true];refine⟨?_,?_,decide_eq_true ⟨by omega,by omega,rfl,by rw[List.length_map];exact h2,by rw[List.length_map];exact u⟩⟩
 ·unfold Xl;rw[List.all_eq_true];intro x f;obtain⟨y,O,rfl⟩:=List.mem_map.1 f;exact decide_eq_true (J y O)
 ·rw[Gy,List.map_map];have first:∀x∈G,∃y r,x.2=y::r/\(Qy x).k=y.k:=λx f=>by
   match e:x.2,F x f with
   |y::r,_=>exact⟨y,r,rfl,by unfold Qy Qx;rw[e];rfl⟩
  refine Ey (λk f=>?_) ?_
  ·obtain⟨x,g,rfl⟩:=List.mem_map.1 f;obtain⟨y,r,p,q⟩:=first x g
   show (Qy x).k.may=true;rw[q];refine K y ?_;unfold rowOf;rw[List.mem_flatten];exact⟨x.2,List.mem_map_of_mem g,by rw[p];exact List.mem_cons_self ..⟩
  ·rw[List.pairwise_map,List.pairwise_iff_getElem];intro i j hi E D;obtain⟨y,r,p,q⟩:=first _ (List.getElem_mem hi)
   obtain⟨z,s,H,I⟩:=first _ (List.getElem_mem E)
   show (Qy G[i]).k.less (Qy G[j]).k=true;rw[q,I];refine Dk M D (by rw[List.length_map];exact E) (x:=y) (y:=z) ?_ ?_
   ·rw[Uu hi,p];exact List.mem_cons_self ..
   ·rw[Uu E,H];exact List.mem_cons_self ..
section
variable {w w':World}{b:Nat}{l:Int}{A B:Option Addr}{n c m d:Nat}
theorem NB.keep (H:NB w b l A n c B m d)(h:w'.1[b]?=w.1[b]?):NB w' b l A n c B m d:=by
 obtain⟨t,H⟩:=H;exact⟨t,h.trans H⟩
theorem NB.fz (H:NB w b l A n c B m d)(i:Nat):w.frozen? ⟨b,i,none⟩=false:=by
 obtain⟨t,H⟩:=H;unfold World.frozen?;rw[H];simp
theorem NB.set1 (H:NB w b l A n c B m d)(A':Option Addr)(n' c':Nat):NB (w.setCell ⟨b,1,none⟩ (.slice A' n' c')) b l A' n' c' B m d:=by
 obtain⟨t,H⟩:=H;exact⟨t,setCell_at _ H⟩
theorem NB.set2 (H:NB w b l A n c B m d)(A':Option Addr)(n' c':Nat):NB (w.setCell ⟨b,2,none⟩ (.slice A' n' c')) b l A n c A' n' c':=by
 obtain⟨t,H⟩:=H;exact⟨t,setCell_at _ H⟩
theorem NB.there (H:NB w b l A n c B m d):w.there b 0 3:=λj f=>by
 obtain⟨t,H⟩:=H;refine⟨?_,by unfold World.frozen?;rw[H];simp⟩;rw[cell_of_row _ _ _ _ _ _ H,Nat.zero_add,Array.getElem?_eq_getElem (by simpa using f)];rfl
theorem NB.stored (H:NB w b l A n c B m d)(l2:Int)(A2:Option Addr)(n2 c2:Nat)(B2:Option Addr)(m2 d2:Nat):NB (w.setCells b 0 [.int .i64 l2,.slice A2 n2 c2,.slice B2 m2 d2]) b l2 A2 n2 c2 B2 m2 d2:=by
 obtain⟨t,H⟩:=H;exact⟨t,setCell_at _ (setCell_at _ (setCell_at _ H))⟩
end
theorem Ir {p:Array Oper}{f:List Oper}{o:Oper}{a:Act}{w:World}{Q:Exit->Act->World->Prop}(J:o.guard=none)(x y:Operand)(G:o.op=Op.store 77 x y)
  (b:Nat) (K:a.eval x=.pointer (some ⟨b,0,none⟩)) (D:Int) (q:Option Addr) (F c2:Nat) (u:Option Addr) (E z:Nat) (M:a.eval y=.agg #[.int .i64 D,.slice q F c2,.slice u E z]) {l:Int} {A B:Option Addr} {n c m d:Nat} (H:NB w b l A n c B m d)
  (I:∀w',NB w' b D q F c2 u E z->Turn (λg=>g=b) w w'->wpList Tryz.prog p Q f (a.put o.dst undef) w'):wpList Tryz.prog p Q (o::f) a w:=
 wpList_store_mid J _ x y G b 0 #[.int .i64 D,.slice q F c2,.slice u E z] K M H.there (by kernel_rfl) (by simp[Value.oneCell'])
  (I _ (H.stored D q F c2 u E z) (Gg (S:=λg=>g=b) rfl _ 0 w))
def Si (k:Kd)(v:List UInt8):Bool->List Qq->List Qq
 |done,[]=>if done=true then [] else [⟨k,v⟩]
 |done,x::r=>(if (!done&&(k.less x.k||x.k.same k))=true then [⟨k,v⟩] else [])++((if x.k.same k=true then [] else [x])++Si k v (done||(k.less x.k||x.k.same k)) r)
theorem Qgq (k:Kd)(v:List UInt8):∀(l:List Qq),(∀x∈l,x.k.same k=false)->Si k v true l=l
 |[],_=>rfl
 |x::r,h=>by
  unfold Si;rw[h x (List.mem_cons_self ..),Bool.true_or,Qgq k v r λy f=>h y (List.mem_cons_of_mem _ f)];rfl
theorem I8 {a b:Kd}(h:a.less b=true):a.same b=false/\b.same a=false:=by
 constructor
 ·cases f:a.same b with
  |false=>rfl
  |true=>have:=Qgw (a:=b) f;rw[Qbq,h] at this;cases this
 ·cases f:b.same a with
  |false=>rfl
  |true=>have:=Qdn (a:=a) f;rw[Qbq,h] at this;cases this
theorem Py {k:Kd}{v:List UInt8}{x:Qq}{r:List Qq}(u:Zt (x::r)) :
  Si k v false (x::r)=if k.less x.k=true then ⟨k,v⟩::x::r else if x.k.same k=true then ⟨k,v⟩::r else x::Si k v false r:=by
 obtain⟨h1,h2⟩:=List.pairwise_cons.1 u;rw[Si];by_cases f:k.less x.k=true
 ·rw[if_pos f,f];have g:=(I8 f).2;rw[g];show [(⟨k,v⟩:Qq)]++([x]++Si k v true r)=_;rw[Qgq]
  ·rfl
  ·intro y p;exact (I8 (Kd.trans _ _ _ f (h1 y p))).2
 ·have f:k.less x.k=false:=by simpa using f
  rw[f];by_cases g:x.k.same k=true
  ·rw[g];show [(⟨k,v⟩:Qq)]++([]++Si k v true r)=_;rw[Qgq]
   ·rfl
   ·intro y p;have q:=h1 y p;rw[<-Qgw g] at q;exact (I8 q).2
  ·have g:x.k.same k=false:=by simpa using g
   rw[g];rfl
theorem Qjn {k:Kd}{v:List UInt8}:∀{l:List Qq},Zt l->∀y∈Si k v false l,y=⟨k,v⟩\/y∈l
 |[],_,y,hy=>.inl (by simpa [Si] using hy)
 |x::r,hr,y,hy=>by
  rw[Py hr] at hy;have f:=(List.pairwise_cons.1 hr).2;split at hy
  ·rcases List.mem_cons.1 hy with h|h
   ·exact .inl h
   ·exact .inr h
  ·split at hy
   ·rcases List.mem_cons.1 hy with h|h
    ·exact .inl h
    ·exact .inr (List.mem_cons_of_mem _ h)
   ·rcases List.mem_cons.1 hy with h|h
    ·exact .inr (h▸List.mem_cons_self ..)
    ·rcases Qjn f y h with h|h
     ·exact .inl h
     ·exact .inr (List.mem_cons_of_mem _ h)
theorem Qjo {k:Kd}{v:List UInt8}:∀{l:List Qq},Zt l->Zt (Si k v false l)
 |[],_=>by
  show Zt [⟨k,v⟩];exact List.pairwise_singleton ..
 |x::r,hr=>by
  obtain⟨h1,h2⟩:=List.pairwise_cons.1 hr;rw[Py hr];split
  ·rename_i g;refine List.pairwise_cons.2 ⟨λy f=>?_,hr⟩;rcases List.mem_cons.1 f with rfl|f
   ·exact g
   ·exact Kd.trans _ _ _ g (h1 y f)
  ·rename_i g;split
   ·rename_i p;exact List.pairwise_cons.2 ⟨λy f=>by show k.less y.k=true;rw[Qgw p];exact h1 y f,h2⟩
   ·rename_i p;have q:x.k.less k=true:=by
     rcases Kd.total x.k k with⟨h,_,_⟩|⟨_,h,_⟩|⟨_,_,h⟩
     ·exact h
     ·exact absurd h g
     ·exact absurd (by rw[h,Kd.same_iff];exact⟨rfl,rfl,rfl⟩) p
    refine List.pairwise_cons.2 ⟨λy f=>?_,Qjo h2⟩;rcases Qjn h2 y f with rfl|f
    ·exact q
    ·exact h1 y f
theorem Qpy {k:Kd}{v:List UInt8}:∀{l:List Qq},Zt l->(Si k v false l).length<=l.length+1
 |[],_=>by simp[Si]
 |x::r,hr=>by
  rw[Py hr];have:=Qpy (k:=k) (v:=v) (List.pairwise_cons.1 hr).2;split
  ·simp
  ·split<;>simp<;>omega
def Zf7 (a l:Int)(A:Option Addr)(n c:Nat)(B:Option Addr)(m d:Nat):List Value:=[.int .i64 a,.int .i64 l,.slice A n c,.slice B m d]
def Qxi (Q:World->Prop)(r:List Value)(x:Int × Nd):Prop:=∃A n c B m d,r=Zf7 x.1 x.2.lvl A n c B m d/\n<=1000/\m<=1000/\∀w,Q w->Je w A n c x.2.items/\Q7 w B m d x.2.kids
def Qxj (Q:World->Prop)(w:World)(base:Nat)(A:Option Addr)(n c:Nat)(Ns:List (Int × Nd)):Prop:=
 ∃f,Qr w base 218 4 A n c f/\f.length=Ns.length/\∀(j:Nat) r x,f[j]?=some r->Ns[j]?=some x->Qxi Q r x
def Anl (Q:World->Prop)(w:World)(A:Option Addr)(n c:Nat)(Ns:List (Int × Nd)):Prop:=
 ∃f,Zg w 4 A n c f/\f.length=Ns.length/\∀(j:Nat) r x,f[j]?=some r->Ns[j]?=some x->Qxi Q r x
section
variable {Q Q':World->Prop}{w w':World}{base n c:Nat}{A:Option Addr}{Ns:List (Int × Nd)}
theorem Qxi.mono {r:List Value}{x:Int × Nd}(h:Qxi Q r x)(hq:∀w,Q' w->Q w):Qxi Q' r x:=by
 obtain⟨f,E,c1,g,D,p,e,u,y,z⟩:=h;exact⟨f,E,c1,g,D,p,e,u,y,λw q=>z w (hq w q)⟩
theorem Qxj.mono (h:Qxj Q w base A n c Ns)(hq:∀w,Q' w->Q w):Qxj Q' w base A n c Ns:=by
 obtain⟨f,h1,h2,g⟩:=h;exact⟨f,h1,h2,λj r x p q=>(g j r x p q).mono hq⟩
theorem Anl.mono (h:Anl Q w A n c Ns)(hq:∀w,Q' w->Q w):Anl Q' w A n c Ns:=by
 obtain⟨f,h1,h2,g⟩:=h;exact⟨f,h1,h2,λj r x p q=>(g j r x p q).mono hq⟩
end
section
variable {w w':World}{base n c:Nat}{A:Option Addr}{xs:List Qq}
end
theorem Zcb {l:List Qq}{j:Nat}(h:j<l.length):l.drop j=Qx l j::l.drop (j+1):=by
 have f:=Ae h;rw[List.getElem?_eq_getElem h] at f;rw[<-List.getElem_cons_drop (h:=h),Option.some.inj f]
