/- The code's edit: bunches, spots and patches are stored and loaded; cut -/
import Derived.Test.YthkfkhejjmhomaaGreatDoorEs27
namespace Go.Proofs.YthkfkhejjmhomaaGreatDoor
open Go Go.RowKit Go.Proofs
set_option maxHeartbeats 8000000
set_option maxRecDepth 100000
theorem qar {w:World}{b:Nat}{l:Int}{A B:Option Addr}{n c m d:Nat}(H:NB w b l A n c B m d):(loadVar 178 ⟨b,0,none⟩).run Tryz.prog w=.ok (Xo l A n c B m d) w:=
 run_loadVar_mid w b 0 178 _ _ H.range Tryz.underlying178 rfl (by kernel_rfl)
theorem q20 {ops:Array Oper}{e:List Oper}{o:Oper}{a:Act}{w:World}{Q:Exit->Act->World->Prop}(J:o.guard=none)(x y:Operand)(G:o.op=Op.store 178 x y)
  (b:Nat) (K:a.eval x=.pointer (some ⟨b,0,none⟩)) (D:Int) (f:Option Addr) (F c2:Nat) (p:Option Addr) (E u:Nat) (M:a.eval y=Xo D f F c2 p E u) {l:Int} {A B:Option Addr} {n c m d:Nat} (H:NB w b l A n c B m d)
  (I:∀w',NB w' b D f F c2 p E u->Turn (λg=>g=b) w w'->wpList Tryz.prog ops Q e (a.put o.dst undef) w'):wpList Tryz.prog ops Q (o::e) a w:=
 wpList_store_mid J _ x y G b 0 #[.int .i64 D,.slice f F c2,.slice p E u] K M H.there (by kernel_rfl) (by simp[Value.oneCell'])
  (I _ (H.stored D f F c2 p E u) (Um (S:=λg=>g=b) rfl _ 0 w))
def Jc (l:Int)(A:Option Addr)(n c:Nat)(B:Option Addr)(m d:Nat)(a x:Int)(h s:Bool):List Value:=[.int .i64 l,.slice A n c,.slice B m d,.int .i64 a,.int .i64 x,.bool h,.bool s]
theorem q5n {w:World}{b:Nat}{l:Int}{A B:Option Addr}{n c m d:Nat}{a x:Int}{h s:Bool}(H:RB w b (Jc l A n c B m d a x h s)):(loadVar 180 ⟨b,0,none⟩).run Tryz.prog w=.ok (.agg (Jc l A n c B m d a x h s).toArray) w:=
 run_loadVar_mid w b 0 180 _ _ H.range Tryz.underlying180 rfl (by kernel_rfl)
theorem Og {ops:Array Oper}{e:List Oper}{o:Oper}{a:Act}{w:World}{Q:Exit->Act->World->Prop}(F:o.guard=none)(x y:Operand)(u:o.op=Op.store 180 x y)
  (b:Nat) (G:a.eval x=.pointer (some ⟨b,0,none⟩)) (l:Int) (A:Option Addr) (n c:Nat) (B:Option Addr) (m d:Nat) (f p:Int) (h s:Bool) (I:a.eval y=.agg #[.int .i64 l,.slice A n c,.slice B m d,.int .i64 f,.int .i64 p,.bool h,.bool s]) {r:List Value} (H:RB w b r) (D:r.length=7)
  (E:∀w',RB w' b (Jc l A n c B m d f p h s)->Turn (λg=>g=b) w w'->wpList Tryz.prog ops Q e (a.put o.dst undef) w'):wpList Tryz.prog ops Q (o::e) a w:=
 wpList_store_mid F _ x y u b 0 (Jc l A n c B m d f p h s).toArray G I (by have:=H.there;rw[D] at this;exact this) (by kernel_rfl) (by simp[Jc,Value.oneCell'])
  (E _ (H.stored (Jc l A n c B m d f p h s) D) (Um (S:=λg=>g=b) rfl _ 0 w))
def Xe (l:Int)(A:Option Addr)(n c:Nat)(B:Option Addr)(m d:Nat)(X:Option Addr)(k kc:Nat)(i j:Int):List Value:=[.int .i64 l,.slice A n c,.slice B m d,.slice X k kc,.int .i64 i,.int .i64 j]
theorem qic {w:World}{b:Nat}{l:Int}{A B X:Option Addr}{n c m d k kc:Nat}{i j:Int}(H:RB w b (Xe l A n c B m d X k kc i j)):(loadVar 274 ⟨b,0,none⟩).run Tryz.prog w=.ok (.agg (Xe l A n c B m d X k kc i j).toArray) w:=
 run_loadVar_mid w b 0 274 _ _ H.range Tryz.underlying274 rfl (by kernel_rfl)
theorem q93 {ops:Array Oper}{e:List Oper}{o:Oper}{a:Act}{w:World}{Q:Exit->Act->World->Prop}(D:o.guard=none)(x y:Operand)(f:o.op=Op.store 274 x y)
  (b:Nat) (E:a.eval x=.pointer (some ⟨b,0,none⟩)) (l:Int) (A:Option Addr) (n c:Nat) (B:Option Addr) (m d:Nat) (X:Option Addr) (k kc:Nat) (i j:Int) (F:a.eval y=.agg #[.int .i64 l,.slice A n c,.slice B m d,.slice X k kc,.int .i64 i,.int .i64 j]) {r:List Value} (H:RB w b r) (p:r.length=6)
  (u:∀w',RB w' b (Xe l A n c B m d X k kc i j)->Turn (λg=>g=b) w w'->wpList Tryz.prog ops Q e (a.put o.dst undef) w'):wpList Tryz.prog ops Q (o::e) a w:=
 wpList_store_mid D _ x y f b 0 (Xe l A n c B m d X k kc i j).toArray E F (by have:=H.there;rw[p] at this;exact this) (by kernel_rfl) (by simp[Xe,Value.oneCell'])
  (u _ (H.stored (Xe l A n c B m d X k kc i j) p) (Um (S:=λg=>g=b) rfl _ 0 w))
def cutV (l:Int)(A:Option Addr)(n c:Nat)(B:Option Addr)(m d:Nat)(i j:Nat):Value:=if l=0 then Xo l (F7 A c i) (j-i) (c-i) B m d else Xo l A n c (F7 B d i) (j-i) (d-i)
theorem q3n (l:Int)(A:Option Addr)(n c:Nat)(B:Option Addr)(m d:Nat)(i j:Nat)(G:i<=j)(u:j<=if l=0 then n else m)(hn:n<=c/\c<=maxLen)(hm:m<=d/\d<=maxLen)(w:World) :
  Calls Tryz.prog 187 #[Xo l A n c B m d,.int .i64 (i:Int),.int .i64 (j:Int)] w λe w'=>e=.returned (cutV l A n c B m d i j)/\Below w.1.size w w':=by
 have D:NB ((w.alloc (.cells #[.int .i64 l,.slice A n c,.slice B m d] 178)).alloc (.cells #[.int .i64 0,.slice none 0 0,.slice none 0 0] 178)) w.1.size l A n c B m d:=(NB.new w _ _ _ _ _ _ _ _).below (Qn) (by simp);have E:NB ((w.alloc (.cells #[.int .i64 l,.slice A n c,.slice B m d] 178)).alloc (.cells #[.int .i64 0,.slice none 0 0,.slice none 0 0] 178)) (w.1.size+1) 0 none 0 0 none 0 0:=NB.new2 w _ _ _ _ _ _ _ _ _;have F:Below w.1.size w ((w.alloc (.cells #[.int .i64 l,.slice A n c,.slice B m d] 178)).alloc (.cells #[.int .i64 0,.slice none 0 0,.slice none 0 0] 178)):=(Qn).alloc (by simp) _;unfold cutV;by_cases h:l=0
 ·rw[if_pos h] at u ⊢;have y:(l==0)=true:=by simp[h]
  obtain⟨f,b⟩:∃f,F7 A c i=f:=⟨_,rfl⟩;have p:(if c=i then A else Option.map (λx=>x.add (i*4)) A)=f:=b;rw[b];clear h;unfold Xo;go_enter Tryz.func187,Tryz.ntmps187
  go_wp2;refine bodyPost_ret (Ol Tryz.results187 rfl (qar (NB.new2 w _ _ _ _ _ _ _ _ _))) rfl ?_;exact⟨rfl,(Qn).alloc (by simp) _⟩
 ·rw[if_neg h] at u ⊢;have y:(l==0)=false:=by simp[h]
  obtain⟨f,b⟩:∃f,F7 B d i=f:=⟨_,rfl⟩;have p:(if d=i then B else Option.map (λx=>x.add (i*4)) B)=f:=b;rw[b];clear h;unfold Xo;go_enter Tryz.func187,Tryz.ntmps187
  go_wp2;refine bodyPost_ret (Ol Tryz.results187 rfl (qar (NB.new2 w _ _ _ _ _ _ _ _ _))) rfl ?_;exact⟨rfl,(Qn).alloc (by simp) _⟩
theorem q89 {Q:World->Prop}{N:Nd}{A B:Option Addr}{n c m d i j:Nat}(h:Jg Q N A n c B m d)(y:i<=j)(b:j<=if N.lvl=0 then n else m):∃e E p f D u,cutV N.lvl A n c B m d i j=Xo N.lvl e E p f D u/\Jg Q (N.cut i j) e E p f D u/\(N.cut i j).lvl=N.lvl:=by
 unfold cutV;by_cases h0:N.lvl=0
 ·rw[if_pos h0] at b ⊢;exact⟨_,_,_,_,_,_,rfl,qu4 h h0 y b,by unfold Nd.cut;rw[if_pos h0]⟩
 ·rw[if_neg h0] at b ⊢;exact⟨_,_,_,_,_,_,rfl,qu5 h h0 y b,by unfold Nd.cut;rw[if_neg h0]⟩
theorem qg5 (N:Nd)(f:N.fit)(a:Int)(A:Option Addr)(n c:Nat)(B:Option Addr)(m d:Nat)(w:World)(K:Jd w A n c N.items)(M:Zp w B m d N.kids)(_:n<=1000)(_:m<=1000) :
  Calls Tryz.prog 238 #[Xo N.lvl A n c B m d,.int .i64 a] w λe w'=>e=.returned (.agg (⟨N.least,a⟩:Qm).vs.toArray)/\Below w.1.size w w':=by
 have p:NB ((w.alloc (.cells #[.int .i64 N.lvl,.slice A n c,.slice B m d] 178)).alloc (.cells #[.int .i64 0,.int .i64 0,.int .i64 0,.int .i64 0] 148)) w.1.size N.lvl A n c B m d:=(NB.new w _ _ _ _ _ _ _ _).below (Qn) (by simp);have y:RB ((w.alloc (.cells #[.int .i64 N.lvl,.slice A n c,.slice B m d] 178)).alloc (.cells #[.int .i64 0,.int .i64 0,.int .i64 0,.int .i64 0] 148)) (w.1.size+1) Qa3:=by
  have:=RB.new (w.alloc (.cells #[.int .i64 N.lvl,.slice A n c,.slice B m d] 178)) Qa3 148;rwa [World.size_alloc] at this
 have b:Below w.1.size w ((w.alloc (.cells #[.int .i64 N.lvl,.slice A n c,.slice B m d] 178)).alloc (.cells #[.int .i64 0,.int .i64 0,.int .i64 0,.int .i64 0] 148)):=(Qn).alloc (by simp) _;obtain⟨z,E⟩:∃z,N.least=z:=⟨_,rfl⟩;have G:=Lib.hid (λu F=>qhp N f z E A n c B m d u (K.below F) (M.below F));rw[E];have c0:=p.c0;have c1:=p.c1;have c2:=p.c2;clear E;unfold Xo;go_enter Tryz.func238,Tryz.ntmps238
 go_wp2_with fail
 generalize ((w.alloc (.cells #[.int .i64 N.lvl,.slice A n c,.slice B m d] 178)).alloc (.cells #[.int .i64 0,.int .i64 0,.int .i64 0,.int .i64 0] 148))=P at p y b c0 c1 c2 ⊢;refine (G.out P b).mono ?_;rintro e R ⟨rfl,D⟩;have H:=y.below D y.lt;go_wp2_with (first
  |(refine q33 rfl _ _ rfl (w.1.size+1) rfl ⟨z,a⟩ rfl H rfl ?_;intro T I J)
  |fail)
 refine bodyPost_ret (Ol Tryz.results238 rfl (q9d I)) rfl ?_;exact⟨rfl,b.trans ((D.mono b.size).trans (J.below (λk O=>by have:k=w.1.size+1:=O;omega) (by have:=b.size;have:=D.size;omega)))⟩
def G5 (Q:World->Prop)(w:World)(X:Option Addr)(k kc:Nat)(Ns:List Nd):Prop:=
 ∃b,Js w 3 X k kc b/\b.length=Ns.length/\∀(j:Nat) r N,b[j]?=some r->Ns[j]?=some N->∃A n c B m d,r=Vj N.lvl A n c B m d/\Jg Q N A n c B m d
def U8 (Q:World->Prop)(w:World)(base:Nat)(A:Option Addr)(n c:Nat)(xs:List Qg):Prop:=
 ∃b,Qo w base 50 4 A n c b/\b.length=xs.length/\∀(j:Nat) r x,b[j]?=some r->xs[j]?=some x->∃V p q,r=Vh x.k V p q/\∀w,Q w->Sl w V p q x.v
def Vx (w:World)(base:Nat)(B:Option Addr)(m d:Nat)(ks:List Qm):Prop:=Qo w base 148 4 B m d (ks.map Qm.vs)
section
variable {Q:World->Prop}{w w':World}{base n c m d:Nat}{A B:Option Addr}{xs:List Qg}{ks:List Qm}
theorem U8.turned {S:Nat->Prop}(h:U8 Q w base A n c xs)(T:Turn S w w')(hA:∀k,q01 A=some k->¬S k):U8 Q w' base A n c xs:=by
 obtain⟨b,h1,h2⟩:=h;exact⟨b,h1.turned T hA,h2⟩
theorem Vx.turned {S:Nat->Prop}(h:Vx w base B m d ks)(T:Turn S w w')(hA:∀k,q01 B=some k->¬S k):Vx w' base B m d ks:=Qo.turned h T hA
theorem U8.Qc (h:U8 Q w base A n c xs):∀k,q01 A=some k->base<=k/\k<w.1.size:=by
 obtain⟨b,h1,_⟩:=h;exact h1.Qc
theorem Vx.Qc (h:Vx w base B m d ks):∀k,q01 B=some k->base<=k/\k<w.1.size:=Qo.Qc h
theorem U8.len (h:U8 Q w base A n c xs):xs.length=n:=by
 obtain⟨b,h1,h2,_⟩:=h;rw[<-h2];exact h1.len (by omega)
theorem Vx.len (h:Vx w base B m d ks):ks.length=m:=by
 have:=Qo.len h (by omega);rw[List.length_map] at this;exact this
theorem qu6 (Q:World->Prop)(w:World)(base:Nat):U8 Q w base none 0 0 []:=⟨[],Ir _ _ _ _,rfl,λj r x b=>by simp at b⟩
theorem qkk (w:World)(base:Nat):Vx w base none 0 0 []:=Ir _ _ _ _
theorem qmu (ty:TypeId)(G:U8 Q w base A n c xs)(hq:Q w){B:Option Addr}{m d:Nat}{ys:List Qg}(hy:Rh Q B m d ys)(hm:ys.length=m)(hn:n+m<=100000)(E:base<=w.1.size) :
  ∃F M w',(Builtin.append_ #[41,41] ty #[.slice A n c,.slice B m d]).run Tryz.prog w=.ok (.slice F (n+m) M) w'/\U8 Q w' base F (n+m) M (xs++ys)/\Turn (λk=>q01 A=some k) w w'/\(q01 F=q01 A\/q01 F=some w.1.size):=by
 obtain⟨f,h1,h2,h3⟩:=G;obtain⟨D,X,Y,J⟩:=hy;have X:=X w hq;by_cases W:m=0
 ·subst W;have U:ys=[]:=List.length_eq_zero_iff.1 hm;subst U;obtain⟨i,hi,a2,a0,a3⟩:=info_parts Nz.info;refine⟨A,c,w,q2v (P:=Tryz.prog) base 41 ty 50 i 4 Nz.sl hi A n c f.flatten h1.1 B d (by omega) a0,?_,Turn.refl _ _,.inl rfl⟩;rw[List.append_nil];exact⟨f,h1,h2,h3⟩
 ·have one:∀y∈D,∀u∈y,u.oneCell'=true:=λy Z u hu=>by
   obtain⟨j,O⟩:=List.mem_iff_getElem?.1 Z;have a1:=(List.getElem?_eq_some_iff.1 O).1;obtain⟨V,p,q,e,_⟩:=J j y _ O (List.getElem?_eq_getElem (by omega));subst e;exact qlh _ V p q _ (List.mem_singleton.2 rfl) u hu
  obtain⟨F,M,w',H,K,T,R,_⟩:=q38 (P:=Tryz.prog) w Nz ty base A n c f h1 B m d D X (by omega) one (by omega) (by omega) E;refine⟨F,M,w',H,⟨_,K,by rw[List.length_append,List.length_append,h2,Y],λj r x b I=>?_⟩,T,R⟩;by_cases O:j<f.length
  ·rw[List.getElem?_append_left O] at b;rw[List.getElem?_append_left (by omega)] at I;exact h3 j r x b I
  ·rw[List.getElem?_append_right (by omega)] at b I;rw[<-h2] at I;exact J _ r x b I
theorem qkl (ty:TypeId)(b:Vx w base A n c ks){B:Option Addr}{m d:Nat}{F:List Qm}(O:Zp w B m d F)(hn:n+m<=100000)(f:base<=w.1.size) :
  ∃p E w',(Builtin.append_ #[75,75] ty #[.slice A n c,.slice B m d]).run Tryz.prog w=.ok (.slice p (n+m) E) w'/\Vx w' base p (n+m) E (ks++F)/\Turn (λk=>q01 A=some k) w w'/\(q01 p=q01 A\/q01 p=some w.1.size):=by
 by_cases I:m=0
 ·subst I;have H:F=[]:=List.length_eq_zero_iff.1 O.len;subst H;obtain⟨i,R,U,K,W⟩:=info_parts Qaq.info;refine⟨A,c,w,q2v (P:=Tryz.prog) base 75 ty 148 i 4 Qaq.sl R A n c _ b.1 B d (by omega) K,?_,Turn.refl _ _,.inl rfl⟩;rw[List.append_nil];exact b
 ·have one:∀y∈F.map Qm.vs,∀u∈y,u.oneCell'=true:=λy J u M=>by
   obtain⟨x,_,rfl⟩:=List.mem_map.1 J;simp[Qm.vs] at M;rcases M with rfl|rfl|rfl|rfl<;>rfl
  obtain⟨p,E,w',D,e,T,G,_⟩:=q38 (P:=Tryz.prog) w Qaq ty base A n c _ b B m d _ O (by omega) one (by omega) (by omega) f;rw[<-List.map_append] at e;exact⟨p,E,w',D,e,T,G⟩
theorem qid {ops:Array Oper}{b:List Oper}{o:Oper}{a:Act}{E:Exit->Act->World->Prop}(D:o.guard=none)(F x:Operand)
  (J:o.op=.call { callee:=.builtin .append,args:=#[F,x],argTypes:=#[41,41] })
  (O:a.eval F=.slice A n c) (p:U8 Q w base A n c xs) (M:Q w)
  {B:Option Addr} {m d:Nat} {ys:List Qg} (P:a.eval x=.slice B m d) (R:Rh Q B m d ys) (hm:ys.length=m) (hn:n+m<=100000) (e:base<=w.1.size)
  (h:∀f y w',U8 Q w' base f (n+m) y (xs++ys)->Turn (λk=>q01 A=some k) w w'->(q01 f=q01 A\/q01 f=some w.1.size)->wpList Tryz.prog ops E b (a.put o.dst (.slice f (n+m) y)) w'):wpList Tryz.prog ops E (o::b) a w:=
 wpList_plain D λK I=>by
  obtain⟨f,y,w',u,h2,G,H⟩:=qmu (ty:=o.type) p M R hm hn e;unfold Oper.wp execOp;simp only[J,resolve,invoke,builtin,Sem.run_bind,Sem.run_pure,Result.andThen_ok,List.map_toArray,List.map_cons,List.map_nil,O,P,u];exact I _ _ (h f y w' h2 G H)
theorem qie {ops:Array Oper}{b:List Oper}{o:Oper}{a:Act}{E:Exit->Act->World->Prop}(D:o.guard=none)(G x:Operand)
  (M:o.op=.call { callee:=.builtin .append,args:=#[G,x],argTypes:=#[75,75] })
  (O:a.eval G=.slice A n c) (p:Vx w base A n c ks)
  {B:Option Addr} {m d:Nat} {F:List Qm} (P:a.eval x=.slice B m d) (R:Zp w B m d F) (hn:n+m<=100000) (e:base<=w.1.size)
  (h:∀f y w',Vx w' base f (n+m) y (ks++F)->Turn (λk=>q01 A=some k) w w'->(q01 f=q01 A\/q01 f=some w.1.size)->wpList Tryz.prog ops E b (a.put o.dst (.slice f (n+m) y)) w'):wpList Tryz.prog ops E (o::b) a w:=
 wpList_plain D λK J=>by
  obtain⟨f,y,w',u,h2,H,I⟩:=qkl (ty:=o.type) p R hn e;unfold Oper.wp execOp;simp only[M,resolve,invoke,builtin,Sem.run_bind,Sem.run_pure,Result.andThen_ok,List.map_toArray,List.map_cons,List.map_nil,O,P,u];exact J _ _ (h f y w' h2 H I)
theorem G5.below {X:Option Addr}{k kc:Nat}{Ns:List Nd}(h:G5 Q w X k kc Ns)(hb:Below w.1.size w w'):G5 Q w' X k kc Ns:=by
 obtain⟨b,h1,h2⟩:=h;exact⟨b,h1.below hb,h2⟩
theorem G5.len {X:Option Addr}{k kc:Nat}{Ns:List Nd}(h:G5 Q w X k kc Ns):Ns.length=k:=by
 obtain⟨b,h1,h2,_⟩:=h;rw[<-h2];exact h1.len
theorem G5.get {X:Option Addr}{k kc:Nat}{Ns:List Nd}(h:G5 Q w X k kc Ns){j:Nat}(hj:j<k):∃g o A n c B m d,X=some ⟨g,o,none⟩/\g<w.1.size/\w.cell? ⟨g,o+j*3,none⟩=some (.int .i64 (Ae Ns j).lvl)/\w.cell? ⟨g,o+j*3+1,none⟩=some (.slice A n c)/\w.cell? ⟨g,o+j*3+2,none⟩=some (.slice B m d)/\Jg Q (Ae Ns j) A n c B m d:=by
 have E:=h.len;obtain⟨b,h1,h2,u⟩:=h;have p:b[j]?=some (b[j]'(by omega)):=List.getElem?_eq_getElem (by omega);obtain⟨A,n,c,B,m,d,e,y⟩:=u j _ _ p (q6r (by omega));obtain⟨g,o,rfl,D,_,f⟩:=h1.2.2.2 j _ p;rw[e] at f;exact⟨g,o,A,n,c,B,m,d,rfl,D,f 0 _ rfl,f 1 _ rfl,f 2 _ rfl,y⟩
end
def Ic (Ns:List Nd)(j:Nat):List Qg:=(Ns.take j).flatMap (·.items)
def Ie (Ns:List Nd)(j:Nat):List Qm:=(Ns.take j).flatMap (·.kids)
theorem qq6 {Ns:List Nd}{j:Nat}(h:j<Ns.length):Ic Ns (j+1)=Ic Ns j++(Ae Ns j).items:=by
 have e:=q6r h;rw[List.getElem?_eq_getElem h] at e;unfold Ic;rw[List.take_succ_eq_append_getElem h,List.flatMap_append,Option.some.inj e];simp
theorem qq7 {Ns:List Nd}{j:Nat}(h:j<Ns.length):Ie Ns (j+1)=Ie Ns j++(Ae Ns j).kids:=by
 have e:=q6r h;rw[List.getElem?_eq_getElem h] at e;unfold Ie;rw[List.take_succ_eq_append_getElem h,List.flatMap_append,Option.some.inj e];simp
theorem qxe {Ns:List Nd}(j:Nat):(Ic Ns j).length<=(Ns.flatMap (·.items)).length:=by
 conv=>rhs;rw[<-List.take_append_drop j Ns,List.flatMap_append,List.length_append]
 unfold Ic;omega
theorem qxf {Ns:List Nd}(j:Nat):(Ie Ns j).length<=(Ns.flatMap (·.kids)).length:=by
 conv=>rhs;rw[<-List.take_append_drop j Ns,List.flatMap_append,List.length_append]
 unfold Ie;omega
theorem qu7 {Ns:List Nd}{j:Nat}(h:Ns.length<=j):Ic Ns j=Ns.flatMap (·.items):=by unfold Ic;rw[List.take_of_length_le h]
theorem qu8 {Ns:List Nd}{j:Nat}(h:Ns.length<=j):Ie Ns j=Ns.flatMap (·.kids):=by unfold Ie;rw[List.take_of_length_le h]
theorem qz1 {S:Nat->Prop}{w w':World}(H:∀k,S k->k<w.1.size)(R:Below w.1.size w w'){base:Nat}(E:w.1.size<=base){A B:Option Addr}{n c m d:Nat}{l:Int}{its:List Qg}{Bd:List Qm}(D:U8 (Turn S w) w' base A n c its)(y:Vx w' base B m d Bd)(hn:its.length<=60)(hm:Bd.length<=60):Jg (Turn S w') ⟨l,its,Bd⟩ A n c B m d:=by
 have X:=D.len;have Y:=y.len;have P:Turn S w w':=Qu R;have M:=D.Qc;have O:=y.Qc;have J:=Qo.Kt y (by omega);obtain⟨G,h1,h2,K⟩:=D;have I:=h1.Kt (by omega);refine⟨⟨G,λu f=>(h1.turned f λk b F=>by have:=(M k b).1;have:=H k F;omega).Kt (by omega),h2,λj r x T W=>?_⟩,λu f=>Qo.Kt (Qo.turned y f λk b F=>by have:=(O k b).1;have:=H k F;omega) (by omega),X,Y,⟨by omega,I.cap,I.max⟩,⟨by omega,J.cap,J.max⟩⟩;obtain⟨V,p,q,e,U⟩:=K j r x T W;exact⟨V,p,q,e,λu f=>U u (P.trans f λk b=>.inl b)⟩
theorem q4a {S:Nat->Prop}{w:World}(hS:∀k,S k->k<w.1.size)(Ns:List Nd)(l:Int)(b9:(Ae Ns 0).lvl=l)(X:Option Addr)(k kc:Nat)(hB:G5 (Turn S w) w X k kc Ns)(hk:1<=k)(d2:k<=100)(hn:(Ns.flatMap (·.items)).length<=60)(hm:(Ns.flatMap (·.kids)).length<=60) :
  Calls Tryz.prog 186 #[.slice X k kc] w λe w'=>∃A n c B m d,e=.returned (Xo l A n c B m d)/\Jg (Turn S w') (Zz l Ns) A n c B m d/\Below w.1.size w w':=by
 have c7:=hB.len;obtain⟨g0,o0,A0,n0,c0,B0,m0,d0,hX,b8,x0,-,-,-⟩:=hB.get (show 0<k by omega);rw[b9] at x0;rw[Nat.zero_mul,Nat.add_zero] at x0;have b0:Below w.1.size w (w.alloc (.cells #[.int .i64 0,.slice none 0 0,.slice none 0 0] 178)):=Qn;have x1:=(b0.cell (p:=⟨g0,o0,none⟩) b8).trans x0;have N1:NB ((w.alloc (.cells #[.int .i64 0,.slice none 0 0,.slice none 0 0] 178)).alloc (.cells #[.int .i64 l,.slice none 0 0,.slice none 0 0] 178)) (w.1.size+1) l none 0 0 none 0 0:=NB.new2 w _ _ _ _ _ _ _ _ _;have R1:NB ((w.alloc (.cells #[.int .i64 0,.slice none 0 0,.slice none 0 0] 178)).alloc (.cells #[.int .i64 l,.slice none 0 0,.slice none 0 0] 178)) w.1.size 0 none 0 0 none 0 0:=(NB.new w _ _ _ _ _ _ _ _).below (Qn) (by simp);have b1:Below w.1.size w ((w.alloc (.cells #[.int .i64 0,.slice none 0 0,.slice none 0 0] 178)).alloc (.cells #[.int .i64 l,.slice none 0 0,.slice none 0 0] 178)):=b0.alloc (by simp) _;have hz:0<k:=by omega
 subst hX;go_enter Tryz.func186,Tryz.ntmps186
 go_wp2_with fail
 generalize ((w.alloc (.cells #[.int .i64 0,.slice none 0 0,.slice none 0 0] 178)).alloc (.cells #[.int .i64 l,.slice none 0 0,.slice none 0 0] 178))=w1 at N1 R1 b1 ⊢;go_loopw [15] (λi wr=>∃(j:Nat) (A:Option Addr) (n c:Nat) (B:Option Addr) (m d:Nat),j<=k/\i=.int .i64 (j:Int)/\NB wr (w.1.size+1) l A n c B m d/\NB wr w.1.size 0 none 0 0 none 0 0/\U8 (Turn S w) wr (w.1.size+2) A n c (Ic Ns j)/\Vx wr (w.1.size+2) B m d (Ie Ns j)/\(∀g,q01 A=some g->q01 B≠some g)/\Below w.1.size w wr) (λi _=>k-(intOf i).toNat)
 case atStart=>exact⟨0,none,0,0,none,0,0,Nat.zero_le _,rfl,N1,R1,qu6 _ _ _,qkk _ _,λg h=>(by cases h),b1⟩
 case round=>
  obtain⟨j,A,n,c,B,m,d,hj,rfl,J,RR,qI,qK,F,hb⟩:=hrel;have zR:=RR.lt;have zN:=J.lt;have U:=qI.Qc;have T:=qK.Qc;have n1:=J.c1;have n2:=J.c2;by_cases c6:j<k
  ·obtain⟨g,o,Ax,R,cx,Bx,P,dx,b4,b,y0,y1,y2,u⟩:=(hB.below hb).get c6;obtain⟨h1,h2⟩:g0=g/\o0=o:=by
    injection b4 with h;injection h with h1 h2;exact⟨h1,h2⟩
   subst h1 h2;obtain⟨lv,a6⟩:∃lv,(Ae Ns j).lvl=lv:=⟨_,rfl⟩;rw[a6] at y0;have e1:=qq6 (Ns:=Ns) (j:=j) (by omega);have e2:=qq7 (Ns:=Ns) (j:=j) (by omega);have a4:=qxe (Ns:=Ns) (j+1);have a5:=qxf (Ns:=Ns) (j+1);have d3:n+R<=60:=by
    have q1:=qI.len;have q2:=u.ln;rw[e1,List.length_append] at a4;omega
   have d4:m+P<=60:=by
    have q1:=qK.len;have q2:=u.lm;rw[e2,List.length_append] at a5;omega
   clear a4 a5 a6;have O:Below wr.1.size wr (wr.alloc (.cells #[.int .i64 lv,.slice Ax R cx,.slice Bx P dx] 178)):=Qn;have X2:NB (wr.alloc (.cells #[.int .i64 lv,.slice Ax R cx,.slice Bx P dx] 178)) wr.1.size lv Ax R cx Bx P dx:=NB.new wr _ _ _ _ _ _ _ _;have N2:=J.below O J.lt;have a1:=hb.trans (O.mono hb.size);have q2:=qI.turned (Qu (S:=λ_=>False) O) (λ_ _ h=>h);have k2:=qK.turned (Qu (S:=λ_=>False) O) (λ_ _ h=>h);have zs:=hb.size;have d6:=O.size;have x1:=X2.c1;have x2:=X2.c2;have n1:=N2.c1;have n2:=N2.c2;go_wp2_with (first
    |(at_builtin;refine qid rfl _ _ rfl rfl q2 (Qu a1) rfl u.its u.ln (by omega) (by omega) ?_;intro I c3 w3 q3 K a9
      have d7:=K.size;have c8:∀g,q01 A=some g->w.1.size+2<=g/\g<wr.1.size:=U;have N3:=N2.turned K (λh=>by have:=(U _ h).1;omega);have X3:=X2.turned K (λh=>by have:=(U _ h).2;omega);have k3:=k2.turned K (λg h1 h2=>F g h2 h1);have Y:=(RR.below O RR.lt).turned K (λh=>by have:=(U _ h).1;omega);have b5:=a1.trans (K.below (B:=w.1.size) (λx f=>by have:=(U _ f).1;omega) (by omega));have E:∀g,q01 I=some g->w.1.size+2<=g:=λg b=>(q3.Qc g b).1
      have y:∀g,q01 I=some g->q01 B≠some g:=λg b H=>by
       rcases a9 with h|h
       ·exact F g (h▸b) H
       ·rw[h] at b;have h1:=(T g H).2;injection b with b;omega
      have M:Turn (λg=>g=w.1.size+1) w3 (w3.setCell ⟨w.1.size+1,1,none⟩ (.slice I (n+R) c3)):=Dy (a:=⟨w.1.size+1,1,none⟩) _ rfl;have f1:=N3.fz 1;have p1:=N3.c1;have N4:=N3.set1 I (n+R) c3;have X4:=X3.keep (M.block wr.1.size X3.lt (by show ¬wr.1.size=w.1.size+1;omega));have a7:=Y.keep (M.block w.1.size Y.lt (by show ¬w.1.size=w.1.size+1;omega));have q4:=q3.turned M (λg h1 h2=>by have h2:g=w.1.size+1:=h2;have:=E g h1;omega);have k4:=k3.turned M (λg h1 h2=>by have h2:g=w.1.size+1:=h2;have:=(T g h1).1;omega);have a2:=b5.trans (M.below (B:=w.1.size) (λx f=>by have f:x=w.1.size+1:=f;omega) (by omega));have d8:=M.size;have u2:=N4.c2;have v2:=X4.c2)
    |(at_builtin;refine qie rfl _ _ rfl rfl k4 rfl (u.Bd _ (Qu a2)) (by omega) (by omega) ?_;intro W d5 w5 k5 T5 b3
      have d9:=T5.size;have N5:=N4.turned T5 (λh=>by have:=(T _ h).1;omega);have Z:=a7.turned T5 (λh=>by have:=(T _ h).1;omega);have q5:=q4.turned T5 (λg h1 h2=>y g h1 h2);have b6:=a2.trans (T5.below (B:=w.1.size) (λx f=>by have:=(T _ f).1;omega) (by omega));have a0:∀g,q01 W=some g->w.1.size+2<=g:=λg b=>(k5.Qc g b).1
      have G:∀g,q01 I=some g->q01 W≠some g:=λg b H=>by
       rcases b3 with h|h
       ·exact y g b (h▸H)
       ·rw[h] at H;have h1:=(q4.Qc g b).2;injection H with H;omega
      have D:Turn (λg=>g=w.1.size+1) w5 (w5.setCell ⟨w.1.size+1,2,none⟩ (.slice W (m+P) d5)):=Dy (a:=⟨w.1.size+1,2,none⟩) _ rfl;have f2:=N5.fz 2;have p2:=N5.c2;have N6:=N5.set2 W (m+P) d5;have a8:=Z.keep (D.block w.1.size Z.lt (by show ¬w.1.size=w.1.size+1;omega));have q6:=q5.turned D (λg h1 h2=>by have h2:g=w.1.size+1:=h2;have:=E g h1;omega);have k6:=k5.turned D (λg h1 h2=>by have h2:g=w.1.size+1:=h2;have:=a0 g h1;omega);have b7:=b6.trans (D.below (B:=w.1.size) (λx f=>by have f:x=w.1.size+1:=f;omega) (by omega)))
    |fail)
   rw[<-e1] at q6;rw[<-e2] at k6;exact⟨⟨j+1,I,_,c3,W,_,d5,by omega,by go_num,N6,a8,q6,k6,G,b7⟩,by simp[intOf];omega⟩
  ·have d1:j=k:=by omega
   have c0:=J.c0;have eI:=qu7 (Ns:=Ns) (j:=j) (by omega);have eK:=qu8 (Ns:=Ns) (j:=j) (by omega);rw[eI] at qI;rw[eK] at qK;have c9:¬(j:Int)<(k:Int):=by omega
   go_wp2_with (first
    |(refine q20 rfl _ _ rfl w.1.size rfl l A n c B m d rfl RR ?_;intro wz Rz Tz)
    |fail)
   refine bodyPost_ret (Ol Tryz.results186 rfl (qar Rz)) rfl ?_;have a3:=hb.trans (Tz.below (B:=w.1.size) (λx f=>by have f:x=w.1.size:=f;omega) (by omega));have qz:=qI.turned Tz (λg h1 h2=>by have h2:g=w.1.size:=h2;have:=(U g h1).1;omega);have kz:=qK.turned Tz (λg h1 h2=>by have h2:g=w.1.size:=h2;have:=(T g h1).1;omega);exact⟨A,n,c,B,m,d,rfl,qz1 hS a3 (by omega) qz kz hn hm,a3⟩
