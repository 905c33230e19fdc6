/- The code's edit: bunches, spots and patches are stored and loaded; cut -/
import Derived.Test.YthkfkhejjmhomaaGreatDoorDz29
namespace Go.Proofs.YthkfkhejjmhomaaGreatDoor
open Go Go.RowKit Go.Proofs
set_option maxHeartbeats 8000000
set_option maxRecDepth 100000
theorem Qfl {w:World}{b:Nat}{l:Int}{A B:Option Addr}{n c m d:Nat}(H:NB w b l A n c B m d):(loadVar 178 ⟨b,0,none⟩).run Tryz.prog w=.ok (Px l A n c B m d) w:=
 run_loadVar_mid w b 0 178 _ _ H.range Tryz.underlying178 rfl (by kernel_rfl)
theorem P6 {f:Array Oper}{e:List Oper}{o:Oper}{a:Act}{w:World}{Q:Exit->Act->World->Prop}(I:o.guard=none)(x y:Operand)(F:o.op=Op.store 178 x y)
  (b:Nat) (J:a.eval x=.pointer (some ⟨b,0,none⟩)) (z:Int) (p:Option Addr) (E c2:Nat) (q:Option Addr) (D u:Nat) (K:a.eval y=Px z p E c2 q D u) {l:Int} {A B:Option Addr} {n c m d:Nat} (H:NB w b l A n c B m d)
  (G:∀w',NB w' b z p E c2 q D u->Turn (λg=>g=b) w w'->wpList Tryz.prog f Q e (a.put o.dst undef) w'):wpList Tryz.prog f Q (o::e) a w:=
 wpList_store_mid I _ x y F b 0 #[.int .i64 z,.slice p E c2,.slice q D u] J K H.there (by kernel_rfl) (by simp[Value.oneCell'])
  (G _ (H.stored z p E c2 q D u) (Gg (S:=λg=>g=b) rfl _ 0 w))
def Nh (l:Int)(A:Option Addr)(n c:Nat)(B:Option Addr)(m d:Nat)(a x:Int)(h s:Bool):List Value:=[.int .i64 l,.slice A n c,.slice B m d,.int .i64 a,.int .i64 x,.bool h,.bool s]
theorem Qbr {w:World}{b:Nat}{l:Int}{A B:Option Addr}{n c m d:Nat}{a x:Int}{h s:Bool}(H:RB w b (Nh l A n c B m d a x h s)):(loadVar 180 ⟨b,0,none⟩).run Tryz.prog w=.ok (.agg (Nh l A n c B m d a x h s).toArray) w:=
 run_loadVar_mid w b 0 180 _ _ H.range Tryz.underlying180 rfl (by kernel_rfl)
theorem Le {f:Array Oper}{e:List Oper}{o:Oper}{a:Act}{w:World}{Q:Exit->Act->World->Prop}(E:o.guard=none)(x y:Operand)(u:o.op=Op.store 180 x y)
  (b:Nat) (F:a.eval x=.pointer (some ⟨b,0,none⟩)) (l:Int) (A:Option Addr) (n c:Nat) (B:Option Addr) (m d:Nat) (p q:Int) (h s:Bool) (G:a.eval y=.agg #[.int .i64 l,.slice A n c,.slice B m d,.int .i64 p,.int .i64 q,.bool h,.bool s]) {r:List Value} (H:RB w b r) (z:r.length=7)
  (D:∀w',RB w' b (Nh l A n c B m d p q h s)->Turn (λg=>g=b) w w'->wpList Tryz.prog f Q e (a.put o.dst undef) w'):wpList Tryz.prog f Q (o::e) a w:=
 wpList_store_mid E _ x y u b 0 (Nh l A n c B m d p q h s).toArray F G (by have:=H.there;rw[z] at this;exact this) (by kernel_rfl) (by simp[Nh,Value.oneCell'])
  (D _ (H.stored (Nh l A n c B m d p q h s) z) (Gg (S:=λg=>g=b) rfl _ 0 w))
def Ou (l:Int)(A:Option Addr)(n c:Nat)(B:Option Addr)(m d:Nat)(X:Option Addr)(k kc:Nat)(i j:Int):List Value:=[.int .i64 l,.slice A n c,.slice B m d,.slice X k kc,.int .i64 i,.int .i64 j]
theorem Qmy {w:World}{b:Nat}{l:Int}{A B X:Option Addr}{n c m d k kc:Nat}{i j:Int}(H:RB w b (Ou l A n c B m d X k kc i j)):(loadVar 274 ⟨b,0,none⟩).run Tryz.prog w=.ok (.agg (Ou l A n c B m d X k kc i j).toArray) w:=
 run_loadVar_mid w b 0 274 _ _ H.range Tryz.underlying274 rfl (by kernel_rfl)
theorem Qf8 {f:Array Oper}{e:List Oper}{o:Oper}{a:Act}{w:World}{Q:Exit->Act->World->Prop}(z:o.guard=none)(x y:Operand)(p:o.op=Op.store 274 x y)
  (b:Nat) (D:a.eval x=.pointer (some ⟨b,0,none⟩)) (l:Int) (A:Option Addr) (n c:Nat) (B:Option Addr) (m d:Nat) (X:Option Addr) (k kc:Nat) (i j:Int) (E:a.eval y=.agg #[.int .i64 l,.slice A n c,.slice B m d,.slice X k kc,.int .i64 i,.int .i64 j]) {r:List Value} (H:RB w b r) (q:r.length=6)
  (u:∀w',RB w' b (Ou l A n c B m d X k kc i j)->Turn (λg=>g=b) w w'->wpList Tryz.prog f Q e (a.put o.dst undef) w'):wpList Tryz.prog f Q (o::e) a w:=
 wpList_store_mid z _ x y p b 0 (Ou l A n c B m d X k kc i j).toArray D E (by have:=H.there;rw[q] at this;exact this) (by kernel_rfl) (by simp[Ou,Value.oneCell'])
  (u _ (H.stored (Ou l A n c B m d X k kc i j) q) (Gg (S:=λg=>g=b) rfl _ 0 w))
def cutV (l:Int)(A:Option Addr)(n c:Nat)(B:Option Addr)(m d:Nat)(i j:Nat):Value:=if l=0 then Px l (Wp A c i) (j-i) (c-i) B m d else Px l A n c (Wp B d i) (j-i) (d-i)
theorem Qak (l:Int)(A:Option Addr)(n c:Nat)(B:Option Addr)(m d:Nat)(i j:Nat)(hi:i<=j)(q:j<=if l=0 then n else m)(hn:n<=c/\c<=maxLen)(hm:m<=d/\d<=maxLen)(w:World) :
  Calls Tryz.prog 187 #[Px l A n c B m d,.int .i64 (i:Int),.int .i64 (j:Int)] w λe w'=>e=.returned (cutV l A n c B m d i j)/\Below w.1.size w w':=by
 have y:NB ((w.alloc (.cells #[.int .i64 l,.slice A n c,.slice B m d] 178)).alloc (.cells #[.int .i64 0,.slice none 0 0,.slice none 0 0] 178)) w.1.size l A n c B m d:=(NB.new w _ _ _ _ _ _ _ _).below (Ib) (by simp);have z:NB ((w.alloc (.cells #[.int .i64 l,.slice A n c,.slice B m d] 178)).alloc (.cells #[.int .i64 0,.slice none 0 0,.slice none 0 0] 178)) (w.1.size+1) 0 none 0 0 none 0 0:=NB.new2 w _ _ _ _ _ _ _ _ _;have D:Below w.1.size w ((w.alloc (.cells #[.int .i64 l,.slice A n c,.slice B m d] 178)).alloc (.cells #[.int .i64 0,.slice none 0 0,.slice none 0 0] 178)):=(Ib).alloc (by simp) _;unfold cutV;by_cases h:l=0
 ·rw[if_pos h] at q ⊢;have u:(l==0)=true:=by simp[h]
  obtain⟨g,f⟩:∃g,Wp A c i=g:=⟨_,rfl⟩;have p:(if c=i then A else Option.map (λx=>x.add (i*4)) A)=g:=f;rw[f];clear h;unfold Px;go_enter Tryz.func187,Tryz.ntmps187
  go_wp2;refine bodyPost_ret (Rl Tryz.results187 rfl (Qfl (NB.new2 w _ _ _ _ _ _ _ _ _))) rfl ?_;exact⟨rfl,(Ib).alloc (by simp) _⟩
 ·rw[if_neg h] at q ⊢;have u:(l==0)=false:=by simp[h]
  obtain⟨g,f⟩:∃g,Wp B d i=g:=⟨_,rfl⟩;have p:(if d=i then B else Option.map (λx=>x.add (i*4)) B)=g:=f;rw[f];clear h;unfold Px;go_enter Tryz.func187,Tryz.ntmps187
  go_wp2;refine bodyPost_ret (Rl Tryz.results187 rfl (Qfl (NB.new2 w _ _ _ _ _ _ _ _ _))) rfl ?_;exact⟨rfl,(Ib).alloc (by simp) _⟩
theorem Qdj {Q:World->Prop}{N:Nd}{A B:Option Addr}{n c m d i j:Nat}(h:U6 Q N A n c B m d)(hi:i<=j)(e:j<=if N.lvl=0 then n else m):∃f y p g u q,cutV N.lvl A n c B m d i j=Px N.lvl f y p g u q/\U6 Q (N.cut i j) f y p g u q/\(N.cut i j).lvl=N.lvl:=by
 unfold cutV;by_cases h0:N.lvl=0
 ·rw[if_pos h0] at e ⊢;exact⟨_,_,_,_,_,_,rfl,Qxr h h0 hi e,by unfold Nd.cut;rw[if_pos h0]⟩
 ·rw[if_neg h0] at e ⊢;exact⟨_,_,_,_,_,_,rfl,Qxs h h0 hi e,by unfold Nd.cut;rw[if_neg h0]⟩
theorem Qk5 (N:Nd)(g:N.fit)(a:Int)(A:Option Addr)(n c:Nat)(B:Option Addr)(m d:Nat)(w:World)(I:Je w A n c N.items)(J:Q7 w B m d N.kids)(_:n<=1000)(_:m<=1000) :
  Calls Tryz.prog 238 #[Px N.lvl A n c B m d,.int .i64 a] w λe w'=>e=.returned (.agg (⟨N.least,a⟩:Qk).vs.toArray)/\Below w.1.size w w':=by
 have p:NB ((w.alloc (.cells #[.int .i64 N.lvl,.slice A n c,.slice B m d] 178)).alloc (.cells #[.int .i64 0,.int .i64 0,.int .i64 0,.int .i64 0] 148)) w.1.size N.lvl A n c B m d:=(NB.new w _ _ _ _ _ _ _ _).below (Ib) (by simp);have q:RB ((w.alloc (.cells #[.int .i64 N.lvl,.slice A n c,.slice B m d] 178)).alloc (.cells #[.int .i64 0,.int .i64 0,.int .i64 0,.int .i64 0] 148)) (w.1.size+1) Zdo:=by
  have:=RB.new (w.alloc (.cells #[.int .i64 N.lvl,.slice A n c,.slice B m d] 178)) Zdo 148;rwa [World.size_alloc] at this
 have f:Below w.1.size w ((w.alloc (.cells #[.int .i64 N.lvl,.slice A n c,.slice B m d] 178)).alloc (.cells #[.int .i64 0,.int .i64 0,.int .i64 0,.int .i64 0] 148)):=(Ib).alloc (by simp) _;obtain⟨z,D⟩:∃z,N.least=z:=⟨_,rfl⟩;have Hl:=Lib.hid (λu E=>Qn0 N g z D A n c B m d u (I.below E) (J.below E));rw[D];have c0:=p.c0;have c1:=p.c1;have c2:=p.c2;clear D;unfold Px;go_enter Tryz.func238,Tryz.ntmps238
 go_wp2_with fail
 generalize ((w.alloc (.cells #[.int .i64 N.lvl,.slice A n c,.slice B m d] 178)).alloc (.cells #[.int .i64 0,.int .i64 0,.int .i64 0,.int .i64 0] 148))=M at p q f c0 c1 c2 ⊢;refine (Hl.out M f).mono ?_;rintro e O ⟨rfl,y⟩;have F:=q.below y q.lt;go_wp2_with (first
  |(refine Qah rfl _ _ rfl (w.1.size+1) rfl ⟨z,a⟩ rfl F rfl ?_;intro P G H)
  |fail)
 refine bodyPost_ret (Rl Tryz.results238 rfl (Qfm G)) rfl ?_;exact⟨rfl,f.trans ((y.mono f.size).trans (H.below (λk K=>by have:k=w.1.size+1:=K;omega) (by have:=f.size;have:=y.size;omega)))⟩
def Bnl (Q:World->Prop)(w:World)(X:Option Addr)(k kc:Nat)(Ns:List Nd):Prop:=
 ∃e,Zg w 3 X k kc e/\e.length=Ns.length/\∀(j:Nat) r N,e[j]?=some r->Ns[j]?=some N->∃A n c B m d,r=Cj N.lvl A n c B m d/\U6 Q N A n c B m d
def Yj (Q:World->Prop)(w:World)(base:Nat)(A:Option Addr)(n c:Nat)(xs:List Qq):Prop:=
 ∃e,Qr w base 50 4 A n c e/\e.length=xs.length/\∀(j:Nat) r x,e[j]?=some r->xs[j]?=some x->∃V p q,r=Yp x.k V p q/\∀w,Q w->Sl w V p q x.v
def Yi (w:World)(base:Nat)(B:Option Addr)(m d:Nat)(ks:List Qk):Prop:=Qr w base 148 4 B m d (ks.map Qk.vs)
section
variable {Q:World->Prop}{w w':World}{base n c m d:Nat}{A B:Option Addr}{xs:List Qq}{ks:List Qk}
theorem Yj.turned {S:Nat->Prop}(h:Yj Q w base A n c xs)(T:Turn S w w')(hA:∀k,Xq A=some k->¬S k):Yj Q w' base A n c xs:=by
 obtain⟨e,h1,h2⟩:=h;exact⟨e,h1.turned T hA,h2⟩
theorem Yi.turned {S:Nat->Prop}(h:Yi w base B m d ks)(T:Turn S w w')(hA:∀k,Xq B=some k->¬S k):Yi w' base B m d ks:=Qr.turned h T hA
theorem Yj.Zx (h:Yj Q w base A n c xs):∀k,Xq A=some k->base<=k/\k<w.1.size:=by
 obtain⟨e,h1,_⟩:=h;exact h1.Zx
theorem Yi.Zx (h:Yi w base B m d ks):∀k,Xq B=some k->base<=k/\k<w.1.size:=Qr.Zx h
theorem Yj.len (h:Yj Q w base A n c xs):xs.length=n:=by
 obtain⟨e,h1,h2,_⟩:=h;rw[<-h2];exact h1.len (by omega)
theorem Yi.len (h:Yi w base B m d ks):ks.length=m:=by
 have:=Qr.len h (by omega);rw[List.length_map] at this;exact this
theorem Zab (Q:World->Prop)(w:World)(base:Nat):Yj Q w base none 0 0 []:=⟨[],Lp _ _ _ _,rfl,λj r x e=>by simp at e⟩
theorem Qo8 (w:World)(base:Nat):Yi w base none 0 0 []:=Lp _ _ _ _
theorem Qsj (ty:TypeId)(F:Yj Q w base A n c xs)(hq:Q w){B:Option Addr}{m d:Nat}{O:List Qq}(hy:Ve Q B m d O)(hm:O.length=m)(hn:n+m<=100000)(D:base<=w.1.size) :
  ∃E K w',(Builtin.append_ #[41,41] ty #[.slice A n c,.slice B m d]).run Tryz.prog w=.ok (.slice E (n+m) K) w'/\Yj Q w' base E (n+m) K (xs++O)/\Turn (λk=>Xq A=some k) w w'/\(Xq E=Xq A\/Xq E=some w.1.size):=by
 obtain⟨g,h1,h2,h3⟩:=F;obtain⟨z,X,Y,I⟩:=hy;have X:=X w hq;by_cases W:m=0
 ·subst W;have U:O=[]:=List.length_eq_zero_iff.1 hm;subst U;obtain⟨i,hi,a6,a1,a7⟩:=info_parts Qtc.info;refine⟨A,c,w,Tt (P:=Tryz.prog) base 41 ty 50 i 4 Qtc.sl hi A n c g.flatten h1.1 B d (by omega) a1,?_,Turn.refl _ _,.inl rfl⟩;rw[List.append_nil];exact⟨g,h1,h2,h3⟩
 ·have one:∀y∈z,∀u∈y,u.oneCell'=true:=λy Z u hu=>by
   obtain⟨j,M⟩:=List.mem_iff_getElem?.1 Z;have a2:=(List.getElem?_eq_some_iff.1 M).1;obtain⟨V,p,q,e,_⟩:=I j y _ M (List.getElem?_eq_getElem (by omega));subst e;exact Qo2 _ V p q _ (List.mem_singleton.2 rfl) u hu
  obtain⟨E,K,w',G,J,T,R,_⟩:=Ro (P:=Tryz.prog) w Qtc ty base A n c g h1 B m d z X (by omega) one (by omega) (by omega) D;refine⟨E,K,w',G,⟨_,J,by rw[List.length_append,List.length_append,h2,Y],λj r x f H=>?_⟩,T,R⟩;by_cases M:j<g.length
  ·rw[List.getElem?_append_left M] at f;rw[List.getElem?_append_left (by omega)] at H;exact h3 j r x f H
  ·rw[List.getElem?_append_right (by omega)] at f H;rw[<-h2] at H;exact I _ r x f H
theorem Qo6 (ty:TypeId)(e:Yi w base A n c ks){B:Option Addr}{m d:Nat}{D:List Qk}(K:Q7 w B m d D)(hn:n+m<=100000)(g:base<=w.1.size) :
  ∃p z w',(Builtin.append_ #[75,75] ty #[.slice A n c,.slice B m d]).run Tryz.prog w=.ok (.slice p (n+m) z) w'/\Yi w' base p (n+m) z (ks++D)/\Turn (λk=>Xq A=some k) w w'/\(Xq p=Xq A\/Xq p=some w.1.size):=by
 by_cases G:m=0
 ·subst G;have F:D=[]:=List.length_eq_zero_iff.1 K.len;subst F;obtain⟨i,hi,M,I,O⟩:=info_parts Zbs.info;refine⟨A,c,w,Tt (P:=Tryz.prog) base 75 ty 148 i 4 Zbs.sl hi A n c _ e.1 B d (by omega) I,?_,Turn.refl _ _,.inl rfl⟩;rw[List.append_nil];exact e
 ·have one:∀y∈D.map Qk.vs,∀u∈y,u.oneCell'=true:=λy H u J=>by
   obtain⟨x,_,rfl⟩:=List.mem_map.1 H;simp[Qk.vs] at J;rcases J with rfl|rfl|rfl|rfl<;>rfl
  obtain⟨p,z,w',q,f,T,E,_⟩:=Ro (P:=Tryz.prog) w Zbs ty base A n c _ e B m d _ K (by omega) one (by omega) (by omega) g;rw[<-List.map_append] at f;exact⟨p,z,w',q,f,T,E⟩
theorem Qqq {u:Array Oper}{e:List Oper}{o:Oper}{a:Act}{E:Exit->Act->World->Prop}(z:o.guard=none)(F x:Operand)
  (J:o.op=.call { callee:=.builtin .append,args:=#[F,x],argTypes:=#[41,41] })
  (O:a.eval F=.slice A n c) (p:Yj Q w base A n c xs) (M:Q w)
  {B:Option Addr} {m d:Nat} {D:List Qq} (P:a.eval x=.slice B m d) (R:Ve Q B m d D) (hm:D.length=m) (hn:n+m<=100000) (f:base<=w.1.size)
  (h:∀g y w',Yj Q w' base g (n+m) y (xs++D)->Turn (λk=>Xq A=some k) w w'->(Xq g=Xq A\/Xq g=some w.1.size)->wpList Tryz.prog u E e (a.put o.dst (.slice g (n+m) y)) w'):wpList Tryz.prog u E (o::e) a w:=
 wpList_plain z λK I=>by
  obtain⟨g,y,w',q,h2,G,H⟩:=Qsj (ty:=o.type) p M R hm hn f;unfold Oper.wp execOp;simp only[J,resolve,invoke,builtin,Sem.run_bind,Sem.run_pure,Result.andThen_ok,List.map_toArray,List.map_cons,List.map_nil,O,P,q];exact I _ _ (h g y w' h2 G H)
theorem Qqp {u:Array Oper}{e:List Oper}{o:Oper}{a:Act}{D:Exit->Act->World->Prop}(z:o.guard=none)(F x:Operand)
  (J:o.op=.call { callee:=.builtin .append,args:=#[F,x],argTypes:=#[75,75] })
  (M:a.eval F=.slice A n c) (p:Yi w base A n c ks)
  {B:Option Addr} {m d:Nat} {E:List Qk} (O:a.eval x=.slice B m d) (P:Q7 w B m d E) (hn:n+m<=100000) (f:base<=w.1.size)
  (h:∀g y w',Yi w' base g (n+m) y (ks++E)->Turn (λk=>Xq A=some k) w w'->(Xq g=Xq A\/Xq g=some w.1.size)->wpList Tryz.prog u D e (a.put o.dst (.slice g (n+m) y)) w'):wpList Tryz.prog u D (o::e) a w:=
 wpList_plain z λK I=>by
  obtain⟨g,y,w',q,h2,G,H⟩:=Qo6 (ty:=o.type) p P hn f;unfold Oper.wp execOp;simp only[J,resolve,invoke,builtin,Sem.run_bind,Sem.run_pure,Result.andThen_ok,List.map_toArray,List.map_cons,List.map_nil,M,O,q];exact I _ _ (h g y w' h2 G H)
theorem Bnl.below {X:Option Addr}{k kc:Nat}{Ns:List Nd}(h:Bnl Q w X k kc Ns)(hb:Below w.1.size w w'):Bnl Q w' X k kc Ns:=by
 obtain⟨e,h1,h2⟩:=h;exact⟨e,h1.below hb,h2⟩
theorem Bnl.len {X:Option Addr}{k kc:Nat}{Ns:List Nd}(h:Bnl Q w X k kc Ns):Ns.length=k:=by
 obtain⟨e,h1,h2,_⟩:=h;rw[<-h2];exact h1.len
theorem Bnl.get {X:Option Addr}{k kc:Nat}{Ns:List Nd}(h:Bnl Q w X k kc Ns){j:Nat}(hj:j<k):∃g o A n c B m d,X=some ⟨g,o,none⟩/\g<w.1.size/\w.cell? ⟨g,o+j*3,none⟩=some (.int .i64 (Kt Ns j).lvl)/\w.cell? ⟨g,o+j*3+1,none⟩=some (.slice A n c)/\w.cell? ⟨g,o+j*3+2,none⟩=some (.slice B m d)/\U6 Q (Kt Ns j) A n c B m d:=by
 have D:=h.len;obtain⟨f,h1,h2,u⟩:=h;have q:f[j]?=some (f[j]'(by omega)):=List.getElem?_eq_getElem (by omega);obtain⟨A,n,c,B,m,d,e,y⟩:=u j _ _ q (Ku (by omega));obtain⟨g,o,rfl,z,_,p⟩:=h1.2.2.2 j _ q;rw[e] at p;exact⟨g,o,A,n,c,B,m,d,rfl,z,p 0 _ rfl,p 1 _ rfl,p 2 _ rfl,y⟩
end
def Qoy (Ns:List Nd)(j:Nat):List Qq:=(Ns.take j).flatMap (·.items)
def Qo3 (Ns:List Nd)(j:Nat):List Qk:=(Ns.take j).flatMap (·.kids)
theorem Qvx {Ns:List Nd}{j:Nat}(h:j<Ns.length):Qoy Ns (j+1)=Qoy Ns j++(Kt Ns j).items:=by
 have e:=Ku h;rw[List.getElem?_eq_getElem h] at e;unfold Qoy;rw[List.take_succ_eq_append_getElem h,List.flatMap_append,Option.some.inj e];simp
theorem Qvz {Ns:List Nd}{j:Nat}(h:j<Ns.length):Qo3 Ns (j+1)=Qo3 Ns j++(Kt Ns j).kids:=by
 have e:=Ku h;rw[List.getElem?_eq_getElem h] at e;unfold Qo3;rw[List.take_succ_eq_append_getElem h,List.flatMap_append,Option.some.inj e];simp
theorem Zcl {Ns:List Nd}(j:Nat):(Qoy Ns j).length<=(Ns.flatMap (·.items)).length:=by
 conv=>rhs;rw[<-List.take_append_drop j Ns,List.flatMap_append,List.length_append]
 unfold Qoy;omega
theorem Zcm {Ns:List Nd}(j:Nat):(Qo3 Ns j).length<=(Ns.flatMap (·.kids)).length:=by
 conv=>rhs;rw[<-List.take_append_drop j Ns,List.flatMap_append,List.length_append]
 unfold Qo3;omega
theorem Qy1 {Ns:List Nd}{j:Nat}(h:Ns.length<=j):Qoy Ns j=Ns.flatMap (·.items):=by unfold Qoy;rw[List.take_of_length_le h]
theorem Qy4 {Ns:List Nd}{j:Nat}(h:Ns.length<=j):Qo3 Ns j=Ns.flatMap (·.kids):=by unfold Qo3;rw[List.take_of_length_le h]
theorem Zd6 {S:Nat->Prop}{w w':World}(G:∀k,S k->k<w.1.size)(P:Below w.1.size w w'){base:Nat}(D:w.1.size<=base){A B:Option Addr}{n c m d:Nat}{l:Int}{its:List Qq}{Ic:List Qk}(z:Yj (Turn S w) w' base A n c its)(y:Yi w' base B m d Ic)(hn:its.length<=60)(hm:Ic.length<=60):U6 (Turn S w') ⟨l,its,Ic⟩ A n c B m d:=by
 have W:=z.len;have X:=y.len;have O:Turn S w w':=Uk P;have K:=z.Zx;have M:=y.Zx;have I:=Qr.Hr y (by omega);obtain⟨F,h1,h2,J⟩:=z;have H:=h1.Hr (by omega);refine⟨⟨F,λu g=>(h1.turned g λk f E=>by have:=(K k f).1;have:=G k E;omega).Hr (by omega),h2,λj r x R U=>?_⟩,λu g=>Qr.Hr (Qr.turned y g λk f E=>by have:=(M k f).1;have:=G k E;omega) (by omega),W,X,⟨by omega,H.cap,H.max⟩,⟨by omega,I.cap,I.max⟩⟩;obtain⟨V,p,q,e,T⟩:=J j r x R U;exact⟨V,p,q,e,λu g=>T u (O.trans g λk f=>.inl f)⟩
theorem Qa4 {S:Nat->Prop}{w:World}(hS:∀k,S k->k<w.1.size)(Ns:List Nd)(l:Int)(c9:(Kt Ns 0).lvl=l)(X:Option Addr)(k kc:Nat)(hB:Bnl (Turn S w) w X k kc Ns)(hk:1<=k)(d7:k<=100)(hn:(Ns.flatMap (·.items)).length<=60)(hm:(Ns.flatMap (·.kids)).length<=60) :
  Calls Tryz.prog 186 #[.slice X k kc] w λe w'=>∃A n c B m d,e=.returned (Px l A n c B m d)/\U6 (Turn S w') (Wv l Ns) A n c B m d/\Below w.1.size w w':=by
 have d2:=hB.len;obtain⟨g0,o0,A0,n0,c0,B0,m0,d0,hX,c8,x0,-,-,-⟩:=hB.get (show 0<k by omega);rw[c9] at x0;rw[Nat.zero_mul,Nat.add_zero] at x0;have b0:Below w.1.size w (w.alloc (.cells #[.int .i64 0,.slice none 0 0,.slice none 0 0] 178)):=Ib;have x1:=(b0.cell (p:=⟨g0,o0,none⟩) c8).trans x0;have N1:NB ((w.alloc (.cells #[.int .i64 0,.slice none 0 0,.slice none 0 0] 178)).alloc (.cells #[.int .i64 l,.slice none 0 0,.slice none 0 0] 178)) (w.1.size+1) l none 0 0 none 0 0:=NB.new2 w _ _ _ _ _ _ _ _ _;have R1:NB ((w.alloc (.cells #[.int .i64 0,.slice none 0 0,.slice none 0 0] 178)).alloc (.cells #[.int .i64 l,.slice none 0 0,.slice none 0 0] 178)) w.1.size 0 none 0 0 none 0 0:=(NB.new w _ _ _ _ _ _ _ _).below (Ib) (by simp);have b1:Below w.1.size w ((w.alloc (.cells #[.int .i64 0,.slice none 0 0,.slice none 0 0] 178)).alloc (.cells #[.int .i64 l,.slice none 0 0,.slice none 0 0] 178)):=b0.alloc (by simp) _;have hz:0<k:=by omega
 subst hX;go_enter Tryz.func186,Tryz.ntmps186
 go_wp2_with fail
 generalize ((w.alloc (.cells #[.int .i64 0,.slice none 0 0,.slice none 0 0] 178)).alloc (.cells #[.int .i64 l,.slice none 0 0,.slice none 0 0] 178))=w1 at N1 R1 b1 ⊢;go_loopw [15] (λi wr=>∃(j:Nat) (A:Option Addr) (n c:Nat) (B:Option Addr) (m d:Nat),j<=k/\i=.int .i64 (j:Int)/\NB wr (w.1.size+1) l A n c B m d/\NB wr w.1.size 0 none 0 0 none 0 0/\Yj (Turn S w) wr (w.1.size+2) A n c (Qoy Ns j)/\Yi wr (w.1.size+2) B m d (Qo3 Ns j)/\(∀g,Xq A=some g->Xq B≠some g)/\Below w.1.size w wr) (λi _=>k-(intOf i).toNat)
 case atStart=>exact⟨0,none,0,0,none,0,0,Nat.zero_le _,rfl,N1,R1,Zab _ _ _,Qo8 _ _,λg h=>(by cases h),b1⟩
 case round=>
  obtain⟨j,A,n,c,B,m,d,hj,rfl,I,RR,qI,qK,E,hb⟩:=hrel;have zR:=RR.lt;have zN:=I.lt;have T:=qI.Zx;have R:=qK.Zx;have n1:=I.c1;have n2:=I.c2;by_cases d1:j<k
  ·obtain⟨g,o,Ax,P,cx,Bx,O,dx,b8,f,y0,y1,y2,u⟩:=(hB.below hb).get d1;obtain⟨h1,h2⟩:g0=g/\o0=o:=by
    injection b8 with h;injection h with h1 h2;exact⟨h1,h2⟩
   subst h1 h2;obtain⟨lv,b3⟩:∃lv,(Kt Ns j).lvl=lv:=⟨_,rfl⟩;rw[b3] at y0;have e1:=Qvx (Ns:=Ns) (j:=j) (by omega);have e2:=Qvz (Ns:=Ns) (j:=j) (by omega);have a7:=Zcl (Ns:=Ns) (j+1);have a8:=Zcm (Ns:=Ns) (j+1);have d8:n+P<=60:=by
    have q1:=qI.len;have q2:=u.ln;rw[e1,List.length_append] at a7;omega
   have d9:m+O<=60:=by
    have q1:=qK.len;have q2:=u.lm;rw[e2,List.length_append] at a8;omega
   clear a7 a8 b3;have M:Below wr.1.size wr (wr.alloc (.cells #[.int .i64 lv,.slice Ax P cx,.slice Bx O dx] 178)):=Ib;have X2:NB (wr.alloc (.cells #[.int .i64 lv,.slice Ax P cx,.slice Bx O dx] 178)) wr.1.size lv Ax P cx Bx O dx:=NB.new wr _ _ _ _ _ _ _ _;have N2:=I.below M I.lt;have a1:=hb.trans (M.mono hb.size);have q2:=qI.turned (Uk (S:=λ_=>False) M) (λ_ _ h=>h);have k2:=qK.turned (Uk (S:=λ_=>False) M) (λ_ _ h=>h);have zs:=hb.size;have e0:=M.size;have x1:=X2.c1;have x2:=X2.c2;have n1:=N2.c1;have n2:=N2.c2;go_wp2_with (first
    |(at_builtin;refine Qqq rfl _ _ rfl rfl q2 (Uk a1) rfl u.its u.ln (by omega) (by omega) ?_;intro H c3 w3 q3 J b6
      have e3:=J.size;have d3:∀g,Xq A=some g->w.1.size+2<=g/\g<wr.1.size:=T;have N3:=N2.turned J (λh=>by have:=(T _ h).1;omega);have X3:=X2.turned J (λh=>by have:=(T _ h).2;omega);have k3:=k2.turned J (λg h1 h2=>E g h2 h1);have V:=(RR.below M RR.lt).turned J (λh=>by have:=(T _ h).1;omega);have b9:=a1.trans (J.below (B:=w.1.size) (λx q=>by have:=(T _ q).1;omega) (by omega));have D:∀g,Xq H=some g->w.1.size+2<=g:=λg f=>(q3.Zx g f).1
      have y:∀g,Xq H=some g->Xq B≠some g:=λg f G=>by
       rcases b6 with h|h
       ·exact E g (h▸f) G
       ·rw[h] at f;have h1:=(R g G).2;injection f with f;omega
      have K:Turn (λg=>g=w.1.size+1) w3 (w3.setCell ⟨w.1.size+1,1,none⟩ (.slice H (n+P) c3)):=Gi (a:=⟨w.1.size+1,1,none⟩) _ rfl;have f1:=N3.fz 1;have p1:=N3.c1;have N4:=N3.set1 H (n+P) c3;have X4:=X3.keep (K.block wr.1.size X3.lt (by show ¬wr.1.size=w.1.size+1;omega));have b4:=V.keep (K.block w.1.size V.lt (by show ¬w.1.size=w.1.size+1;omega));have q4:=q3.turned K (λg h1 h2=>by have h2:g=w.1.size+1:=h2;have:=D g h1;omega);have k4:=k3.turned K (λg h1 h2=>by have h2:g=w.1.size+1:=h2;have:=(R g h1).1;omega);have a2:=b9.trans (K.below (B:=w.1.size) (λx q=>by have q:x=w.1.size+1:=q;omega) (by omega));have e4:=K.size;have u2:=N4.c2;have v2:=X4.c2)
    |(at_builtin;refine Qqp rfl _ _ rfl rfl k4 rfl (u.Ic _ (Uk a2)) (by omega) (by omega) ?_;intro U d5 w5 k5 Y b7
      have e5:=Y.size;have N5:=N4.turned Y (λh=>by have:=(R _ h).1;omega);have W:=b4.turned Y (λh=>by have:=(R _ h).1;omega);have q5:=q4.turned Y (λg h1 h2=>y g h1 h2);have c6:=a2.trans (Y.below (B:=w.1.size) (λx q=>by have:=(R _ q).1;omega) (by omega));have Z:∀g,Xq U=some g->w.1.size+2<=g:=λg f=>(k5.Zx g f).1
      have F:∀g,Xq H=some g->Xq U≠some g:=λg f G=>by
       rcases b7 with h|h
       ·exact y g f (h▸G)
       ·rw[h] at G;have h1:=(q4.Zx g f).2;injection G with G;omega
      have z:Turn (λg=>g=w.1.size+1) w5 (w5.setCell ⟨w.1.size+1,2,none⟩ (.slice U (m+O) d5)):=Gi (a:=⟨w.1.size+1,2,none⟩) _ rfl;have f2:=N5.fz 2;have p2:=N5.c2;have N6:=N5.set2 U (m+O) d5;have b5:=W.keep (z.block w.1.size W.lt (by show ¬w.1.size=w.1.size+1;omega));have q6:=q5.turned z (λg h1 h2=>by have h2:g=w.1.size+1:=h2;have:=D g h1;omega);have k6:=k5.turned z (λg h1 h2=>by have h2:g=w.1.size+1:=h2;have:=Z g h1;omega);have c7:=c6.trans (z.below (B:=w.1.size) (λx q=>by have q:x=w.1.size+1:=q;omega) (by omega)))
    |fail)
   rw[<-e1] at q6;rw[<-e2] at k6;exact⟨⟨j+1,H,_,c3,U,_,d5,by omega,by go_num,N6,b5,q6,k6,F,c7⟩,by simp[intOf];omega⟩
  ·have d6:j=k:=by omega
   have c0:=I.c0;have eI:=Qy1 (Ns:=Ns) (j:=j) (by omega);have eK:=Qy4 (Ns:=Ns) (j:=j) (by omega);rw[eI] at qI;rw[eK] at qK;have d4:¬(j:Int)<(k:Int):=by omega
   go_wp2_with (first
    |(refine P6 rfl _ _ rfl w.1.size rfl l A n c B m d rfl RR ?_;intro wz Rz Tz)
    |fail)
   refine bodyPost_ret (Rl Tryz.results186 rfl (Qfl Rz)) rfl ?_;have a6:=hb.trans (Tz.below (B:=w.1.size) (λx q=>by have q:x=w.1.size:=q;omega) (by omega));have qz:=qI.turned Tz (λg h1 h2=>by have h2:g=w.1.size:=h2;have:=(T g h1).1;omega);have kz:=qK.turned Tz (λg h1 h2=>by have h2:g=w.1.size:=h2;have:=(R g h1).1;omega);exact⟨A,n,c,B,m,d,rfl,Zd6 hS a6 (by omega) qz kz hn hm,a6⟩
