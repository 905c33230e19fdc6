/- The code's edit: bunches, spots and patches are stored and loaded; cut -/
import Derived.Test.YthkfkhejjmhomaaGreatDoorDb30
namespace Go.Proofs.YthkfkhejjmhomaaGreatDoor
open Go Go.RowKit Go.Proofs
set_option maxHeartbeats 8000000
set_option maxRecDepth 100000
theorem qag {w:World}{b:Nat}{l:Int}{A B:Option Addr}{n c m d:Nat}(H:NB w b l A n c B m d):(loadVar 178 ⟨b,0,none⟩).run Tryz.prog w=.ok (Xw l A n c B m d) w:=
 run_loadVar_mid w b 0 178 _ _ H.range Tryz.underlying178 rfl (by kernel_rfl)
theorem q1v {f:Array Oper}{e:List Oper}{o:Oper}{a:Act}{w:World}{Q:Exit->Act->World->Prop}(O:o.guard=none)(x y:Operand)(K:o.op=Op.store 178 x y)
  (b:Nat) (R:a.eval x=.pointer (some ⟨b,0,none⟩)) (G:Int) (u:Option Addr) (J c2:Nat) (E:Option Addr) (I F:Nat) (U:a.eval y=Xw G u J c2 E I F) {l:Int} {A B:Option Addr} {n c m d:Nat} (H:NB w b l A n c B m d)
  (M:∀w',NB w' b G u J c2 E I F->Turn (λg=>g=b) w w'->wpList Tryz.prog f Q e (a.put o.dst undef) w'):wpList Tryz.prog f Q (o::e) a w:=
 wpList_store_mid O _ x y K b 0 #[.int .i64 G,.slice u J c2,.slice E I F] R U H.there (by kernel_rfl) (by simp[Value.oneCell'])
  (M _ (H.stored G u J c2 E I F) (Vb (S:=λg=>g=b) rfl _ 0 w))
def Jb (l:Int)(A:Option Addr)(n c:Nat)(B:Option Addr)(m d:Nat)(a x:Int)(h s:Bool):List Value:=[.int .i64 l,.slice A n c,.slice B m d,.int .i64 a,.int .i64 x,.bool h,.bool s]
theorem q56 {w:World}{b:Nat}{l:Int}{A B:Option Addr}{n c m d:Nat}{a x:Int}{h s:Bool}(H:RB w b (Jb l A n c B m d a x h s)):(loadVar 180 ⟨b,0,none⟩).run Tryz.prog w=.ok (.agg (Jb l A n c B m d a x h s).toArray) w:=
 run_loadVar_mid w b 0 180 _ _ H.range Tryz.underlying180 rfl (by kernel_rfl)
theorem Nw {f:Array Oper}{e:List Oper}{o:Oper}{a:Act}{w:World}{Q:Exit->Act->World->Prop}(J:o.guard=none)(x y:Operand)(F:o.op=Op.store 180 x y)
  (b:Nat) (K:a.eval x=.pointer (some ⟨b,0,none⟩)) (l:Int) (A:Option Addr) (n c:Nat) (B:Option Addr) (m d:Nat) (u E:Int) (h s:Bool) (M:a.eval y=.agg #[.int .i64 l,.slice A n c,.slice B m d,.int .i64 u,.int .i64 E,.bool h,.bool s]) {r:List Value} (H:RB w b r) (G:r.length=7)
  (I:∀w',RB w' b (Jb l A n c B m d u E h s)->Turn (λg=>g=b) w w'->wpList Tryz.prog f Q e (a.put o.dst undef) w'):wpList Tryz.prog f Q (o::e) a w:=
 wpList_store_mid J _ x y F b 0 (Jb l A n c B m d u E h s).toArray K M (by have:=H.there;rw[G] at this;exact this) (by kernel_rfl) (by simp[Jb,Value.oneCell'])
  (I _ (H.stored (Jb l A n c B m d u E h s) G) (Vb (S:=λg=>g=b) rfl _ 0 w))
def Xe (l:Int)(A:Option Addr)(n c:Nat)(B:Option Addr)(m d:Nat)(X:Option Addr)(k kc:Nat)(i j:Int):List Value:=[.int .i64 l,.slice A n c,.slice B m d,.slice X k kc,.int .i64 i,.int .i64 j]
theorem qhp {w:World}{b:Nat}{l:Int}{A B X:Option Addr}{n c m d k kc:Nat}{i j:Int}(H:RB w b (Xe l A n c B m d X k kc i j)):(loadVar 274 ⟨b,0,none⟩).run Tryz.prog w=.ok (.agg (Xe l A n c B m d X k kc i j).toArray) w:=
 run_loadVar_mid w b 0 274 _ _ H.range Tryz.underlying274 rfl (by kernel_rfl)
theorem q8d {f:Array Oper}{e:List Oper}{o:Oper}{a:Act}{w:World}{Q:Exit->Act->World->Prop}(G:o.guard=none)(x y:Operand)(u:o.op=Op.store 274 x y)
  (b:Nat) (I:a.eval x=.pointer (some ⟨b,0,none⟩)) (l:Int) (A:Option Addr) (n c:Nat) (B:Option Addr) (m d:Nat) (X:Option Addr) (k kc:Nat) (i j:Int) (J:a.eval y=.agg #[.int .i64 l,.slice A n c,.slice B m d,.slice X k kc,.int .i64 i,.int .i64 j]) {r:List Value} (H:RB w b r) (E:r.length=6)
  (F:∀w',RB w' b (Xe l A n c B m d X k kc i j)->Turn (λg=>g=b) w w'->wpList Tryz.prog f Q e (a.put o.dst undef) w'):wpList Tryz.prog f Q (o::e) a w:=
 wpList_store_mid G _ x y u b 0 (Xe l A n c B m d X k kc i j).toArray I J (by have:=H.there;rw[E] at this;exact this) (by kernel_rfl) (by simp[Xe,Value.oneCell'])
  (F _ (H.stored (Xe l A n c B m d X k kc i j) E) (Vb (S:=λg=>g=b) rfl _ 0 w))
def cutV (l:Int)(A:Option Addr)(n c:Nat)(B:Option Addr)(m d:Nat)(i j:Nat):Value:=if l=0 then Xw l (Fj A c i) (j-i) (c-i) B m d else Xw l A n c (Fj B d i) (j-i) (d-i)
theorem q3d (l:Int)(A:Option Addr)(n c:Nat)(B:Option Addr)(m d:Nat)(i j:Nat)(hi:i<=j)(E:j<=if l=0 then n else m)(hn:n<=c/\c<=maxLen)(hm:m<=d/\d<=maxLen)(w:World) :
  Calls Tryz.prog 187 #[Xw l A n c B m d,.int .i64 (i:Int),.int .i64 (j:Int)] w λe w'=>e=.returned (cutV l A n c B m d i j)/\Below w.1.size w w':=by
 have G:NB ((w.alloc (.cells #[.int .i64 l,.slice A n c,.slice B m d] 178)).alloc (.cells #[.int .i64 0,.slice none 0 0,.slice none 0 0] 178)) w.1.size l A n c B m d:=(NB.new w _ _ _ _ _ _ _ _).below (Qk) (by simp);have H:NB ((w.alloc (.cells #[.int .i64 l,.slice A n c,.slice B m d] 178)).alloc (.cells #[.int .i64 0,.slice none 0 0,.slice none 0 0] 178)) (w.1.size+1) 0 none 0 0 none 0 0:=NB.new2 w _ _ _ _ _ _ _ _ _;have I:Below w.1.size w ((w.alloc (.cells #[.int .i64 l,.slice A n c,.slice B m d] 178)).alloc (.cells #[.int .i64 0,.slice none 0 0,.slice none 0 0] 178)):=(Qk).alloc (by simp) _;unfold cutV;by_cases h:l=0
 ·rw[if_pos h] at E ⊢;have F:(l==0)=true:=by simp[h]
  obtain⟨u,f⟩:∃u,Fj A c i=u:=⟨_,rfl⟩;have y:(if c=i then A else Option.map (λx=>x.add (i*4)) A)=u:=f;rw[f];clear h;unfold Xw;go_enter Tryz.func187,Tryz.ntmps187
  go_wp2;refine bodyPost_ret (Ny Tryz.results187 rfl (qag (NB.new2 w _ _ _ _ _ _ _ _ _))) rfl ?_;exact⟨rfl,(Qk).alloc (by simp) _⟩
 ·rw[if_neg h] at E ⊢;have F:(l==0)=false:=by simp[h]
  obtain⟨u,f⟩:∃u,Fj B d i=u:=⟨_,rfl⟩;have y:(if d=i then B else Option.map (λx=>x.add (i*4)) B)=u:=f;rw[f];clear h;unfold Xw;go_enter Tryz.func187,Tryz.ntmps187
  go_wp2;refine bodyPost_ret (Ny Tryz.results187 rfl (qag (NB.new2 w _ _ _ _ _ _ _ _ _))) rfl ?_;exact⟨rfl,(Qk).alloc (by simp) _⟩
theorem q7i {Q:World->Prop}{N:Nd}{A B:Option Addr}{n c m d i j:Nat}(h:Jf Q N A n c B m d)(hi:i<=j)(e:j<=if N.lvl=0 then n else m):∃f G y u F E,cutV N.lvl A n c B m d i j=Xw N.lvl f G y u F E/\Jf Q (N.cut i j) f G y u F E/\(N.cut i j).lvl=N.lvl:=by
 unfold cutV;by_cases h0:N.lvl=0
 ·rw[if_pos h0] at e ⊢;exact⟨_,_,_,_,_,_,rfl,qu3 h h0 hi e,by unfold Nd.cut;rw[if_pos h0]⟩
 ·rw[if_neg h0] at e ⊢;exact⟨_,_,_,_,_,_,rfl,qu4 h h0 hi e,by unfold Nd.cut;rw[if_neg h0]⟩
theorem qfn (N:Nd)(y:N.fit)(a:Int)(A:Option Addr)(n c:Nat)(B:Option Addr)(m d:Nat)(w:World)(R:Jg w A n c N.items)(U:Zk w B m d N.kids)(_:n<=1000)(_:m<=1000) :
  Calls Tryz.prog 238 #[Xw N.lvl A n c B m d,.int .i64 a] w λe w'=>e=.returned (.agg (⟨N.least,a⟩:Qj).vs.toArray)/\Below w.1.size w w':=by
 have E:NB ((w.alloc (.cells #[.int .i64 N.lvl,.slice A n c,.slice B m d] 178)).alloc (.cells #[.int .i64 0,.int .i64 0,.int .i64 0,.int .i64 0] 148)) w.1.size N.lvl A n c B m d:=(NB.new w _ _ _ _ _ _ _ _).below (Qk) (by simp);have F:RB ((w.alloc (.cells #[.int .i64 N.lvl,.slice A n c,.slice B m d] 178)).alloc (.cells #[.int .i64 0,.int .i64 0,.int .i64 0,.int .i64 0] 148)) (w.1.size+1) Qao:=by
  have:=RB.new (w.alloc (.cells #[.int .i64 N.lvl,.slice A n c,.slice B m d] 178)) Qao 148;rwa [World.size_alloc] at this
 have f:Below w.1.size w ((w.alloc (.cells #[.int .i64 N.lvl,.slice A n c,.slice B m d] 178)).alloc (.cells #[.int .i64 0,.int .i64 0,.int .i64 0,.int .i64 0] 148)):=(Qk).alloc (by simp) _;obtain⟨z,H⟩:∃z,N.least=z:=⟨_,rfl⟩;have J:=Lib.hid (λu I=>qgw N y z H A n c B m d u (R.below I) (U.below I));rw[H];have c0:=E.c0;have c1:=E.c1;have c2:=E.c2;clear H;unfold Xw;go_enter Tryz.func238,Tryz.ntmps238
 go_wp2_with fail
 generalize ((w.alloc (.cells #[.int .i64 N.lvl,.slice A n c,.slice B m d] 178)).alloc (.cells #[.int .i64 0,.int .i64 0,.int .i64 0,.int .i64 0] 148))=X at E F f c0 c1 c2 ⊢;refine (J.out X f).mono ?_;rintro e Y ⟨rfl,G⟩;have K:=F.below G F.lt;go_wp2_with (first
  |(refine q2t rfl _ _ rfl (w.1.size+1) rfl ⟨z,a⟩ rfl K rfl ?_;intro Z M O)
  |fail)
 refine bodyPost_ret (Ny Tryz.results238 rfl (q8u M)) rfl ?_;exact⟨rfl,f.trans ((G.mono f.size).trans (O.below (λk W=>by have:k=w.1.size+1:=W;omega) (by have:=f.size;have:=G.size;omega)))⟩
def Ah (Q:World->Prop)(w:World)(X:Option Addr)(k kc:Nat)(Ns:List Nd):Prop:=
 ∃e,Jq w 3 X k kc e/\e.length=Ns.length/\∀(j:Nat) r N,e[j]?=some r->Ns[j]?=some N->∃A n c B m d,r=Va N.lvl A n c B m d/\Jf Q N A n c B m d
def Gj (Q:World->Prop)(w:World)(base:Nat)(A:Option Addr)(n c:Nat)(xs:List Qb):Prop:=
 ∃e,Qr w base 50 4 A n c e/\e.length=xs.length/\∀(j:Nat) r x,e[j]?=some r->xs[j]?=some x->∃V p q,r=Vm x.k V p q/\∀w,Q w->Sl w V p q x.v
def Ua (w:World)(base:Nat)(B:Option Addr)(m d:Nat)(ks:List Qj):Prop:=Qr w base 148 4 B m d (ks.map Qj.vs)
section
variable {Q:World->Prop}{w w':World}{base n c m d:Nat}{A B:Option Addr}{xs:List Qb}{ks:List Qj}
theorem Gj.turned {S:Nat->Prop}(h:Gj Q w base A n c xs)(T:Turn S w w')(hA:∀k,q01 A=some k->¬S k):Gj Q w' base A n c xs:=by
 obtain⟨e,h1,h2⟩:=h;exact⟨e,h1.turned T hA,h2⟩
theorem Ua.turned {S:Nat->Prop}(h:Ua w base B m d ks)(T:Turn S w w')(hA:∀k,q01 B=some k->¬S k):Ua w' base B m d ks:=Qr.turned h T hA
theorem Gj.Qc (h:Gj Q w base A n c xs):∀k,q01 A=some k->base<=k/\k<w.1.size:=by
 obtain⟨e,h1,_⟩:=h;exact h1.Qc
theorem Ua.Qc (h:Ua w base B m d ks):∀k,q01 B=some k->base<=k/\k<w.1.size:=Qr.Qc h
theorem Gj.len (h:Gj Q w base A n c xs):xs.length=n:=by
 obtain⟨e,h1,h2,_⟩:=h;rw[<-h2];exact h1.len (by omega)
theorem Ua.len (h:Ua w base B m d ks):ks.length=m:=by
 have:=Qr.len h (by omega);rw[List.length_map] at this;exact this
theorem qu5 (Q:World->Prop)(w:World)(base:Nat):Gj Q w base none 0 0 []:=⟨[],Lu _ _ _ _,rfl,λj r x e=>by simp at e⟩
theorem qjr (w:World)(base:Nat):Ua w base none 0 0 []:=Lu _ _ _ _
theorem qmb (ty:TypeId)(I:Gj Q w base A n c xs)(hq:Q w){B:Option Addr}{m d:Nat}{W:List Qb}(hy:O8 Q B m d W)(hm:W.length=m)(hn:n+m<=100000)(G:base<=w.1.size) :
  ∃H R w',(Builtin.append_ #[41,41] ty #[.slice A n c,.slice B m d]).run Tryz.prog w=.ok (.slice H (n+m) R) w'/\Gj Q w' base H (n+m) R (xs++W)/\Turn (λk=>q01 A=some k) w w'/\(q01 H=q01 A\/q01 H=some w.1.size):=by
 obtain⟨E,h1,h2,h3⟩:=I;obtain⟨F,hr,a1,M⟩:=hy;have hr:=hr w hq;by_cases Z:m=0
 ·subst Z;have Y:W=[]:=List.length_eq_zero_iff.1 hm;subst Y;obtain⟨i,hi,a8,a6,b0⟩:=info_parts Nl.info;refine⟨A,c,w,q2k (P:=Tryz.prog) base 41 ty 50 i 4 Nl.sl hi A n c E.flatten h1.1 B d (by omega) a6,?_,Turn.refl _ _,.inl rfl⟩;rw[List.append_nil];exact⟨E,h1,h2,h3⟩
 ·have one:∀y∈F,∀u∈y,u.oneCell'=true:=λy a2 u hu=>by
   obtain⟨j,U⟩:=List.mem_iff_getElem?.1 a2;have a7:=(List.getElem?_eq_some_iff.1 U).1;obtain⟨V,p,q,e,_⟩:=M j y _ U (List.getElem?_eq_getElem (by omega));subst e;exact qiy _ V p q _ (List.mem_singleton.2 rfl) u hu
  obtain⟨H,R,w',J,O,T,X,_⟩:=q23 (P:=Tryz.prog) w Nl ty base A n c E h1 B m d F hr (by omega) one (by omega) (by omega) G;refine⟨H,R,w',J,⟨_,O,by rw[List.length_append,List.length_append,h2,a1],λj r x f K=>?_⟩,T,X⟩;by_cases U:j<E.length
  ·rw[List.getElem?_append_left U] at f;rw[List.getElem?_append_left (by omega)] at K;exact h3 j r x f K
  ·rw[List.getElem?_append_right (by omega)] at f K;rw[<-h2] at K;exact M _ r x f K
theorem qjs (ty:TypeId)(e:Ua w base A n c ks){B:Option Addr}{m d:Nat}{I:List Qj}(W:Zk w B m d I)(hn:n+m<=100000)(E:base<=w.1.size) :
  ∃F H w',(Builtin.append_ #[75,75] ty #[.slice A n c,.slice B m d]).run Tryz.prog w=.ok (.slice F (n+m) H) w'/\Ua w' base F (n+m) H (ks++I)/\Turn (λk=>q01 A=some k) w w'/\(q01 F=q01 A\/q01 F=some w.1.size):=by
 by_cases M:m=0
 ·subst M;have K:I=[]:=List.length_eq_zero_iff.1 W.len;subst K;obtain⟨i,hi,X,R,Y⟩:=info_parts Qaf.info;refine⟨A,c,w,q2k (P:=Tryz.prog) base 75 ty 148 i 4 Qaf.sl hi A n c _ e.1 B d (by omega) R,?_,Turn.refl _ _,.inl rfl⟩;rw[List.append_nil];exact e
 ·have one:∀y∈I.map Qj.vs,∀u∈y,u.oneCell'=true:=λy O u U=>by
   obtain⟨x,_,rfl⟩:=List.mem_map.1 O;simp[Qj.vs] at U;rcases U with rfl|rfl|rfl|rfl<;>rfl
  obtain⟨F,H,w',G,f,T,J,_⟩:=q23 (P:=Tryz.prog) w Qaf ty base A n c _ e B m d _ W (by omega) one (by omega) (by omega) E;rw[<-List.map_append] at f;exact⟨F,H,w',G,f,T,J⟩
theorem qhq {F:Array Oper}{e:List Oper}{o:Oper}{a:Act}{J:Exit->Act->World->Prop}(H:o.guard=none)(M x:Operand)
  (W:o.op=.call { callee:=.builtin .append,args:=#[M,x],argTypes:=#[41,41] })
  (Y:a.eval M=.slice A n c) (y:Gj Q w base A n c xs) (X:Q w)
  {B:Option Addr} {m d:Nat} {I:List Qb} (Z:a.eval x=.slice B m d) (hy:O8 Q B m d I) (hm:I.length=m) (hn:n+m<=100000) (f:base<=w.1.size)
  (h:∀u G w',Gj Q w' base u (n+m) G (xs++I)->Turn (λk=>q01 A=some k) w w'->(q01 u=q01 A\/q01 u=some w.1.size)->wpList Tryz.prog F J e (a.put o.dst (.slice u (n+m) G)) w'):wpList Tryz.prog F J (o::e) a w:=
 wpList_plain H λK U=>by
  obtain⟨u,G,w',E,h2,O,R⟩:=qmb (ty:=o.type) y X hy hm hn f;unfold Oper.wp execOp;simp only[W,resolve,invoke,builtin,Sem.run_bind,Sem.run_pure,Result.andThen_ok,List.map_toArray,List.map_cons,List.map_nil,Y,Z,E];exact U _ _ (h u G w' h2 O R)
theorem qhr {F:Array Oper}{e:List Oper}{o:Oper}{a:Act}{I:Exit->Act->World->Prop}(H:o.guard=none)(M x:Operand)
  (W:o.op=.call { callee:=.builtin .append,args:=#[M,x],argTypes:=#[75,75] })
  (X:a.eval M=.slice A n c) (y:Ua w base A n c ks)
  {B:Option Addr} {m d:Nat} {J:List Qj} (Y:a.eval x=.slice B m d) (Z:Zk w B m d J) (hn:n+m<=100000) (f:base<=w.1.size)
  (h:∀u G w',Ua w' base u (n+m) G (ks++J)->Turn (λk=>q01 A=some k) w w'->(q01 u=q01 A\/q01 u=some w.1.size)->wpList Tryz.prog F I e (a.put o.dst (.slice u (n+m) G)) w'):wpList Tryz.prog F I (o::e) a w:=
 wpList_plain H λK U=>by
  obtain⟨u,G,w',E,h2,O,R⟩:=qjs (ty:=o.type) y Z hn f;unfold Oper.wp execOp;simp only[W,resolve,invoke,builtin,Sem.run_bind,Sem.run_pure,Result.andThen_ok,List.map_toArray,List.map_cons,List.map_nil,X,Y,E];exact U _ _ (h u G w' h2 O R)
theorem Ah.below {X:Option Addr}{k kc:Nat}{Ns:List Nd}(h:Ah Q w X k kc Ns)(hb:Below w.1.size w w'):Ah Q w' X k kc Ns:=by
 obtain⟨e,h1,h2⟩:=h;exact⟨e,h1.below hb,h2⟩
theorem Ah.len {X:Option Addr}{k kc:Nat}{Ns:List Nd}(h:Ah Q w X k kc Ns):Ns.length=k:=by
 obtain⟨e,h1,h2,_⟩:=h;rw[<-h2];exact h1.len
theorem Ah.get {X:Option Addr}{k kc:Nat}{Ns:List Nd}(h:Ah Q w X k kc Ns){j:Nat}(hj:j<k):∃g o A n c B m d,X=some ⟨g,o,none⟩/\g<w.1.size/\w.cell? ⟨g,o+j*3,none⟩=some (.int .i64 (U8 Ns j).lvl)/\w.cell? ⟨g,o+j*3+1,none⟩=some (.slice A n c)/\w.cell? ⟨g,o+j*3+2,none⟩=some (.slice B m d)/\Jf Q (U8 Ns j) A n c B m d:=by
 have H:=h.len;obtain⟨f,h1,h2,E⟩:=h;have y:f[j]?=some (f[j]'(by omega)):=List.getElem?_eq_getElem (by omega);obtain⟨A,n,c,B,m,d,e,F⟩:=E j _ _ y (q4u (by omega));obtain⟨g,o,rfl,G,_,u⟩:=h1.2.2.2 j _ y;rw[e] at u;exact⟨g,o,A,n,c,B,m,d,rfl,G,u 0 _ rfl,u 1 _ rfl,u 2 _ rfl,F⟩
end
def F6 (Ns:List Nd)(j:Nat):List Qb:=(Ns.take j).flatMap (·.items)
def F7 (Ns:List Nd)(j:Nat):List Qj:=(Ns.take j).flatMap (·.kids)
theorem qpy {Ns:List Nd}{j:Nat}(h:j<Ns.length):F6 Ns (j+1)=F6 Ns j++(U8 Ns j).items:=by
 have e:=q4u h;rw[List.getElem?_eq_getElem h] at e;unfold F6;rw[List.take_succ_eq_append_getElem h,List.flatMap_append,Option.some.inj e];simp
theorem qpz {Ns:List Nd}{j:Nat}(h:j<Ns.length):F7 Ns (j+1)=F7 Ns j++(U8 Ns j).kids:=by
 have e:=q4u h;rw[List.getElem?_eq_getElem h] at e;unfold F7;rw[List.take_succ_eq_append_getElem h,List.flatMap_append,Option.some.inj e];simp
theorem qxk {Ns:List Nd}(j:Nat):(F6 Ns j).length<=(Ns.flatMap (·.items)).length:=by
 conv=>rhs;rw[<-List.take_append_drop j Ns,List.flatMap_append,List.length_append]
 unfold F6;omega
theorem qxl {Ns:List Nd}(j:Nat):(F7 Ns j).length<=(Ns.flatMap (·.kids)).length:=by
 conv=>rhs;rw[<-List.take_append_drop j Ns,List.flatMap_append,List.length_append]
 unfold F7;omega
theorem qu6 {Ns:List Nd}{j:Nat}(h:Ns.length<=j):F6 Ns j=Ns.flatMap (·.items):=by unfold F6;rw[List.take_of_length_le h]
theorem qu7 {Ns:List Nd}{j:Nat}(h:Ns.length<=j):F7 Ns j=Ns.flatMap (·.kids):=by unfold F7;rw[List.take_of_length_le h]
theorem qza {S:Nat->Prop}{w w':World}(J:∀k,S k->k<w.1.size)(X:Below w.1.size w w'){base:Nat}(G:w.1.size<=base){A B:Option Addr}{n c m d:Nat}{l:Int}{its:List Qb}{Df:List Qj}(F:Gj (Turn S w) w' base A n c its)(E:Ua w' base B m d Df)(hn:its.length<=60)(hm:Df.length<=60):Jf (Turn S w') ⟨l,its,Df⟩ A n c B m d:=by
 have l1:=F.len;have l2:=E.len;have W:Turn S w w':=Qx X;have R:=F.Qc;have U:=E.Qc;have M:=Qr.Uo E (by omega);obtain⟨I,h1,h2,O⟩:=F;have K:=h1.Uo (by omega);refine⟨⟨I,λu y=>(h1.turned y λk f H=>by have:=(R k f).1;have:=J k H;omega).Uo (by omega),h2,λj r x Y hx=>?_⟩,λu y=>Qr.Uo (Qr.turned E y λk f H=>by have:=(U k f).1;have:=J k H;omega) (by omega),l1,l2,⟨by omega,K.cap,K.max⟩,⟨by omega,M.cap,M.max⟩⟩;obtain⟨V,p,q,e,Z⟩:=O j r x Y hx;exact⟨V,p,q,e,λu y=>Z u (W.trans y λk f=>.inl f)⟩
theorem q3w {S:Nat->Prop}{w:World}(hS:∀k,S k->k<w.1.size)(Ns:List Nd)(l:Int)(d3:(U8 Ns 0).lvl=l)(X:Option Addr)(k kc:Nat)(hB:Ah (Turn S w) w X k kc Ns)(hk:1<=k)(e0:k<=100)(hn:(Ns.flatMap (·.items)).length<=60)(hm:(Ns.flatMap (·.kids)).length<=60) :
  Calls Tryz.prog 186 #[.slice X k kc] w λe w'=>∃A n c B m d,e=.returned (Xw l A n c B m d)/\Jf (Turn S w') (Zw l Ns) A n c B m d/\Below w.1.size w w':=by
 have d6:=hB.len;obtain⟨g0,o0,A0,n0,c0,B0,m0,d0,hX,d2,x0,-,-,-⟩:=hB.get (show 0<k by omega);rw[d3] at x0;rw[Nat.zero_mul,Nat.add_zero] at x0;have b0:Below w.1.size w (w.alloc (.cells #[.int .i64 0,.slice none 0 0,.slice none 0 0] 178)):=Qk;have x1:=(b0.cell (p:=⟨g0,o0,none⟩) d2).trans x0;have N1:NB ((w.alloc (.cells #[.int .i64 0,.slice none 0 0,.slice none 0 0] 178)).alloc (.cells #[.int .i64 l,.slice none 0 0,.slice none 0 0] 178)) (w.1.size+1) l none 0 0 none 0 0:=NB.new2 w _ _ _ _ _ _ _ _ _;have R1:NB ((w.alloc (.cells #[.int .i64 0,.slice none 0 0,.slice none 0 0] 178)).alloc (.cells #[.int .i64 l,.slice none 0 0,.slice none 0 0] 178)) w.1.size 0 none 0 0 none 0 0:=(NB.new w _ _ _ _ _ _ _ _).below (Qk) (by simp);have b1:Below w.1.size w ((w.alloc (.cells #[.int .i64 0,.slice none 0 0,.slice none 0 0] 178)).alloc (.cells #[.int .i64 l,.slice none 0 0,.slice none 0 0] 178)):=b0.alloc (by simp) _;have hz:0<k:=by omega
 subst hX;go_enter Tryz.func186,Tryz.ntmps186
 go_wp2_with fail
 generalize ((w.alloc (.cells #[.int .i64 0,.slice none 0 0,.slice none 0 0] 178)).alloc (.cells #[.int .i64 l,.slice none 0 0,.slice none 0 0] 178))=w1 at N1 R1 b1 ⊢;go_loopw [15] (λi wr=>∃(j:Nat) (A:Option Addr) (n c:Nat) (B:Option Addr) (m d:Nat),j<=k/\i=.int .i64 (j:Int)/\NB wr (w.1.size+1) l A n c B m d/\NB wr w.1.size 0 none 0 0 none 0 0/\Gj (Turn S w) wr (w.1.size+2) A n c (F6 Ns j)/\Ua wr (w.1.size+2) B m d (F7 Ns j)/\(∀g,q01 A=some g->q01 B≠some g)/\Below w.1.size w wr) (λi _=>k-(intOf i).toNat)
 case atStart=>exact⟨0,none,0,0,none,0,0,Nat.zero_le _,rfl,N1,R1,qu5 _ _ _,qjr _ _,λg h=>(by cases h),b1⟩
 case round=>
  obtain⟨j,A,n,c,B,m,d,hj,rfl,M,RR,qI,qK,H,hb⟩:=hrel;have zR:=RR.lt;have zN:=M.lt;have zq:=qI.Qc;have Z:=qK.Qc;have n1:=M.c1;have n2:=M.c2;by_cases d4:j<k
  ·obtain⟨g,o,Ax,Y,cx,Bx,W,dx,c7,f,y0,y1,y2,y⟩:=(hB.below hb).get d4;obtain⟨h1,h2⟩:g0=g/\o0=o:=by
    injection c7 with h;injection h with h1 h2;exact⟨h1,h2⟩
   subst h1 h2;obtain⟨lv,b6⟩:∃lv,(U8 Ns j).lvl=lv:=⟨_,rfl⟩;rw[b6] at y0;have e1:=qpy (Ns:=Ns) (j:=j) (by omega);have e2:=qpz (Ns:=Ns) (j:=j) (by omega);have b4:=qxk (Ns:=Ns) (j+1);have b5:=qxl (Ns:=Ns) (j+1);have e3:n+Y<=60:=by
    have q1:=qI.len;have q2:=y.ln;rw[e1,List.length_append] at b4;omega
   have e4:m+W<=60:=by
    have q1:=qK.len;have q2:=y.lm;rw[e2,List.length_append] at b5;omega
   clear b4 b5 b6;have U:Below wr.1.size wr (wr.alloc (.cells #[.int .i64 lv,.slice Ax Y cx,.slice Bx W dx] 178)):=Qk;have X2:NB (wr.alloc (.cells #[.int .i64 lv,.slice Ax Y cx,.slice Bx W dx] 178)) wr.1.size lv Ax Y cx Bx W dx:=NB.new wr _ _ _ _ _ _ _ _;have N2:=M.below U M.lt;have a7:=hb.trans (U.mono hb.size);have q2:=qI.turned (Qx (S:=λ_=>False) U) (λ_ _ h=>h);have k2:=qK.turned (Qx (S:=λ_=>False) U) (λ_ _ h=>h);have zs:=hb.size;have e5:=U.size;have x1:=X2.c1;have x2:=X2.c2;have n1:=N2.c1;have n2:=N2.c2;go_wp2_with (first
    |(at_builtin;refine qhq rfl _ _ rfl rfl q2 (Qx a7) rfl y.its y.ln (by omega) (by omega) ?_;intro K c3 w3 q3 O b9
      have e6:=O.size;have d7:∀g,q01 A=some g->w.1.size+2<=g/\g<wr.1.size:=zq;have N3:=N2.turned O (λh=>by have:=(zq _ h).1;omega);have X3:=X2.turned O (λh=>by have:=(zq _ h).2;omega);have k3:=k2.turned O (λg h1 h2=>H g h2 h1);have a1:=(RR.below U RR.lt).turned O (λh=>by have:=(zq _ h).1;omega);have c8:=a7.trans (O.below (B:=w.1.size) (λx u=>by have:=(zq _ u).1;omega) (by omega));have G:∀g,q01 K=some g->w.1.size+2<=g:=λg f=>(q3.Qc g f).1
      have E:∀g,q01 K=some g->q01 B≠some g:=λg f J=>by
       rcases b9 with h|h
       ·exact H g (h▸f) J
       ·rw[h] at f;have h1:=(Z g J).2;injection f with f;omega
      have R:Turn (λg=>g=w.1.size+1) w3 (w3.setCell ⟨w.1.size+1,1,none⟩ (.slice K (n+Y) c3)):=Ac (a:=⟨w.1.size+1,1,none⟩) _ rfl;have f1:=N3.fz 1;have p1:=N3.c1;have N4:=N3.set1 K (n+Y) c3;have X4:=X3.keep (R.block wr.1.size X3.lt (by show ¬wr.1.size=w.1.size+1;omega));have b7:=a1.keep (R.block w.1.size a1.lt (by show ¬w.1.size=w.1.size+1;omega));have q4:=q3.turned R (λg h1 h2=>by have h2:g=w.1.size+1:=h2;have:=G g h1;omega);have k4:=k3.turned R (λg h1 h2=>by have h2:g=w.1.size+1:=h2;have:=(Z g h1).1;omega);have a8:=c8.trans (R.below (B:=w.1.size) (λx u=>by have u:x=w.1.size+1:=u;omega) (by omega));have e7:=R.size;have u2:=N4.c2;have v2:=X4.c2)
    |(at_builtin;refine qhr rfl _ _ rfl rfl k4 rfl (y.Df _ (Qx a8)) (by omega) (by omega) ?_;intro B5 d5 w5 k5 T5 c6
      have e8:=T5.size;have N5:=N4.turned T5 (λh=>by have:=(Z _ h).1;omega);have a2:=b7.turned T5 (λh=>by have:=(Z _ h).1;omega);have q5:=q4.turned T5 (λg h1 h2=>E g h1 h2);have c9:=a8.trans (T5.below (B:=w.1.size) (λx u=>by have:=(Z _ u).1;omega) (by omega));have a6:∀g,q01 B5=some g->w.1.size+2<=g:=λg f=>(k5.Qc g f).1
      have I:∀g,q01 K=some g->q01 B5≠some g:=λg f J=>by
       rcases c6 with h|h
       ·exact E g f (h▸J)
       ·rw[h] at J;have h1:=(q4.Qc g f).2;injection J with J;omega
      have F:Turn (λg=>g=w.1.size+1) w5 (w5.setCell ⟨w.1.size+1,2,none⟩ (.slice B5 (m+W) d5)):=Ac (a:=⟨w.1.size+1,2,none⟩) _ rfl;have f2:=N5.fz 2;have p2:=N5.c2;have N6:=N5.set2 B5 (m+W) d5;have b8:=a2.keep (F.block w.1.size a2.lt (by show ¬w.1.size=w.1.size+1;omega));have q6:=q5.turned F (λg h1 h2=>by have h2:g=w.1.size+1:=h2;have:=G g h1;omega);have k6:=k5.turned F (λg h1 h2=>by have h2:g=w.1.size+1:=h2;have:=a6 g h1;omega);have d1:=c9.trans (F.below (B:=w.1.size) (λx u=>by have u:x=w.1.size+1:=u;omega) (by omega)))
    |fail)
   rw[<-e1] at q6;rw[<-e2] at k6;exact⟨⟨j+1,K,_,c3,B5,_,d5,by omega,by go_num,N6,b8,q6,k6,I,d1⟩,by simp[intOf];omega⟩
  ·have d9:j=k:=by omega
   have c0:=M.c0;have eI:=qu6 (Ns:=Ns) (j:=j) (by omega);have eK:=qu7 (Ns:=Ns) (j:=j) (by omega);rw[eI] at qI;rw[eK] at qK;have d8:¬(j:Int)<(k:Int):=by omega
   go_wp2_with (first
    |(refine q1v rfl _ _ rfl w.1.size rfl l A n c B m d rfl RR ?_;intro wz Rz Tz)
    |fail)
   refine bodyPost_ret (Ny Tryz.results186 rfl (qag Rz)) rfl ?_;have b3:=hb.trans (Tz.below (B:=w.1.size) (λx u=>by have u:x=w.1.size:=u;omega) (by omega));have qz:=qI.turned Tz (λg h1 h2=>by have h2:g=w.1.size:=h2;have:=(zq g h1).1;omega);have kz:=qK.turned Tz (λg h1 h2=>by have h2:g=w.1.size:=h2;have:=(Z g h1).1;omega);exact⟨A,n,c,B,m,d,rfl,qza hS b3 (by omega) qz kz hn hm,b3⟩
section
variable {b:Nat}{w w':World}{d p:Nat}{S0 S T:Nat->Prop}{D:DM}{P P':Pl}
theorem Qg.step (H:Qg b w d p S0 S T D P)(R:Pool w' p d S T P')(X:Turn S w w'):Qg b w' d p S0 S T D P':=by
 have u:=X.size;exact⟨H.Az.keep λk e f=>X.block k e (H.apart k f),R,H.sub,H.apart,λk e=>⟨(H.tight k e).1,by have:=(H.tight k e).2;omega⟩⟩
theorem Qg.low (H:Qg b w d p S0 S T D P):∀k,S k->k<w.1.size:=λk e=>(H.tight k (H.Aw k e)).2
theorem Qg.tab (H:Qg b w d p S0 S T D P)(hb:1<b)(ht:Tab w)(X:Turn S w w'):Tab w':=ht.turned X λh=>by have:=(H.tight _ (H.Aw _ h)).1;omega
theorem Qg.less {T':Nat->Prop}(H:Qg b w d p S0 S T' D P)(hT:∀k,T k->T' k)(h0:∀k,S0 k->T k)(h1:∀k,S k->T k):Qg b w d p S0 S T D P:=
 ⟨H.Az,H.pool.mono (λ_ _ h=>h) (λk _ h=>hT k h) h1,h0,H.apart,λk e=>H.tight k (hT k e)⟩
theorem qzb (H:Qg b w d p S0 S T D P)(u:1<b)(y:Tab w)(a:Int) :
  Calls Tryz.prog 74 #[.pointer (some ⟨p,0,none⟩),.int .i64 a] w λe w'=>e=.returned (.int .i64 (P.C.Y4 a))/\Qg b w' d p S0 S T D ⟨P.S,P.C.ref a,P.L⟩/\Turn S w w'/\Tab w':=
 (qtu H.pool a).mono λ_ _ ⟨h1,h2,f⟩=>⟨h1,H.step h2 f,f,H.tab u y f⟩
theorem qjt (H:Qg b w d p S0 S T D P)(u:1<b)(y:Tab w)(a:Int) :
  Calls Tryz.prog 149 #[.pointer (some ⟨p,0,none⟩),.int .i64 a] w λe w'=>e=.returned (.tuple #[.int .i64 (P.C.Ju a),.int .i64 (P.C.Jm a)])/\Qg b w' d p S0 S T D ⟨P.S,P.C.Qq a,P.L⟩/\Turn S w w'/\Tab w':=
 (qm2 H.pool a).mono λ_ _ ⟨h1,h2,f⟩=>⟨h1,H.step h2 f,f,H.tab u y f⟩
def tv (p:Nat):Value:=.agg #[.pointer (some ⟨p,0,none⟩)]
theorem qc3 {w:World}{base:Nat}{A:Option Addr}{n c:Nat}{zs:List Int}(h:Qr w base 3 1 A n c (zs.map iv)){j:Nat}(F:j<n):∃g o,A=some ⟨g,o,none⟩/\w.cell? ⟨g,o+j,none⟩=some (.int .i64 (zs.getD j 0)):=by
 have f:=h.Uo (by omega);have u:=f.len;rw[List.length_map] at u;obtain⟨g,o,e,E,_,y⟩:=f.2.2.2 j (iv (zs.getD j 0)) (by
  rw[List.getElem?_map,List.getElem?_eq_getElem (by omega),List.getD_eq_getElem?_getD,List.getElem?_eq_getElem (by omega)];rfl)
 have:=y 0 _ rfl;rw[Nat.mul_one,Nat.add_zero] at this;exact⟨g,o,e,this⟩
theorem qju {zs:List Int}{j:Nat}(h:j<zs.length):zs.drop j=zs.getD j 0::zs.drop (j+1):=by
 rw[List.drop_eq_getElem_cons h,List.getD_eq_getElem?_getD,List.getElem?_eq_getElem h];rfl
theorem qq0 (H:Qg b w d p S0 S T D P)(hb:1<b)(ht:Tab w)(N:Nd)(W:N.fit)(A:Option Addr)(n c:Nat)(B:Option Addr)(m E:Nat)(J:Jf (Turn S w) N A n c B m E)(hP:Ul N.named P=some P') :
  Calls Tryz.prog 229 #[tv p,Xw N.lvl A n c B m E] w λe w'=>e=.returned (.int .i64 0)/\Qg b w' d p S0 S T D P'/\Turn S w w'/\Tab w':=by
 have hS:=H.low;have G:NB ((w.alloc (.cells #[.pointer (some ⟨p,0,none⟩)] 173)).alloc (.cells #[.int .i64 N.lvl,.slice A n c,.slice B m E] 178)) (w.1.size+1) N.lvl A n c B m E:=NB.new2 w _ _ _ _ _ _ _ _ _;have M:RB ((w.alloc (.cells #[.pointer (some ⟨p,0,none⟩)] 173)).alloc (.cells #[.int .i64 N.lvl,.slice A n c,.slice B m E] 178)) w.1.size [.pointer (some ⟨p,0,none⟩)]:=(RB.new w [.pointer (some ⟨p,0,none⟩)] 173).below (Qk) (by simp);have O:Below w.1.size w ((w.alloc (.cells #[.pointer (some ⟨p,0,none⟩)] 173)).alloc (.cells #[.int .i64 N.lvl,.slice A n c,.slice B m E] 178)):=(Qk).alloc (by simp) _;have c0:=G.c0;have c1:=G.c1;have c2:=G.c2;have hn:=J.hn;have hm:=J.hm;have Hk:=Lib.hid (λu (hu:Below w.1.size w u)=>qbf N W A n c B m E u (J.its.Yc (Qx hu)) (J.Df u (Qx hu)) (by omega) (by omega));have HP:=Lib.hid hP;clear hP;unfold Xw tv;go_enter Tryz.func229,Tryz.ntmps229
 go_wp2_with fail
 generalize ((w.alloc (.cells #[.pointer (some ⟨p,0,none⟩)] 173)).alloc (.cells #[.int .i64 N.lvl,.slice A n c,.slice B m E] 178))=w1 at G M O c0 c1 c2 ⊢;refine (Hk.out w1 O).mono ?_;rintro e w2 ⟨A2,I,k2,rfl,y,b2⟩;have a6:=Qr.len y (by omega);rw[List.length_map] at a6;have B2:=O.trans (b2.mono O.size);have T2:=M.below b2 M.lt;have H2:=H.below B2;have t2:=ht.below B2 ht.1;have X2:Turn S w w2:=Qx B2;have b3:I<=120:=by
  have h1:N.named.length<=N.kids.length+N.items.length:=by
   unfold Nd.named;rw[List.length_append,List.length_map];have:=List.length_filterMap_le Uc N.items;omega
  have:=J.ln;have:=J.lm;omega
 have z1:=G.lt;have Y:∀k,q01 A2=some k->w.1.size<k:=λk X=>by have:=(y.Qc k X).1;have:=M.lt;have:=G.lt;omega
 clear c0 c1 c2 G M O b2 Hk B2;go_wp2_with fail
 go_loopw [12] (λi wr=>∃(j:Nat) (f:Pl),j<=I/\i=.int .i64 (j:Int)/\Ul (N.named.drop j) f=some P'/\Qg b wr d p S0 S T D f/\Tab wr/\Turn S w wr/\RB wr w.1.size [.pointer (some ⟨p,0,none⟩)]/\Qr wr (w.1.size+1) 3 1 A2 I k2 (N.named.map iv)) (λi _=>I-(intOf i).toNat)
 case atStart=>exact⟨0,P,Nat.zero_le _,rfl,HP.out,H2,t2,X2,T2,y.less (by omega)⟩
 case round=>
  obtain⟨j,f,hj,rfl,R,Hj,tj,Xj,Tj,F⟩:=hrel;have K:=Lib.hid R;clear R;by_cases a7:j<I
  ·obtain⟨g,o,hA,y0⟩:=qc3 F a7;subst hA;have hd:=qju (zs:=N.named) (j:=j) (by omega);obtain⟨z,hz⟩:∃z,N.named.getD j 0=z:=⟨_,rfl⟩;rw[hz] at y0 hd;have HD:=Lib.hid hd;clear hz hd;have q0:=Tj.cell 0 rfl;have hr:f.C.Y4 z=0/\Ul (N.named.drop (j+1)) ⟨f.S,f.C.ref z,f.L⟩=some P':=by
    have h:=K.out;rw[HD.out] at h;have h:(if f.C.Y4 z=0 then Ul (N.named.drop (j+1)) ⟨f.S,f.C.ref z,f.L⟩ else none)=some P':=h;split at h
    ·rename_i h0;exact⟨h0,h⟩
    ·cases h
   obtain⟨Z,a1⟩:=hr;have HR:=Lib.hid a1;have Hc:=qzb Hj hb tj z;rw[Z] at Hc;have Hc:=Lib.hid Hc;clear a1 Z;go_wp2_with fail
   refine Hc.out.mono ?_;rintro e w3 ⟨rfl,H3,X3,t3⟩;have T3:=Tj.turned X3 (λh=>by have:=hS _ h;omega);have a2:=Qr.turned F X3 (λk X hs=>by have:=hS _ hs;have:=Y k X;omega);have XX:=Xj.trans X3 λk X=>.inl X
   go_wp2;exact⟨⟨j+1,_,by omega,by go_num,HR.out,H3,t3,XX,T3,a2⟩,by simp[intOf];omega⟩
  ·have b0:j=I:=by omega
   have U:f=P':=by
    have h:=K.out;rw[List.drop_of_length_le (by omega)] at h;exact Option.some.inj h
   subst U;have a8:¬(j:Int)<(I:Int):=by omega
   go_wp2;go_ret;exact⟨rfl,Hj,Xj,tj⟩
theorem qhs (H:Qg b w d p S0 S T D P)(hb:1<b)(ht:Tab w)(N:Nd)(W:N.fit)(A:Option Addr)(n c:Nat)(B:Option Addr)(m E:Nat)(J:Jf (Turn S w) N A n c B m E)(hP:q31 N.named P=some P') :
  Calls Tryz.prog 230 #[tv p,Xw N.lvl A n c B m E] w λe w'=>e=.returned (.int .i64 0)/\Qg b w' d p S0 S T D P'/\Turn S w w'/\Tab w':=by
 have hS:=H.low;have G:NB ((w.alloc (.cells #[.pointer (some ⟨p,0,none⟩)] 173)).alloc (.cells #[.int .i64 N.lvl,.slice A n c,.slice B m E] 178)) (w.1.size+1) N.lvl A n c B m E:=NB.new2 w _ _ _ _ _ _ _ _ _;have M:RB ((w.alloc (.cells #[.pointer (some ⟨p,0,none⟩)] 173)).alloc (.cells #[.int .i64 N.lvl,.slice A n c,.slice B m E] 178)) w.1.size [.pointer (some ⟨p,0,none⟩)]:=(RB.new w [.pointer (some ⟨p,0,none⟩)] 173).below (Qk) (by simp);have O:Below w.1.size w ((w.alloc (.cells #[.pointer (some ⟨p,0,none⟩)] 173)).alloc (.cells #[.int .i64 N.lvl,.slice A n c,.slice B m E] 178)):=(Qk).alloc (by simp) _;have c0:=G.c0;have c1:=G.c1;have c2:=G.c2;have hn:=J.hn;have hm:=J.hm;have Hk:=Lib.hid (λu (hu:Below w.1.size w u)=>qbf N W A n c B m E u (J.its.Yc (Qx hu)) (J.Df u (Qx hu)) (by omega) (by omega));have HP:=Lib.hid hP;clear hP;unfold Xw tv;go_enter Tryz.func230,Tryz.ntmps230
 go_wp2_with fail
 generalize ((w.alloc (.cells #[.pointer (some ⟨p,0,none⟩)] 173)).alloc (.cells #[.int .i64 N.lvl,.slice A n c,.slice B m E] 178))=w1 at G M O c0 c1 c2 ⊢;refine (Hk.out w1 O).mono ?_;rintro e w2 ⟨A2,I,k2,rfl,y,b2⟩;have a6:=Qr.len y (by omega);rw[List.length_map] at a6;have B2:=O.trans (b2.mono O.size);have T2:=M.below b2 M.lt;have H2:=H.below B2;have t2:=ht.below B2 ht.1;have X2:Turn S w w2:=Qx B2;have b3:I<=120:=by
  have h1:N.named.length<=N.kids.length+N.items.length:=by
   unfold Nd.named;rw[List.length_append,List.length_map];have:=List.length_filterMap_le Uc N.items;omega
  have:=J.ln;have:=J.lm;omega
 have z1:=G.lt;have Y:∀k,q01 A2=some k->w.1.size<k:=λk X=>by have:=(y.Qc k X).1;have:=M.lt;have:=G.lt;omega
 clear c0 c1 c2 G M O b2 Hk B2;go_wp2_with fail
 go_loopw [13] (λi wr=>∃(j:Nat) (f:Pl),j<=I/\i=.int .i64 (j:Int)/\q31 (N.named.drop j) f=some P'/\Qg b wr d p S0 S T D f/\Tab wr/\Turn S w wr/\RB wr w.1.size [.pointer (some ⟨p,0,none⟩)]/\Qr wr (w.1.size+1) 3 1 A2 I k2 (N.named.map iv)) (λi _=>I-(intOf i).toNat)
 case atStart=>exact⟨0,P,Nat.zero_le _,rfl,HP.out,H2,t2,X2,T2,y.less (by omega)⟩
 case round=>
  obtain⟨j,f,hj,rfl,R,Hj,tj,Xj,Tj,F⟩:=hrel;have K:=Lib.hid R;clear R;by_cases a7:j<I
  ·obtain⟨g,o,hA,y0⟩:=qc3 F a7;subst hA;have hd:=qju (zs:=N.named) (j:=j) (by omega);obtain⟨z,hz⟩:∃z,N.named.getD j 0=z:=⟨_,rfl⟩;rw[hz] at y0 hd;have HD:=Lib.hid hd;clear hz hd;have q0:=Tj.cell 0 rfl;have hr:f.C.Jm z=0/\q31 (N.named.drop (j+1)) ⟨f.S,f.C.Qq z,f.L⟩=some P':=by
    have h:=K.out;rw[HD.out] at h;have h:(if f.C.Jm z=0 then q31 (N.named.drop (j+1)) ⟨f.S,f.C.Qq z,f.L⟩ else none)=some P':=h;split at h
    ·rename_i h0;exact⟨h0,h⟩
    ·cases h
   obtain⟨Z,a1⟩:=hr;have HR:=Lib.hid a1;have Hc:=qjt Hj hb tj z;rw[Z] at Hc;have Hc:=Lib.hid Hc;clear a1 Z;go_wp2_with fail
   refine Hc.out.mono ?_;rintro e w3 ⟨rfl,H3,X3,t3⟩;have T3:=Tj.turned X3 (λh=>by have:=hS _ h;omega);have a2:=Qr.turned F X3 (λk X hs=>by have:=hS _ hs;have:=Y k X;omega);have XX:=Xj.trans X3 λk X=>.inl X
   go_wp2;exact⟨⟨j+1,_,by omega,by go_num,HR.out,H3,t3,XX,T3,a2⟩,by simp[intOf];omega⟩
  ·have b0:j=I:=by omega
   have U:f=P':=by
    have h:=K.out;rw[List.drop_of_length_le (by omega)] at h;exact Option.some.inj h
   subst U;have a8:¬(j:Int)<(I:Int):=by omega
   go_wp2;go_ret;exact⟨rfl,Hj,Xj,tj⟩
end
def Eb (s:Qs)(A:Option Addr)(n c:Nat)(B:Option Addr)(m d:Nat):List Value:=Jb s.N.lvl A n c B m d s.addr (s.next:Int) s.held s.shared
def Vf (s:Qs)(A:Option Addr)(n c:Nat)(B:Option Addr)(m d:Nat):Value:=.agg #[.int .i64 s.N.lvl,.slice A n c,.slice B m d,.int .i64 s.addr,.int .i64 (s.next:Int),.bool s.held,.bool s.shared]
theorem qxm {w w':World}{S:Nat->Prop}(I:∀k,S k->k<w.1.size){M:Nd}{R U:Option Addr}{K c1 H W:Nat}(hn:K<=20)(hm:H<=20)(F:J4 w' w.1.size R K c1 M.items)(G:Qr w' w.1.size 148 4 U H W (M.kids.map Qj.vs)):Jf (Turn S w') M R K c1 U H W:=by
 have l1:=F.Yc.len;have l2:M.kids.length=H:=by have:=Qr.len G (by omega);rw[List.length_map] at this;exact this
 have X:=F.Yc.bounds;have Y:=Qr.Uo G (by omega);refine⟨?_,λu E=>Qr.Uo (Qr.turned G E λk f y=>by have:=(Qr.Qc G k f).1;have:=I k y;omega) (by omega),l1,l2,⟨by omega,X.1,X.2⟩,⟨by omega,Y.cap,Y.max⟩⟩;have hA:=F.Qc;obtain⟨O,h1,h2,Z⟩:=F;refine⟨O,λu E=>(h1.turned E λk f y=>by have:=(hA k f).1;have:=I k y;omega).Uo (by omega),h2,λj r x hr hx=>?_⟩;obtain⟨V,p,q,e,hv,J⟩:=Z j r x hr hx;exact⟨V,p,q,e,λu E=>hv.turned' E λhl k f y=>by have:=(J hl k f).1;have:=I k y;omega⟩
section
variable {b:Nat}{w w':World}{d p:Nat}{S0 S T:Nat->Prop}{D:DM}{P P':Pl}
theorem q57 (H:Qg b w d p S0 S T D P)(Y:1<b)(K:Tab w)(s:Qs)(A:Option Addr)(n c:Nat)(B:Option Addr)(m F:Nat)(u:P.leave s=some P') :
  Calls Tryz.prog 231 #[tv p,Vf s A n c B m F] w λe w'=>e=.returned (.int .i64 0)/\Qg b w' d p S0 S T D P'/\Turn S w w'/\Tab w':=by
 obtain⟨N,f,G,hd,I⟩:=s;have R:RB ((w.alloc (.cells #[.pointer (some ⟨p,0,none⟩)] 173)).alloc (.cells (Jb N.lvl A n c B m F f (G:Int) hd I).toArray 180)) w.1.size [.pointer (some ⟨p,0,none⟩)]:=(RB.new w [.pointer (some ⟨p,0,none⟩)] 173).below (Qk) (by simp);have M:RB ((w.alloc (.cells #[.pointer (some ⟨p,0,none⟩)] 173)).alloc (.cells (Jb N.lvl A n c B m F f (G:Int) hd I).toArray 180)) (w.1.size+1) (Jb N.lvl A n c B m F f (G:Int) hd I):=by
  have:=RB.new (w.alloc (.cells #[.pointer (some ⟨p,0,none⟩)] 173)) (Jb N.lvl A n c B m F f (G:Int) hd I) 180;rwa [World.size_alloc] at this
 have y:Below w.1.size w ((w.alloc (.cells #[.pointer (some ⟨p,0,none⟩)] 173)).alloc (.cells (Jb N.lvl A n c B m F f (G:Int) hd I).toArray 180)):=(Qk).alloc (by simp) _;have y0:=R.cell 0 rfl;have y1:=M.cell 3 rfl;have y3:=M.cell 5 rfl;unfold Pl.leave at u;dsimp only at u;have E:=qjt (H.below y) Y (K.below y K.1) f;have O:=H.below y;have U:=K.below y K.1;unfold tv Vf;dsimp only;unfold Jb at y y3 y1 y0 E O U;clear M R
 cases hd with
 |true=>
  obtain rfl:=Option.some.inj u;clear E;go_enter Tryz.func231,Tryz.ntmps231
  go_wp2;go_ret;exact⟨rfl,O,Qx y,U⟩
 |false=>
  have J:P.C.Jm f=0/\⟨P.S,P.C.Qq f,P.L⟩=P':=by
   rw[if_neg Bool.false_ne_true] at u;split at u
   ·rename_i h;exact⟨h,Option.some.inj u⟩
   ·cases u
  obtain⟨J,rfl⟩:=J;rw[J] at E;have E:=Lib.hid E;clear u J;go_enter Tryz.func231,Tryz.ntmps231
  go_wp2_with fail
  refine E.out.mono ?_;rintro e w2 ⟨rfl,W,X,t2⟩;go_wp2;go_ret;exact⟨rfl,W,(Qx (S:=S) y).trans X λk Z=>.inl Z,t2⟩
theorem qfo (H:Qg b w d p S0 S T D P)(ht:Tab w)(a1:∀a b,P.L a=some b->b.kindOk)(a:Int)(held:Bool)(hE:P.Qi D a=0) :
  Calls Tryz.prog 183 #[tv p,.int .i64 a,.bool held] w λe w'=>∃A n c B m dd,e=.returned (.tuple #[Vf (P.spot D a held) A n c B m dd,.int .i64 0])/\Jf (Turn (λk=>k<w.1.size) w') (P.Qd D a) A n c B m dd/\Below w.1.size w w':=by
 have W:RB ((w.alloc (.cells #[.pointer (some ⟨p,0,none⟩)] 173)).alloc (.cells #[.int .i64 0,.slice none 0 0,.slice none 0 0,.int .i64 0,.int .i64 0,.bool false,.bool false] 180)) w.1.size [.pointer (some ⟨p,0,none⟩)]:=(RB.new w [.pointer (some ⟨p,0,none⟩)] 173).below (Qk) (by simp);have Z:RB ((w.alloc (.cells #[.pointer (some ⟨p,0,none⟩)] 173)).alloc (.cells #[.int .i64 0,.slice none 0 0,.slice none 0 0,.int .i64 0,.int .i64 0,.bool false,.bool false] 180)) (w.1.size+1) (Jb 0 none 0 0 none 0 0 0 0 false false):=by
  have:=RB.new (w.alloc (.cells #[.pointer (some ⟨p,0,none⟩)] 173)) (Jb 0 none 0 0 none 0 0 0 0 false false) 180;rwa [World.size_alloc] at this
 have b1:Below w.1.size w ((w.alloc (.cells #[.pointer (some ⟨p,0,none⟩)] 173)).alloc (.cells #[.int .i64 0,.slice none 0 0,.slice none 0 0,.int .i64 0,.int .i64 0,.bool false,.bool false] 180)):=(Qk).alloc (by simp) _;have y0:=W.cell 0 rfl;have hS:=H.low;obtain⟨M,hM⟩:∃M,P.Qd D a=M:=⟨_,rfl⟩;obtain⟨x,hx⟩:∃x,P.C.get a=x:=⟨_,rfl⟩;have X:=λ(u:World) (J:Below w.1.size w u)=>q9z (H.below J).Az (H.below J).pool a1 (ht.below J ht.1) a
 rw[hM,hE] at X;have X:=Lib.hid X;have Hc:=Lib.hid (λ(u:World) (J:Below w.1.size w u)=>q50 (H.below J).pool a x hx);obtain⟨r,hr⟩:∃r,decide (1<x)=r:=⟨_,rfl⟩;unfold Pl.spot;rw[hM,hx,hr];clear hx hM hE;unfold tv;go_enter Tryz.func183,Tryz.ntmps183
 go_wp2_with fail
 generalize ((w.alloc (.cells #[.pointer (some ⟨p,0,none⟩)] 173)).alloc (.cells #[.int .i64 0,.slice none 0 0,.slice none 0 0,.int .i64 0,.int .i64 0,.bool false,.bool false] 180))=w1 at W Z b1 y0 ⊢;refine (X.out w1 b1).mono ?_;rintro e f ⟨y,I,c1,E,G,F,rfl,a6,a2,hI,hK,b2⟩;have z1:=Z.lt;have z0:=b1.size;have z2:=b2.size;have hq:Jf (Turn (λk=>k<w1.1.size) f) M y I c1 E G F:=qxm (λk R=>R) a6 a2 hI hK;have B2:=b1.trans (b2.mono b1.size);have K:Below f.1.size f (f.alloc (.cells #[.int .i64 M.lvl,.slice y I c1,.slice E G F] 77)):=Qk;have Y:NB (f.alloc (.cells #[.int .i64 M.lvl,.slice y I c1,.slice E G F] 77)) f.1.size M.lvl y I c1 E G F:=NB.new f _ _ _ _ _ _ _ _;have T3:=(W.below b2 W.lt).below K (by have:=W.lt;omega);have R3:=(Z.below b2 Z.lt).below K (by omega);have B3:=B2.trans (K.mono B2.size);have fin:∀(u O:World),Below f.1.size f u->Turn (λk=>k=w.1.size+1) u O->Jf (Turn (λk=>k<w.1.size) O) M y I c1 E G F/\Below w.1.size w O:=λu O J T=>by
  have h1:=J.size;refine⟨hq.mono λv hv=>(((Qx (S:=λk=>k<w1.1.size) J).trans T λk R=>.inl (by have:k=w.1.size+1:=R;show k<_;omega)).trans hv λk R=>.inl (by have:k<w.1.size:=R;show k<_;omega)),B2.trans ((J.mono B2.size).trans (T.below (λk R=>by have:k=w.1.size+1:=R;omega) (by omega)))⟩
 clear hI hK hq b2 W Z y0;go_wp2_with fail
 generalize f.alloc (.cells #[.int .i64 M.lvl,.slice y I c1,.slice E G F] 77)=U at K Y T3 R3 B3 ⊢;have zR:=R3.lt;have zN:=Y.lt;have zT:=T3.lt;have zB:=B3.size;have bD:Below U.1.size U U.drew:=(Below.refl _ _).drew;have g0:∀u:Grown U,u.to.cell? ⟨w.1.size,0,none⟩=some (.pointer (some ⟨p,0,none⟩)):=Grown.cell (T3.cell 0 rfl) zT;have g1:∀u:Grown U,u.to.cell? ⟨f.1.size,0,none⟩=some (.int .i64 M.lvl):=Grown.cell Y.c0 zN;have g2:∀u:Grown U,u.to.cell? ⟨f.1.size,1,none⟩=some (.slice y I c1):=Grown.cell Y.c1 zN;have g3:∀u:Grown U,u.to.cell? ⟨f.1.size,2,none⟩=some (.slice E G F):=Grown.cell Y.c2 zN;clear X
 cases held with
 |true=>
  go_wp2_with fail
  refine q1j 13 (by kernel_rfl) (by kernel_rfl) ?_;simp only[List.take_succ_cons,List.take_zero,List.drop_succ_cons,List.drop_zero];repeat (go_big_quiet_step (first|fail))
  refine wpQuiet_nil ?_;rintro _ ⟨u,rfl⟩;have R4:=R3.below u.ok zR;go_wp2_with (first
   |(refine Nw rfl _ _ rfl (w.1.size+1) rfl M.lvl y I c1 E G F a 0 true true rfl R4 rfl ?_;intro O Rz Tz)
   |fail)
  refine bodyPost_ret (Ak Tryz.results183 rfl (q56 Rz)) rfl ?_;obtain⟨f1,f2⟩:=fin u.to O (K.trans (u.ok.mono K.size)) Tz;exact⟨y,I,c1,E,G,F,rfl,f1,f2⟩
 |false=>
  go_wp2_with fail
  refine q1j 13 (by kernel_rfl) (by kernel_rfl) ?_;simp only[List.take_succ_cons,List.take_zero,List.drop_succ_cons,List.drop_zero];repeat (go_big_quiet_step (first|(go_at_call 38;exact Calls.J6 (Hc.out _ (B3.trans ((Grown.ok _).mono B3.size))))|fail))
  refine wpQuiet_nil ?_;rintro _ ⟨u,rfl⟩;have R4:=R3.below u.ok zR;go_wp2_with (first
   |(refine Nw rfl _ _ rfl (w.1.size+1) rfl M.lvl y I c1 E G F a 0 false r rfl R4 rfl ?_;intro O Rz Tz)
   |fail)
  refine bodyPost_ret (Ak Tryz.results183 rfl (q56 Rz)) rfl ?_;obtain⟨f1,f2⟩:=fin u.to O (K.trans (u.ok.mono K.size)) Tz;exact⟨y,I,c1,E,G,F,rfl,f1,f2⟩
end
