/- The code's edit: bunches, spots and patches are stored and loaded; cut -/
import Derived.Test.YtnnbaihfboacoaaGreatDoorEt25
import Derived.Deep.CutRange
namespace Go.Proofs.YtnnbaihfboacoaaGreatDoor
open Go Go.RowKit Go.Proofs
set_option maxHeartbeats 8000000
set_option maxRecDepth 100000
theorem qag {w:World}{b:Nat}{l:Int}{A B:Option Addr}{n c m d:Nat}(H:NB w b l A n c B m d):(loadVar 127 ⟨b,0,none⟩).run Tryz.prog w=.ok (Xy l A n c B m d) w:=
 run_loadVar_mid w b 0 127 _ _ H.range Tryz.underlying127 rfl (by kernel_rfl)
theorem q2a {f:Array Oper}{e:List Oper}{o:Oper}{a:Act}{w:World}{Q:Exit->Act->World->Prop}(M:o.guard=none)(x y:Operand)(K:o.op=Op.store 127 x y)
  (b:Nat) (U:a.eval x=.pointer (some ⟨b,0,none⟩)) (u:Int) (E:Option Addr) (I c2:Nat) (J:Option Addr) (F G:Nat) (O:a.eval y=Xy u E I c2 J F G) {l:Int} {A B:Option Addr} {n c m d:Nat} (H:NB w b l A n c B m d)
  (R:∀w',NB w' b u E I c2 J F G->Turn (λg=>g=b) w w'->wpList Tryz.prog f Q e (a.put o.dst undef) w'):wpList Tryz.prog f Q (o::e) a w:=
 wpList_store_mid M _ x y K b 0 #[.int .i64 u,.slice E I c2,.slice J F G] U O H.there (by kernel_rfl) (by simp[Value.oneCell'])
  (R _ (H.stored u E I c2 J F G) (Us (S:=λg=>g=b) rfl _ 0 w))
def Ji (l:Int)(A:Option Addr)(n c:Nat)(B:Option Addr)(m d:Nat)(a x:Int)(h s:Bool):List Value:=[.int .i64 l,.slice A n c,.slice B m d,.int .i64 a,.int .i64 x,.bool h,.bool s]
theorem q5m {w:World}{b:Nat}{l:Int}{A B:Option Addr}{n c m d:Nat}{a x:Int}{h s:Bool}(H:RB w b (Ji l A n c B m d a x h s)):(loadVar 129 ⟨b,0,none⟩).run Tryz.prog w=.ok (.agg (Ji l A n c B m d a x h s).toArray) w:=
 run_loadVar_mid w b 0 129 _ _ H.range Tryz.underlying129 rfl (by kernel_rfl)
theorem Oe {f:Array Oper}{e:List Oper}{o:Oper}{a:Act}{w:World}{Q:Exit->Act->World->Prop}(I:o.guard=none)(x y:Operand)(F:o.op=Op.store 129 x y)
  (b:Nat) (M:a.eval x=.pointer (some ⟨b,0,none⟩)) (l:Int) (A:Option Addr) (n c:Nat) (B:Option Addr) (m d:Nat) (u E:Int) (h s:Bool) (J:a.eval y=.agg #[.int .i64 l,.slice A n c,.slice B m d,.int .i64 u,.int .i64 E,.bool h,.bool s]) {r:List Value} (H:RB w b r) (G:r.length=7)
  (K:∀w',RB w' b (Ji l A n c B m d u E h s)->Turn (λg=>g=b) w w'->wpList Tryz.prog f Q e (a.put o.dst undef) w'):wpList Tryz.prog f Q (o::e) a w:=
 wpList_store_mid I _ x y F b 0 (Ji l A n c B m d u E h s).toArray M J (by have:=H.there;rw[G] at this;exact this) (by kernel_rfl) (by simp[Ji,Value.oneCell'])
  (K _ (H.stored (Ji l A n c B m d u E h s) G) (Us (S:=λg=>g=b) rfl _ 0 w))
def Xl (l:Int)(A:Option Addr)(n c:Nat)(B:Option Addr)(m d:Nat)(X:Option Addr)(k kc:Nat)(i j:Int):List Value:=[.int .i64 l,.slice A n c,.slice B m d,.slice X k kc,.int .i64 i,.int .i64 j]
theorem qhz {w:World}{b:Nat}{l:Int}{A B X:Option Addr}{n c m d k kc:Nat}{i j:Int}(H:RB w b (Xl l A n c B m d X k kc i j)):(loadVar 183 ⟨b,0,none⟩).run Tryz.prog w=.ok (.agg (Xl l A n c B m d X k kc i j).toArray) w:=
 run_loadVar_mid w b 0 183 _ _ H.range Tryz.underlying183 rfl (by kernel_rfl)
theorem q8l {f:Array Oper}{e:List Oper}{o:Oper}{a:Act}{w:World}{Q:Exit->Act->World->Prop}(F:o.guard=none)(x y:Operand)(u:o.op=Op.store 183 x y)
  (b:Nat) (J:a.eval x=.pointer (some ⟨b,0,none⟩)) (l:Int) (A:Option Addr) (n c:Nat) (B:Option Addr) (m d:Nat) (X:Option Addr) (k kc:Nat) (i j:Int) (G:a.eval y=.agg #[.int .i64 l,.slice A n c,.slice B m d,.slice X k kc,.int .i64 i,.int .i64 j]) {r:List Value} (H:RB w b r) (E:r.length=6)
  (I:∀w',RB w' b (Xl l A n c B m d X k kc i j)->Turn (λg=>g=b) w w'->wpList Tryz.prog f Q e (a.put o.dst undef) w'):wpList Tryz.prog f Q (o::e) a w:=
 wpList_store_mid F _ x y u b 0 (Xl l A n c B m d X k kc i j).toArray J G (by have:=H.there;rw[E] at this;exact this) (by kernel_rfl) (by simp[Xl,Value.oneCell'])
  (I _ (H.stored (Xl l A n c B m d X k kc i j) E) (Us (S:=λg=>g=b) rfl _ 0 w))
def cutV (l:Int)(A:Option Addr)(n c:Nat)(B:Option Addr)(m d:Nat)(i j:Nat):Value:=if l=0 then Xy l (F8 A c i) (j-i) (c-i) B m d else Xy l A n c (F8 B d i) (j-i) (d-i)
theorem q3o (l:Int)(A:Option Addr)(n c:Nat)(B:Option Addr)(m d:Nat)(i j:Nat)(hi:i<=j)(E:j<=if l=0 then n else m)(hn:n<=c/\c<=maxLen)(hm:m<=d/\d<=maxLen)(w:World) :
  Calls Tryz.prog 107 #[Xy l A n c B m d,.int .i64 (i:Int),.int .i64 (j:Int)] w λe w'=>e=.returned (cutV l A n c B m d i j)/\Below w.1.size w w':=by
 have G:NB ((w.alloc (.cells #[.int .i64 l,.slice A n c,.slice B m d] 127)).alloc (.cells #[.int .i64 0,.slice none 0 0,.slice none 0 0] 127)) w.1.size l A n c B m d:=(NB.new w _ _ _ _ _ _ _ _).below (Qm) (by simp);have H:NB ((w.alloc (.cells #[.int .i64 l,.slice A n c,.slice B m d] 127)).alloc (.cells #[.int .i64 0,.slice none 0 0,.slice none 0 0] 127)) (w.1.size+1) 0 none 0 0 none 0 0:=NB.new2 w _ _ _ _ _ _ _ _ _;have I:Below w.1.size w ((w.alloc (.cells #[.int .i64 l,.slice A n c,.slice B m d] 127)).alloc (.cells #[.int .i64 0,.slice none 0 0,.slice none 0 0] 127)):=(Qm).alloc (by simp) _;unfold cutV;by_cases h:l=0
 ·rw[if_pos h] at E ⊢;have F:(l==0)=true:=by simp[h]
  obtain⟨u,f⟩:∃u,F8 A c i=u:=⟨_,rfl⟩;have y:(if c=i then A else Option.map (λx=>x.add (i*4)) A)=u:=f;rw[f];clear h;unfold Xy;go_enter Tryz.func107,Tryz.ntmps107
  go_wp2;refine bodyPost_ret (Og Tryz.results107 rfl (qag (NB.new2 w _ _ _ _ _ _ _ _ _))) rfl ?_;exact⟨rfl,(Qm).alloc (by simp) _⟩
 ·rw[if_neg h] at E ⊢;have F:(l==0)=false:=by simp[h]
  obtain⟨u,f⟩:∃u,F8 B d i=u:=⟨_,rfl⟩;have y:(if d=i then B else Option.map (λx=>x.add (i*4)) B)=u:=f;rw[f];clear h;unfold Xy;go_enter Tryz.func107,Tryz.ntmps107
  go_wp2;refine bodyPost_ret (Og Tryz.results107 rfl (qag (NB.new2 w _ _ _ _ _ _ _ _ _))) rfl ?_;exact⟨rfl,(Qm).alloc (by simp) _⟩
theorem q7t {Q:World->Prop}{N:Nd}{A B:Option Addr}{n c m d i j:Nat}(h:Jl Q N A n c B m d)(hi:i<=j)(e:j<=if N.lvl=0 then n else m):∃E y F G u f,cutV N.lvl A n c B m d i j=Xy N.lvl E y F G u f/\Jl Q (N.cut i j) E y F G u f/\(N.cut i j).lvl=N.lvl:=by
 unfold cutV;by_cases h0:N.lvl=0
 ·rw[if_pos h0] at e ⊢;exact⟨_,_,_,_,_,_,rfl,qtb h h0 hi e,by unfold Nd.cut;rw[if_pos h0]⟩
 ·rw[if_neg h0] at e ⊢;exact⟨_,_,_,_,_,_,rfl,qtc h h0 hi e,by unfold Nd.cut;rw[if_neg h0]⟩
theorem qg4 (N:Nd)(f:N.fit)(a:Int)(A:Option Addr)(n c:Nat)(B:Option Addr)(m d:Nat)(w:World)(J:Zl w A n c N.items)(U:Zm w B m d N.kids)(_:n<=1000)(_:m<=1000) :
  Calls Tryz.prog 146 #[Xy N.lvl A n c B m d,.int .i64 a] w λe w'=>e=.returned (.agg (⟨N.least,a⟩:Ql).vs.toArray)/\Below w.1.size w w':=by
 have E:NB ((w.alloc (.cells #[.int .i64 N.lvl,.slice A n c,.slice B m d] 127)).alloc (.cells #[.int .i64 0,.int .i64 0,.int .i64 0,.int .i64 0] 81)) w.1.size N.lvl A n c B m d:=(NB.new w _ _ _ _ _ _ _ _).below (Qm) (by simp);have H:RB ((w.alloc (.cells #[.int .i64 N.lvl,.slice A n c,.slice B m d] 127)).alloc (.cells #[.int .i64 0,.int .i64 0,.int .i64 0,.int .i64 0] 81)) (w.1.size+1) Qaw:=by
  have:=RB.new (w.alloc (.cells #[.int .i64 N.lvl,.slice A n c,.slice B m d] 127)) Qaw 81;rwa [World.size_alloc] at this
 have y:Below w.1.size w ((w.alloc (.cells #[.int .i64 N.lvl,.slice A n c,.slice B m d] 127)).alloc (.cells #[.int .i64 0,.int .i64 0,.int .i64 0,.int .i64 0] 81)):=(Qm).alloc (by simp) _;obtain⟨z,G⟩:∃z,N.least=z:=⟨_,rfl⟩;have K:=Lib.hid (λu I=>qix N f z G A n c B m d u (J.below I) (U.below I));rw[G];have c0:=E.c0;have c1:=E.c1;have c2:=E.c2;clear G;unfold Xy;go_enter Tryz.func146,Tryz.ntmps146
 go_wp2_with fail
 generalize ((w.alloc (.cells #[.int .i64 N.lvl,.slice A n c,.slice B m d] 127)).alloc (.cells #[.int .i64 0,.int .i64 0,.int .i64 0,.int .i64 0] 81))=M at E H y c0 c1 c2 ⊢;refine (K.out M y).mono ?_;rintro e w2 ⟨rfl,F⟩;have W:=H.below F H.lt;go_wp2_with (first
  |(refine q3a rfl _ _ rfl (w.1.size+1) rfl ⟨z,a⟩ rfl W rfl ?_;intro Z O Y)
  |fail)
 refine bodyPost_ret (Og Tryz.results146 rfl (q92 O)) rfl ?_;exact⟨rfl,y.trans ((F.mono y.size).trans (Y.below (λk R=>by have:k=w.1.size+1:=R;omega) (by have:=y.size;have:=F.size;omega)))⟩
def Ac (Q:World->Prop)(w:World)(X:Option Addr)(k kc:Nat)(Ns:List Nd):Prop:=
 ∃e,Jf w 3 X k kc e/\e.length=Ns.length/\∀(j:Nat) r N,e[j]?=some r->Ns[j]?=some N->∃A n c B m d,r=Vg N.lvl A n c B m d/\Jl Q N A n c B m d
def Gi (Q:World->Prop)(w:World)(base:Nat)(A:Option Addr)(n c:Nat)(xs:List Qc):Prop:=
 ∃e,Qs w base 68 4 A n c e/\e.length=xs.length/\∀(j:Nat) r x,e[j]?=some r->xs[j]?=some x->∃V p q,r=Yi x.k V p q/\∀w,Q w->Sl w V p q x.v
def Vz (w:World)(base:Nat)(B:Option Addr)(m d:Nat)(ks:List Ql):Prop:=Qs w base 81 4 B m d (ks.map Ql.vs)
section
variable {Q:World->Prop}{w w':World}{base n c m d:Nat}{A B:Option Addr}{xs:List Qc}{ks:List Ql}
theorem Gi.turned {S:Nat->Prop}(h:Gi Q w base A n c xs)(T:Turn S w w')(hA:∀k,q01 A=some k->¬S k):Gi Q w' base A n c xs:=by
 obtain⟨e,h1,h2⟩:=h;exact⟨e,h1.turned T hA,h2⟩
theorem Vz.turned {S:Nat->Prop}(h:Vz w base B m d ks)(T:Turn S w w')(hA:∀k,q01 B=some k->¬S k):Vz w' base B m d ks:=Qs.turned h T hA
theorem Gi.Qa (h:Gi Q w base A n c xs):∀k,q01 A=some k->base<=k/\k<w.1.size:=by
 obtain⟨e,h1,_⟩:=h;exact h1.Qa
theorem Vz.Qa (h:Vz w base B m d ks):∀k,q01 B=some k->base<=k/\k<w.1.size:=Qs.Qa h
theorem Gi.len (h:Gi Q w base A n c xs):xs.length=n:=by
 obtain⟨e,h1,h2,_⟩:=h;rw[<-h2];exact h1.len (by omega)
theorem Vz.len (h:Vz w base B m d ks):ks.length=m:=by
 have:=Qs.len h (by omega);rw[List.length_map] at this;exact this
theorem qtd (Q:World->Prop)(w:World)(base:Nat):Gi Q w base none 0 0 []:=⟨[],q10 _ _ _ _,rfl,λj r x e=>by simp at e⟩
theorem qk0 (w:World)(base:Nat):Vz w base none 0 0 []:=q10 _ _ _ _
theorem qmd (ty:TypeId)(O:Gi Q w base A n c xs)(hq:Q w){B:Option Addr}{m d:Nat}{W:List Qc}(hy:Pv Q B m d W)(hm:W.length=m)(hn:n+m<=100000)(G:base<=w.1.size) :
  ∃H R w',(Builtin.append_ #[26,26] ty #[.slice A n c,.slice B m d]).run Tryz.prog w=.ok (.slice H (n+m) R) w'/\Gi Q w' base H (n+m) R (xs++W)/\Turn (λk=>q01 A=some k) w w'/\(q01 H=q01 A\/q01 H=some w.1.size):=by
 obtain⟨E,h1,h2,h3⟩:=O;obtain⟨F,hr,a1,I⟩:=hy;have hr:=hr w hq;by_cases Z:m=0
 ·subst Z;have a7:W=[]:=List.length_eq_zero_iff.1 hm;subst a7;obtain⟨i,hi,b0,a2,b1⟩:=info_parts Ad.info;refine⟨A,c,w,q2y (P:=Tryz.prog) base 26 ty 68 i 4 Ad.sl hi A n c E.flatten h1.1 B d (by omega) a2,?_,Turn.refl _ _,.inl rfl⟩;rw[List.append_nil];exact⟨E,h1,h2,h3⟩
 ·have one:∀y∈F,∀u∈y,u.oneCell'=true:=λy a6 u hu=>by
   obtain⟨j,U⟩:=List.mem_iff_getElem?.1 a6;have a8:=(List.getElem?_eq_some_iff.1 U).1;obtain⟨V,p,q,e,_⟩:=I j y _ U (List.getElem?_eq_getElem (by omega));subst e;exact q91 _ V p q _ (List.mem_singleton.2 rfl) u hu
  obtain⟨H,R,w',K,M,T,Y,_⟩:=q1w (P:=Tryz.prog) w Ad ty base A n c E h1 B m d F hr (by omega) one (by omega) (by omega) G;refine⟨H,R,w',K,⟨_,M,by rw[List.length_append,List.length_append,h2,a1],λj r x f J=>?_⟩,T,Y⟩;by_cases U:j<E.length
  ·rw[List.getElem?_append_left U] at f;rw[List.getElem?_append_left (by omega)] at J;exact h3 j r x f J
  ·rw[List.getElem?_append_right (by omega)] at f J;rw[<-h2] at J;exact I _ r x f J
theorem qk1 (ty:TypeId)(e:Vz w base A n c ks){B:Option Addr}{m d:Nat}{I:List Ql}(U:Zm w B m d I)(hn:n+m<=100000)(E:base<=w.1.size) :
  ∃F H w',(Builtin.append_ #[73,73] ty #[.slice A n c,.slice B m d]).run Tryz.prog w=.ok (.slice F (n+m) H) w'/\Vz w' base F (n+m) H (ks++I)/\Turn (λk=>q01 A=some k) w w'/\(q01 F=q01 A\/q01 F=some w.1.size):=by
 by_cases K:m=0
 ·subst K;have R:I=[]:=List.length_eq_zero_iff.1 U.len;subst R;obtain⟨i,Y,Z,M,a1⟩:=info_parts Qak.info;refine⟨A,c,w,q2y (P:=Tryz.prog) base 73 ty 81 i 4 Qak.sl Y A n c _ e.1 B d (by omega) M,?_,Turn.refl _ _,.inl rfl⟩;rw[List.append_nil];exact e
 ·have one:∀y∈I.map Ql.vs,∀u∈y,u.oneCell'=true:=λy O u W=>by
   obtain⟨x,_,rfl⟩:=List.mem_map.1 O;simp[Ql.vs] at W;rcases W with rfl|rfl|rfl|rfl<;>rfl
  obtain⟨F,H,w',G,f,T,J,_⟩:=q1w (P:=Tryz.prog) w Qak ty base A n c _ e B m d _ U (by omega) one (by omega) (by omega) E;rw[<-List.map_append] at f;exact⟨F,H,w',G,f,T,J⟩
theorem qi0 {E:Array Oper}{e:List Oper}{o:Oper}{a:Act}{J:Exit->Act->World->Prop}(H:o.guard=none)(M x:Operand)
  (Y:o.op=.call { callee:=.builtin .append,args:=#[M,x],argTypes:=#[26,26] })
  (O:a.eval M=.slice A n c) (F:Gi Q w base A n c xs) (U:Q w)
  {B:Option Addr} {m d:Nat} {I:List Qc} (W:a.eval x=.slice B m d) (R:Pv Q B m d I) (hm:I.length=m) (hn:n+m<=100000) (f:base<=w.1.size)
  (h:∀u G w',Gi Q w' base u (n+m) G (xs++I)->Turn (λk=>q01 A=some k) w w'->(q01 u=q01 A\/q01 u=some w.1.size)->wpList Tryz.prog E J e (a.put o.dst (.slice u (n+m) G)) w'):wpList Tryz.prog E J (o::e) a w:=
 wpList_plain H λK Z=>by
  obtain⟨u,G,w',y,h2,h3,h4⟩:=qmd (ty:=o.type) F U R hm hn f;unfold Oper.wp execOp;simp only[Y,resolve,invoke,builtin,Sem.run_bind,Sem.run_pure,Result.andThen_ok,List.map_toArray,List.map_cons,List.map_nil,O,W,y];exact Z _ _ (h u G w' h2 h3 h4)
theorem qi1 {E:Array Oper}{e:List Oper}{o:Oper}{a:Act}{I:Exit->Act->World->Prop}(H:o.guard=none)(J x:Operand)
  (W:o.op=.call { callee:=.builtin .append,args:=#[J,x],argTypes:=#[73,73] })
  (O:a.eval J=.slice A n c) (F:Vz w base A n c ks)
  {B:Option Addr} {m d:Nat} {M:List Ql} (U:a.eval x=.slice B m d) (R:Zm w B m d M) (hn:n+m<=100000) (f:base<=w.1.size)
  (h:∀u G w',Vz w' base u (n+m) G (ks++M)->Turn (λk=>q01 A=some k) w w'->(q01 u=q01 A\/q01 u=some w.1.size)->wpList Tryz.prog E I e (a.put o.dst (.slice u (n+m) G)) w'):wpList Tryz.prog E I (o::e) a w:=
 wpList_plain H λK Y=>by
  obtain⟨u,G,w',y,h2,h3,Z⟩:=qk1 (ty:=o.type) F R hn f;unfold Oper.wp execOp;simp only[W,resolve,invoke,builtin,Sem.run_bind,Sem.run_pure,Result.andThen_ok,List.map_toArray,List.map_cons,List.map_nil,O,U,y];exact Y _ _ (h u G w' h2 h3 Z)
theorem Ac.below {X:Option Addr}{k kc:Nat}{Ns:List Nd}(h:Ac Q w X k kc Ns)(hb:Below w.1.size w w'):Ac Q w' X k kc Ns:=by
 obtain⟨e,h1,h2⟩:=h;exact⟨e,h1.below hb,h2⟩
theorem Ac.len {X:Option Addr}{k kc:Nat}{Ns:List Nd}(h:Ac Q w X k kc Ns):Ns.length=k:=by
 obtain⟨e,h1,h2,_⟩:=h;rw[<-h2];exact h1.len
theorem Ac.get {X:Option Addr}{k kc:Nat}{Ns:List Nd}(h:Ac Q w X k kc Ns){j:Nat}(hj:j<k):∃g o A n c B m d,X=some ⟨g,o,none⟩/\g<w.1.size/\w.cell? ⟨g,o+j*3,none⟩=some (.int .i64 (U4 Ns j).lvl)/\w.cell? ⟨g,o+j*3+1,none⟩=some (.slice A n c)/\w.cell? ⟨g,o+j*3+2,none⟩=some (.slice B m d)/\Jl Q (U4 Ns j) A n c B m d:=by
 have H:=h.len;obtain⟨f,h1,h2,G⟩:=h;have y:f[j]?=some (f[j]'(by omega)):=List.getElem?_eq_getElem (by omega);obtain⟨A,n,c,B,m,d,e,F⟩:=G j _ _ y (q5e (by omega));obtain⟨g,o,rfl,E,_,u⟩:=h1.2.2.2 j _ y;rw[e] at u;exact⟨g,o,A,n,c,B,m,d,rfl,E,u 0 _ rfl,u 1 _ rfl,u 2 _ rfl,F⟩
end
def Hf (Ns:List Nd)(j:Nat):List Qc:=(Ns.take j).flatMap (·.items)
def Hu (Ns:List Nd)(j:Nat):List Ql:=(Ns.take j).flatMap (·.kids)
theorem qpi {Ns:List Nd}{j:Nat}(h:j<Ns.length):Hf Ns (j+1)=Hf Ns j++(U4 Ns j).items:=by
 have e:=q5e h;rw[List.getElem?_eq_getElem h] at e;unfold Hf;rw[List.take_succ_eq_append_getElem h,List.flatMap_append,Option.some.inj e];simp
theorem qpj {Ns:List Nd}{j:Nat}(h:j<Ns.length):Hu Ns (j+1)=Hu Ns j++(U4 Ns j).kids:=by
 have e:=q5e h;rw[List.getElem?_eq_getElem h] at e;unfold Hu;rw[List.take_succ_eq_append_getElem h,List.flatMap_append,Option.some.inj e];simp
theorem qwf {Ns:List Nd}(j:Nat):(Hf Ns j).length<=(Ns.flatMap (·.items)).length:=by
 conv=>rhs;rw[<-List.take_append_drop j Ns,List.flatMap_append,List.length_append]
 unfold Hf;omega
theorem qwg {Ns:List Nd}(j:Nat):(Hu Ns j).length<=(Ns.flatMap (·.kids)).length:=by
 conv=>rhs;rw[<-List.take_append_drop j Ns,List.flatMap_append,List.length_append]
 unfold Hu;omega
theorem qte {Ns:List Nd}{j:Nat}(h:Ns.length<=j):Hf Ns j=Ns.flatMap (·.items):=by unfold Hf;rw[List.take_of_length_le h]
theorem qtf {Ns:List Nd}{j:Nat}(h:Ns.length<=j):Hu Ns j=Ns.flatMap (·.kids):=by unfold Hu;rw[List.take_of_length_le h]
theorem qy1 {S:Nat->Prop}{w w':World}(J:∀k,S k->k<w.1.size)(O:Below w.1.size w w'){base:Nat}(H:w.1.size<=base){A B:Option Addr}{n c m d:Nat}{l:Int}{its:List Qc}{Bo:List Ql}(F:Gi (Turn S w) w' base A n c its)(E:Vz w' base B m d Bo)(hn:its.length<=60)(hm:Bo.length<=60):Jl (Turn S w') ⟨l,its,Bo⟩ A n c B m d:=by
 have Y:=F.len;have R:=E.len;have U:Turn S w w':=Qv O;have hA:=F.Qa;have hB:=E.Qa;have K:=Qs.Vs E (by omega);obtain⟨I,h1,h2,h3⟩:=F;have M:=h1.Vs (by omega);refine⟨⟨I,λu f=>(h1.turned f λk y G=>by have:=(hA k y).1;have:=J k G;omega).Vs (by omega),h2,λj r x hr Z=>?_⟩,λu f=>Qs.Vs (Qs.turned E f λk y G=>by have:=(hB k y).1;have:=J k G;omega) (by omega),Y,R,⟨by omega,M.cap,M.max⟩,⟨by omega,K.cap,K.max⟩⟩;obtain⟨V,p,q,e,W⟩:=h3 j r x hr Z;exact⟨V,p,q,e,λu f=>W u (U.trans f λk y=>.inl y)⟩
theorem q47 {S:Nat->Prop}{w:World}(hS:∀k,S k->k<w.1.size)(Ns:List Nd)(l:Int)(b7:(U4 Ns 0).lvl=l)(X:Option Addr)(k kc:Nat)(hB:Ac (Turn S w) w X k kc Ns)(hk:1<=k)(d9:k<=100)(hn:(Ns.flatMap (·.items)).length<=60)(hm:(Ns.flatMap (·.kids)).length<=60) :
  Calls Tryz.prog 106 #[.slice X k kc] w λe w'=>∃A n c B m d,e=.returned (Xy l A n c B m d)/\Jl (Turn S w') (Jd l Ns) A n c B m d/\Below w.1.size w w':=by
 have d6:=hB.len;obtain⟨g0,o0,A0,n0,c0,B0,m0,d0,hX,d4,x0,-,-,-⟩:=hB.get (show 0<k by omega);rw[b7] at x0;rw[Nat.zero_mul,Nat.add_zero] at x0;have b0:Below w.1.size w (w.alloc (.cells #[.int .i64 0,.slice none 0 0,.slice none 0 0] 127)):=Qm;have x1:=(b0.cell (p:=⟨g0,o0,none⟩) d4).trans x0;have N1:NB ((w.alloc (.cells #[.int .i64 0,.slice none 0 0,.slice none 0 0] 127)).alloc (.cells #[.int .i64 l,.slice none 0 0,.slice none 0 0] 127)) (w.1.size+1) l none 0 0 none 0 0:=NB.new2 w _ _ _ _ _ _ _ _ _;have R1:NB ((w.alloc (.cells #[.int .i64 0,.slice none 0 0,.slice none 0 0] 127)).alloc (.cells #[.int .i64 l,.slice none 0 0,.slice none 0 0] 127)) w.1.size 0 none 0 0 none 0 0:=(NB.new w _ _ _ _ _ _ _ _).below (Qm) (by simp);have b1:Below w.1.size w ((w.alloc (.cells #[.int .i64 0,.slice none 0 0,.slice none 0 0] 127)).alloc (.cells #[.int .i64 l,.slice none 0 0,.slice none 0 0] 127)):=b0.alloc (by simp) _;have hz:0<k:=by omega
 subst hX;go_enter Tryz.func106,Tryz.ntmps106
 go_wp2_with fail
 generalize ((w.alloc (.cells #[.int .i64 0,.slice none 0 0,.slice none 0 0] 127)).alloc (.cells #[.int .i64 l,.slice none 0 0,.slice none 0 0] 127))=w1 at N1 R1 b1 ⊢;go_loopw [15] (λi wr=>∃(j:Nat) (A:Option Addr) (n c:Nat) (B:Option Addr) (m d:Nat),j<=k/\i=.int .i64 (j:Int)/\NB wr (w.1.size+1) l A n c B m d/\NB wr w.1.size 0 none 0 0 none 0 0/\Gi (Turn S w) wr (w.1.size+2) A n c (Hf Ns j)/\Vz wr (w.1.size+2) B m d (Hu Ns j)/\(∀g,q01 A=some g->q01 B≠some g)/\Below w.1.size w wr) (λi _=>k-(intOf i).toNat)
 case atStart=>exact⟨0,none,0,0,none,0,0,Nat.zero_le _,rfl,N1,R1,qtd _ _ _,qk0 _ _,λg h=>(by cases h),b1⟩
 case round=>
  obtain⟨j,A,n,c,B,m,d,hj,rfl,W,RR,qI,qK,G,hb⟩:=hrel;have zR:=RR.lt;have zN:=W.lt;have O:=qI.Qa;have Z:=qK.Qa;have n1:=W.c1;have n2:=W.c2;by_cases d2:j<k
  ·obtain⟨g,o,Ax,Y,cx,Bx,U,dx,b8,u,y0,y1,y2,y⟩:=(hB.below hb).get d2;obtain⟨h1,h2⟩:g0=g/\o0=o:=by
    injection b8 with h;injection h with h1 h2;exact⟨h1,h2⟩
   subst h1 h2;obtain⟨lv,a6⟩:∃lv,(U4 Ns j).lvl=lv:=⟨_,rfl⟩;rw[a6] at y0;have e1:=qpi (Ns:=Ns) (j:=j) (by omega);have e2:=qpj (Ns:=Ns) (j:=j) (by omega);have a7:=qwf (Ns:=Ns) (j+1);have a8:=qwg (Ns:=Ns) (j+1);have e8:n+Y<=60:=by
    have q1:=qI.len;have q2:=y.ln;rw[e1,List.length_append] at a7;omega
   have e0:m+U<=60:=by
    have q1:=qK.len;have q2:=y.lm;rw[e2,List.length_append] at a8;omega
   clear a7 a8 a6;have K:Below wr.1.size wr (wr.alloc (.cells #[.int .i64 lv,.slice Ax Y cx,.slice Bx U dx] 127)):=Qm;have X2:NB (wr.alloc (.cells #[.int .i64 lv,.slice Ax Y cx,.slice Bx U dx] 127)) wr.1.size lv Ax Y cx Bx U dx:=NB.new wr _ _ _ _ _ _ _ _;have N2:=W.below K W.lt;have b4:=hb.trans (K.mono hb.size);have q2:=qI.turned (Qv (S:=λ_=>False) K) (λ_ _ h=>h);have k2:=qK.turned (Qv (S:=λ_=>False) K) (λ_ _ h=>h);have zs:=hb.size;have d8:=K.size;have x1:=X2.c1;have x2:=X2.c2;have n1:=N2.c1;have n2:=N2.c2;go_wp2_with (first
    |(at_builtin;refine qi0 rfl _ _ rfl rfl q2 (Qv b4) rfl y.its y.ln (by omega) (by omega) ?_;intro A3 c3 w3 q3 R c8
      have e6:=R.size;have d7:∀g,q01 A=some g->w.1.size+2<=g/\g<wr.1.size:=O;have N3:=N2.turned R (λh=>by have:=(O _ h).1;omega);have X3:=X2.turned R (λh=>by have:=(O _ h).2;omega);have k3:=k2.turned R (λg h1 h2=>G g h2 h1);have b3:=(RR.below K RR.lt).turned R (λh=>by have:=(O _ h).1;omega);have c7:=b4.trans (R.below (B:=w.1.size) (λx f=>by have:=(O _ f).1;omega) (by omega));have H:∀g,q01 A3=some g->w.1.size+2<=g:=λg u=>(q3.Qa g u).1
      have E:∀g,q01 A3=some g->q01 B≠some g:=λg u I=>by
       rcases c8 with h|h
       ·exact G g (h▸u) I
       ·rw[h] at u;have h1:=(Z g I).2;injection u with u;omega
      have M:Turn (λg=>g=w.1.size+1) w3 (w3.setCell ⟨w.1.size+1,1,none⟩ (.slice A3 (n+Y) c3)):=Ez (a:=⟨w.1.size+1,1,none⟩) _ rfl;have f1:=N3.fz 1;have p1:=N3.c1;have N4:=N3.set1 A3 (n+Y) c3;have X4:=X3.keep (M.block wr.1.size X3.lt (by show ¬wr.1.size=w.1.size+1;omega));have d1:=b3.keep (M.block w.1.size b3.lt (by show ¬w.1.size=w.1.size+1;omega));have q4:=q3.turned M (λg h1 h2=>by have h2:g=w.1.size+1:=h2;have:=H g h1;omega);have k4:=k3.turned M (λg h1 h2=>by have h2:g=w.1.size+1:=h2;have:=(Z g h1).1;omega);have b5:=c7.trans (M.below (B:=w.1.size) (λx f=>by have f:x=w.1.size+1:=f;omega) (by omega));have e7:=M.size;have u2:=N4.c2;have v2:=X4.c2)
    |(at_builtin;refine qi1 rfl _ _ rfl rfl k4 rfl (y.Bo _ (Qv b5)) (by omega) (by omega) ?_;intro B5 d5 w5 k5 T5 b9
      have e4:=T5.size;have N5:=N4.turned T5 (λh=>by have:=(Z _ h).1;omega);have a2:=d1.turned T5 (λh=>by have:=(Z _ h).1;omega);have q5:=q4.turned T5 (λg h1 h2=>E g h1 h2);have d3:=b5.trans (T5.below (B:=w.1.size) (λx f=>by have:=(Z _ f).1;omega) (by omega));have a1:∀g,q01 B5=some g->w.1.size+2<=g:=λg u=>(k5.Qa g u).1
      have J:∀g,q01 A3=some g->q01 B5≠some g:=λg u I=>by
       rcases b9 with h|h
       ·exact E g u (h▸I)
       ·rw[h] at I;have h1:=(q4.Qa g u).2;injection I with I;omega
      have F:Turn (λg=>g=w.1.size+1) w5 (w5.setCell ⟨w.1.size+1,2,none⟩ (.slice B5 (m+U) d5)):=Ez (a:=⟨w.1.size+1,2,none⟩) _ rfl;have f2:=N5.fz 2;have p2:=N5.c2;have N6:=N5.set2 B5 (m+U) d5;have c6:=a2.keep (F.block w.1.size a2.lt (by show ¬w.1.size=w.1.size+1;omega));have q6:=q5.turned F (λg h1 h2=>by have h2:g=w.1.size+1:=h2;have:=H g h1;omega);have k6:=k5.turned F (λg h1 h2=>by have h2:g=w.1.size+1:=h2;have:=a1 g h1;omega);have c9:=d3.trans (F.below (B:=w.1.size) (λx f=>by have f:x=w.1.size+1:=f;omega) (by omega)))
    |fail)
   rw[<-e1] at q6;rw[<-e2] at k6;exact⟨⟨j+1,A3,_,c3,B5,_,d5,by omega,by go_num,N6,c6,q6,k6,J,c9⟩,by simp[intOf];omega⟩
  ·have e5:j=k:=by omega
   have c0:=W.c0;have eI:=qte (Ns:=Ns) (j:=j) (by omega);have eK:=qtf (Ns:=Ns) (j:=j) (by omega);rw[eI] at qI;rw[eK] at qK;have e3:¬(j:Int)<(k:Int):=by omega
   go_wp2_with (first
    |(refine q2a rfl _ _ rfl w.1.size rfl l A n c B m d rfl RR ?_;intro wz Rz Tz)
    |fail)
   refine bodyPost_ret (Og Tryz.results106 rfl (qag Rz)) rfl ?_;have b6:=hb.trans (Tz.below (B:=w.1.size) (λx f=>by have f:x=w.1.size:=f;omega) (by omega));have qz:=qI.turned Tz (λg h1 h2=>by have h2:g=w.1.size:=h2;have:=(O g h1).1;omega);have kz:=qK.turned Tz (λg h1 h2=>by have h2:g=w.1.size:=h2;have:=(Z g h1).1;omega);exact⟨A,n,c,B,m,d,rfl,qy1 hS b6 (by omega) qz kz hn hm,b6⟩
section
variable {b:Nat}{w w':World}{d p:Nat}{S0 S T:Nat->Prop}{D:DM}{P P':Pl}
theorem Qi.step (H:Qi b w d p S0 S T D P)(R:Pool w' p d S T P')(X:Turn S w w'):Qi b w' d p S0 S T D P':=by
 have u:=X.size;exact⟨H.U8.keep λk e f=>X.block k e (H.apart k f),R,H.sub,H.apart,λk e=>⟨(H.tight k e).1,by have:=(H.tight k e).2;omega⟩⟩
theorem Qi.low (H:Qi b w d p S0 S T D P):∀k,S k->k<w.1.size:=λk e=>(H.tight k (H.Cj k e)).2
theorem Qi.tab (H:Qi b w d p S0 S T D P)(hb:1<b)(ht:Tab w)(X:Turn S w w'):Tab w':=ht.turned X λh=>by have:=(H.tight _ (H.Cj _ h)).1;omega
theorem Qi.less {T':Nat->Prop}(H:Qi b w d p S0 S T' D P)(hT:∀k,T k->T' k)(h0:∀k,S0 k->T k)(h1:∀k,S k->T k):Qi b w d p S0 S T D P:=
 ⟨H.U8,H.pool.mono (λ_ _ h=>h) (λk _ h=>hT k h) h1,h0,H.apart,λk e=>H.tight k (hT k e)⟩
theorem qy2 (H:Qi b w d p S0 S T D P)(u:1<b)(y:Tab w)(a:Int) :
  Calls Tryz.prog 20 #[.pointer (some ⟨p,0,none⟩),.int .i64 a] w λe w'=>e=.returned (.int .i64 (P.C.Y8 a))/\Qi b w' d p S0 S T D ⟨P.S,P.C.ref a,P.L⟩/\Turn S w w'/\Tab w':=
 (qt7 H.pool a).mono λ_ _ ⟨h1,h2,f⟩=>⟨h1,H.step h2 f,f,H.tab u y f⟩
theorem qk2 (H:Qi b w d p S0 S T D P)(u:1<b)(y:Tab w)(a:Int) :
  Calls Tryz.prog 166 #[.pointer (some ⟨p,0,none⟩),.int .i64 a] w λe w'=>e=.returned (.tuple #[.int .i64 (P.C.Ju a),.int .i64 (P.C.Jz a)])/\Qi b w' d p S0 S T D ⟨P.S,P.C.Qy a,P.L⟩/\Turn S w w'/\Tab w':=
 (qm4 H.pool a).mono λ_ _ ⟨h1,h2,f⟩=>⟨h1,H.step h2 f,f,H.tab u y f⟩
def tv (p:Nat):Value:=.agg #[.pointer (some ⟨p,0,none⟩)]
theorem qcj {w:World}{base:Nat}{A:Option Addr}{n c:Nat}{zs:List Int}(h:Qs w base 3 1 A n c (zs.map iv)){j:Nat}(F:j<n):∃g o,A=some ⟨g,o,none⟩/\w.cell? ⟨g,o+j,none⟩=some (.int .i64 (zs.getD j 0)):=by
 have f:=h.Vs (by omega);have y:=f.len;rw[List.length_map] at y;obtain⟨g,o,e,E,_,u⟩:=f.2.2.2 j (iv (zs.getD j 0)) (by
  rw[List.getElem?_map,List.getElem?_eq_getElem (by omega),List.getD_eq_getElem?_getD,List.getElem?_eq_getElem (by omega)];rfl)
 have:=u 0 _ rfl;rw[Nat.mul_one,Nat.add_zero] at this;exact⟨g,o,e,this⟩
theorem qk3 {zs:List Int}{j:Nat}(h:j<zs.length):zs.drop j=zs.getD j 0::zs.drop (j+1):=by
 rw[List.drop_eq_getElem_cons h,List.getD_eq_getElem?_getD,List.getElem?_eq_getElem h];rfl
theorem qpk (H:Qi b w d p S0 S T D P)(hb:1<b)(ht:Tab w)(N:Nd)(W:N.fit)(A:Option Addr)(n c:Nat)(B:Option Addr)(m F:Nat)(J:Jl (Turn S w) N A n c B m F)(hP:Um N.named P=some P') :
  Calls Tryz.prog 137 #[tv p,Xy N.lvl A n c B m F] w λe w'=>e=.returned (.int .i64 0)/\Qi b w' d p S0 S T D P'/\Turn S w w'/\Tab w':=by
 have hS:=H.low;have I:NB ((w.alloc (.cells #[.pointer (some ⟨p,0,none⟩)] 122)).alloc (.cells #[.int .i64 N.lvl,.slice A n c,.slice B m F] 127)) (w.1.size+1) N.lvl A n c B m F:=NB.new2 w _ _ _ _ _ _ _ _ _;have K:RB ((w.alloc (.cells #[.pointer (some ⟨p,0,none⟩)] 122)).alloc (.cells #[.int .i64 N.lvl,.slice A n c,.slice B m F] 127)) w.1.size [.pointer (some ⟨p,0,none⟩)]:=(RB.new w [.pointer (some ⟨p,0,none⟩)] 122).below (Qm) (by simp);have Z:Below w.1.size w ((w.alloc (.cells #[.pointer (some ⟨p,0,none⟩)] 122)).alloc (.cells #[.int .i64 N.lvl,.slice A n c,.slice B m F] 127)):=(Qm).alloc (by simp) _;have c0:=I.c0;have c1:=I.c1;have c2:=I.c2;have hn:=J.hn;have hm:=J.hm;have Hk:=Lib.hid (λu (hu:Below w.1.size w u)=>qc3 N W A n c B m F u (J.its.Zq (Qv hu)) (J.Bo u (Qv hu)) (by omega) (by omega));have HP:=Lib.hid hP;clear hP;unfold Xy tv;go_enter Tryz.func137,Tryz.ntmps137
 go_wp2_with fail
 generalize ((w.alloc (.cells #[.pointer (some ⟨p,0,none⟩)] 122)).alloc (.cells #[.int .i64 N.lvl,.slice A n c,.slice B m F] 127))=w1 at I K Z c0 c1 c2 ⊢;refine (Hk.out w1 Z).mono ?_;rintro e w2 ⟨A2,G,k2,rfl,y,b2⟩;have a6:=Qs.len y (by omega);rw[List.length_map] at a6;have B2:=Z.trans (b2.mono Z.size);have T2:=K.below b2 K.lt;have H2:=H.below B2;have t2:=ht.below B2 ht.1;have X2:Turn S w w2:=Qv B2;have b0:G<=120:=by
  have h1:N.named.length<=N.kids.length+N.items.length:=by
   unfold Nd.named;rw[List.length_append,List.length_map];have:=List.length_filterMap_le Ko N.items;omega
  have:=J.ln;have:=J.lm;omega
 have z1:=I.lt;have a2:∀k,q01 A2=some k->w.1.size<k:=λk hk=>by have:=(y.Qa k hk).1;have:=K.lt;have:=I.lt;omega
 clear c0 c1 c2 I K Z b2 Hk B2;go_wp2_with fail
 go_loopw [12] (λi wr=>∃(j:Nat) (f:Pl),j<=G/\i=.int .i64 (j:Int)/\Um (N.named.drop j) f=some P'/\Qi b wr d p S0 S T D f/\Tab wr/\Turn S w wr/\RB wr w.1.size [.pointer (some ⟨p,0,none⟩)]/\Qs wr (w.1.size+1) 3 1 A2 G k2 (N.named.map iv)) (λi _=>G-(intOf i).toNat)
 case atStart=>exact⟨0,P,Nat.zero_le _,rfl,HP.out,H2,t2,X2,T2,y.less (by omega)⟩
 case round=>
  obtain⟨j,f,hj,rfl,M,Hj,tj,Xj,Tj,E⟩:=hrel;have Y:=Lib.hid M;clear M;by_cases a7:j<G
  ·obtain⟨g,o,hA,y0⟩:=qcj E a7;subst hA;have hd:=qk3 (zs:=N.named) (j:=j) (by omega);obtain⟨z,hz⟩:∃z,N.named.getD j 0=z:=⟨_,rfl⟩;rw[hz] at y0 hd;have HD:=Lib.hid hd;clear hz hd;have q0:=Tj.cell 0 rfl;have hr:f.C.Y8 z=0/\Um (N.named.drop (j+1)) ⟨f.S,f.C.ref z,f.L⟩=some P':=by
    have h:=Y.out;rw[HD.out] at h;have h:(if f.C.Y8 z=0 then Um (N.named.drop (j+1)) ⟨f.S,f.C.ref z,f.L⟩ else none)=some P':=h;split at h
    ·rename_i h0;exact⟨h0,h⟩
    ·cases h
   obtain⟨O,R⟩:=hr;have HR:=Lib.hid R;have Hc:=qy2 Hj hb tj z;rw[O] at Hc;have Hc:=Lib.hid Hc;clear R O;go_wp2_with fail
   refine Hc.out.mono ?_;rintro e w3 ⟨rfl,H3,X3,t3⟩;have T3:=Tj.turned X3 (λh=>by have:=hS _ h;omega);have a1:=Qs.turned E X3 (λk hk hs=>by have:=hS _ hs;have:=a2 k hk;omega);have XX:=Xj.trans X3 λk hk=>.inl hk
   go_wp2;exact⟨⟨j+1,_,by omega,by go_num,HR.out,H3,t3,XX,T3,a1⟩,by simp[intOf];omega⟩
  ·have b3:j=G:=by omega
   have U:f=P':=by
    have h:=Y.out;rw[List.drop_of_length_le (by omega)] at h;exact Option.some.inj h
   subst U;have a8:¬(j:Int)<(G:Int):=by omega
   go_wp2;go_ret;exact⟨rfl,Hj,Xj,tj⟩
theorem qi2 (H:Qi b w d p S0 S T D P)(hb:1<b)(ht:Tab w)(N:Nd)(W:N.fit)(A:Option Addr)(n c:Nat)(B:Option Addr)(m F:Nat)(J:Jl (Turn S w) N A n c B m F)(hP:q3g N.named P=some P') :
  Calls Tryz.prog 138 #[tv p,Xy N.lvl A n c B m F] w λe w'=>e=.returned (.int .i64 0)/\Qi b w' d p S0 S T D P'/\Turn S w w'/\Tab w':=by
 have hS:=H.low;have I:NB ((w.alloc (.cells #[.pointer (some ⟨p,0,none⟩)] 122)).alloc (.cells #[.int .i64 N.lvl,.slice A n c,.slice B m F] 127)) (w.1.size+1) N.lvl A n c B m F:=NB.new2 w _ _ _ _ _ _ _ _ _;have K:RB ((w.alloc (.cells #[.pointer (some ⟨p,0,none⟩)] 122)).alloc (.cells #[.int .i64 N.lvl,.slice A n c,.slice B m F] 127)) w.1.size [.pointer (some ⟨p,0,none⟩)]:=(RB.new w [.pointer (some ⟨p,0,none⟩)] 122).below (Qm) (by simp);have Z:Below w.1.size w ((w.alloc (.cells #[.pointer (some ⟨p,0,none⟩)] 122)).alloc (.cells #[.int .i64 N.lvl,.slice A n c,.slice B m F] 127)):=(Qm).alloc (by simp) _;have c0:=I.c0;have c1:=I.c1;have c2:=I.c2;have hn:=J.hn;have hm:=J.hm;have Hk:=Lib.hid (λu (hu:Below w.1.size w u)=>qc3 N W A n c B m F u (J.its.Zq (Qv hu)) (J.Bo u (Qv hu)) (by omega) (by omega));have HP:=Lib.hid hP;clear hP;unfold Xy tv;go_enter Tryz.func138,Tryz.ntmps138
 go_wp2_with fail
 generalize ((w.alloc (.cells #[.pointer (some ⟨p,0,none⟩)] 122)).alloc (.cells #[.int .i64 N.lvl,.slice A n c,.slice B m F] 127))=w1 at I K Z c0 c1 c2 ⊢;refine (Hk.out w1 Z).mono ?_;rintro e w2 ⟨A2,G,k2,rfl,y,b2⟩;have a6:=Qs.len y (by omega);rw[List.length_map] at a6;have B2:=Z.trans (b2.mono Z.size);have T2:=K.below b2 K.lt;have H2:=H.below B2;have t2:=ht.below B2 ht.1;have X2:Turn S w w2:=Qv B2;have b0:G<=120:=by
  have h1:N.named.length<=N.kids.length+N.items.length:=by
   unfold Nd.named;rw[List.length_append,List.length_map];have:=List.length_filterMap_le Ko N.items;omega
  have:=J.ln;have:=J.lm;omega
 have z1:=I.lt;have a2:∀k,q01 A2=some k->w.1.size<k:=λk hk=>by have:=(y.Qa k hk).1;have:=K.lt;have:=I.lt;omega
 clear c0 c1 c2 I K Z b2 Hk B2;go_wp2_with fail
 go_loopw [13] (λi wr=>∃(j:Nat) (f:Pl),j<=G/\i=.int .i64 (j:Int)/\q3g (N.named.drop j) f=some P'/\Qi b wr d p S0 S T D f/\Tab wr/\Turn S w wr/\RB wr w.1.size [.pointer (some ⟨p,0,none⟩)]/\Qs wr (w.1.size+1) 3 1 A2 G k2 (N.named.map iv)) (λi _=>G-(intOf i).toNat)
 case atStart=>exact⟨0,P,Nat.zero_le _,rfl,HP.out,H2,t2,X2,T2,y.less (by omega)⟩
 case round=>
  obtain⟨j,f,hj,rfl,M,Hj,tj,Xj,Tj,E⟩:=hrel;have Y:=Lib.hid M;clear M;by_cases a7:j<G
  ·obtain⟨g,o,hA,y0⟩:=qcj E a7;subst hA;have hd:=qk3 (zs:=N.named) (j:=j) (by omega);obtain⟨z,hz⟩:∃z,N.named.getD j 0=z:=⟨_,rfl⟩;rw[hz] at y0 hd;have HD:=Lib.hid hd;clear hz hd;have q0:=Tj.cell 0 rfl;have hr:f.C.Jz z=0/\q3g (N.named.drop (j+1)) ⟨f.S,f.C.Qy z,f.L⟩=some P':=by
    have h:=Y.out;rw[HD.out] at h;have h:(if f.C.Jz z=0 then q3g (N.named.drop (j+1)) ⟨f.S,f.C.Qy z,f.L⟩ else none)=some P':=h;split at h
    ·rename_i h0;exact⟨h0,h⟩
    ·cases h
   obtain⟨O,R⟩:=hr;have HR:=Lib.hid R;have Hc:=qk2 Hj hb tj z;rw[O] at Hc;have Hc:=Lib.hid Hc;clear R O;go_wp2_with fail
   refine Hc.out.mono ?_;rintro e w3 ⟨rfl,H3,X3,t3⟩;have T3:=Tj.turned X3 (λh=>by have:=hS _ h;omega);have a1:=Qs.turned E X3 (λk hk hs=>by have:=hS _ hs;have:=a2 k hk;omega);have XX:=Xj.trans X3 λk hk=>.inl hk
   go_wp2;exact⟨⟨j+1,_,by omega,by go_num,HR.out,H3,t3,XX,T3,a1⟩,by simp[intOf];omega⟩
  ·have b3:j=G:=by omega
   have U:f=P':=by
    have h:=Y.out;rw[List.drop_of_length_le (by omega)] at h;exact Option.some.inj h
   subst U;have a8:¬(j:Int)<(G:Int):=by omega
   go_wp2;go_ret;exact⟨rfl,Hj,Xj,tj⟩
end
def Ef (s:Qu)(A:Option Addr)(n c:Nat)(B:Option Addr)(m d:Nat):List Value:=Ji s.N.lvl A n c B m d s.addr (s.next:Int) s.held s.shared
def Vh (s:Qu)(A:Option Addr)(n c:Nat)(B:Option Addr)(m d:Nat):Value:=.agg #[.int .i64 s.N.lvl,.slice A n c,.slice B m d,.int .i64 s.addr,.int .i64 (s.next:Int),.bool s.held,.bool s.shared]
theorem qwh {w w':World}{S:Nat->Prop}(I:∀k,S k->k<w.1.size){M:Nd}{R U:Option Addr}{K c1 G W:Nat}(hn:K<=20)(hm:G<=20)(F:J4 w' w.1.size R K c1 M.items)(H:Qs w' w.1.size 81 4 U G W (M.kids.map Ql.vs)):Jl (Turn S w') M R K c1 U G W:=by
 have l1:=F.Zq.len;have l2:M.kids.length=G:=by have:=Qs.len H (by omega);rw[List.length_map] at this;exact this
 have Z:=F.Zq.bounds;have Y:=Qs.Vs H (by omega);refine⟨?_,λu y=>Qs.Vs (Qs.turned H y λk E f=>by have:=(Qs.Qa H k E).1;have:=I k f;omega) (by omega),l1,l2,⟨by omega,Z.1,Z.2⟩,⟨by omega,Y.cap,Y.max⟩⟩;have hA:=F.Qa;obtain⟨O,h1,h2,h3⟩:=F;refine⟨O,λu y=>(h1.turned y λk E f=>by have:=(hA k E).1;have:=I k f;omega).Vs (by omega),h2,λj r x hr hx=>?_⟩;obtain⟨V,p,q,e,hv,J⟩:=h3 j r x hr hx;exact⟨V,p,q,e,λu y=>hv.turned' y λhl k E f=>by have:=(J hl k E).1;have:=I k f;omega⟩
section
variable {b:Nat}{w w':World}{d p:Nat}{S0 S T:Nat->Prop}{D:DM}{P P':Pl}
theorem q5n (H:Qi b w d p S0 S T D P)(W:1<b)(J:Tab w)(s:Qu)(A:Option Addr)(n c:Nat)(B:Option Addr)(m E:Nat)(u:P.leave s=some P') :
  Calls Tryz.prog 139 #[tv p,Vh s A n c B m E] w λe w'=>e=.returned (.int .i64 0)/\Qi b w' d p S0 S T D P'/\Turn S w w'/\Tab w':=by
 obtain⟨N,f,I,hd,G⟩:=s;have O:RB ((w.alloc (.cells #[.pointer (some ⟨p,0,none⟩)] 122)).alloc (.cells (Ji N.lvl A n c B m E f (I:Int) hd G).toArray 129)) w.1.size [.pointer (some ⟨p,0,none⟩)]:=(RB.new w [.pointer (some ⟨p,0,none⟩)] 122).below (Qm) (by simp);have M:RB ((w.alloc (.cells #[.pointer (some ⟨p,0,none⟩)] 122)).alloc (.cells (Ji N.lvl A n c B m E f (I:Int) hd G).toArray 129)) (w.1.size+1) (Ji N.lvl A n c B m E f (I:Int) hd G):=by
  have:=RB.new (w.alloc (.cells #[.pointer (some ⟨p,0,none⟩)] 122)) (Ji N.lvl A n c B m E f (I:Int) hd G) 129;rwa [World.size_alloc] at this
 have y:Below w.1.size w ((w.alloc (.cells #[.pointer (some ⟨p,0,none⟩)] 122)).alloc (.cells (Ji N.lvl A n c B m E f (I:Int) hd G).toArray 129)):=(Qm).alloc (by simp) _;have y0:=O.cell 0 rfl;have y1:=M.cell 3 rfl;have y3:=M.cell 5 rfl;unfold Pl.leave at u;dsimp only at u;have F:=qk2 (H.below y) W (J.below y J.1) f;have R:=H.below y;have U:=J.below y J.1;unfold tv Vh;dsimp only;unfold Ji at y y3 y1 y0 F R U;clear M O
 cases hd with
 |true=>
  obtain rfl:=Option.some.inj u;clear F;go_enter Tryz.func139,Tryz.ntmps139
  go_wp2;go_ret;exact⟨rfl,R,Qv y,U⟩
 |false=>
  have K:P.C.Jz f=0/\⟨P.S,P.C.Qy f,P.L⟩=P':=by
   rw[if_neg Bool.false_ne_true] at u;split at u
   ·rename_i h;exact⟨h,Option.some.inj u⟩
   ·cases u
  obtain⟨K,rfl⟩:=K;rw[K] at F;have F:=Lib.hid F;clear u K;go_enter Tryz.func139,Tryz.ntmps139
  go_wp2_with fail
  refine F.out.mono ?_;rintro e w2 ⟨rfl,Y,X2,Z⟩;go_wp2;go_ret;exact⟨rfl,Y,(Qv (S:=S) y).trans X2 λk hk=>.inl hk,Z⟩
theorem qg5 (H:Qi b w d p S0 S T D P)(ht:Tab w)(a1:∀a b,P.L a=some b->b.kindOk)(a:Int)(held:Bool)(hE:P.Zh D a=0) :
  Calls Tryz.prog 103 #[tv p,.int .i64 a,.bool held] w λe w'=>∃A n c B m dd,e=.returned (.tuple #[Vh (P.spot D a held) A n c B m dd,.int .i64 0])/\Jl (Turn (λk=>k<w.1.size) w') (P.Qh D a) A n c B m dd/\Below w.1.size w w':=by
 have W:RB ((w.alloc (.cells #[.pointer (some ⟨p,0,none⟩)] 122)).alloc (.cells #[.int .i64 0,.slice none 0 0,.slice none 0 0,.int .i64 0,.int .i64 0,.bool false,.bool false] 129)) w.1.size [.pointer (some ⟨p,0,none⟩)]:=(RB.new w [.pointer (some ⟨p,0,none⟩)] 122).below (Qm) (by simp);have R1:RB ((w.alloc (.cells #[.pointer (some ⟨p,0,none⟩)] 122)).alloc (.cells #[.int .i64 0,.slice none 0 0,.slice none 0 0,.int .i64 0,.int .i64 0,.bool false,.bool false] 129)) (w.1.size+1) (Ji 0 none 0 0 none 0 0 0 0 false false):=by
  have:=RB.new (w.alloc (.cells #[.pointer (some ⟨p,0,none⟩)] 122)) (Ji 0 none 0 0 none 0 0 0 0 false false) 129;rwa [World.size_alloc] at this
 have b1:Below w.1.size w ((w.alloc (.cells #[.pointer (some ⟨p,0,none⟩)] 122)).alloc (.cells #[.int .i64 0,.slice none 0 0,.slice none 0 0,.int .i64 0,.int .i64 0,.bool false,.bool false] 129)):=(Qm).alloc (by simp) _;have y0:=W.cell 0 rfl;have hS:=H.low;obtain⟨M,hM⟩:∃M,P.Qh D a=M:=⟨_,rfl⟩;obtain⟨x,hx⟩:∃x,P.C.get a=x:=⟨_,rfl⟩;have Hn:=λ(u:World) (J:Below w.1.size w u)=>qa5 (H.below J).U8 (H.below J).pool a1 (ht.below J ht.1) a
 rw[hM,hE] at Hn;have Hn:=Lib.hid Hn;have Hc:=Lib.hid (λ(u:World) (J:Below w.1.size w u)=>q5i (H.below J).pool a x hx);obtain⟨r,hr⟩:∃r,decide (1<x)=r:=⟨_,rfl⟩;unfold Pl.spot;rw[hM,hx,hr];clear hx hM hE;unfold tv;go_enter Tryz.func103,Tryz.ntmps103
 go_wp2_with fail
 generalize ((w.alloc (.cells #[.pointer (some ⟨p,0,none⟩)] 122)).alloc (.cells #[.int .i64 0,.slice none 0 0,.slice none 0 0,.int .i64 0,.int .i64 0,.bool false,.bool false] 129))=w1 at W R1 b1 y0 ⊢;refine (Hn.out w1 b1).mono ?_;rintro e f ⟨y,I,c1,E,F,G,rfl,a6,a2,hI,hK,Y⟩;have z1:=R1.lt;have z0:=b1.size;have z2:=Y.size;have hq:Jl (Turn (λk=>k<w1.1.size) f) M y I c1 E F G:=qwh (λk U=>U) a6 a2 hI hK;have B2:=b1.trans (Y.mono b1.size);have K:Below f.1.size f (f.alloc (.cells #[.int .i64 M.lvl,.slice y I c1,.slice E F G] 75)):=Qm;have Z:NB (f.alloc (.cells #[.int .i64 M.lvl,.slice y I c1,.slice E F G] 75)) f.1.size M.lvl y I c1 E F G:=NB.new f _ _ _ _ _ _ _ _;have T3:=(W.below Y W.lt).below K (by have:=W.lt;omega);have R3:=(R1.below Y R1.lt).below K (by omega);have B3:=B2.trans (K.mono B2.size);have fin:∀(u O:World),Below f.1.size f u->Turn (λk=>k=w.1.size+1) u O->Jl (Turn (λk=>k<w.1.size) O) M y I c1 E F G/\Below w.1.size w O:=λu O J T=>by
  have h1:=J.size;refine⟨hq.mono λv hv=>(((Qv (S:=λk=>k<w1.1.size) J).trans T λk U=>.inl (by have:k=w.1.size+1:=U;show k<_;omega)).trans hv λk U=>.inl (by have:k<w.1.size:=U;show k<_;omega)),B2.trans ((J.mono B2.size).trans (T.below (λk U=>by have:k=w.1.size+1:=U;omega) (by omega)))⟩
 clear hI hK hq Y W R1 y0;go_wp2_with fail
 generalize f.alloc (.cells #[.int .i64 M.lvl,.slice y I c1,.slice E F G] 75)=R at K Z T3 R3 B3 ⊢;have zR:=R3.lt;have zN:=Z.lt;have zT:=T3.lt;have zB:=B3.size;have bD:Below R.1.size R R.drew:=(Below.refl _ _).drew;have g0:∀u:Grown R,u.to.cell? ⟨w.1.size,0,none⟩=some (.pointer (some ⟨p,0,none⟩)):=Grown.cell (T3.cell 0 rfl) zT;have g1:∀u:Grown R,u.to.cell? ⟨f.1.size,0,none⟩=some (.int .i64 M.lvl):=Grown.cell Z.c0 zN;have g2:∀u:Grown R,u.to.cell? ⟨f.1.size,1,none⟩=some (.slice y I c1):=Grown.cell Z.c1 zN;have g3:∀u:Grown R,u.to.cell? ⟨f.1.size,2,none⟩=some (.slice E F G):=Grown.cell Z.c2 zN;clear Hn
 cases held with
 |true=>
  go_wp2_with fail
  refine q2c 13 (by kernel_rfl) (by kernel_rfl) ?_;simp only[List.take_succ_cons,List.take_zero,List.drop_succ_cons,List.drop_zero];repeat (go_big_quiet_step (first|fail))
  refine wpQuiet_nil ?_;rintro _ ⟨u,rfl⟩;have R4:=R3.below u.ok zR;go_wp2_with (first
   |(refine Oe rfl _ _ rfl (w.1.size+1) rfl M.lvl y I c1 E F G a 0 true true rfl R4 rfl ?_;intro O Rz Tz)
   |fail)
  refine bodyPost_ret (q16 Tryz.results103 rfl (q5m Rz)) rfl ?_;obtain⟨f1,f2⟩:=fin u.to O (K.trans (u.ok.mono K.size)) Tz;exact⟨y,I,c1,E,F,G,rfl,f1,f2⟩
 |false=>
  go_wp2_with fail
  refine q2c 13 (by kernel_rfl) (by kernel_rfl) ?_;simp only[List.take_succ_cons,List.take_zero,List.drop_succ_cons,List.drop_zero];repeat (go_big_quiet_step (first|(go_at_call 39;exact Calls.Yw (Hc.out _ (B3.trans ((Grown.ok _).mono B3.size))))|fail))
  refine wpQuiet_nil ?_;rintro _ ⟨u,rfl⟩;have R4:=R3.below u.ok zR;go_wp2_with (first
   |(refine Oe rfl _ _ rfl (w.1.size+1) rfl M.lvl y I c1 E F G a 0 false r rfl R4 rfl ?_;intro O Rz Tz)
   |fail)
  refine bodyPost_ret (q16 Tryz.results103 rfl (q5m Rz)) rfl ?_;obtain⟨f1,f2⟩:=fin u.to O (K.trans (u.ok.mono K.size)) Tz;exact⟨y,I,c1,E,F,G,rfl,f1,f2⟩
end
section
def stS (p v:Value):Sem Unit:=Instr.storeAt 129 p v
theorem qe9 (p v:Value):Instr.storeAt 129 p v=stS p v:=rfl
theorem qi3 {w:World}{b:Nat}{r:List Value}(H:RB w b r)(u:r.length=7)(l:Int)(A:Option Addr)(n c:Nat)(B:Option Addr)(m d:Nat)(f e:Int)(h s:Bool) :
  (stS (.pointer (some ⟨b,0,none⟩)) (.agg #[.int .i64 l,.slice A n c,.slice B m d,.int .i64 f,.int .i64 e,.bool h,.bool s])).run Tryz.prog w=.ok () (w.setCells b 0 (Ji l A n c B m d f e h s)):=
 run_storeAt_mid w b 0 129 (Ji l A n c B m d f e h s).toArray (by have:=H.there;rw[u] at this;exact this) (by kernel_rfl) (by simp[Ji,Value.oneCell'])
theorem qea {u v:World}{q:Nat}{r:List Value}(y:Below u.1.size u v)(G:u.1.size<=q)(H:RB v q r)(E:r.length=7)(l:Int)(A:Option Addr)(n c:Nat)(B:Option Addr)(m d:Nat)(e f:Int)(h s:Bool) :
  (stS (.pointer (some ⟨q,0,none⟩)) (.agg #[.int .i64 l,.slice A n c,.slice B m d,.int .i64 e,.int .i64 f,.bool h,.bool s])).run Tryz.prog v=.ok () (v.setCells q 0 (Ji l A n c B m d e f h s))/\RB (v.setCells q 0 (Ji l A n c B m d e f h s)) q (Ji l A n c B m d e f h s)/\
   Turn (λk=>k=q) v (v.setCells q 0 (Ji l A n c B m d e f h s))/\Below u.1.size u (v.setCells q 0 (Ji l A n c B m d e f h s)):=by
 have T:Turn (λk=>k=q) v (v.setCells q 0 (Ji l A n c B m d e f h s)):=Us (S:=λk=>k=q) rfl _ 0 v;exact⟨qi3 H E l A n c B m d e f h s,H.stored _ E,T,y.trans (T.below (λk F=>by have:k=q:=F;omega) y.size)⟩
theorem qeb {B e:Nat}{u y:World}{M:Nd}{A:Option Addr}{n c:Nat}{f:Option Addr}{m d:Nat}(G:Jl (Turn (λk=>k<B) u) M A n c f m d)(X:Turn (λk=>k<B) u y)(H:e<=B):Jl (Turn (λk=>k<e) y) M A n c f m d:=
 G.mono λv E=>X.trans E λk F=>.inl (by have:k<e:=F;show k<B;omega)
abbrev Ud:Obj:=.cells #[.int .i64 0,.slice none 0 0,.slice none 0 0,.int .i64 0,.int .i64 0,.bool false,.bool false] 129
theorem Ih (w:World):RB (w.alloc Ud) w.1.size (Ji 0 none 0 0 none 0 0 0 0 false false):=RB.new w (Ji 0 none 0 0 none 0 0 0 0 false false) 129
attribute [local go_sem ↓] qe9
section
variable {b:Nat}{w w':World}{d p:Nat}{S0 S T:Nat->Prop}{D:DM}{P P':Pl}
theorem qk4 (H:Qi b w d p S0 S T D P)(ht:Tab w)(a8:∀a b,P.L a=some b->b.kindOk)(s:Qu)(A:Option Addr)(n c:Nat)(B:Option Addr)(m F:Nat)(hB:Rw (Turn S w) B m F s.N.kids)(hl:1<=s.N.lvl/\s.N.lvl<8)(i:Nat)(W:P.Wn D s i=true) :
  Calls Tryz.prog 104 #[tv p,Vh s A n c B m F,.int .i64 (i:Int)] w λe w'=>∃A n c B m F,e=.returned (.tuple #[Vh (P.Jj D s i) A n c B m F,.int .i64 0])/\Jl (Turn (λk=>k<w.1.size) w') (P.Jj D s i).N A n c B m F/\Below w.1.size w w':=by
 obtain⟨N,ad,nx,hd,J⟩:=s;obtain⟨k1,k2,k3⟩:=of_decide_eq_true W;unfold Pl.Jj;dsimp only at hB hl k1 k2 k3 ⊢;clear W;have a1:=hB w (Turn.refl _ _);have b2:=a1.len;obtain⟨g,o,rfl,hg,-,-,-,x3⟩:=a1.cell (show i<m by omega);obtain⟨a,ha⟩:∃a,(Qg N.kids i).a=a:=⟨_,rfl⟩;rw[ha] at x3 k2 k3 ⊢;clear a1 hB ha;obtain⟨R,a6⟩:∃R,N.lvl=R:=⟨_,rfl⟩;rw[a6] at hl k3;have T1:RB (((w.alloc (.cells #[.pointer (some ⟨p,0,none⟩)] 122)).alloc (.cells (Ji R A n c (some ⟨g,o,none⟩) m F ad (nx:Int) hd J).toArray 129)).alloc (.cells (Ji 0 none 0 0 none 0 0 0 0 false false).toArray 129)) w.1.size [.pointer (some ⟨p,0,none⟩)]:=(RB.new w [.pointer (some ⟨p,0,none⟩)] 122).below ((Qm).alloc (by simp) _) (by simp);have X1:RB (((w.alloc (.cells #[.pointer (some ⟨p,0,none⟩)] 122)).alloc (.cells (Ji R A n c (some ⟨g,o,none⟩) m F ad (nx:Int) hd J).toArray 129)).alloc (.cells (Ji 0 none 0 0 none 0 0 0 0 false false).toArray 129)) (w.1.size+1) (Ji R A n c (some ⟨g,o,none⟩) m F ad (nx:Int) hd J):=by
  have:=RB.new (w.alloc (.cells #[.pointer (some ⟨p,0,none⟩)] 122)) (Ji R A n c (some ⟨g,o,none⟩) m F ad (nx:Int) hd J) 129;rw[World.size_alloc] at this;exact this.below (Qm) (by simp)
 have R1:RB (((w.alloc (.cells #[.pointer (some ⟨p,0,none⟩)] 122)).alloc (.cells (Ji R A n c (some ⟨g,o,none⟩) m F ad (nx:Int) hd J).toArray 129)).alloc (.cells (Ji 0 none 0 0 none 0 0 0 0 false false).toArray 129)) (w.1.size+2) (Ji 0 none 0 0 none 0 0 0 0 false false):=by
  have:=RB.new ((w.alloc (.cells #[.pointer (some ⟨p,0,none⟩)] 122)).alloc (.cells (Ji R A n c (some ⟨g,o,none⟩) m F ad (nx:Int) hd J).toArray 129)) (Ji 0 none 0 0 none 0 0 0 0 false false) 129;rwa [World.size_alloc,World.size_alloc] at this
 have U:Below w.1.size w (((w.alloc (.cells #[.pointer (some ⟨p,0,none⟩)] 122)).alloc (.cells (Ji R A n c (some ⟨g,o,none⟩) m F ad (nx:Int) hd J).toArray 129)).alloc (.cells (Ji 0 none 0 0 none 0 0 0 0 false false).toArray 129)):=((Qm).alloc (by simp) _).alloc (by simp;omega) _;have Hr:=λ(u:World) (hu:Below w.1.size w u)=>qg5 (H.below hu) (ht.below hu ht.1) a8 a J k2
 unfold Vh Pl.spot tv at Hr;unfold Pl.spot;dsimp only at Hr ⊢;obtain⟨M,hM⟩:∃M,P.Qh D a=M:=⟨_,rfl⟩;obtain⟨r,hr⟩:∃r,(J||decide (1<P.C.get a))=r:=⟨_,rfl⟩;rw[hM,hr] at Hr ⊢;rw[hM] at k3;have Hr:=Lib.hid Hr;have HE:=Lib.hid k3;clear hM hr;unfold tv Vh;dsimp only;rw[a6];unfold Ji at T1 X1 R1 U;have hj:(0:Int)<=(i:Int):=by omega
 have b4:(i:Int)<(m:Int):=by omega
 clear k2 k3;go_enter Tryz.func104,Tryz.ntmps104
 go_wp2_with fail
 generalize (((w.alloc (.cells #[.pointer (some ⟨p,0,none⟩)] 122)).alloc (.cells #[.int .i64 R,.slice A n c,.slice (some ⟨g,o,none⟩) m F,.int .i64 ad,.int .i64 (nx:Int),.bool hd,.bool J] 129)).alloc (.cells #[.int .i64 0,.slice none 0 0,.slice none 0 0,.int .i64 0,.int .i64 0,.bool false,.bool false] 129))=f at T1 X1 R1 U ⊢;have a2:=(U.cell (p:=⟨g,_,none⟩) hg).trans x3;have z1:=R1.lt;have z0:=U.size;have hF:∀u,Below f.1.size f u->u.cell? ⟨w.1.size,0,none⟩=some (.pointer (some ⟨p,0,none⟩))/\u.cell? ⟨w.1.size+1,2,none⟩=some (.slice (some ⟨g,o,none⟩) m F)/\u.cell? ⟨w.1.size+1,6,none⟩=some (.bool J)/\u.cell? ⟨g,o+i*4+3,none⟩=some (.int .i64 a):=λu hu=>
  ⟨(T1.below hu T1.lt).cell 0 rfl,(X1.below hu X1.lt).cell 2 rfl,(X1.below hu X1.lt).cell 6 rfl,(hu.cell (p:=⟨g,_,none⟩) (by show g<_;omega)).trans a2⟩
 have bD:Below f.1.size f f.drew:=(Below.refl _ _).drew;have bA:Below f.1.size f (f.alloc Ud).drew:=(Qm).drew;have QA:RB (f.alloc Ud).drew f.1.size (Ji 0 none 0 0 none 0 0 0 0 false false):=Ih f;go_cut [8,9] from 10 to 24 (λq e wx=>∃(qb:Nat) (A:Option Addr) (n c:Nat) (B:Option Addr) (m F:Nat),q=.pointer (some ⟨qb,0,none⟩)/\e=.int .i64 0/\f.1.size<=qb/\RB wx qb (Ji M.lvl A n c B m F a 0 J r)/\Jl (Turn (λk=>k<f.1.size) wx) M A n c B m F/\Below f.1.size f wx)
 case first=>
  go_region_held3 (λw'=>w'.cell? ⟨w.1.size,0,none⟩=some (.pointer (some ⟨p,0,none⟩))/\w'.cell? ⟨w.1.size+1,2,none⟩=some (.slice (some ⟨g,o,none⟩) m F)/\w'.cell? ⟨w.1.size+1,6,none⟩=some (.bool J)/\w'.cell? ⟨g,o+i*4+3,none⟩=some (.int .i64 a))
   (first|(with_reducible assumption)|(with_reducible exact hF _ bD)|(with_reducible exact hF _ bA)|(with_reducible exact hF _ E)|(with_reducible exact hF _ (E.alloc E.size Ud))|(with_reducible exact a7.out))
   (first
    |(go_at_call 103;(with_reducible refine (Hr.out f.drew (U.trans (bD.mono U.size))).mono ?_);rintro e w3 ⟨A3,n3,c3,B3,Z,d3,rfl,O,y⟩;have E:Below f.1.size f w3:=bD.trans y;have I:=E.alloc E.size Ud;obtain⟨b0,G,Y,K⟩:=qea I E.size (Ih w3) rfl M.lvl A3 n3 c3 B3 Z d3 a 0 J r;have a7:=Lib.hid (hF _ K);have HX:=Lib.hid (And.intro G (And.intro Y (And.intro K (And.intro I y))));clear G Y K I y)
    |(go_at_call 103;(with_reducible refine (Hr.out (f.alloc Ud).drew (U.trans (bA.mono U.size))).mono ?_);rintro e w3 ⟨A3,n3,c3,B3,Z,d3,rfl,O,y⟩;have E:Below f.1.size f w3:=bA.trans (y.mono bA.size);have I:=E;obtain⟨b0,G,Y,K⟩:=qea E (Nat.le_refl _) (QA.below y QA.lt) rfl M.lvl A3 n3 c3 B3 Z d3 a 0 J r;have a7:=Lib.hid (hF _ K);have HX:=Lib.hid (And.intro G (And.intro Y (And.intro K (And.intro I y))));clear G Y K I y)
    |fail)
  ·obtain⟨G,Y,K,I,y⟩:=HX.out;go_wp2_with fail
   go_meet
   refine⟨w3.1.size,A3,n3,c3,B3,Z,d3,rfl,rfl,E.size,G,qeb O ((Qv (S:=λk=>k<f.drew.1.size) ((Below.refl _ _).alloc (Nat.le_refl _) Ud)).trans Y λk W=>.inr (by have:k=w3.1.size:=W;omega)) ?_,K⟩;exact Nat.le_refl _
  ·obtain⟨G,Y,K,I,y⟩:=HX.out;go_wp2_with fail
   go_meet
   have b3:(f.alloc Ud).drew.1.size=f.1.size+1:=by show (f.alloc Ud).1.size=_;simp
   refine⟨f.1.size,A3,n3,c3,B3,Z,d3,rfl,rfl,Nat.le_refl _,G,qeb O (Y.mono λk W=>?_) ?_,K⟩
   ·have:k=f.1.size:=W;show k<(f.alloc Ud).drew.1.size;omega
   ·omega
 case rest=>
  obtain⟨qb,A3,n3,c3,B3,Z,d3,rfl,rfl,b6,G,O,K⟩:=hcut;have XQ:=X1.below K X1.lt;have RR:=R1.below K R1.lt;have e0:=XQ.cell 0 rfl;have f0:=G.cell 0 rfl;have f1:=G.cell 1 rfl;have f2:=G.cell 2 rfl;have f3:=G.cell 3 rfl;have f4:=G.cell 4 rfl;have f5:=G.cell 5 rfl;have f6:=G.cell 6 rfl;have b5:(M.lvl != R-1)=false:=by simp[HE.out]
  have BW:=U.trans (K.mono U.size);clear hF QA bA bD x3 a2;unfold Ji at f0 f1 f2 f3 f4 f5 f6;go_wp2_with (first
   |(refine Oe rfl _ _ rfl (w.1.size+2) rfl M.lvl A3 n3 c3 B3 Z d3 a 0 J r rfl RR rfl ?_;intro wz Rz Tz)
   |fail)
  refine bodyPost_ret (q16 Tryz.results104 rfl (q5m Rz)) rfl ?_;have zz:=K.size;exact⟨A3,n3,c3,B3,Z,d3,rfl,qeb O (Tz.mono λk W=>by have:k=w.1.size+2:=W;show k<f.1.size;omega) z0,BW.trans (Tz.below (λk W=>by have:k=w.1.size+2:=W;omega) BW.size)⟩
end
end
theorem qi4 (w:World)(t:TypeId){s:Nat}(E:0<s)(xs:List (List Value))(e:Array Value)(u:e=xs.flatten.toArray)(y:∀x∈xs,x.length=s)(F:xs.length<=1000):Jf (w.alloc (.cells e t)) s (some ⟨w.1.size,0,none⟩) xs.length xs.length xs:=by
 have h:Qs (w.alloc (.cells e t)) w.1.size t s (some ⟨w.1.size,0,none⟩) xs.length xs.length xs:=by
  have f:=qc9 y;refine⟨⟨f,.inr ⟨w.1.size,xs.length,e,rfl,Nat.le_refl _,heap_alloc_new w _,Nat.le_refl _,by unfold maxLen;omega,?_,?_⟩⟩,y⟩
  ·rw[u];simpa using f
  ·rw[u];show List.take (xs.length*s) xs.flatten=xs.flatten;rw[<-f,List.take_length]
 exact h.Vs E
theorem qpl {Q:World->Prop}{w:World}{X:Option Addr}{k kc:Nat}{Ns:List Nd}{e:List (List Value)}(h:Jf w 3 X k kc e)(u:e.length=Ns.length)(f:∀(j:Nat) r N,e[j]?=some r->Ns[j]?=some N->∃A n c B m d,r=Vg N.lvl A n c B m d/\Jl Q N A n c B m d):Ac Q w X k kc Ns:=⟨e,h,u,f⟩
theorem qi5 {Q:World->Prop}(w:World)(t:TypeId){f e:Nd}{u H G M:Option Addr}{y K c1 c2 E I F J:Nat}(h1:Jl Q f u y c1 G E F)(h2:Jl Q e H K c2 M I J) :
  Ac Q (w.alloc (.cells #[.int .i64 f.lvl,.slice u y c1,.slice G E F,.int .i64 e.lvl,.slice H K c2,.slice M I J] t)) (some ⟨w.1.size,0,none⟩) 2 2 [f,e]:=by
 have:=qi4 w t (s:=3) (by omega) [Vg f.lvl u y c1 G E F,Vg e.lvl H K c2 M I J] _ rfl (by simp[Vg]) (by simp);refine qpl this rfl λj r N R O=>?_
 match j with
 |0=>
  obtain rfl:=Option.some.inj R;obtain rfl:=Option.some.inj O;exact⟨_,_,_,_,_,_,rfl,h1⟩
 |1=>
  obtain rfl:=Option.some.inj R;obtain rfl:=Option.some.inj O;exact⟨_,_,_,_,_,_,rfl,h2⟩
 |j+2=>simp at O
theorem qpm {Q:World->Prop}(w:World)(t:TypeId){y u f:Nd}{E R Y H U I:Option Addr}{n1 K n3 c1 c2 c3 M J G O Z F:Nat}(h1:Jl Q y E n1 c1 H M O)(h2:Jl Q u R K c2 U J Z)(h3:Jl Q f Y n3 c3 I G F) :
  Ac Q (w.alloc (.cells #[.int .i64 y.lvl,.slice E n1 c1,.slice H M O,.int .i64 u.lvl,.slice R K c2,.slice U J Z,.int .i64 f.lvl,.slice Y n3 c3,.slice I G F] t)) (some ⟨w.1.size,0,none⟩) 3 3 [y,u,f]:=by
 have:=qi4 w t (s:=3) (by omega) [Vg y.lvl E n1 c1 H M O,Vg u.lvl R K c2 U J Z,Vg f.lvl Y n3 c3 I G F] _ rfl (by simp[Vg]) (by simp);refine qpl this rfl λj r N W e=>?_
 match j with
 |0=>
  obtain rfl:=Option.some.inj W;obtain rfl:=Option.some.inj e;exact⟨_,_,_,_,_,_,rfl,h1⟩
 |1=>
  obtain rfl:=Option.some.inj W;obtain rfl:=Option.some.inj e;exact⟨_,_,_,_,_,_,rfl,h2⟩
 |2=>
  obtain rfl:=Option.some.inj W;obtain rfl:=Option.some.inj e;exact⟨_,_,_,_,_,_,rfl,h3⟩
 |j+3=>simp at e
def Vj (Q:World->Prop)(w:World)(X:Option Addr)(k kc:Nat)(ss:List Qu):Prop:=
 ∃e,Jf w 7 X k kc e/\e.length=ss.length/\∀(j:Nat) r s,e[j]?=some r->ss[j]?=some s->∃A n c B m d,r=Ef s A n c B m d/\Jl Q s.N A n c B m d
def Y5 (ss:List Qu)(j:Nat):Qu:=ss.getD j q46
theorem qpn {ss:List Qu}{j:Nat}(h:j<ss.length):ss[j]?=some (Y5 ss j):=by simp[Y5,List.getD,h]
section
variable {Q Q':World->Prop}{w w':World}{X:Option Addr}{k kc:Nat}{ss:List Qu}
theorem Vj.len (h:Vj Q w X k kc ss):ss.length=k:=by
 obtain⟨e,h1,h2,_⟩:=h;rw[<-h2];exact h1.len
theorem Vj.below (h:Vj Q w X k kc ss)(hb:Below w.1.size w w'):Vj Q w' X k kc ss:=by
 obtain⟨e,h1,h2⟩:=h;exact⟨e,h1.below hb,h2⟩
theorem Vj.mono (h:Vj Q w X k kc ss)(hq:∀w,Q' w->Q w):Vj Q' w X k kc ss:=by
 obtain⟨f,h1,h2,F⟩:=h;refine⟨f,h1,h2,λj r s u E=>?_⟩;obtain⟨A,n,c,B,m,d,e,y⟩:=F j r s u E;exact⟨A,n,c,B,m,d,e,y.mono hq⟩
theorem Vj.take (h:Vj Q w X k kc ss){j:Nat}(hj:j<=k):Vj Q w X j kc (ss.take j):=by
 obtain⟨u,h1,h2,E⟩:=h;refine⟨u.take j,h1.take hj,by rw[List.length_take,List.length_take,h2],λi r s e f=>?_⟩;rw[List.getElem?_take] at e f;split at e
 ·rename_i y;rw[if_pos y] at f;exact E i r s e f
 ·cases e
theorem Vj.get (h:Vj Q w X k kc ss){j:Nat}(hj:j<k):∃g o A n c B m d,X=some ⟨g,o,none⟩/\g<w.1.size/\w.rangeAt g (o+j*7) (Ef (Y5 ss j) A n c B m d)/\Jl Q (Y5 ss j).N A n c B m d:=by
 have H:=h.len;obtain⟨f,h1,h2,G⟩:=h;have u:f[j]?=some (f[j]'(by omega)):=List.getElem?_eq_getElem (by omega);obtain⟨A,n,c,B,m,d,e,F⟩:=G j _ _ u (qpn (by omega));obtain⟨g,o,rfl,E,_,y⟩:=h1.2.2.2 j _ u;rw[e] at y;exact⟨g,o,A,n,c,B,m,d,rfl,E,y,F⟩
theorem Vj.cap (h:Vj Q w X k kc ss):k<=kc/\kc<=maxLen:=by
 obtain⟨e,h1,_⟩:=h;exact⟨h1.cap,h1.max⟩
end
theorem qg6 {Q:World->Prop}{w:World}{X:Option Addr}{k kc:Nat}{ss:List Qu}(h:Vj Q w X k kc ss)(H:1<=k)(R:k<=1000) :
  Calls Tryz.prog 64 #[.slice X k kc] w λe w'=>∃A n c B m d,e=.returned (Vh (Y5 ss (k-1)) A n c B m d)/\Jl Q (Y5 ss (k-1)).N A n c B m d/\Below w.1.size w w':=by
 obtain⟨g,o,A,n,c,B,m,d,rfl,J,f,E⟩:=h.get (show k-1<k by omega);obtain⟨⟨N,G,I,hd,y⟩,F⟩:∃s,Y5 ss (k-1)=s:=⟨_,rfl⟩;rw[F] at f E ⊢;obtain⟨q,O⟩:∃q,k-1=q:=⟨_,rfl⟩;rw[O] at f;have u:Below w.1.size w (w.alloc Ud):=Qm;have Z:=Ih w;have cell:∀(j:Nat) v,(Ef ⟨N,G,I,hd,y⟩ A n c B m d)[j]?=some v->(w.alloc Ud).cell? ⟨g,o+q*7+j,none⟩=some v:=λj v K=>(u.cell (p:=⟨g,_,none⟩) J).trans (f j v K)
 have Y:=cell 0 _ rfl;have f1:=cell 1 _ rfl;have f2:=cell 2 _ rfl;have f3:=cell 3 _ rfl;have f4:=cell 4 _ rfl;have f5:=cell 5 _ rfl;have f6:=cell 6 _ rfl;rw[Nat.add_zero] at Y;have hw:IntKind.i64.wrap ((k:Int)-1)=(q:Int):=by
  have:(k:Int)-1=(q:Int):=by omega
  rw[this];exact IntWalk.i64_in _ (by omega)
 have hj:(0:Int)<=(q:Int):=by omega
 have U:(q:Int)<(k:Int):=by omega
 clear cell f F h;go_enter Tryz.func64,Tryz.ntmps64
 go_wp2_with (first
  |(refine Oe rfl _ _ rfl w.1.size rfl N.lvl A n c B m d G (I:Int) hd y rfl Z rfl ?_;intro wz M W)
  |fail)
 refine bodyPost_ret (Og Tryz.results64 rfl (q5m M)) rfl ?_;exact⟨A,n,c,B,m,d,rfl,E,u.trans (W.below (λk H=>by have:k=w.1.size:=H;omega) u.size)⟩
