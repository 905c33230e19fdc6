/- The code's edit: bunches, spots and patches are stored and loaded; cut -/
import Derived.Test.YtnjacafcocnicaaGreatDoorDv28
namespace Go.Proofs.YtnjacafcocnicaaGreatDoor
open Go Go.RowKit Go.Proofs Tryz
set_option maxHeartbeats 8000000
set_option maxRecDepth 100000
theorem qbb {w:WD}{b:Nat}{l:Int}{A B:OA}{n c m d:Nat}(H:NB w b l A n c B m d):(loadVar 142 ⟨b,0,none⟩).run prog w=.ok (Ym l A n c B m d) w:=
 run_loadVar_mid w b 0 142 _ _ H.range underlying142 rfl (by kernel_rfl)
theorem q29 {f:Array Oper}{e:List Oper}{o:Oper}{a:Act}{w:WD}{Q:Exit->Act->WD->Prop}(M:o.guard=none)(x y:Operand)(J:o.op=Op.store 142 x y)
  (b:Nat) (O:a.eval x=.pointer (some ⟨b,0,none⟩)) (F:Int) (q:OA) (I c2:Nat) (u:OA) (G E:Nat) (R:a.eval y=Ym F q I c2 u G E) {l:Int} {A B:OA} {n c m d:Nat} (H:NB w b l A n c B m d)
  (K:∀w',NB w' b F q I c2 u G E->Turn (λg=>g=b) w w'->wpList prog f Q e (a.put o.dst undef) w'):wpList prog f Q (o::e) a w:=
 wpList_store_mid M _ x y J b 0 #[.int .i64 F,.slice q I c2,.slice u G E] O R H.there (by kernel_rfl) (by simp[Value.oneCell'])
  (K _ (H.stored F q I c2 u G E) (Vp (S:=λg=>g=b) rfl _ 0 w))
def Jf (l:Int)(A:OA)(n c:Nat)(B:OA)(m d:Nat)(a x:Int)(h s:Bool):LV:=[.int .i64 l,.slice A n c,.slice B m d,.int .i64 a,.int .i64 x,.bool h,.bool s]
theorem q5r {w:WD}{b:Nat}{l:Int}{A B:OA}{n c m d:Nat}{a x:Int}{h s:Bool}(H:RB w b (Jf l A n c B m d a x h s)):(loadVar 144 ⟨b,0,none⟩).run prog w=.ok (.agg (Jf l A n c B m d a x h s).toArray) w:=
 run_loadVar_mid w b 0 144 _ _ H.range underlying144 rfl (by kernel_rfl)
theorem Rf {f:Array Oper}{e:List Oper}{o:Oper}{a:Act}{w:WD}{Q:Exit->Act->WD->Prop}(I:o.guard=none)(x y:Operand)(E:o.op=Op.store 144 x y)
  (b:Nat) (J:a.eval x=.pointer (some ⟨b,0,none⟩)) (l:Int) (A:OA) (n c:Nat) (B:OA) (m d:Nat) (q u:Int) (h s:Bool) (K:a.eval y=.agg #[.int .i64 l,.slice A n c,.slice B m d,.int .i64 q,.int .i64 u,.bool h,.bool s]) {r:LV} (H:RB w b r) (F:r.length=7)
  (G:∀w',RB w' b (Jf l A n c B m d q u h s)->Turn (λg=>g=b) w w'->wpList prog f Q e (a.put o.dst undef) w'):wpList prog f Q (o::e) a w:=
 wpList_store_mid I _ x y E b 0 (Jf l A n c B m d q u h s).toArray J K (by have:=H.there;rw[F] at this;exact this) (by kernel_rfl) (by simp[Jf,Value.oneCell'])
  (G _ (H.stored (Jf l A n c B m d q u h s) F) (Vp (S:=λg=>g=b) rfl _ 0 w))
def Xt (l:Int)(A:OA)(n c:Nat)(B:OA)(m d:Nat)(X:OA)(k kc:Nat)(i j:Int):LV:=[.int .i64 l,.slice A n c,.slice B m d,.slice X k kc,.int .i64 i,.int .i64 j]
theorem qk0 {w:WD}{b:Nat}{l:Int}{A B X:OA}{n c m d k kc:Nat}{i j:Int}(H:RB w b (Xt l A n c B m d X k kc i j)):(loadVar 217 ⟨b,0,none⟩).run prog w=.ok (.agg (Xt l A n c B m d X k kc i j).toArray) w:=
 run_loadVar_mid w b 0 217 _ _ H.range underlying217 rfl (by kernel_rfl)
theorem q9e {f:Array Oper}{e:List Oper}{o:Oper}{a:Act}{w:WD}{Q:Exit->Act->WD->Prop}(F:o.guard=none)(x y:Operand)(q:o.op=Op.store 217 x y)
  (b:Nat) (G:a.eval x=.pointer (some ⟨b,0,none⟩)) (l:Int) (A:OA) (n c:Nat) (B:OA) (m d:Nat) (X:OA) (k kc:Nat) (i j:Int) (I:a.eval y=.agg #[.int .i64 l,.slice A n c,.slice B m d,.slice X k kc,.int .i64 i,.int .i64 j]) {r:LV} (H:RB w b r) (u:r.length=6)
  (E:∀w',RB w' b (Xt l A n c B m d X k kc i j)->Turn (λg=>g=b) w w'->wpList prog f Q e (a.put o.dst undef) w'):wpList prog f Q (o::e) a w:=
 wpList_store_mid F _ x y q b 0 (Xt l A n c B m d X k kc i j).toArray G I (by have:=H.there;rw[u] at this;exact this) (by kernel_rfl) (by simp[Xt,Value.oneCell'])
  (E _ (H.stored (Xt l A n c B m d X k kc i j) u) (Vp (S:=λg=>g=b) rfl _ 0 w))
def cutV (l:Int)(A:OA)(n c:Nat)(B:OA)(m d:Nat)(i j:Nat):Value:=if l=0 then Ym l (Lh A c i) (j-i) (c-i) B m d else Ym l A n c (Lh B d i) (j-i) (d-i)
theorem q3w (l:Int)(A:OA)(n c:Nat)(B:OA)(m d:Nat)(i j:Nat)(hi:i<=j)(y:j<=if l=0 then n else m)(hn:n<=c/\c<=maxLen)(hm:m<=d/\d<=maxLen)(w:WD) :
  Calls prog 133 #[Ym l A n c B m d,.int .i64 (i:Int),.int .i64 (j:Int)] w λe w'=>e=.returned (cutV l A n c B m d i j)/\Below w.1.size w w':=by
 have F:NB ((w.alloc (.cells #[.int .i64 l,.slice A n c,.slice B m d] 142)).alloc (.cells #[.int .i64 0,.slice none 0 0,.slice none 0 0] 142)) w.1.size l A n c B m d:=(NB.new w _ _ _ _ _ _ _ _).below (Qi) (by simp);have G:NB ((w.alloc (.cells #[.int .i64 l,.slice A n c,.slice B m d] 142)).alloc (.cells #[.int .i64 0,.slice none 0 0,.slice none 0 0] 142)) (w.1.size+1) 0 none 0 0 none 0 0:=NB.new2 w _ _ _ _ _ _ _ _ _;have H:Below w.1.size w ((w.alloc (.cells #[.int .i64 l,.slice A n c,.slice B m d] 142)).alloc (.cells #[.int .i64 0,.slice none 0 0,.slice none 0 0] 142)):=(Qi).alloc (by simp) _;unfold cutV;by_cases h:l=0
 ·rw[AA h] at y ⊢;have E:(l==0)=true:=by simp[h]
  obtain⟨q,f⟩:∃q,Lh A c i=q:=⟨_,rfl⟩;have u:(if c=i then A else Option.map (λx=>x.add (i*4)) A)=q:=f;rw[f];clear h;unfold Ym;go_enter func133,ntmps133
  go_wp2;refine bodyPost_ret (Rh Tryz.results133 rfl (qbb (NB.new2 w _ _ _ _ _ _ _ _ _))) rfl ?_;exact⟨rfl,(Qi).alloc (by simp) _⟩
 ·rw[AB h] at y ⊢;have E:(l==0)=false:=by simp[h]
  obtain⟨q,f⟩:∃q,Lh B d i=q:=⟨_,rfl⟩;have u:(if d=i then B else Option.map (λx=>x.add (i*4)) B)=q:=f;rw[f];clear h;unfold Ym;go_enter func133,ntmps133
  go_wp2;refine bodyPost_ret (Rh Tryz.results133 rfl (qbb (NB.new2 w _ _ _ _ _ _ _ _ _))) rfl ?_;exact⟨rfl,(Qi).alloc (by simp) _⟩
theorem q8h {Q:WD->Prop}{N:Nd}{A B:OA}{n c m d i j:Nat}(h:Jm Q N A n c B m d)(hi:i<=j)(e:j<=if N.lvl=0 then n else m):∃f F u q E y,cutV N.lvl A n c B m d i j=Ym N.lvl f F u q E y/\Jm Q (N.cut i j) f F u q E y/\(N.cut i j).lvl=N.lvl:=by
 unfold cutV;by_cases h0:N.lvl=0
 ·rw[AA h0] at e ⊢;exact⟨_,_,_,_,_,_,rfl,qwc h h0 hi e,by unfold Nd.cut;rw[AA h0]⟩
 ·rw[AB h0] at e ⊢;exact⟨_,_,_,_,_,_,rfl,qwd h h0 hi e,by unfold Nd.cut;rw[AB h0]⟩
theorem qhs (N:Nd)(q:N.fit)(a:Int)(A:OA)(n c:Nat)(B:OA)(m d:Nat)(w:WD)(O:J3 w A n c N.items)(R:Zr w B m d N.kids)(_:n<=1000)(_:m<=1000) :
  Calls prog 178 #[Ym N.lvl A n c B m d,.int .i64 a] w λe w'=>e=.returned (.agg (⟨N.least,a⟩:Qn).vs.toArray)/\Below w.1.size w w':=by
 have y:NB ((w.alloc (.cells #[.int .i64 N.lvl,.slice A n c,.slice B m d] 142)).alloc (.cells #[.int .i64 0,.int .i64 0,.int .i64 0,.int .i64 0] 125)) w.1.size N.lvl A n c B m d:=(NB.new w _ _ _ _ _ _ _ _).below (Qi) (by simp);have E:RB ((w.alloc (.cells #[.int .i64 N.lvl,.slice A n c,.slice B m d] 142)).alloc (.cells #[.int .i64 0,.int .i64 0,.int .i64 0,.int .i64 0] 125)) (w.1.size+1) Qbd:=by
  have:=RB.new (w.alloc (.cells #[.int .i64 N.lvl,.slice A n c,.slice B m d] 142)) Qbd 125;rwa [BH] at this
 have f:Below w.1.size w ((w.alloc (.cells #[.int .i64 N.lvl,.slice A n c,.slice B m d] 142)).alloc (.cells #[.int .i64 0,.int .i64 0,.int .i64 0,.int .i64 0] 125)):=(Qi).alloc (by simp) _;obtain⟨z,G⟩:∃z,N.least=z:=⟨_,rfl⟩;have I:=HI (λu H=>qjk N q z G A n c B m d u (O.below H) (R.below H));rw[G];have c0:=y.c0;have c1:=y.c1;have c2:=y.c2;clear G;unfold Ym;go_enter func178,ntmps178
 go_wp2_with fail
 generalize ((w.alloc (.cells #[.int .i64 N.lvl,.slice A n c,.slice B m d] 142)).alloc (.cells #[.int .i64 0,.int .i64 0,.int .i64 0,.int .i64 0] 125))=V at y E f c0 c1 c2 ⊢;refine (I.out V f).mono ?_;rintro e W ⟨rfl,F⟩;have J:=E.below F E.lt;go_wp2_with (first
  |(refine q3h rfl _ _ rfl (w.1.size+1) rfl ⟨z,a⟩ rfl J rfl ?_;intro X K M)
  |fail)
 refine bodyPost_ret (Rh Tryz.results178 rfl (q9t K)) rfl ?_;exact⟨rfl,f.trans ((F.mono f.size).trans (M.below (λk U=>by have:k=w.1.size+1:=U;omega) (by have:=f.size;have:=F.size;omega)))⟩
def Bf (Q:WD->Prop)(w:WD)(X:OA)(k kc:Nat)(Ns:List Nd):Prop:=
 ∃e,Jp w 3 X k kc e/\e.length=Ns.length/\∀(j:Nat) r N,e[j]?=some r->Ns[j]?=some N->∃A n c B m d,r=Uu N.lvl A n c B m d/\Jm Q N A n c B m d
def G9 (Q:WD->Prop)(w:WD)(base:Nat)(A:OA)(n c:Nat)(xs:List Qc):Prop:=
 ∃e,Q8 w base 50 4 A n c e/\e.length=xs.length/\∀(j:Nat) r x,e[j]?=some r->xs[j]?=some x->∃V p q,r=Vx x.k V p q/\∀w,Q w->Sl w V p q x.v
def Us (w:WD)(base:Nat)(B:OA)(m d:Nat)(ks:List Qn):Prop:=Q8 w base 125 4 B m d (ks.map Qn.vs)
section
variable {Q:WD->Prop}{w w':WD}{base n c m d:Nat}{A B:OA}{xs:List Qc}{ks:List Qn}
theorem G9.turned {S:NP}(h:G9 Q w base A n c xs)(T:Turn S w w')(hA:∀k,q01 A=some k->¬S k):G9 Q w' base A n c xs:=by
 obtain⟨e,h1,h2⟩:=h;exact⟨e,h1.turned T hA,h2⟩
theorem Us.turned {S:NP}(h:Us w base B m d ks)(T:Turn S w w')(hA:∀k,q01 B=some k->¬S k):Us w' base B m d ks:=Q8.turned h T hA
theorem G9.Qa (h:G9 Q w base A n c xs):∀k,q01 A=some k->base<=k/\k<w.1.size:=by
 obtain⟨e,h1,_⟩:=h;exact h1.Qa
theorem Us.Qa (h:Us w base B m d ks):∀k,q01 B=some k->base<=k/\k<w.1.size:=Q8.Qa h
theorem G9.len (h:G9 Q w base A n c xs):xs.length=n:=by
 obtain⟨e,h1,h2,_⟩:=h;rw[<-h2];exact h1.len (by omega)
theorem Us.len (h:Us w base B m d ks):ks.length=m:=by
 have:=Q8.len h (by omega);rw[AF] at this;exact this
theorem qwv (Q:WD->Prop)(w:WD)(base:Nat):G9 Q w base none 0 0 []:=⟨[],q0z _ _ _ _,rfl,λj r x e=>by simp at e⟩
theorem qmk (w:WD)(base:Nat):Us w base none 0 0 []:=q0z _ _ _ _
theorem qoz (ty:TypeId)(I:G9 Q w base A n c xs)(hq:Q w){B:OA}{m d:Nat}{W:List Qc}(hy:Tt Q B m d W)(hm:W.length=m)(hn:n+m<=100000)(G:base<=w.1.size) :
  ∃H R w',(Builtin.append_ #[41,41] ty #[.slice A n c,.slice B m d]).run prog w=.ok (.slice H (n+m) R) w'/\G9 Q w' base H (n+m) R (xs++W)/\Turn (λk=>q01 A=some k) w w'/\(q01 H=q01 A\/q01 H=some w.1.size):=by
 obtain⟨E,h1,h2,h3⟩:=I;obtain⟨F,hr,a1,M⟩:=hy;have hr:=hr w hq;by_cases Z:m=0
 ·subst Z;have Y:W=[]:=List.length_eq_zero_iff.1 hm;subst Y;obtain⟨i,hi,a8,a6,b0⟩:=info_parts P7.info;refine⟨A,c,w,q35 (P:=prog) base 41 ty 50 i 4 P7.sl hi A n c E.flatten h1.1 B d (by omega) a6,?_,Turn.refl _ _,.inl rfl⟩;rw[BM];exact⟨E,h1,h2,h3⟩
 ·have one:∀y∈F,∀u∈y,u.oneCell'=true:=λy a2 u hu=>by
   obtain⟨j,U⟩:=List.mem_iff_getElem?.1 a2;have a7:=(List.getElem?_eq_some_iff.1 U).1;obtain⟨V,p,q,e,_⟩:=M j y _ U (AC (by omega));subst e;exact ql5 _ V p q _ (List.mem_singleton.2 rfl) u hu
  obtain⟨H,R,w',J,O,T,X,_⟩:=q2m (P:=prog) w P7 ty base A n c E h1 B m d F hr (by omega) one (by omega) (by omega) G;refine⟨H,R,w',J,⟨_,O,by rw[AD,AD,h2,a1],λj r x f K=>?_⟩,T,X⟩;by_cases U:j<E.length
  ·rw[List.getElem?_append_left U] at f;rw[List.getElem?_append_left (by omega)] at K;exact h3 j r x f K
  ·rw[List.getElem?_append_right (by omega)] at f K;rw[<-h2] at K;exact M _ r x f K
theorem qml (ty:TypeId)(e:Us w base A n c ks){B:OA}{m d:Nat}{H:List Qn}(U:Zr w B m d H)(hn:n+m<=100000)(q:base<=w.1.size) :
  ∃E G w',(Builtin.append_ #[72,72] ty #[.slice A n c,.slice B m d]).run prog w=.ok (.slice E (n+m) G) w'/\Us w' base E (n+m) G (ks++H)/\Turn (λk=>q01 A=some k) w w'/\(q01 E=q01 A\/q01 E=some w.1.size):=by
 by_cases K:m=0
 ·subst K;have J:H=[]:=List.length_eq_zero_iff.1 U.len;subst J;obtain⟨i,hi,V,O,W⟩:=info_parts Qa5.info;refine⟨A,c,w,q35 (P:=prog) base 72 ty 125 i 4 Qa5.sl hi A n c _ e.1 B d (by omega) O,?_,Turn.refl _ _,.inl rfl⟩;rw[BM];exact e
 ·have one:∀y∈H.map Qn.vs,∀u∈y,u.oneCell'=true:=λy M u R=>by
   obtain⟨x,_,rfl⟩:=List.mem_map.1 M;simp[Qn.vs] at R;rcases R with rfl|rfl|rfl|rfl<;>rfl
  obtain⟨E,G,w',F,f,T,I,_⟩:=q2m (P:=prog) w Qa5 ty base A n c _ e B m d _ U (by omega) one (by omega) (by omega) q;rw[<-List.map_append] at f;exact⟨E,G,w',F,f,T,I⟩
theorem qk1 {E:Array Oper}{e:List Oper}{o:Oper}{a:Act}{I:Exit->Act->WD->Prop}(G:o.guard=none)(J x:Operand)
  (U:o.op=.call { callee:=.builtin .append,args:=#[J,x],argTypes:=#[41,41] })
  (W:a.eval J=.slice A n c) (u:G9 Q w base A n c xs) (V:Q w)
  {B:OA} {m d:Nat} {H:List Qc} (X:a.eval x=.slice B m d) (Y:Tt Q B m d H) (hm:H.length=m) (hn:n+m<=100000) (f:base<=w.1.size)
  (h:∀q F w',G9 Q w' base q (n+m) F (xs++H)->Turn (λk=>q01 A=some k) w w'->(q01 q=q01 A\/q01 q=some w.1.size)->wpList prog E I e (a.put o.dst (.slice q (n+m) F)) w'):wpList prog E I (o::e) a w:=
 wpList_plain G λK R=>by
  obtain⟨q,F,w',y,h2,M,O⟩:=qoz (ty:=o.type) u V Y hm hn f;unfold Oper.wp execOp;simp only[U,resolve,invoke,builtin,Sem.run_bind,Sem.run_pure,Result.andThen_ok,List.map_toArray,BJ,List.map_nil,W,X,y];exact R _ _ (h q F w' h2 M O)
theorem qk2 {E:Array Oper}{e:List Oper}{o:Oper}{a:Act}{H:Exit->Act->WD->Prop}(G:o.guard=none)(J x:Operand)
  (U:o.op=.call { callee:=.builtin .append,args:=#[J,x],argTypes:=#[72,72] })
  (V:a.eval J=.slice A n c) (u:Us w base A n c ks)
  {B:OA} {m d:Nat} {I:List Qn} (W:a.eval x=.slice B m d) (X:Zr w B m d I) (hn:n+m<=100000) (f:base<=w.1.size)
  (h:∀q F w',Us w' base q (n+m) F (ks++I)->Turn (λk=>q01 A=some k) w w'->(q01 q=q01 A\/q01 q=some w.1.size)->wpList prog E H e (a.put o.dst (.slice q (n+m) F)) w'):wpList prog E H (o::e) a w:=
 wpList_plain G λK R=>by
  obtain⟨q,F,w',y,h2,M,O⟩:=qml (ty:=o.type) u X hn f;unfold Oper.wp execOp;simp only[U,resolve,invoke,builtin,Sem.run_bind,Sem.run_pure,Result.andThen_ok,List.map_toArray,BJ,List.map_nil,V,W,y];exact R _ _ (h q F w' h2 M O)
theorem Bf.below {X:OA}{k kc:Nat}{Ns:List Nd}(h:Bf Q w X k kc Ns)(hb:Below w.1.size w w'):Bf Q w' X k kc Ns:=by
 obtain⟨e,h1,h2⟩:=h;exact⟨e,h1.below hb,h2⟩
theorem Bf.len {X:OA}{k kc:Nat}{Ns:List Nd}(h:Bf Q w X k kc Ns):Ns.length=k:=by
 obtain⟨e,h1,h2,_⟩:=h;rw[<-h2];exact h1.len
theorem Bf.get {X:OA}{k kc:Nat}{Ns:List Nd}(h:Bf Q w X k kc Ns){j:Nat}(hj:j<k):∃g o A n c B m d,X=some ⟨g,o,none⟩/\g<w.1.size/\w.cell? ⟨g,o+j*3,none⟩=some (.int .i64 (Bo Ns j).lvl)/\w.cell? ⟨g,o+j*3+1,none⟩=some (.slice A n c)/\w.cell? ⟨g,o+j*3+2,none⟩=some (.slice B m d)/\Jm Q (Bo Ns j) A n c B m d:=by
 have G:=h.len;obtain⟨f,h1,h2,y⟩:=h;have u:f[j]?=some (f[j]'(by omega)):=AC (by omega);obtain⟨A,n,c,B,m,d,e,E⟩:=y j _ _ u (q6w (by omega));obtain⟨g,o,rfl,F,_,q⟩:=h1.2.2.2 j _ u;rw[e] at q;exact⟨g,o,A,n,c,B,m,d,rfl,F,q 0 _ rfl,q 1 _ rfl,q 2 _ rfl,E⟩
end
def Ls (Ns:List Nd)(j:Nat):List Qc:=(Ns.take j).flatMap (·.items)
def Lu (Ns:List Nd)(j:Nat):List Qn:=(Ns.take j).flatMap (·.kids)
theorem qsq {Ns:List Nd}{j:Nat}(h:j<Ns.length):Ls Ns (j+1)=Ls Ns j++(Bo Ns j).items:=by
 have e:=q6w h;rw[AC h] at e;unfold Ls;rw[List.take_succ_eq_append_getElem h,List.flatMap_append,OI e];simp
theorem qsr {Ns:List Nd}{j:Nat}(h:j<Ns.length):Lu Ns (j+1)=Lu Ns j++(Bo Ns j).kids:=by
 have e:=q6w h;rw[AC h] at e;unfold Lu;rw[List.take_succ_eq_append_getElem h,List.flatMap_append,OI e];simp
theorem qAm {Ns:List Nd}(j:Nat):(Ls Ns j).length<=(Ns.flatMap (·.items)).length:=by
 conv=>rhs;rw[<-AV j Ns,List.flatMap_append,AD]
 unfold Ls;omega
theorem qAn {Ns:List Nd}(j:Nat):(Lu Ns j).length<=(Ns.flatMap (·.kids)).length:=by
 conv=>rhs;rw[<-AV j Ns,List.flatMap_append,AD]
 unfold Lu;omega
theorem qww {Ns:List Nd}{j:Nat}(h:Ns.length<=j):Ls Ns j=Ns.flatMap (·.items):=by unfold Ls;rw[AN h]
theorem qwx {Ns:List Nd}{j:Nat}(h:Ns.length<=j):Lu Ns j=Ns.flatMap (·.kids):=by unfold Lu;rw[AN h]
theorem qCe {S:NP}{w w':WD}(J:∀k,S k->k<w.1.size)(X:Below w.1.size w w'){base:Nat}(G:w.1.size<=base){A B:OA}{n c m d:Nat}{l:Int}{its:List Qc}{Ef:List Qn}(F:G9 (Turn S w) w' base A n c its)(E:Us w' base B m d Ef)(hn:its.length<=60)(hm:Ef.length<=60):Jm (Turn S w') ⟨l,its,Ef⟩ A n c B m d:=by
 have l1:=F.len;have l2:=E.len;have W:Turn S w w':=Qz X;have R:=F.Qa;have U:=E.Qa;have M:=Q8.Gn E (by omega);obtain⟨I,h1,h2,O⟩:=F;have K:=h1.Gn (by omega);refine⟨⟨I,λu y=>(h1.turned y λk f H=>by have:=(R k f).1;have:=J k H;omega).Gn (by omega),h2,λj r x Y hx=>?_⟩,λu y=>Q8.Gn (Q8.turned E y λk f H=>by have:=(U k f).1;have:=J k H;omega) (by omega),l1,l2,⟨by omega,K.cap,K.max⟩,⟨by omega,M.cap,M.max⟩⟩;obtain⟨V,p,q,e,Z⟩:=O j r x Y hx;exact⟨V,p,q,e,λu y=>Z u (W.trans y λk f=>.inl f)⟩
theorem q4e {S:NP}{w:WD}(hS:∀k,S k->k<w.1.size)(Ns:List Nd)(l:Int)(d3:(Bo Ns 0).lvl=l)(X:OA)(k kc:Nat)(hB:Bf (Turn S w) w X k kc Ns)(hk:1<=k)(e0:k<=100)(hn:(Ns.flatMap (·.items)).length<=60)(hm:(Ns.flatMap (·.kids)).length<=60) :
  Calls prog 132 #[.slice X k kc] w λe w'=>∃A n c B m d,e=.returned (Ym l A n c B m d)/\Jm (Turn S w') (Jb l Ns) A n c B m d/\Below w.1.size w w':=by
 have d6:=hB.len;obtain⟨g0,o0,A0,n0,c0,B0,m0,d0,hX,d2,x0,-,-,-⟩:=hB.get (show 0<k by omega);rw[d3] at x0;rw[Nat.zero_mul,Nat.add_zero] at x0;have b0:Below w.1.size w (w.alloc (.cells #[.int .i64 0,.slice none 0 0,.slice none 0 0] 142)):=Qi;have x1:=(b0.cell (p:=⟨g0,o0,none⟩) d2).trans x0;have N1:NB ((w.alloc (.cells #[.int .i64 0,.slice none 0 0,.slice none 0 0] 142)).alloc (.cells #[.int .i64 l,.slice none 0 0,.slice none 0 0] 142)) (w.1.size+1) l none 0 0 none 0 0:=NB.new2 w _ _ _ _ _ _ _ _ _;have R1:NB ((w.alloc (.cells #[.int .i64 0,.slice none 0 0,.slice none 0 0] 142)).alloc (.cells #[.int .i64 l,.slice none 0 0,.slice none 0 0] 142)) w.1.size 0 none 0 0 none 0 0:=(NB.new w _ _ _ _ _ _ _ _).below (Qi) (by simp);have b1:Below w.1.size w ((w.alloc (.cells #[.int .i64 0,.slice none 0 0,.slice none 0 0] 142)).alloc (.cells #[.int .i64 l,.slice none 0 0,.slice none 0 0] 142)):=b0.alloc (by simp) _;have hz:0<k:=by omega
 subst hX;go_enter func132,ntmps132
 go_wp2_with fail
 generalize ((w.alloc (.cells #[.int .i64 0,.slice none 0 0,.slice none 0 0] 142)).alloc (.cells #[.int .i64 l,.slice none 0 0,.slice none 0 0] 142))=w1 at N1 R1 b1 ⊢;go_loopw [15] (λi wr=>∃(j:Nat) (A:OA) (n c:Nat) (B:OA) (m d:Nat),j<=k/\i=.int .i64 (j:Int)/\NB wr (w.1.size+1) l A n c B m d/\NB wr w.1.size 0 none 0 0 none 0 0/\G9 (Turn S w) wr (w.1.size+2) A n c (Ls Ns j)/\Us wr (w.1.size+2) B m d (Lu Ns j)/\(∀g,q01 A=some g->q01 B≠some g)/\Below w.1.size w wr) (λi _=>k-(intOf i).toNat)
 case atStart=>exact⟨0,none,0,0,none,0,0,AW _,rfl,N1,R1,qwv _ _ _,qmk _ _,λg h=>(by cases h),b1⟩
 case round=>
  obtain⟨j,A,n,c,B,m,d,hj,rfl,K,RR,qI,qK,G,hb⟩:=hrel;have zR:=RR.lt;have zN:=K.lt;have Y:=qI.Qa;have W:=qK.Qa;have n1:=K.c1;have n2:=K.c2;by_cases d4:j<k
  ·obtain⟨g,o,Ax,V,cx,Bx,U,dx,c7,f,y0,y1,y2,u⟩:=(hB.below hb).get d4;obtain⟨h1,h2⟩:g0=g/\o0=o:=by
    injection c7 with h;injection h with h1 h2;exact⟨h1,h2⟩
   subst h1 h2;obtain⟨lv,b6⟩:∃lv,(Bo Ns j).lvl=lv:=⟨_,rfl⟩;rw[b6] at y0;have e1:=qsq (Ns:=Ns) (j:=j) (by omega);have e2:=qsr (Ns:=Ns) (j:=j) (by omega);have b4:=qAm (Ns:=Ns) (j+1);have b5:=qAn (Ns:=Ns) (j+1);have e3:n+V<=60:=by
    have q1:=qI.len;have q2:=u.ln;rw[e1,AD] at b4;omega
   have e4:m+U<=60:=by
    have q1:=qK.len;have q2:=u.lm;rw[e2,AD] at b5;omega
   clear b4 b5 b6;have R:Below wr.1.size wr (wr.alloc (.cells #[.int .i64 lv,.slice Ax V cx,.slice Bx U dx] 142)):=Qi;have X2:NB (wr.alloc (.cells #[.int .i64 lv,.slice Ax V cx,.slice Bx U dx] 142)) wr.1.size lv Ax V cx Bx U dx:=NB.new wr _ _ _ _ _ _ _ _;have N2:=K.below R K.lt;have a7:=hb.trans (R.mono hb.size);have q2:=qI.turned (Qz (S:=λ_=>False) R) (λ_ _ h=>h);have k2:=qK.turned (Qz (S:=λ_=>False) R) (λ_ _ h=>h);have zs:=hb.size;have e5:=R.size;have x1:=X2.c1;have x2:=X2.c2;have n1:=N2.c1;have n2:=N2.c2;go_wp2_with (first
    |(at_builtin;refine qk1 rfl _ _ rfl rfl q2 (Qz a7) rfl u.its u.ln (by omega) (by omega) ?_;intro J c3 w3 q3 M b9
      have e6:=M.size;have d7:∀g,q01 A=some g->w.1.size+2<=g/\g<wr.1.size:=Y;have N3:=N2.turned M (λh=>by have:=(Y _ h).1;omega);have X3:=X2.turned M (λh=>by have:=(Y _ h).2;omega);have k3:=k2.turned M (λg h1 h2=>G g h2 h1);have a1:=(RR.below R RR.lt).turned M (λh=>by have:=(Y _ h).1;omega);have c8:=a7.trans (M.below (B:=w.1.size) (λx q=>by have:=(Y _ q).1;omega) (by omega));have F:∀g,q01 J=some g->w.1.size+2<=g:=λg f=>(q3.Qa g f).1
      have y:∀g,q01 J=some g->q01 B≠some g:=λg f I=>by
       rcases b9 with h|h
       ·exact G g (h▸f) I
       ·rw[h] at f;have h1:=(W g I).2;injection f with f;omega
      have O:Turn (λg=>g=w.1.size+1) w3 (w3.setCell ⟨w.1.size+1,1,none⟩ (.slice J (n+V) c3)):=Gw (a:=⟨w.1.size+1,1,none⟩) _ rfl;have f1:=N3.fz 1;have p1:=N3.c1;have N4:=N3.set1 J (n+V) c3;have X4:=X3.keep (O.block wr.1.size X3.lt (by show ¬wr.1.size=w.1.size+1;omega));have b7:=a1.keep (O.block w.1.size a1.lt (by show ¬w.1.size=w.1.size+1;omega));have q4:=q3.turned O (λg h1 h2=>by have h2:g=w.1.size+1:=h2;have:=F g h1;omega);have k4:=k3.turned O (λg h1 h2=>by have h2:g=w.1.size+1:=h2;have:=(W g h1).1;omega);have a8:=c8.trans (O.below (B:=w.1.size) (λx q=>by have q:x=w.1.size+1:=q;omega) (by omega));have e7:=O.size;have u2:=N4.c2;have v2:=X4.c2)
    |(at_builtin;refine qk2 rfl _ _ rfl rfl k4 rfl (u.Ef _ (Qz a8)) (by omega) (by omega) ?_;intro Z d5 w5 k5 T5 c6
      have e8:=T5.size;have N5:=N4.turned T5 (λh=>by have:=(W _ h).1;omega);have a2:=b7.turned T5 (λh=>by have:=(W _ h).1;omega);have q5:=q4.turned T5 (λg h1 h2=>y g h1 h2);have c9:=a8.trans (T5.below (B:=w.1.size) (λx q=>by have:=(W _ q).1;omega) (by omega));have a6:∀g,q01 Z=some g->w.1.size+2<=g:=λg f=>(k5.Qa g f).1
      have H:∀g,q01 J=some g->q01 Z≠some g:=λg f I=>by
       rcases c6 with h|h
       ·exact y g f (h▸I)
       ·rw[h] at I;have h1:=(q4.Qa g f).2;injection I with I;omega
      have E:Turn (λg=>g=w.1.size+1) w5 (w5.setCell ⟨w.1.size+1,2,none⟩ (.slice Z (m+U) d5)):=Gw (a:=⟨w.1.size+1,2,none⟩) _ rfl;have f2:=N5.fz 2;have p2:=N5.c2;have N6:=N5.set2 Z (m+U) d5;have b8:=a2.keep (E.block w.1.size a2.lt (by show ¬w.1.size=w.1.size+1;omega));have q6:=q5.turned E (λg h1 h2=>by have h2:g=w.1.size+1:=h2;have:=F g h1;omega);have k6:=k5.turned E (λg h1 h2=>by have h2:g=w.1.size+1:=h2;have:=a6 g h1;omega);have d1:=c9.trans (E.below (B:=w.1.size) (λx q=>by have q:x=w.1.size+1:=q;omega) (by omega)))
    |fail)
   rw[<-e1] at q6;rw[<-e2] at k6;exact⟨⟨j+1,J,_,c3,Z,_,d5,by omega,by go_num,N6,b8,q6,k6,H,d1⟩,by simp[intOf];omega⟩
  ·have d9:j=k:=by omega
   have c0:=K.c0;have eI:=qww (Ns:=Ns) (j:=j) (by omega);have eK:=qwx (Ns:=Ns) (j:=j) (by omega);rw[eI] at qI;rw[eK] at qK;have d8:¬(j:Int)<(k:Int):=by omega
   go_wp2_with (first
    |(refine q29 rfl _ _ rfl w.1.size rfl l A n c B m d rfl RR ?_;intro wz Rz Tz)
    |fail)
   refine bodyPost_ret (Rh Tryz.results132 rfl (qbb Rz)) rfl ?_;have b3:=hb.trans (Tz.below (B:=w.1.size) (λx q=>by have q:x=w.1.size:=q;omega) (by omega));have qz:=qI.turned Tz (λg h1 h2=>by have h2:g=w.1.size:=h2;have:=(Y g h1).1;omega);have kz:=qK.turned Tz (λg h1 h2=>by have h2:g=w.1.size:=h2;have:=(W g h1).1;omega);exact⟨A,n,c,B,m,d,rfl,qCe hS b3 (by omega) qz kz hn hm,b3⟩
section
variable {b:Nat}{w w':WD}{d p:Nat}{S0 S T:NP}{D:DM}{P P':Pl}
theorem Ql.step (H:Ql b w d p S0 S T D P)(R:Pool w' p d S T P')(X:Turn S w w'):Ql b w' d p S0 S T D P':=by
 have q:=X.size;exact⟨H.Aq.keep λk e f=>X.block k e (H.apart k f),R,H.sub,H.apart,λk e=>⟨(H.tight k e).1,by have:=(H.tight k e).2;omega⟩⟩
theorem Ql.low (H:Ql b w d p S0 S T D P):∀k,S k->k<w.1.size:=λk e=>(H.tight k (H.Dz k e)).2
theorem Ql.tab (H:Ql b w d p S0 S T D P)(hb:1<b)(ht:Tab w)(X:Turn S w w'):Tab w':=ht.turned X λh=>by have:=(H.tight _ (H.Dz _ h)).1;omega
theorem Ql.less {T':NP}(H:Ql b w d p S0 S T' D P)(hT:∀k,T k->T' k)(h0:∀k,S0 k->T k)(h1:∀k,S k->T k):Ql b w d p S0 S T D P:=
 ⟨H.Aq,H.pool.mono (λ_ _ h=>h) (λk _ h=>hT k h) h1,h0,H.apart,λk e=>H.tight k (hT k e)⟩
theorem qCf (H:Ql b w d p S0 S T D P)(q:1<b)(u:Tab w)(a:Int) :
  Calls prog 192 #[.pointer (some ⟨p,0,none⟩),.int .i64 a] w λe w'=>e=.returned (.int .i64 (P.C.Wn a))/\Ql b w' d p S0 S T D ⟨P.S,P.C.ref a,P.L⟩/\Turn S w w'/\Tab w':=
 (qw8 H.pool a).mono λ_ _ ⟨h1,h2,f⟩=>⟨h1,H.step h2 f,f,H.tab q u f⟩
theorem qmm (H:Ql b w d p S0 S T D P)(q:1<b)(u:Tab w)(a:Int) :
  Calls prog 193 #[.pointer (some ⟨p,0,none⟩),.int .i64 a] w λe w'=>e=.returned (.tuple #[.int .i64 (P.C.J6 a),.int .i64 (P.C.Jw a)])/\Ql b w' d p S0 S T D ⟨P.S,P.C.Qw a,P.L⟩/\Turn S w w'/\Tab w':=
 (qoi H.pool a).mono λ_ _ ⟨h1,h2,f⟩=>⟨h1,H.step h2 f,f,H.tab q u f⟩
def tv (p:Nat):Value:=.agg #[.pointer (some ⟨p,0,none⟩)]
theorem qdn {w:WD}{base:Nat}{A:OA}{n c:Nat}{zs:LI}(h:Q8 w base 3 1 A n c (zs.map iv)){j:Nat}(E:j<n):∃g o,A=some ⟨g,o,none⟩/\w.cell? ⟨g,o+j,none⟩=some (.int .i64 (zs.getD j 0)):=by
 have f:=h.Gn (by omega);have q:=f.len;rw[AF] at q;obtain⟨g,o,e,y,_,u⟩:=f.2.2.2 j (iv (zs.getD j 0)) (by
  rw[BA,AC (by omega),AG,AC (by omega)];rfl)
 have:=u 0 _ rfl;rw[Nat.mul_one,Nat.add_zero] at this;exact⟨g,o,e,this⟩
theorem qmn {zs:LI}{j:Nat}(h:j<zs.length):zs.drop j=zs.getD j 0::zs.drop (j+1):=by
 rw[List.drop_eq_getElem_cons h,AG,AC h];rfl
theorem qss (H:Ql b w d p S0 S T D P)(hb:1<b)(ht:Tab w)(N:Nd)(U:N.fit)(A:OA)(n c:Nat)(B:OA)(m y:Nat)(I:Jm (Turn S w) N A n c B m y)(hP:U7 N.named P=some P') :
  Calls prog 169 #[tv p,Ym N.lvl A n c B m y] w λe w'=>e=.returned (.int .i64 0)/\Ql b w' d p S0 S T D P'/\Turn S w w'/\Tab w':=by
 have hS:=H.low;have F:NB ((w.alloc (.cells #[.pointer (some ⟨p,0,none⟩)] 137)).alloc (.cells #[.int .i64 N.lvl,.slice A n c,.slice B m y] 142)) (w.1.size+1) N.lvl A n c B m y:=NB.new2 w _ _ _ _ _ _ _ _ _;have K:RB ((w.alloc (.cells #[.pointer (some ⟨p,0,none⟩)] 137)).alloc (.cells #[.int .i64 N.lvl,.slice A n c,.slice B m y] 142)) w.1.size [.pointer (some ⟨p,0,none⟩)]:=(RB.new w [.pointer (some ⟨p,0,none⟩)] 137).below (Qi) (by simp);have M:Below w.1.size w ((w.alloc (.cells #[.pointer (some ⟨p,0,none⟩)] 137)).alloc (.cells #[.int .i64 N.lvl,.slice A n c,.slice B m y] 142)):=(Qi).alloc (by simp) _;have c0:=F.c0;have c1:=F.c1;have c2:=F.c2;have hn:=I.hn;have hm:=I.hm;have Hk:=HI (λu (hu:Below w.1.size w u)=>qd3 N U A n c B m y u (I.its.Y3 (Qz hu)) (I.Ef u (Qz hu)) (by omega) (by omega));have HP:=HI hP;clear hP;unfold Ym tv;go_enter func169,ntmps169
 go_wp2_with fail
 generalize ((w.alloc (.cells #[.pointer (some ⟨p,0,none⟩)] 137)).alloc (.cells #[.int .i64 N.lvl,.slice A n c,.slice B m y] 142))=w1 at F K M c0 c1 c2 ⊢;refine (Hk.out w1 M).mono ?_;rintro e w2 ⟨A2,G,k2,rfl,q,b2⟩;have a1:=Q8.len q (by omega);rw[AF] at a1;have B2:=M.trans (b2.mono M.size);have T2:=K.below b2 K.lt;have H2:=H.below B2;have t2:=ht.below B2 ht.1;have X2:Turn S w w2:=Qz B2;have a8:G<=120:=by
  have h1:N.named.length<=N.kids.length+N.items.length:=by
   unfold Nd.named;rw[AD,AF];have:=List.length_filterMap_le Vz N.items;omega
  have:=I.ln;have:=I.lm;omega
 have z1:=F.lt;have W:∀k,q01 A2=some k->w.1.size<k:=λk V=>by have:=(q.Qa k V).1;have:=K.lt;have:=F.lt;omega
 clear c0 c1 c2 F K M b2 Hk B2;go_wp2_with fail
 go_loopw [12] (λi wr=>∃(j:Nat) (f:Pl),j<=G/\i=.int .i64 (j:Int)/\U7 (N.named.drop j) f=some P'/\Ql b wr d p S0 S T D f/\Tab wr/\Turn S w wr/\RB wr w.1.size [.pointer (some ⟨p,0,none⟩)]/\Q8 wr (w.1.size+1) 3 1 A2 G k2 (N.named.map iv)) (λi _=>G-(intOf i).toNat)
 case atStart=>exact⟨0,P,AW _,rfl,HP.out,H2,t2,X2,T2,q.less (by omega)⟩
 case round=>
  obtain⟨j,f,hj,rfl,O,Hj,tj,Xj,Tj,E⟩:=hrel;have J:=HI O;clear O;by_cases a2:j<G
  ·obtain⟨g,o,hA,y0⟩:=qdn E a2;subst hA;have hd:=qmn (zs:=N.named) (j:=j) (by omega);obtain⟨z,hz⟩:∃z,N.named.getD j 0=z:=⟨_,rfl⟩;rw[hz] at y0 hd;have HD:=HI hd;clear hz hd;have q0:=Tj.cell 0 rfl;have hr:f.C.Wn z=0/\U7 (N.named.drop (j+1)) ⟨f.S,f.C.ref z,f.L⟩=some P':=by
    have h:=J.out;rw[HD.out] at h;have h:(if f.C.Wn z=0 then U7 (N.named.drop (j+1)) ⟨f.S,f.C.ref z,f.L⟩ else none)=some P':=h;split at h
    ·rename_i h0;exact⟨h0,h⟩
    ·cases h
   obtain⟨X,Y⟩:=hr;have HR:=HI Y;have Hc:=qCf Hj hb tj z;rw[X] at Hc;have Hc:=HI Hc;clear Y X;go_wp2_with fail
   refine Hc.out.mono ?_;rintro e w3 ⟨rfl,H3,X3,t3⟩;have T3:=Tj.turned X3 (λh=>by have:=hS _ h;omega);have Z:=Q8.turned E X3 (λk V hs=>by have:=hS _ hs;have:=W k V;omega);have XX:=Xj.trans X3 λk V=>.inl V
   go_wp2;exact⟨⟨j+1,_,by omega,by go_num,HR.out,H3,t3,XX,T3,Z⟩,by simp[intOf];omega⟩
  ·have a7:j=G:=by omega
   have R:f=P':=by
    have h:=J.out;rw[List.drop_of_length_le (by omega)] at h;exact OI h
   subst R;have a6:¬(j:Int)<(G:Int):=by omega
   go_wp2;go_ret;exact⟨rfl,Hj,Xj,tj⟩
theorem qk3 (H:Ql b w d p S0 S T D P)(hb:1<b)(ht:Tab w)(N:Nd)(U:N.fit)(A:OA)(n c:Nat)(B:OA)(m y:Nat)(I:Jm (Turn S w) N A n c B m y)(hP:q3o N.named P=some P') :
  Calls prog 170 #[tv p,Ym N.lvl A n c B m y] w λe w'=>e=.returned (.int .i64 0)/\Ql b w' d p S0 S T D P'/\Turn S w w'/\Tab w':=by
 have hS:=H.low;have F:NB ((w.alloc (.cells #[.pointer (some ⟨p,0,none⟩)] 137)).alloc (.cells #[.int .i64 N.lvl,.slice A n c,.slice B m y] 142)) (w.1.size+1) N.lvl A n c B m y:=NB.new2 w _ _ _ _ _ _ _ _ _;have K:RB ((w.alloc (.cells #[.pointer (some ⟨p,0,none⟩)] 137)).alloc (.cells #[.int .i64 N.lvl,.slice A n c,.slice B m y] 142)) w.1.size [.pointer (some ⟨p,0,none⟩)]:=(RB.new w [.pointer (some ⟨p,0,none⟩)] 137).below (Qi) (by simp);have M:Below w.1.size w ((w.alloc (.cells #[.pointer (some ⟨p,0,none⟩)] 137)).alloc (.cells #[.int .i64 N.lvl,.slice A n c,.slice B m y] 142)):=(Qi).alloc (by simp) _;have c0:=F.c0;have c1:=F.c1;have c2:=F.c2;have hn:=I.hn;have hm:=I.hm;have Hk:=HI (λu (hu:Below w.1.size w u)=>qd3 N U A n c B m y u (I.its.Y3 (Qz hu)) (I.Ef u (Qz hu)) (by omega) (by omega));have HP:=HI hP;clear hP;unfold Ym tv;go_enter func170,ntmps170
 go_wp2_with fail
 generalize ((w.alloc (.cells #[.pointer (some ⟨p,0,none⟩)] 137)).alloc (.cells #[.int .i64 N.lvl,.slice A n c,.slice B m y] 142))=w1 at F K M c0 c1 c2 ⊢;refine (Hk.out w1 M).mono ?_;rintro e w2 ⟨A2,G,k2,rfl,q,b2⟩;have a1:=Q8.len q (by omega);rw[AF] at a1;have B2:=M.trans (b2.mono M.size);have T2:=K.below b2 K.lt;have H2:=H.below B2;have t2:=ht.below B2 ht.1;have X2:Turn S w w2:=Qz B2;have a8:G<=120:=by
  have h1:N.named.length<=N.kids.length+N.items.length:=by
   unfold Nd.named;rw[AD,AF];have:=List.length_filterMap_le Vz N.items;omega
  have:=I.ln;have:=I.lm;omega
 have z1:=F.lt;have W:∀k,q01 A2=some k->w.1.size<k:=λk V=>by have:=(q.Qa k V).1;have:=K.lt;have:=F.lt;omega
 clear c0 c1 c2 F K M b2 Hk B2;go_wp2_with fail
 go_loopw [13] (λi wr=>∃(j:Nat) (f:Pl),j<=G/\i=.int .i64 (j:Int)/\q3o (N.named.drop j) f=some P'/\Ql b wr d p S0 S T D f/\Tab wr/\Turn S w wr/\RB wr w.1.size [.pointer (some ⟨p,0,none⟩)]/\Q8 wr (w.1.size+1) 3 1 A2 G k2 (N.named.map iv)) (λi _=>G-(intOf i).toNat)
 case atStart=>exact⟨0,P,AW _,rfl,HP.out,H2,t2,X2,T2,q.less (by omega)⟩
 case round=>
  obtain⟨j,f,hj,rfl,O,Hj,tj,Xj,Tj,E⟩:=hrel;have J:=HI O;clear O;by_cases a2:j<G
  ·obtain⟨g,o,hA,y0⟩:=qdn E a2;subst hA;have hd:=qmn (zs:=N.named) (j:=j) (by omega);obtain⟨z,hz⟩:∃z,N.named.getD j 0=z:=⟨_,rfl⟩;rw[hz] at y0 hd;have HD:=HI hd;clear hz hd;have q0:=Tj.cell 0 rfl;have hr:f.C.Jw z=0/\q3o (N.named.drop (j+1)) ⟨f.S,f.C.Qw z,f.L⟩=some P':=by
    have h:=J.out;rw[HD.out] at h;have h:(if f.C.Jw z=0 then q3o (N.named.drop (j+1)) ⟨f.S,f.C.Qw z,f.L⟩ else none)=some P':=h;split at h
    ·rename_i h0;exact⟨h0,h⟩
    ·cases h
   obtain⟨X,Y⟩:=hr;have HR:=HI Y;have Hc:=qmm Hj hb tj z;rw[X] at Hc;have Hc:=HI Hc;clear Y X;go_wp2_with fail
   refine Hc.out.mono ?_;rintro e w3 ⟨rfl,H3,X3,t3⟩;have T3:=Tj.turned X3 (λh=>by have:=hS _ h;omega);have Z:=Q8.turned E X3 (λk V hs=>by have:=hS _ hs;have:=W k V;omega);have XX:=Xj.trans X3 λk V=>.inl V
   go_wp2;exact⟨⟨j+1,_,by omega,by go_num,HR.out,H3,t3,XX,T3,Z⟩,by simp[intOf];omega⟩
  ·have a7:j=G:=by omega
   have R:f=P':=by
    have h:=J.out;rw[List.drop_of_length_le (by omega)] at h;exact OI h
   subst R;have a6:¬(j:Int)<(G:Int):=by omega
   go_wp2;go_ret;exact⟨rfl,Hj,Xj,tj⟩
end
def F7 (s:Qy)(A:OA)(n c:Nat)(B:OA)(m d:Nat):LV:=Jf s.N.lvl A n c B m d s.addr (s.next:Int) s.held s.shared
def Vs (s:Qy)(A:OA)(n c:Nat)(B:OA)(m d:Nat):Value:=.agg #[.int .i64 s.N.lvl,.slice A n c,.slice B m d,.int .i64 s.addr,.int .i64 (s.next:Int),.bool s.held,.bool s.shared]
theorem qAo {w w':WD}{S:NP}(I:∀k,S k->k<w.1.size){M:Nd}{R U:OA}{K c1 H W:Nat}(hn:K<=20)(hm:H<=20)(F:Xe w' w.1.size R K c1 M.items)(G:Q8 w' w.1.size 125 4 U H W (M.kids.map Qn.vs)):Jm (Turn S w') M R K c1 U H W:=by
 have l1:=F.Y3.len;have l2:M.kids.length=H:=by have:=Q8.len G (by omega);rw[AF] at this;exact this
 have X:=F.Y3.bounds;have Y:=Q8.Gn G (by omega);refine⟨?_,λu E=>Q8.Gn (Q8.turned G E λk f y=>by have:=(Q8.Qa G k f).1;have:=I k y;omega) (by omega),l1,l2,⟨by omega,X.1,X.2⟩,⟨by omega,Y.cap,Y.max⟩⟩;have hA:=F.Qa;obtain⟨O,h1,h2,Z⟩:=F;refine⟨O,λu E=>(h1.turned E λk f y=>by have:=(hA k f).1;have:=I k y;omega).Gn (by omega),h2,λj r x hr hx=>?_⟩;obtain⟨V,p,q,e,hv,J⟩:=Z j r x hr hx;exact⟨V,p,q,e,λu E=>hv.turned' E λhl k f y=>by have:=(J hl k f).1;have:=I k y;omega⟩
section
variable {b:Nat}{w w':WD}{d p:Nat}{S0 S T:NP}{D:DM}{P P':Pl}
theorem q5s (H:Ql b w d p S0 S T D P)(W:1<b)(J:Tab w)(s:Qy)(A:OA)(n c:Nat)(B:OA)(m E:Nat)(q:P.leave s=some P') :
  Calls prog 171 #[tv p,Vs s A n c B m E] w λe w'=>e=.returned (.int .i64 0)/\Ql b w' d p S0 S T D P'/\Turn S w w'/\Tab w':=by
 obtain⟨N,f,F,hd,G⟩:=s;have O:RB ((w.alloc (.cells #[.pointer (some ⟨p,0,none⟩)] 137)).alloc (.cells (Jf N.lvl A n c B m E f (F:Int) hd G).toArray 144)) w.1.size [.pointer (some ⟨p,0,none⟩)]:=(RB.new w [.pointer (some ⟨p,0,none⟩)] 137).below (Qi) (by simp);have K:RB ((w.alloc (.cells #[.pointer (some ⟨p,0,none⟩)] 137)).alloc (.cells (Jf N.lvl A n c B m E f (F:Int) hd G).toArray 144)) (w.1.size+1) (Jf N.lvl A n c B m E f (F:Int) hd G):=by
  have:=RB.new (w.alloc (.cells #[.pointer (some ⟨p,0,none⟩)] 137)) (Jf N.lvl A n c B m E f (F:Int) hd G) 144;rwa [BH] at this
 have u:Below w.1.size w ((w.alloc (.cells #[.pointer (some ⟨p,0,none⟩)] 137)).alloc (.cells (Jf N.lvl A n c B m E f (F:Int) hd G).toArray 144)):=(Qi).alloc (by simp) _;have Z:=O.cell 0 rfl;have y1:=K.cell 3 rfl;have y3:=K.cell 5 rfl;unfold Pl.leave at q;dsimp only at q;have y:=qmm (H.below u) W (J.below u J.1) f;have M:=H.below u;have R:=J.below u J.1;unfold tv Vs;dsimp only;unfold Jf at u y3 y1 Z y M R;clear K O
 cases hd with
 |true=>
  obtain rfl:=OI q;clear y;go_enter func171,ntmps171
  go_wp2;go_ret;exact⟨rfl,M,Qz u,R⟩
 |false=>
  have I:P.C.Jw f=0/\⟨P.S,P.C.Qw f,P.L⟩=P':=by
   rw[AB Bool.false_ne_true] at q;split at q
   ·rename_i h;exact⟨h,OI q⟩
   ·cases q
  obtain⟨I,rfl⟩:=I;rw[I] at y;have y:=HI y;clear q I;go_enter func171,ntmps171
  go_wp2_with fail
  refine y.out.mono ?_;rintro e w2 ⟨rfl,U,V,Y⟩;go_wp2;go_ret;exact⟨rfl,U,(Qz (S:=S) u).trans V λk X=>.inl X,Y⟩
theorem qht (H:Ql b w d p S0 S T D P)(ht:Tab w)(a1:∀a b,P.L a=some b->b.kindOk)(a:Int)(held:Bool)(hE:P.Qh D a=0) :
  Calls prog 129 #[tv p,.int .i64 a,.bool held] w λe w'=>∃A n c B m dd,e=.returned (.tuple #[Vs (P.spot D a held) A n c B m dd,.int .i64 0])/\Jm (Turn (λk=>k<w.1.size) w') (P.Qd D a) A n c B m dd/\Below w.1.size w w':=by
 have U:RB ((w.alloc (.cells #[.pointer (some ⟨p,0,none⟩)] 137)).alloc (.cells #[.int .i64 0,.slice none 0 0,.slice none 0 0,.int .i64 0,.int .i64 0,.bool false,.bool false] 144)) w.1.size [.pointer (some ⟨p,0,none⟩)]:=(RB.new w [.pointer (some ⟨p,0,none⟩)] 137).below (Qi) (by simp);have X:RB ((w.alloc (.cells #[.pointer (some ⟨p,0,none⟩)] 137)).alloc (.cells #[.int .i64 0,.slice none 0 0,.slice none 0 0,.int .i64 0,.int .i64 0,.bool false,.bool false] 144)) (w.1.size+1) (Jf 0 none 0 0 none 0 0 0 0 false false):=by
  have:=RB.new (w.alloc (.cells #[.pointer (some ⟨p,0,none⟩)] 137)) (Jf 0 none 0 0 none 0 0 0 0 false false) 144;rwa [BH] at this
 have Y:Below w.1.size w ((w.alloc (.cells #[.pointer (some ⟨p,0,none⟩)] 137)).alloc (.cells #[.int .i64 0,.slice none 0 0,.slice none 0 0,.int .i64 0,.int .i64 0,.bool false,.bool false] 144)):=(Qi).alloc (by simp) _;have y0:=U.cell 0 rfl;have hS:=H.low;obtain⟨M,hM⟩:∃M,P.Qd D a=M:=⟨_,rfl⟩;obtain⟨x,hx⟩:∃x,P.C.get a=x:=⟨_,rfl⟩;have V:=λ(u:WD) (I:Below w.1.size w u)=>qaw (H.below I).Aq (H.below I).pool a1 (ht.below I ht.1) a
 rw[hM,hE] at V;have V:=HI V;have Hc:=HI (λ(u:WD) (I:Below w.1.size w u)=>q5h (H.below I).pool a x hx);obtain⟨r,hr⟩:∃r,decide (1<x)=r:=⟨_,rfl⟩;unfold Pl.spot;rw[hM,hx,hr];clear hx hM hE;unfold tv;go_enter func129,ntmps129
 go_wp2_with fail
 generalize ((w.alloc (.cells #[.pointer (some ⟨p,0,none⟩)] 137)).alloc (.cells #[.int .i64 0,.slice none 0 0,.slice none 0 0,.int .i64 0,.int .i64 0,.bool false,.bool false] 144))=w1 at U X Y y0 ⊢;refine (V.out w1 Y).mono ?_;rintro e f ⟨q,G,c1,y,F,E,rfl,a6,a2,hI,hK,Z⟩;have z1:=X.lt;have z0:=Y.size;have z2:=Z.size;have hq:Jm (Turn (λk=>k<w1.1.size) f) M q G c1 y F E:=qAo (λk O=>O) a6 a2 hI hK;have B2:=Y.trans (Z.mono Y.size);have J:Below f.1.size f (f.alloc (.cells #[.int .i64 M.lvl,.slice q G c1,.slice y F E] 74)):=Qi;have W:NB (f.alloc (.cells #[.int .i64 M.lvl,.slice q G c1,.slice y F E] 74)) f.1.size M.lvl q G c1 y F E:=NB.new f _ _ _ _ _ _ _ _;have T3:=(U.below Z U.lt).below J (by have:=U.lt;omega);have R3:=(X.below Z X.lt).below J (by omega);have B3:=B2.trans (J.mono B2.size);have fin:∀(u K:WD),Below f.1.size f u->Turn (λk=>k=w.1.size+1) u K->Jm (Turn (λk=>k<w.1.size) K) M q G c1 y F E/\Below w.1.size w K:=λu K I T=>by
  have h1:=I.size;refine⟨hq.mono λv hv=>(((Qz (S:=λk=>k<w1.1.size) I).trans T λk O=>.inl (by have:k=w.1.size+1:=O;show k<_;omega)).trans hv λk O=>.inl (by have:k<w.1.size:=O;show k<_;omega)),B2.trans ((I.mono B2.size).trans (T.below (λk O=>by have:k=w.1.size+1:=O;omega) (by omega)))⟩
 clear hI hK hq Z U X y0;go_wp2_with fail
 generalize f.alloc (.cells #[.int .i64 M.lvl,.slice q G c1,.slice y F E] 74)=R at J W T3 R3 B3 ⊢;have zR:=R3.lt;have zN:=W.lt;have zT:=T3.lt;have zB:=B3.size;have bD:Below R.1.size R R.drew:=(AI _ _).drew;have g0:∀u:Grown R,u.to.cell? ⟨w.1.size,0,none⟩=some (.pointer (some ⟨p,0,none⟩)):=Grown.cell (T3.cell 0 rfl) zT;have g1:∀u:Grown R,u.to.cell? ⟨f.1.size,0,none⟩=some (.int .i64 M.lvl):=Grown.cell W.c0 zN;have g2:∀u:Grown R,u.to.cell? ⟨f.1.size,1,none⟩=some (.slice q G c1):=Grown.cell W.c1 zN;have g3:∀u:Grown R,u.to.cell? ⟨f.1.size,2,none⟩=some (.slice y F E):=Grown.cell W.c2 zN;clear V
 cases held with
 |true=>
  go_wp2_with fail
  refine q1m 13 (by kernel_rfl) (by kernel_rfl) ?_;simp only[List.take_succ_cons,List.take_zero,List.drop_succ_cons,List.drop_zero];repeat (go_big_quiet_step (first|fail))
  refine wpQuiet_nil ?_;rintro _ ⟨u,rfl⟩;have R4:=R3.below u.ok zR;go_wp2_with (first
   |(refine Rf rfl _ _ rfl (w.1.size+1) rfl M.lvl q G c1 y F E a 0 true true rfl R4 rfl ?_;intro K Rz Tz)
   |fail)
  refine bodyPost_ret (Bl Tryz.results129 rfl (q5r Rz)) rfl ?_;obtain⟨f1,f2⟩:=fin u.to K (J.trans (u.ok.mono J.size)) Tz;exact⟨q,G,c1,y,F,E,rfl,f1,f2⟩
 |false=>
  go_wp2_with fail
  refine q1m 13 (by kernel_rfl) (by kernel_rfl) ?_;simp only[List.take_succ_cons,List.take_zero,List.drop_succ_cons,List.drop_zero];repeat (go_big_quiet_step (first|(go_at_call 105;exact Calls.Xh (Hc.out _ (B3.trans ((Grown.ok _).mono B3.size))))|fail))
  refine wpQuiet_nil ?_;rintro _ ⟨u,rfl⟩;have R4:=R3.below u.ok zR;go_wp2_with (first
   |(refine Rf rfl _ _ rfl (w.1.size+1) rfl M.lvl q G c1 y F E a 0 false r rfl R4 rfl ?_;intro K Rz Tz)
   |fail)
  refine bodyPost_ret (Bl Tryz.results129 rfl (q5r Rz)) rfl ?_;obtain⟨f1,f2⟩:=fin u.to K (J.trans (u.ok.mono J.size)) Tz;exact⟨q,G,c1,y,F,E,rfl,f1,f2⟩
end
