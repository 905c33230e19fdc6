/- The code's edit: bunches, spots and patches are stored and loaded; cut -/
import Derived.Test.YtloolbmdiimanaaGreatDoorFv29
namespace Go.Proofs.YtloolbmdiimanaaGreatDoor
open Go Go.RowKit Go.Proofs Tryz
set_option maxHeartbeats 8000000
set_option maxRecDepth 100000
theorem qai {w:WD}{b:Nat}{l:Int}{A B:OA}{n c m d:Nat}(H:NB w b l A n c B m d):(loadVar 193 ⟨b,0,none⟩).run prog w=.ok (Xw l A n c B m d) w:=
 run_loadVar_mid w b 0 193 _ _ H.range underlying193 rfl (by kernel_rfl)
theorem q1z {f:Array Oper}{e:List Oper}{o:Oper}{a:Act}{w:WD}{Q:Exit->Act->WD->Prop}(K:o.guard=none)(x y:Operand)(I:o.op=Op.store 193 x y)
  (b:Nat) (M:a.eval x=.pointer (some ⟨b,0,none⟩)) (E:Int) (p:OA) (G c2:Nat) (u:OA) (F D:Nat) (O:a.eval y=Xw E p G c2 u F D) {l:Int} {A B:OA} {n c m d:Nat} (H:NB w b l A n c B m d)
  (J:∀w',NB w' b E p G c2 u F D->Turn (λg=>g=b) w w'->wpList prog f Q e (a.put o.dst undef) w'):wpList prog f Q (o::e) a w:=
 wpList_store_mid K _ x y I b 0 #[.int .i64 E,.slice p G c2,.slice u F D] M O H.there (by kernel_rfl) (by simp[Value.oneCell'])
  (J _ (H.stored E p G c2 u F D) (Ut (S:=λg=>g=b) rfl _ 0 w))
def Ja (l:Int)(A:OA)(n c:Nat)(B:OA)(m d:Nat)(a x:Int)(h s:Bool):LV:=[.int .i64 l,.slice A n c,.slice B m d,.int .i64 a,.int .i64 x,.bool h,.bool s]
theorem q5c {w:WD}{b:Nat}{l:Int}{A B:OA}{n c m d:Nat}{a x:Int}{h s:Bool}(H:RB w b (Ja l A n c B m d a x h s)):(loadVar 195 ⟨b,0,none⟩).run prog w=.ok (.agg (Ja l A n c B m d a x h s).toArray) w:=
 run_loadVar_mid w b 0 195 _ _ H.range underlying195 rfl (by kernel_rfl)
theorem Nq {f:Array Oper}{e:List Oper}{o:Oper}{a:Act}{w:WD}{Q:Exit->Act->WD->Prop}(G:o.guard=none)(x y:Operand)(D:o.op=Op.store 195 x y)
  (b:Nat) (I:a.eval x=.pointer (some ⟨b,0,none⟩)) (l:Int) (A:OA) (n c:Nat) (B:OA) (m d:Nat) (p u:Int) (h s:Bool) (J:a.eval y=.agg #[.int .i64 l,.slice A n c,.slice B m d,.int .i64 p,.int .i64 u,.bool h,.bool s]) {r:LV} (H:RB w b r) (E:r.length=7)
  (F:∀w',RB w' b (Ja l A n c B m d p u h s)->Turn (λg=>g=b) w w'->wpList prog f Q e (a.put o.dst undef) w'):wpList prog f Q (o::e) a w:=
 wpList_store_mid G _ x y D b 0 (Ja l A n c B m d p u h s).toArray I J (by have:=H.there;rw[E] at this;exact this) (by kernel_rfl) (by simp[Ja,Value.oneCell'])
  (F _ (H.stored (Ja l A n c B m d p u h s) E) (Ut (S:=λg=>g=b) rfl _ 0 w))
def Xf (l:Int)(A:OA)(n c:Nat)(B:OA)(m d:Nat)(X:OA)(k kc:Nat)(i j:Int):LV:=[.int .i64 l,.slice A n c,.slice B m d,.slice X k kc,.int .i64 i,.int .i64 j]
theorem qia {w:WD}{b:Nat}{l:Int}{A B X:OA}{n c m d k kc:Nat}{i j:Int}(H:RB w b (Xf l A n c B m d X k kc i j)):(loadVar 228 ⟨b,0,none⟩).run prog w=.ok (.agg (Xf l A n c B m d X k kc i j).toArray) w:=
 run_loadVar_mid w b 0 228 _ _ H.range underlying228 rfl (by kernel_rfl)
theorem q8j {f:Array Oper}{e:List Oper}{o:Oper}{a:Act}{w:WD}{Q:Exit->Act->WD->Prop}(E:o.guard=none)(x y:Operand)(p:o.op=Op.store 228 x y)
  (b:Nat) (F:a.eval x=.pointer (some ⟨b,0,none⟩)) (l:Int) (A:OA) (n c:Nat) (B:OA) (m d:Nat) (X:OA) (k kc:Nat) (i j:Int) (G:a.eval y=.agg #[.int .i64 l,.slice A n c,.slice B m d,.slice X k kc,.int .i64 i,.int .i64 j]) {r:LV} (H:RB w b r) (u:r.length=6)
  (D:∀w',RB w' b (Xf l A n c B m d X k kc i j)->Turn (λg=>g=b) w w'->wpList prog f Q e (a.put o.dst undef) w'):wpList prog f Q (o::e) a w:=
 wpList_store_mid E _ x y p b 0 (Xf l A n c B m d X k kc i j).toArray F G (by have:=H.there;rw[u] at this;exact this) (by kernel_rfl) (by simp[Xf,Value.oneCell'])
  (D _ (H.stored (Xf l A n c B m d X k kc i j) u) (Ut (S:=λg=>g=b) rfl _ 0 w))
def cutV (l:Int)(A:OA)(n c:Nat)(B:OA)(m d:Nat)(i j:Nat):Value:=if l=0 then Xw l (Fj A c i) (j-i) (c-i) B m d else Xw l A n c (Fj B d i) (j-i) (d-i)
theorem q3l (l:Int)(A:OA)(n c:Nat)(B:OA)(m d:Nat)(i j:Nat)(hi:i<=j)(u:j<=if l=0 then n else m)(hn:n<=c/\c<=maxLen)(hm:m<=d/\d<=maxLen)(w:WD) :
  Calls prog 143 #[Xw l A n c B m d,.int .i64 (i:Int),.int .i64 (j:Int)] w λe w'=>e=.returned (cutV l A n c B m d i j)/\Below w.1.size w w':=by
 have D:NB ((w.alloc (.cells #[.int .i64 l,.slice A n c,.slice B m d] 193)).alloc (.cells #[.int .i64 0,.slice none 0 0,.slice none 0 0] 193)) w.1.size l A n c B m d:=(NB.new w _ _ _ _ _ _ _ _).below (Ql) (by simp);have E:NB ((w.alloc (.cells #[.int .i64 l,.slice A n c,.slice B m d] 193)).alloc (.cells #[.int .i64 0,.slice none 0 0,.slice none 0 0] 193)) (w.1.size+1) 0 none 0 0 none 0 0:=NB.new2 w _ _ _ _ _ _ _ _ _;have F:Below w.1.size w ((w.alloc (.cells #[.int .i64 l,.slice A n c,.slice B m d] 193)).alloc (.cells #[.int .i64 0,.slice none 0 0,.slice none 0 0] 193)):=(Ql).alloc (by simp) _;unfold cutV;by_cases h:l=0
 ·rw[AA h] at u ⊢;have y:(l==0)=true:=by simp[h]
  obtain⟨g,f⟩:∃g,Fj A c i=g:=⟨_,rfl⟩;have p:(if c=i then A else Option.map (λx=>x.add (i*4)) A)=g:=f;rw[f];clear h;unfold Xw;go_enter func143,ntmps143
  go_wp2;refine bodyPost_ret (Nu Tryz.results143 rfl (qai (NB.new2 w _ _ _ _ _ _ _ _ _))) rfl ?_;exact⟨rfl,(Ql).alloc (by simp) _⟩
 ·rw[AB h] at u ⊢;have y:(l==0)=false:=by simp[h]
  obtain⟨g,f⟩:∃g,Fj B d i=g:=⟨_,rfl⟩;have p:(if d=i then B else Option.map (λx=>x.add (i*4)) B)=g:=f;rw[f];clear h;unfold Xw;go_enter func143,ntmps143
  go_wp2;refine bodyPost_ret (Nu Tryz.results143 rfl (qai (NB.new2 w _ _ _ _ _ _ _ _ _))) rfl ?_;exact⟨rfl,(Ql).alloc (by simp) _⟩
theorem q7s {Q:WD->Prop}{N:Nd}{A B:OA}{n c m d i j:Nat}(h:Je Q N A n c B m d)(hi:i<=j)(e:j<=if N.lvl=0 then n else m):∃f D p g y u,cutV N.lvl A n c B m d i j=Xw N.lvl f D p g y u/\Je Q (N.cut i j) f D p g y u/\(N.cut i j).lvl=N.lvl:=by
 unfold cutV;by_cases h0:N.lvl=0
 ·rw[AA h0] at e ⊢;exact⟨_,_,_,_,_,_,rfl,qti h h0 hi e,by unfold Nd.cut;rw[AA h0]⟩
 ·rw[AB h0] at e ⊢;exact⟨_,_,_,_,_,_,rfl,qtj h h0 hi e,by unfold Nd.cut;rw[AB h0]⟩
theorem qg0 (N:Nd)(g:N.fit)(a:Int)(A:OA)(n c:Nat)(B:OA)(m d:Nat)(w:WD)(K:Ji w A n c N.items)(M:Zm w B m d N.kids)(_:n<=1000)(_:m<=1000) :
  Calls prog 172 #[Xw N.lvl A n c B m d,.int .i64 a] w λe w'=>e=.returned (.agg (⟨N.least,a⟩:Qk).vs.toArray)/\Below w.1.size w w':=by
 have p:NB ((w.alloc (.cells #[.int .i64 N.lvl,.slice A n c,.slice B m d] 193)).alloc (.cells #[.int .i64 0,.int .i64 0,.int .i64 0,.int .i64 0] 159)) w.1.size N.lvl A n c B m d:=(NB.new w _ _ _ _ _ _ _ _).below (Ql) (by simp);have y:RB ((w.alloc (.cells #[.int .i64 N.lvl,.slice A n c,.slice B m d] 193)).alloc (.cells #[.int .i64 0,.int .i64 0,.int .i64 0,.int .i64 0] 159)) (w.1.size+1) Qat:=by
  have:=RB.new (w.alloc (.cells #[.int .i64 N.lvl,.slice A n c,.slice B m d] 193)) Qat 159;rwa [BH] at this
 have f:Below w.1.size w ((w.alloc (.cells #[.int .i64 N.lvl,.slice A n c,.slice B m d] 193)).alloc (.cells #[.int .i64 0,.int .i64 0,.int .i64 0,.int .i64 0] 159)):=(Ql).alloc (by simp) _;obtain⟨z,E⟩:∃z,N.least=z:=⟨_,rfl⟩;have G:=HI (λu F=>qhi N g z E A n c B m d u (K.below F) (M.below F));rw[E];have c0:=p.c0;have c1:=p.c1;have c2:=p.c2;clear E;unfold Xw;go_enter func172,ntmps172
 go_wp2_with fail
 generalize ((w.alloc (.cells #[.int .i64 N.lvl,.slice A n c,.slice B m d] 193)).alloc (.cells #[.int .i64 0,.int .i64 0,.int .i64 0,.int .i64 0] 159))=P at p y f c0 c1 c2 ⊢;refine (G.out P f).mono ?_;rintro e R ⟨rfl,D⟩;have H:=y.below D y.lt;go_wp2_with (first
  |(refine q31 rfl _ _ rfl (w.1.size+1) rfl ⟨z,a⟩ rfl H rfl ?_;intro T I J)
  |fail)
 refine bodyPost_ret (Nu Tryz.results172 rfl (q8y I)) rfl ?_;exact⟨rfl,f.trans ((D.mono f.size).trans (J.below (λk O=>by have:k=w.1.size+1:=O;omega) (by have:=f.size;have:=D.size;omega)))⟩
def G9 (Q:WD->Prop)(w:WD)(X:OA)(k kc:Nat)(Ns:List Nd):Prop:=
 ∃e,Jz w 3 X k kc e/\e.length=Ns.length/\∀(j:Nat) r N,e[j]?=some r->Ns[j]?=some N->∃A n c B m d,r=Vj N.lvl A n c B m d/\Je Q N A n c B m d
def Gg (Q:WD->Prop)(w:WD)(base:Nat)(A:OA)(n c:Nat)(xs:List Qb):Prop:=
 ∃e,Q8 w base 84 4 A n c e/\e.length=xs.length/\∀(j:Nat) r x,e[j]?=some r->xs[j]?=some x->∃V p q,r=Vh x.k V p q/\∀w,Q w->Sl w V p q x.v
def Ub (w:WD)(base:Nat)(B:OA)(m d:Nat)(ks:List Qk):Prop:=Q8 w base 159 4 B m d (ks.map Qk.vs)
section
variable {Q:WD->Prop}{w w':WD}{base n c m d:Nat}{A B:OA}{xs:List Qb}{ks:List Qk}
theorem Gg.turned {S:NP}(h:Gg Q w base A n c xs)(T:Turn S w w')(hA:∀k,q01 A=some k->¬S k):Gg Q w' base A n c xs:=by
 obtain⟨e,h1,h2⟩:=h;exact⟨e,h1.turned T hA,h2⟩
theorem Ub.turned {S:NP}(h:Ub w base B m d ks)(T:Turn S w w')(hA:∀k,q01 B=some k->¬S k):Ub w' base B m d ks:=Q8.turned h T hA
theorem Gg.Qc (h:Gg Q w base A n c xs):∀k,q01 A=some k->base<=k/\k<w.1.size:=by
 obtain⟨e,h1,_⟩:=h;exact h1.Qc
theorem Ub.Qc (h:Ub w base B m d ks):∀k,q01 B=some k->base<=k/\k<w.1.size:=Q8.Qc h
theorem Gg.len (h:Gg Q w base A n c xs):xs.length=n:=by
 obtain⟨e,h1,h2,_⟩:=h;rw[<-h2];exact h1.len (by omega)
theorem Ub.len (h:Ub w base B m d ks):ks.length=m:=by
 have:=Q8.len h (by omega);rw[AF] at this;exact this
theorem qtm (Q:WD->Prop)(w:WD)(base:Nat):Gg Q w base none 0 0 []:=⟨[],Lr _ _ _ _,rfl,λj r x e=>by simp at e⟩
theorem qk8 (w:WD)(base:Nat):Ub w base none 0 0 []:=Lr _ _ _ _
theorem qmi (ty:TypeId)(G:Gg Q w base A n c xs)(hq:Q w){B:OA}{m d:Nat}{R:List Qb}(hy:Ph Q B m d R)(hm:R.length=m)(hn:n+m<=100000)(E:base<=w.1.size) :
  ∃F M w',(Builtin.append_ #[77,77] ty #[.slice A n c,.slice B m d]).run prog w=.ok (.slice F (n+m) M) w'/\Gg Q w' base F (n+m) M (xs++R)/\Turn (λk=>q01 A=some k) w w'/\(q01 F=q01 A\/q01 F=some w.1.size):=by
 obtain⟨g,h1,h2,h3⟩:=G;obtain⟨D,Y,Z,J⟩:=hy;have Y:=Y w hq;by_cases X:m=0
 ·subst X;have W:R=[]:=List.length_eq_zero_iff.1 hm;subst W;obtain⟨i,hi,a3,a1,a4⟩:=info_parts Nc.info;refine⟨A,c,w,q4l (P:=prog) base 77 ty 84 i 4 Nc.sl hi A n c g.flatten h1.1 B d (by omega) a1,?_,Turn.refl _ _,.inl rfl⟩;rw[BM];exact⟨g,h1,h2,h3⟩
 ·have one:∀y∈D,∀u∈y,u.oneCell'=true:=λy a0 u hu=>by
   obtain⟨j,O⟩:=List.mem_iff_getElem?.1 a0;have a2:=(List.getElem?_eq_some_iff.1 O).1;obtain⟨V,p,q,e,_⟩:=J j y _ O (AC (by omega));subst e;exact qjf _ V p q _ (List.mem_singleton.2 rfl) u hu
  obtain⟨F,M,w',H,K,T,U,_⟩:=q36 (P:=prog) w Nc ty base A n c g h1 B m d D Y (by omega) one (by omega) (by omega) E;refine⟨F,M,w',H,⟨_,K,by rw[AD,AD,h2,Z],λj r x f I=>?_⟩,T,U⟩;by_cases O:j<g.length
  ·rw[List.getElem?_append_left O] at f;rw[List.getElem?_append_left (by omega)] at I;exact h3 j r x f I
  ·rw[List.getElem?_append_right (by omega)] at f I;rw[<-h2] at I;exact J _ r x f I
theorem qk9 (ty:TypeId)(e:Ub w base A n c ks){B:OA}{m d:Nat}{F:List Qk}(O:Zm w B m d F)(hn:n+m<=100000)(g:base<=w.1.size) :
  ∃p E w',(Builtin.append_ #[106,106] ty #[.slice A n c,.slice B m d]).run prog w=.ok (.slice p (n+m) E) w'/\Ub w' base p (n+m) E (ks++F)/\Turn (λk=>q01 A=some k) w w'/\(q01 p=q01 A\/q01 p=some w.1.size):=by
 by_cases I:m=0
 ·subst I;have H:F=[]:=List.length_eq_zero_iff.1 O.len;subst H;obtain⟨i,hi,R,K,U⟩:=info_parts Qah.info;refine⟨A,c,w,q4l (P:=prog) base 106 ty 159 i 4 Qah.sl hi A n c _ e.1 B d (by omega) K,?_,Turn.refl _ _,.inl rfl⟩;rw[BM];exact e
 ·have one:∀y∈F.map Qk.vs,∀u∈y,u.oneCell'=true:=λy J u M=>by
   obtain⟨x,_,rfl⟩:=List.mem_map.1 J;simp[Qk.vs] at M;rcases M with rfl|rfl|rfl|rfl<;>rfl
  obtain⟨p,E,w',D,f,T,G,_⟩:=q36 (P:=prog) w Qah ty base A n c _ e B m d _ O (by omega) one (by omega) (by omega) g;rw[<-List.map_append] at f;exact⟨p,E,w',D,f,T,G⟩
theorem qib {y:Array Oper}{e:List Oper}{o:Oper}{a:Act}{G:Exit->Act->WD->Prop}(E:o.guard=none)(H x:Operand)
  (O:o.op=.call { callee:=.builtin .append,args:=#[H,x],argTypes:=#[77,77] })
  (R:a.eval H=.slice A n c) (p:Gg Q w base A n c xs) (P:Q w)
  {B:OA} {m d:Nat} {F:List Qb} (T:a.eval x=.slice B m d) (U:Ph Q B m d F) (hm:F.length=m) (hn:n+m<=100000) (f:base<=w.1.size)
  (h:∀g D w',Gg Q w' base g (n+m) D (xs++F)->Turn (λk=>q01 A=some k) w w'->(q01 g=q01 A\/q01 g=some w.1.size)->wpList prog y G e (a.put o.dst (.slice g (n+m) D)) w'):wpList prog y G (o::e) a w:=
 wpList_plain E λK M=>by
  obtain⟨g,D,w',u,h2,I,J⟩:=qmi (ty:=o.type) p P U hm hn f;unfold Oper.wp execOp;simp only[O,resolve,invoke,builtin,Sem.run_bind,Sem.run_pure,Result.andThen_ok,List.map_toArray,BJ,List.map_nil,R,T,u];exact M _ _ (h g D w' h2 I J)
theorem qic {y:Array Oper}{e:List Oper}{o:Oper}{a:Act}{F:Exit->Act->WD->Prop}(E:o.guard=none)(H x:Operand)
  (O:o.op=.call { callee:=.builtin .append,args:=#[H,x],argTypes:=#[106,106] })
  (P:a.eval H=.slice A n c) (p:Ub w base A n c ks)
  {B:OA} {m d:Nat} {G:List Qk} (R:a.eval x=.slice B m d) (T:Zm w B m d G) (hn:n+m<=100000) (f:base<=w.1.size)
  (h:∀g D w',Ub w' base g (n+m) D (ks++G)->Turn (λk=>q01 A=some k) w w'->(q01 g=q01 A\/q01 g=some w.1.size)->wpList prog y F e (a.put o.dst (.slice g (n+m) D)) w'):wpList prog y F (o::e) a w:=
 wpList_plain E λK M=>by
  obtain⟨g,D,w',u,h2,I,J⟩:=qk9 (ty:=o.type) p T hn f;unfold Oper.wp execOp;simp only[O,resolve,invoke,builtin,Sem.run_bind,Sem.run_pure,Result.andThen_ok,List.map_toArray,BJ,List.map_nil,P,R,u];exact M _ _ (h g D w' h2 I J)
theorem G9.below {X:OA}{k kc:Nat}{Ns:List Nd}(h:G9 Q w X k kc Ns)(hb:Below w.1.size w w'):G9 Q w' X k kc Ns:=by
 obtain⟨e,h1,h2⟩:=h;exact⟨e,h1.below hb,h2⟩
theorem G9.len {X:OA}{k kc:Nat}{Ns:List Nd}(h:G9 Q w X k kc Ns):Ns.length=k:=by
 obtain⟨e,h1,h2,_⟩:=h;rw[<-h2];exact h1.len
theorem G9.get {X:OA}{k kc:Nat}{Ns:List Nd}(h:G9 Q w X k kc Ns){j:Nat}(hj:j<k):∃g o A n c B m d,X=some ⟨g,o,none⟩/\g<w.1.size/\w.cell? ⟨g,o+j*3,none⟩=some (.int .i64 (U8 Ns j).lvl)/\w.cell? ⟨g,o+j*3+1,none⟩=some (.slice A n c)/\w.cell? ⟨g,o+j*3+2,none⟩=some (.slice B m d)/\Je Q (U8 Ns j) A n c B m d:=by
 have F:=h.len;obtain⟨f,h1,h2,y⟩:=h;have u:f[j]?=some (f[j]'(by omega)):=AC (by omega);obtain⟨A,n,c,B,m,d,e,D⟩:=y j _ _ u (q50 (by omega));obtain⟨g,o,rfl,E,_,p⟩:=h1.2.2.2 j _ u;rw[e] at p;exact⟨g,o,A,n,c,B,m,d,rfl,E,p 0 _ rfl,p 1 _ rfl,p 2 _ rfl,D⟩
end
def F8 (Ns:List Nd)(j:Nat):List Qb:=(Ns.take j).flatMap (·.items)
def He (Ns:List Nd)(j:Nat):List Qk:=(Ns.take j).flatMap (·.kids)
theorem qpn {Ns:List Nd}{j:Nat}(h:j<Ns.length):F8 Ns (j+1)=F8 Ns j++(U8 Ns j).items:=by
 have e:=q50 h;rw[AC h] at e;unfold F8;rw[List.take_succ_eq_append_getElem h,List.flatMap_append,OI e];simp
theorem qpo {Ns:List Nd}{j:Nat}(h:j<Ns.length):He Ns (j+1)=He Ns j++(U8 Ns j).kids:=by
 have e:=q50 h;rw[AC h] at e;unfold He;rw[List.take_succ_eq_append_getElem h,List.flatMap_append,OI e];simp
theorem qx1 {Ns:List Nd}(j:Nat):(F8 Ns j).length<=(Ns.flatMap (·.items)).length:=by
 conv=>rhs;rw[<-AV j Ns,List.flatMap_append,AD]
 unfold F8;omega
theorem qx2 {Ns:List Nd}(j:Nat):(He Ns j).length<=(Ns.flatMap (·.kids)).length:=by
 conv=>rhs;rw[<-AV j Ns,List.flatMap_append,AD]
 unfold He;omega
theorem qtn {Ns:List Nd}{j:Nat}(h:Ns.length<=j):F8 Ns j=Ns.flatMap (·.items):=by unfold F8;rw[AN h]
theorem qto {Ns:List Nd}{j:Nat}(h:Ns.length<=j):He Ns j=Ns.flatMap (·.kids):=by unfold He;rw[AN h]
theorem qyn {S:NP}{w w':WD}(H:∀k,S k->k<w.1.size)(R:Below w.1.size w w'){base:Nat}(E:w.1.size<=base){A B:OA}{n c m d:Nat}{l:Int}{its:List Qb}{Bd:List Qk}(D:Gg (Turn S w) w' base A n c its)(y:Ub w' base B m d Bd)(hn:its.length<=60)(hm:Bd.length<=60):Je (Turn S w') ⟨l,its,Bd⟩ A n c B m d:=by
 have X:=D.len;have Y:=y.len;have P:Turn S w w':=Q9 R;have M:=D.Qc;have O:=y.Qc;have J:=Q8.Um y (by omega);obtain⟨G,h1,h2,K⟩:=D;have I:=h1.Um (by omega);refine⟨⟨G,λu g=>(h1.turned g λk f F=>by have:=(M k f).1;have:=H k F;omega).Um (by omega),h2,λj r x T W=>?_⟩,λu g=>Q8.Um (Q8.turned y g λk f F=>by have:=(O k f).1;have:=H k F;omega) (by omega),X,Y,⟨by omega,I.cap,I.max⟩,⟨by omega,J.cap,J.max⟩⟩;obtain⟨V,p,q,e,U⟩:=K j r x T W;exact⟨V,p,q,e,λu g=>U u (P.trans g λk f=>.inl f)⟩
theorem q46 {S:NP}{w:WD}(hS:∀k,S k->k<w.1.size)(Ns:List Nd)(l:Int)(c9:(U8 Ns 0).lvl=l)(X:OA)(k kc:Nat)(hB:G9 (Turn S w) w X k kc Ns)(hk:1<=k)(d7:k<=100)(hn:(Ns.flatMap (·.items)).length<=60)(hm:(Ns.flatMap (·.kids)).length<=60) :
  Calls prog 142 #[.slice X k kc] w λe w'=>∃A n c B m d,e=.returned (Xw l A n c B m d)/\Je (Turn S w') (Zw l Ns) A n c B m d/\Below w.1.size w w':=by
 have d2:=hB.len;obtain⟨g0,o0,A0,n0,c0,B0,m0,d0,hX,b9,x0,-,-,-⟩:=hB.get (show 0<k by omega);rw[c9] at x0;rw[Nat.zero_mul,Nat.add_zero] at x0;have b0:Below w.1.size w (w.alloc (.cells #[.int .i64 0,.slice none 0 0,.slice none 0 0] 193)):=Ql;have x1:=(b0.cell (p:=⟨g0,o0,none⟩) b9).trans x0;have N1:NB ((w.alloc (.cells #[.int .i64 0,.slice none 0 0,.slice none 0 0] 193)).alloc (.cells #[.int .i64 l,.slice none 0 0,.slice none 0 0] 193)) (w.1.size+1) l none 0 0 none 0 0:=NB.new2 w _ _ _ _ _ _ _ _ _;have R1:NB ((w.alloc (.cells #[.int .i64 0,.slice none 0 0,.slice none 0 0] 193)).alloc (.cells #[.int .i64 l,.slice none 0 0,.slice none 0 0] 193)) w.1.size 0 none 0 0 none 0 0:=(NB.new w _ _ _ _ _ _ _ _).below (Ql) (by simp);have b1:Below w.1.size w ((w.alloc (.cells #[.int .i64 0,.slice none 0 0,.slice none 0 0] 193)).alloc (.cells #[.int .i64 l,.slice none 0 0,.slice none 0 0] 193)):=b0.alloc (by simp) _;have hz:0<k:=by omega
 subst hX;go_enter func142,ntmps142
 go_wp2_with fail
 generalize ((w.alloc (.cells #[.int .i64 0,.slice none 0 0,.slice none 0 0] 193)).alloc (.cells #[.int .i64 l,.slice none 0 0,.slice none 0 0] 193))=w1 at N1 R1 b1 ⊢;go_loopw [15] (λi wr=>∃(j:Nat) (A:OA) (n c:Nat) (B:OA) (m d:Nat),j<=k/\i=.int .i64 (j:Int)/\NB wr (w.1.size+1) l A n c B m d/\NB wr w.1.size 0 none 0 0 none 0 0/\Gg (Turn S w) wr (w.1.size+2) A n c (F8 Ns j)/\Ub wr (w.1.size+2) B m d (He Ns j)/\(∀g,q01 A=some g->q01 B≠some g)/\Below w.1.size w wr) (λi _=>k-(intOf i).toNat)
 case atStart=>exact⟨0,none,0,0,none,0,0,AW _,rfl,N1,R1,qtm _ _ _,qk8 _ _,λg h=>(by cases h),b1⟩
 case round=>
  obtain⟨j,A,n,c,B,m,d,hj,rfl,K,RR,qI,qK,G,hb⟩:=hrel;have zR:=RR.lt;have zN:=K.lt;have W:=qI.Qc;have U:=qK.Qc;have n1:=K.c1;have n2:=K.c2;by_cases d1:j<k
  ·obtain⟨g,o,Ax,T,cx,Bx,R,dx,b5,f,y0,y1,y2,y⟩:=(hB.below hb).get d1;obtain⟨h1,h2⟩:g0=g/\o0=o:=by
    injection b5 with h;injection h with h1 h2;exact⟨h1,h2⟩
   subst h1 h2;obtain⟨lv,a7⟩:∃lv,(U8 Ns j).lvl=lv:=⟨_,rfl⟩;rw[a7] at y0;have e1:=qpn (Ns:=Ns) (j:=j) (by omega);have e2:=qpo (Ns:=Ns) (j:=j) (by omega);have a5:=qx1 (Ns:=Ns) (j+1);have a6:=qx2 (Ns:=Ns) (j+1);have d8:n+T<=60:=by
    have q1:=qI.len;have q2:=y.ln;rw[e1,AD] at a5;omega
   have d9:m+R<=60:=by
    have q1:=qK.len;have q2:=y.lm;rw[e2,AD] at a6;omega
   clear a5 a6 a7;have P:Below wr.1.size wr (wr.alloc (.cells #[.int .i64 lv,.slice Ax T cx,.slice Bx R dx] 193)):=Ql;have X2:NB (wr.alloc (.cells #[.int .i64 lv,.slice Ax T cx,.slice Bx R dx] 193)) wr.1.size lv Ax T cx Bx R dx:=NB.new wr _ _ _ _ _ _ _ _;have N2:=K.below P K.lt;have a2:=hb.trans (P.mono hb.size);have q2:=qI.turned (Q9 (S:=λ_=>False) P) (λ_ _ h=>h);have k2:=qK.turned (Q9 (S:=λ_=>False) P) (λ_ _ h=>h);have zs:=hb.size;have e0:=P.size;have x1:=X2.c1;have x2:=X2.c2;have n1:=N2.c1;have n2:=N2.c2;go_wp2_with (first
    |(at_builtin;refine qib rfl _ _ rfl rfl q2 (Q9 a2) rfl y.its y.ln (by omega) (by omega) ?_;intro J c3 w3 q3 M b3
      have e3:=M.size;have d3:∀g,q01 A=some g->w.1.size+2<=g/\g<wr.1.size:=W;have N3:=N2.turned M (λh=>by have:=(W _ h).1;omega);have X3:=X2.turned M (λh=>by have:=(W _ h).2;omega);have k3:=k2.turned M (λg h1 h2=>G g h2 h1);have Z:=(RR.below P RR.lt).turned M (λh=>by have:=(W _ h).1;omega);have b6:=a2.trans (M.below (B:=w.1.size) (λx u=>by have:=(W _ u).1;omega) (by omega));have F:∀g,q01 J=some g->w.1.size+2<=g:=λg f=>(q3.Qc g f).1
      have D:∀g,q01 J=some g->q01 B≠some g:=λg f I=>by
       rcases b3 with h|h
       ·exact G g (h▸f) I
       ·rw[h] at f;have h1:=(U g I).2;injection f with f;omega
      have O:Turn (λg=>g=w.1.size+1) w3 (w3.setCell ⟨w.1.size+1,1,none⟩ (.slice J (n+T) c3)):=Bz (a:=⟨w.1.size+1,1,none⟩) _ rfl;have f1:=N3.fz 1;have p1:=N3.c1;have N4:=N3.set1 J (n+T) c3;have X4:=X3.keep (O.block wr.1.size X3.lt (by show ¬wr.1.size=w.1.size+1;omega));have a8:=Z.keep (O.block w.1.size Z.lt (by show ¬w.1.size=w.1.size+1;omega));have q4:=q3.turned O (λg h1 h2=>by have h2:g=w.1.size+1:=h2;have:=F g h1;omega);have k4:=k3.turned O (λg h1 h2=>by have h2:g=w.1.size+1:=h2;have:=(U g h1).1;omega);have a3:=b6.trans (O.below (B:=w.1.size) (λx u=>by have u:x=w.1.size+1:=u;omega) (by omega));have e4:=O.size;have u2:=N4.c2;have v2:=X4.c2)
    |(at_builtin;refine qic rfl _ _ rfl rfl k4 rfl (y.Bd _ (Q9 a3)) (by omega) (by omega) ?_;intro Y d5 w5 k5 T5 b4
      have e5:=T5.size;have N5:=N4.turned T5 (λh=>by have:=(U _ h).1;omega);have a0:=a8.turned T5 (λh=>by have:=(U _ h).1;omega);have q5:=q4.turned T5 (λg h1 h2=>D g h1 h2);have b7:=a3.trans (T5.below (B:=w.1.size) (λx u=>by have:=(U _ u).1;omega) (by omega));have a1:∀g,q01 Y=some g->w.1.size+2<=g:=λg f=>(k5.Qc g f).1
      have H:∀g,q01 J=some g->q01 Y≠some g:=λg f I=>by
       rcases b4 with h|h
       ·exact D g f (h▸I)
       ·rw[h] at I;have h1:=(q4.Qc g f).2;injection I with I;omega
      have E:Turn (λg=>g=w.1.size+1) w5 (w5.setCell ⟨w.1.size+1,2,none⟩ (.slice Y (m+R) d5)):=Bz (a:=⟨w.1.size+1,2,none⟩) _ rfl;have f2:=N5.fz 2;have p2:=N5.c2;have N6:=N5.set2 Y (m+R) d5;have a9:=a0.keep (E.block w.1.size a0.lt (by show ¬w.1.size=w.1.size+1;omega));have q6:=q5.turned E (λg h1 h2=>by have h2:g=w.1.size+1:=h2;have:=F g h1;omega);have k6:=k5.turned E (λg h1 h2=>by have h2:g=w.1.size+1:=h2;have:=a1 g h1;omega);have b8:=b7.trans (E.below (B:=w.1.size) (λx u=>by have u:x=w.1.size+1:=u;omega) (by omega)))
    |fail)
   rw[<-e1] at q6;rw[<-e2] at k6;exact⟨⟨j+1,J,_,c3,Y,_,d5,by omega,by go_num,N6,a9,q6,k6,H,b8⟩,by simp[intOf];omega⟩
  ·have d6:j=k:=by omega
   have c0:=K.c0;have eI:=qtn (Ns:=Ns) (j:=j) (by omega);have eK:=qto (Ns:=Ns) (j:=j) (by omega);rw[eI] at qI;rw[eK] at qK;have d4:¬(j:Int)<(k:Int):=by omega
   go_wp2_with (first
    |(refine q1z rfl _ _ rfl w.1.size rfl l A n c B m d rfl RR ?_;intro wz Rz Tz)
    |fail)
   refine bodyPost_ret (Nu Tryz.results142 rfl (qai Rz)) rfl ?_;have a4:=hb.trans (Tz.below (B:=w.1.size) (λx u=>by have u:x=w.1.size:=u;omega) (by omega));have qz:=qI.turned Tz (λg h1 h2=>by have h2:g=w.1.size:=h2;have:=(W g h1).1;omega);have kz:=qK.turned Tz (λg h1 h2=>by have h2:g=w.1.size:=h2;have:=(U g h1).1;omega);exact⟨A,n,c,B,m,d,rfl,qyn hS a4 (by omega) qz kz hn hm,a4⟩
