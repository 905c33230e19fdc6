/- The code's edit: bunches, spots and patches are stored and loaded; cut -/
import Derived.Test.YtloolbmdiimanaaGreatDoorGv28
namespace Go.Proofs.YtloolbmdiimanaaGreatDoor
open Go Go.RowKit Go.Proofs Tryz
set_option maxHeartbeats 8000000
set_option maxRecDepth 100000
theorem qan {w:WD}{b:Nat}{l:Int}{A B:OA}{n c m d:Nat}(H:NB w b l A n c B m d):(loadVar 193 ⟨b,0,none⟩).run prog w=.ok (Xx l A n c B m d) w:=
 run_loadVar_mid w b 0 193 _ _ H.range underlying193 rfl (by kernel_rfl)
theorem q22 {f:Array Oper}{e:List Oper}{o:Oper}{a:Act}{w:WD}{Q:Exit->Act->WD->Prop}(O:o.guard=none)(x y:Operand)(K:o.op=Op.store 193 x y)
  (b:Nat) (R:a.eval x=.pointer (some ⟨b,0,none⟩)) (G:Int) (u:OA) (J c2:Nat) (E:OA) (I F:Nat) (U:a.eval y=Xx G u J c2 E I F) {l:Int} {A B:OA} {n c m d:Nat} (H:NB w b l A n c B m d)
  (M:∀w',NB w' b G u J c2 E I F->Turn (λg=>g=b) w w'->wpList prog f Q e (a.put o.dst undef) w'):wpList prog f Q (o::e) a w:=
 wpList_store_mid O _ x y K b 0 #[.int .i64 G,.slice u J c2,.slice E I F] R U H.there (by kernel_rfl) (by simp[Value.oneCell'])
  (M _ (H.stored G u J c2 E I F) (Us (S:=λg=>g=b) rfl _ 0 w))
def Ja (l:Int)(A:OA)(n c:Nat)(B:OA)(m d:Nat)(a x:Int)(h s:Bool):LV:=[.int .i64 l,.slice A n c,.slice B m d,.int .i64 a,.int .i64 x,.bool h,.bool s]
theorem q5g {w:WD}{b:Nat}{l:Int}{A B:OA}{n c m d:Nat}{a x:Int}{h s:Bool}(H:RB w b (Ja l A n c B m d a x h s)):(loadVar 195 ⟨b,0,none⟩).run prog w=.ok (.agg (Ja l A n c B m d a x h s).toArray) w:=
 run_loadVar_mid w b 0 195 _ _ H.range underlying195 rfl (by kernel_rfl)
theorem Nz {f:Array Oper}{e:List Oper}{o:Oper}{a:Act}{w:WD}{Q:Exit->Act->WD->Prop}(J:o.guard=none)(x y:Operand)(F:o.op=Op.store 195 x y)
  (b:Nat) (K:a.eval x=.pointer (some ⟨b,0,none⟩)) (l:Int) (A:OA) (n c:Nat) (B:OA) (m d:Nat) (u E:Int) (h s:Bool) (M:a.eval y=.agg #[.int .i64 l,.slice A n c,.slice B m d,.int .i64 u,.int .i64 E,.bool h,.bool s]) {r:LV} (H:RB w b r) (G:r.length=7)
  (I:∀w',RB w' b (Ja l A n c B m d u E h s)->Turn (λg=>g=b) w w'->wpList prog f Q e (a.put o.dst undef) w'):wpList prog f Q (o::e) a w:=
 wpList_store_mid J _ x y F b 0 (Ja l A n c B m d u E h s).toArray K M (by have:=H.there;rw[G] at this;exact this) (by kernel_rfl) (by simp[Ja,Value.oneCell'])
  (I _ (H.stored (Ja l A n c B m d u E h s) G) (Us (S:=λg=>g=b) rfl _ 0 w))
def Xf (l:Int)(A:OA)(n c:Nat)(B:OA)(m d:Nat)(X:OA)(k kc:Nat)(i j:Int):LV:=[.int .i64 l,.slice A n c,.slice B m d,.slice X k kc,.int .i64 i,.int .i64 j]
theorem qic {w:WD}{b:Nat}{l:Int}{A B X:OA}{n c m d k kc:Nat}{i j:Int}(H:RB w b (Xf l A n c B m d X k kc i j)):(loadVar 228 ⟨b,0,none⟩).run prog w=.ok (.agg (Xf l A n c B m d X k kc i j).toArray) w:=
 run_loadVar_mid w b 0 228 _ _ H.range underlying228 rfl (by kernel_rfl)
theorem q8n {f:Array Oper}{e:List Oper}{o:Oper}{a:Act}{w:WD}{Q:Exit->Act->WD->Prop}(G:o.guard=none)(x y:Operand)(u:o.op=Op.store 228 x y)
  (b:Nat) (I:a.eval x=.pointer (some ⟨b,0,none⟩)) (l:Int) (A:OA) (n c:Nat) (B:OA) (m d:Nat) (X:OA) (k kc:Nat) (i j:Int) (J:a.eval y=.agg #[.int .i64 l,.slice A n c,.slice B m d,.slice X k kc,.int .i64 i,.int .i64 j]) {r:LV} (H:RB w b r) (E:r.length=6)
  (F:∀w',RB w' b (Xf l A n c B m d X k kc i j)->Turn (λg=>g=b) w w'->wpList prog f Q e (a.put o.dst undef) w'):wpList prog f Q (o::e) a w:=
 wpList_store_mid G _ x y u b 0 (Xf l A n c B m d X k kc i j).toArray I J (by have:=H.there;rw[E] at this;exact this) (by kernel_rfl) (by simp[Xf,Value.oneCell'])
  (F _ (H.stored (Xf l A n c B m d X k kc i j) E) (Us (S:=λg=>g=b) rfl _ 0 w))
def cutV (l:Int)(A:OA)(n c:Nat)(B:OA)(m d:Nat)(i j:Nat):Value:=if l=0 then Xx l (Fv A c i) (j-i) (c-i) B m d else Xx l A n c (Fv B d i) (j-i) (d-i)
theorem q3p (l:Int)(A:OA)(n c:Nat)(B:OA)(m d:Nat)(i j:Nat)(hi:i<=j)(y:j<=if l=0 then n else m)(hn:n<=c/\c<=maxLen)(hm:m<=d/\d<=maxLen)(w:WD) :
  Calls prog 143 #[Xx l A n c B m d,.int .i64 (i:Int),.int .i64 (j:Int)] w λe w'=>e=.returned (cutV l A n c B m d i j)/\Below w.1.size w w':=by
 have F:NB ((w.alloc (.cells #[.int .i64 l,.slice A n c,.slice B m d] 193)).alloc (.cells #[.int .i64 0,.slice none 0 0,.slice none 0 0] 193)) w.1.size l A n c B m d:=(NB.new w _ _ _ _ _ _ _ _).below (Ql) (by simp);have G:NB ((w.alloc (.cells #[.int .i64 l,.slice A n c,.slice B m d] 193)).alloc (.cells #[.int .i64 0,.slice none 0 0,.slice none 0 0] 193)) (w.1.size+1) 0 none 0 0 none 0 0:=NB.new2 w _ _ _ _ _ _ _ _ _;have H:Below w.1.size w ((w.alloc (.cells #[.int .i64 l,.slice A n c,.slice B m d] 193)).alloc (.cells #[.int .i64 0,.slice none 0 0,.slice none 0 0] 193)):=(Ql).alloc (by simp) _;unfold cutV;by_cases h:l=0
 ·rw[AA h] at y ⊢;have E:(l==0)=true:=by simp[h]
  obtain⟨g,f⟩:∃g,Fv A c i=g:=⟨_,rfl⟩;have u:(if c=i then A else Option.map (λx=>x.add (i*4)) A)=g:=f;rw[f];clear h;unfold Xx;go_enter func143,ntmps143
  go_wp2;refine bodyPost_ret (Oc Tryz.results143 rfl (qan (NB.new2 w _ _ _ _ _ _ _ _ _))) rfl ?_;exact⟨rfl,(Ql).alloc (by simp) _⟩
 ·rw[AB h] at y ⊢;have E:(l==0)=false:=by simp[h]
  obtain⟨g,f⟩:∃g,Fv B d i=g:=⟨_,rfl⟩;have u:(if d=i then B else Option.map (λx=>x.add (i*4)) B)=g:=f;rw[f];clear h;unfold Xx;go_enter func143,ntmps143
  go_wp2;refine bodyPost_ret (Oc Tryz.results143 rfl (qan (NB.new2 w _ _ _ _ _ _ _ _ _))) rfl ?_;exact⟨rfl,(Ql).alloc (by simp) _⟩
theorem q7v {Q:WD->Prop}{N:Nd}{A B:OA}{n c m d i j:Nat}(h:Je Q N A n c B m d)(hi:i<=j)(e:j<=if N.lvl=0 then n else m):∃f F u g E y,cutV N.lvl A n c B m d i j=Xx N.lvl f F u g E y/\Je Q (N.cut i j) f F u g E y/\(N.cut i j).lvl=N.lvl:=by
 unfold cutV;by_cases h0:N.lvl=0
 ·rw[AA h0] at e ⊢;exact⟨_,_,_,_,_,_,rfl,qtx h h0 hi e,by unfold Nd.cut;rw[AA h0]⟩
 ·rw[AB h0] at e ⊢;exact⟨_,_,_,_,_,_,rfl,qty h h0 hi e,by unfold Nd.cut;rw[AB h0]⟩
theorem qgb (N:Nd)(g:N.fit)(a:Int)(A:OA)(n c:Nat)(B:OA)(m d:Nat)(w:WD)(O:Ji w A n c N.items)(R:Zn w B m d N.kids)(_:n<=1000)(_:m<=1000) :
  Calls prog 172 #[Xx N.lvl A n c B m d,.int .i64 a] w λe w'=>e=.returned (.agg (⟨N.least,a⟩:Qk).vs.toArray)/\Below w.1.size w w':=by
 have y:NB ((w.alloc (.cells #[.int .i64 N.lvl,.slice A n c,.slice B m d] 193)).alloc (.cells #[.int .i64 0,.int .i64 0,.int .i64 0,.int .i64 0] 159)) w.1.size N.lvl A n c B m d:=(NB.new w _ _ _ _ _ _ _ _).below (Ql) (by simp);have E:RB ((w.alloc (.cells #[.int .i64 N.lvl,.slice A n c,.slice B m d] 193)).alloc (.cells #[.int .i64 0,.int .i64 0,.int .i64 0,.int .i64 0] 159)) (w.1.size+1) Qau:=by
  have:=RB.new (w.alloc (.cells #[.int .i64 N.lvl,.slice A n c,.slice B m d] 193)) Qau 159;rwa [BH] at this
 have f:Below w.1.size w ((w.alloc (.cells #[.int .i64 N.lvl,.slice A n c,.slice B m d] 193)).alloc (.cells #[.int .i64 0,.int .i64 0,.int .i64 0,.int .i64 0] 159)):=(Ql).alloc (by simp) _;obtain⟨z,G⟩:∃z,N.least=z:=⟨_,rfl⟩;have I:=HI (λu H=>qhm N g z G A n c B m d u (O.below H) (R.below H));rw[G];have c0:=y.c0;have c1:=y.c1;have c2:=y.c2;clear G;unfold Xx;go_enter func172,ntmps172
 go_wp2_with fail
 generalize ((w.alloc (.cells #[.int .i64 N.lvl,.slice A n c,.slice B m d] 193)).alloc (.cells #[.int .i64 0,.int .i64 0,.int .i64 0,.int .i64 0] 159))=W at y E f c0 c1 c2 ⊢;refine (I.out W f).mono ?_;rintro e X ⟨rfl,F⟩;have J:=E.below F E.lt;go_wp2_with (first
  |(refine q31 rfl _ _ rfl (w.1.size+1) rfl ⟨z,a⟩ rfl J rfl ?_;intro Y K M)
  |fail)
 refine bodyPost_ret (Oc Tryz.results172 rfl (q96 K)) rfl ?_;exact⟨rfl,f.trans ((F.mono f.size).trans (M.below (λk U=>by have:k=w.1.size+1:=U;omega) (by have:=f.size;have:=F.size;omega)))⟩
def G9 (Q:WD->Prop)(w:WD)(X:OA)(k kc:Nat)(Ns:List Nd):Prop:=
 ∃e,Jy w 3 X k kc e/\e.length=Ns.length/\∀(j:Nat) r N,e[j]?=some r->Ns[j]?=some N->∃A n c B m d,r=Vj N.lvl A n c B m d/\Je Q N A n c B m d
def Gf (Q:WD->Prop)(w:WD)(base:Nat)(A:OA)(n c:Nat)(xs:List Qb):Prop:=
 ∃e,Qz w base 84 4 A n c e/\e.length=xs.length/\∀(j:Nat) r x,e[j]?=some r->xs[j]?=some x->∃V p q,r=Vg x.k V p q/\∀w,Q w->Sl w V p q x.v
def Ud (w:WD)(base:Nat)(B:OA)(m d:Nat)(ks:List Qk):Prop:=Qz w base 159 4 B m d (ks.map Qk.vs)
section
variable {Q:WD->Prop}{w w':WD}{base n c m d:Nat}{A B:OA}{xs:List Qb}{ks:List Qk}
theorem Gf.turned {S:NP}(h:Gf Q w base A n c xs)(T:Turn S w w')(hA:∀k,q01 A=some k->¬S k):Gf Q w' base A n c xs:=by
 obtain⟨e,h1,h2⟩:=h;exact⟨e,h1.turned T hA,h2⟩
theorem Ud.turned {S:NP}(h:Ud w base B m d ks)(T:Turn S w w')(hA:∀k,q01 B=some k->¬S k):Ud w' base B m d ks:=Qz.turned h T hA
theorem Gf.Qc (h:Gf Q w base A n c xs):∀k,q01 A=some k->base<=k/\k<w.1.size:=by
 obtain⟨e,h1,_⟩:=h;exact h1.Qc
theorem Ud.Qc (h:Ud w base B m d ks):∀k,q01 B=some k->base<=k/\k<w.1.size:=Qz.Qc h
theorem Gf.len (h:Gf Q w base A n c xs):xs.length=n:=by
 obtain⟨e,h1,h2,_⟩:=h;rw[<-h2];exact h1.len (by omega)
theorem Ud.len (h:Ud w base B m d ks):ks.length=m:=by
 have:=Qz.len h (by omega);rw[AF] at this;exact this
theorem qtz (Q:WD->Prop)(w:WD)(base:Nat):Gf Q w base none 0 0 []:=⟨[],I5 _ _ _ _,rfl,λj r x e=>by simp at e⟩
theorem qka (w:WD)(base:Nat):Ud w base none 0 0 []:=I5 _ _ _ _
theorem qmo (ty:TypeId)(H:Gf Q w base A n c xs)(hq:Q w){B:OA}{m d:Nat}{U:List Qb}(hy:Pq Q B m d U)(hm:U.length=m)(hn:n+m<=100000)(F:base<=w.1.size) :
  ∃G O w',(Builtin.append_ #[77,77] ty #[.slice A n c,.slice B m d]).run prog w=.ok (.slice G (n+m) O) w'/\Gf Q w' base G (n+m) O (xs++U)/\Turn (λk=>q01 A=some k) w w'/\(q01 G=q01 A\/q01 G=some w.1.size):=by
 obtain⟨g,h1,h2,h3⟩:=H;obtain⟨E,Z,a0,K⟩:=hy;have Z:=Z w hq;by_cases Y:m=0
 ·subst Y;have X:U=[]:=List.length_eq_zero_iff.1 hm;subst X;obtain⟨i,hi,a4,a2,a5⟩:=info_parts Nq.info;refine⟨A,c,w,q4p (P:=prog) base 77 ty 84 i 4 Nq.sl hi A n c g.flatten h1.1 B d (by omega) a2,?_,Turn.refl _ _,.inl rfl⟩;rw[BM];exact⟨g,h1,h2,h3⟩
 ·have one:∀y∈E,∀u∈y,u.oneCell'=true:=λy a1 u hu=>by
   obtain⟨j,R⟩:=List.mem_iff_getElem?.1 a1;have a3:=(List.getElem?_eq_some_iff.1 R).1;obtain⟨V,p,q,e,_⟩:=K j y _ R (AC (by omega));subst e;exact qjn _ V p q _ (List.mem_singleton.2 rfl) u hu
  obtain⟨G,O,w',I,M,T,W,_⟩:=q36 (P:=prog) w Nq ty base A n c g h1 B m d E Z (by omega) one (by omega) (by omega) F;refine⟨G,O,w',I,⟨_,M,by rw[AD,AD,h2,a0],λj r x f J=>?_⟩,T,W⟩;by_cases R:j<g.length
  ·rw[List.getElem?_append_left R] at f;rw[List.getElem?_append_left (by omega)] at J;exact h3 j r x f J
  ·rw[List.getElem?_append_right (by omega)] at f J;rw[<-h2] at J;exact K _ r x f J
theorem qkb (ty:TypeId)(e:Ud w base A n c ks){B:OA}{m d:Nat}{H:List Qk}(U:Zn w B m d H)(hn:n+m<=100000)(g:base<=w.1.size) :
  ∃E G w',(Builtin.append_ #[106,106] ty #[.slice A n c,.slice B m d]).run prog w=.ok (.slice E (n+m) G) w'/\Ud w' base E (n+m) G (ks++H)/\Turn (λk=>q01 A=some k) w w'/\(q01 E=q01 A\/q01 E=some w.1.size):=by
 by_cases K:m=0
 ·subst K;have J:H=[]:=List.length_eq_zero_iff.1 U.len;subst J;obtain⟨i,hi,W,O,X⟩:=info_parts Qah.info;refine⟨A,c,w,q4p (P:=prog) base 106 ty 159 i 4 Qah.sl hi A n c _ e.1 B d (by omega) O,?_,Turn.refl _ _,.inl rfl⟩;rw[BM];exact e
 ·have one:∀y∈H.map Qk.vs,∀u∈y,u.oneCell'=true:=λy M u R=>by
   obtain⟨x,_,rfl⟩:=List.mem_map.1 M;simp[Qk.vs] at R;rcases R with rfl|rfl|rfl|rfl<;>rfl
  obtain⟨E,G,w',F,f,T,I,_⟩:=q36 (P:=prog) w Qah ty base A n c _ e B m d _ U (by omega) one (by omega) (by omega) g;rw[<-List.map_append] at f;exact⟨E,G,w',F,f,T,I⟩
theorem qid {E:Array Oper}{e:List Oper}{o:Oper}{a:Act}{I:Exit->Act->WD->Prop}(G:o.guard=none)(J x:Operand)
  (U:o.op=.call { callee:=.builtin .append,args:=#[J,x],argTypes:=#[77,77] })
  (X:a.eval J=.slice A n c) (u:Gf Q w base A n c xs) (W:Q w)
  {B:OA} {m d:Nat} {H:List Qb} (Y:a.eval x=.slice B m d) (Z:Pq Q B m d H) (hm:H.length=m) (hn:n+m<=100000) (f:base<=w.1.size)
  (h:∀g F w',Gf Q w' base g (n+m) F (xs++H)->Turn (λk=>q01 A=some k) w w'->(q01 g=q01 A\/q01 g=some w.1.size)->wpList prog E I e (a.put o.dst (.slice g (n+m) F)) w'):wpList prog E I (o::e) a w:=
 wpList_plain G λK R=>by
  obtain⟨g,F,w',y,h2,M,O⟩:=qmo (ty:=o.type) u W Z hm hn f;unfold Oper.wp execOp;simp only[U,resolve,invoke,builtin,Sem.run_bind,Sem.run_pure,Result.andThen_ok,List.map_toArray,BJ,List.map_nil,X,Y,y];exact R _ _ (h g F w' h2 M O)
theorem qie {E:Array Oper}{e:List Oper}{o:Oper}{a:Act}{H:Exit->Act->WD->Prop}(G:o.guard=none)(J x:Operand)
  (U:o.op=.call { callee:=.builtin .append,args:=#[J,x],argTypes:=#[106,106] })
  (W:a.eval J=.slice A n c) (u:Ud w base A n c ks)
  {B:OA} {m d:Nat} {I:List Qk} (X:a.eval x=.slice B m d) (Y:Zn w B m d I) (hn:n+m<=100000) (f:base<=w.1.size)
  (h:∀g F w',Ud w' base g (n+m) F (ks++I)->Turn (λk=>q01 A=some k) w w'->(q01 g=q01 A\/q01 g=some w.1.size)->wpList prog E H e (a.put o.dst (.slice g (n+m) F)) w'):wpList prog E H (o::e) a w:=
 wpList_plain G λK R=>by
  obtain⟨g,F,w',y,h2,M,O⟩:=qkb (ty:=o.type) u Y hn f;unfold Oper.wp execOp;simp only[U,resolve,invoke,builtin,Sem.run_bind,Sem.run_pure,Result.andThen_ok,List.map_toArray,BJ,List.map_nil,W,X,y];exact R _ _ (h g F w' h2 M O)
theorem G9.below {X:OA}{k kc:Nat}{Ns:List Nd}(h:G9 Q w X k kc Ns)(hb:Below w.1.size w w'):G9 Q w' X k kc Ns:=by
 obtain⟨e,h1,h2⟩:=h;exact⟨e,h1.below hb,h2⟩
theorem G9.len {X:OA}{k kc:Nat}{Ns:List Nd}(h:G9 Q w X k kc Ns):Ns.length=k:=by
 obtain⟨e,h1,h2,_⟩:=h;rw[<-h2];exact h1.len
theorem G9.get {X:OA}{k kc:Nat}{Ns:List Nd}(h:G9 Q w X k kc Ns){j:Nat}(hj:j<k):∃g o A n c B m d,X=some ⟨g,o,none⟩/\g<w.1.size/\w.cell? ⟨g,o+j*3,none⟩=some (.int .i64 (U7 Ns j).lvl)/\w.cell? ⟨g,o+j*3+1,none⟩=some (.slice A n c)/\w.cell? ⟨g,o+j*3+2,none⟩=some (.slice B m d)/\Je Q (U7 Ns j) A n c B m d:=by
 have H:=h.len;obtain⟨f,h1,h2,E⟩:=h;have y:f[j]?=some (f[j]'(by omega)):=AC (by omega);obtain⟨A,n,c,B,m,d,e,F⟩:=E j _ _ y (q55 (by omega));obtain⟨g,o,rfl,G,_,u⟩:=h1.2.2.2 j _ y;rw[e] at u;exact⟨g,o,A,n,c,B,m,d,rfl,G,u 0 _ rfl,u 1 _ rfl,u 2 _ rfl,F⟩
end
def Ib (Ns:List Nd)(j:Nat):List Qb:=(Ns.take j).flatMap (·.items)
def Ic (Ns:List Nd)(j:Nat):List Qk:=(Ns.take j).flatMap (·.kids)
theorem qq1 {Ns:List Nd}{j:Nat}(h:j<Ns.length):Ib Ns (j+1)=Ib Ns j++(U7 Ns j).items:=by
 have e:=q55 h;rw[AC h] at e;unfold Ib;rw[List.take_succ_eq_append_getElem h,List.flatMap_append,OI e];simp
theorem qq2 {Ns:List Nd}{j:Nat}(h:j<Ns.length):Ic Ns (j+1)=Ic Ns j++(U7 Ns j).kids:=by
 have e:=q55 h;rw[AC h] at e;unfold Ic;rw[List.take_succ_eq_append_getElem h,List.flatMap_append,OI e];simp
theorem qx9 {Ns:List Nd}(j:Nat):(Ib Ns j).length<=(Ns.flatMap (·.items)).length:=by
 conv=>rhs;rw[<-AV j Ns,List.flatMap_append,AD]
 unfold Ib;omega
theorem qxa {Ns:List Nd}(j:Nat):(Ic Ns j).length<=(Ns.flatMap (·.kids)).length:=by
 conv=>rhs;rw[<-AV j Ns,List.flatMap_append,AD]
 unfold Ic;omega
theorem qu0 {Ns:List Nd}{j:Nat}(h:Ns.length<=j):Ib Ns j=Ns.flatMap (·.items):=by unfold Ib;rw[AN h]
theorem qu1 {Ns:List Nd}{j:Nat}(h:Ns.length<=j):Ic Ns j=Ns.flatMap (·.kids):=by unfold Ic;rw[AN h]
theorem qyw {S:NP}{w w':WD}(I:∀k,S k->k<w.1.size)(W:Below w.1.size w w'){base:Nat}(F:w.1.size<=base){A B:OA}{n c m d:Nat}{l:Int}{its:List Qb}{Bg:List Qk}(E:Gf (Turn S w) w' base A n c its)(y:Ud w' base B m d Bg)(hn:its.length<=60)(hm:Bg.length<=60):Je (Turn S w') ⟨l,its,Bg⟩ A n c B m d:=by
 have l1:=E.len;have l2:=y.len;have U:Turn S w w':=Zb W;have O:=E.Qc;have R:=y.Qc;have K:=Qz.Um y (by omega);obtain⟨H,h1,h2,M⟩:=E;have J:=h1.Um (by omega);refine⟨⟨H,λu g=>(h1.turned g λk f G=>by have:=(O k f).1;have:=I k G;omega).Um (by omega),h2,λj r x X Z=>?_⟩,λu g=>Qz.Um (Qz.turned y g λk f G=>by have:=(R k f).1;have:=I k G;omega) (by omega),l1,l2,⟨by omega,J.cap,J.max⟩,⟨by omega,K.cap,K.max⟩⟩;obtain⟨V,p,q,e,Y⟩:=M j r x X Z;exact⟨V,p,q,e,λu g=>Y u (U.trans g λk f=>.inl f)⟩
theorem q45 {S:NP}{w:WD}(hS:∀k,S k->k<w.1.size)(Ns:List Nd)(l:Int)(d1:(U7 Ns 0).lvl=l)(X:OA)(k kc:Nat)(hB:G9 (Turn S w) w X k kc Ns)(hk:1<=k)(d8:k<=100)(hn:(Ns.flatMap (·.items)).length<=60)(hm:(Ns.flatMap (·.kids)).length<=60) :
  Calls prog 142 #[.slice X k kc] w λe w'=>∃A n c B m d,e=.returned (Xx l A n c B m d)/\Je (Turn S w') (Zw l Ns) A n c B m d/\Below w.1.size w w':=by
 have d3:=hB.len;obtain⟨g0,o0,A0,n0,c0,B0,m0,d0,hX,c9,x0,-,-,-⟩:=hB.get (show 0<k by omega);rw[d1] at x0;rw[Nat.zero_mul,Nat.add_zero] at x0;have b0:Below w.1.size w (w.alloc (.cells #[.int .i64 0,.slice none 0 0,.slice none 0 0] 193)):=Ql;have x1:=(b0.cell (p:=⟨g0,o0,none⟩) c9).trans x0;have N1:NB ((w.alloc (.cells #[.int .i64 0,.slice none 0 0,.slice none 0 0] 193)).alloc (.cells #[.int .i64 l,.slice none 0 0,.slice none 0 0] 193)) (w.1.size+1) l none 0 0 none 0 0:=NB.new2 w _ _ _ _ _ _ _ _ _;have R1:NB ((w.alloc (.cells #[.int .i64 0,.slice none 0 0,.slice none 0 0] 193)).alloc (.cells #[.int .i64 l,.slice none 0 0,.slice none 0 0] 193)) w.1.size 0 none 0 0 none 0 0:=(NB.new w _ _ _ _ _ _ _ _).below (Ql) (by simp);have b1:Below w.1.size w ((w.alloc (.cells #[.int .i64 0,.slice none 0 0,.slice none 0 0] 193)).alloc (.cells #[.int .i64 l,.slice none 0 0,.slice none 0 0] 193)):=b0.alloc (by simp) _;have hz:0<k:=by omega
 subst hX;go_enter func142,ntmps142
 go_wp2_with fail
 generalize ((w.alloc (.cells #[.int .i64 0,.slice none 0 0,.slice none 0 0] 193)).alloc (.cells #[.int .i64 l,.slice none 0 0,.slice none 0 0] 193))=w1 at N1 R1 b1 ⊢;go_loopw [15] (λi wr=>∃(j:Nat) (A:OA) (n c:Nat) (B:OA) (m d:Nat),j<=k/\i=.int .i64 (j:Int)/\NB wr (w.1.size+1) l A n c B m d/\NB wr w.1.size 0 none 0 0 none 0 0/\Gf (Turn S w) wr (w.1.size+2) A n c (Ib Ns j)/\Ud wr (w.1.size+2) B m d (Ic Ns j)/\(∀g,q01 A=some g->q01 B≠some g)/\Below w.1.size w wr) (λi _=>k-(intOf i).toNat)
 case atStart=>exact⟨0,none,0,0,none,0,0,AW _,rfl,N1,R1,qtz _ _ _,qka _ _,λg h=>(by cases h),b1⟩
 case round=>
  obtain⟨j,A,n,c,B,m,d,hj,rfl,M,RR,qI,qK,H,hb⟩:=hrel;have zR:=RR.lt;have zN:=M.lt;have zq:=qI.Qc;have Z:=qK.Qc;have n1:=M.c1;have n2:=M.c2;by_cases d2:j<k
  ·obtain⟨g,o,Ax,Y,cx,Bx,W,dx,b6,f,y0,y1,y2,y⟩:=(hB.below hb).get d2;obtain⟨h1,h2⟩:g0=g/\o0=o:=by
    injection b6 with h;injection h with h1 h2;exact⟨h1,h2⟩
   subst h1 h2;obtain⟨lv,a8⟩:∃lv,(U7 Ns j).lvl=lv:=⟨_,rfl⟩;rw[a8] at y0;have e1:=qq1 (Ns:=Ns) (j:=j) (by omega);have e2:=qq2 (Ns:=Ns) (j:=j) (by omega);have a6:=qx9 (Ns:=Ns) (j+1);have a7:=qxa (Ns:=Ns) (j+1);have d9:n+Y<=60:=by
    have q1:=qI.len;have q2:=y.ln;rw[e1,AD] at a6;omega
   have e0:m+W<=60:=by
    have q1:=qK.len;have q2:=y.lm;rw[e2,AD] at a7;omega
   clear a6 a7 a8;have U:Below wr.1.size wr (wr.alloc (.cells #[.int .i64 lv,.slice Ax Y cx,.slice Bx W dx] 193)):=Ql;have X2:NB (wr.alloc (.cells #[.int .i64 lv,.slice Ax Y cx,.slice Bx W dx] 193)) wr.1.size lv Ax Y cx Bx W dx:=NB.new wr _ _ _ _ _ _ _ _;have N2:=M.below U M.lt;have a3:=hb.trans (U.mono hb.size);have q2:=qI.turned (Zb (S:=λ_=>False) U) (λ_ _ h=>h);have k2:=qK.turned (Zb (S:=λ_=>False) U) (λ_ _ h=>h);have zs:=hb.size;have e3:=U.size;have x1:=X2.c1;have x2:=X2.c2;have n1:=N2.c1;have n2:=N2.c2;go_wp2_with (first
    |(at_builtin;refine qid rfl _ _ rfl rfl q2 (Zb a3) rfl y.its y.ln (by omega) (by omega) ?_;intro K c3 w3 q3 O b4
      have e4:=O.size;have d4:∀g,q01 A=some g->w.1.size+2<=g/\g<wr.1.size:=zq;have N3:=N2.turned O (λh=>by have:=(zq _ h).1;omega);have X3:=X2.turned O (λh=>by have:=(zq _ h).2;omega);have k3:=k2.turned O (λg h1 h2=>H g h2 h1);have a0:=(RR.below U RR.lt).turned O (λh=>by have:=(zq _ h).1;omega);have b7:=a3.trans (O.below (B:=w.1.size) (λx u=>by have:=(zq _ u).1;omega) (by omega));have G:∀g,q01 K=some g->w.1.size+2<=g:=λg f=>(q3.Qc g f).1
      have E:∀g,q01 K=some g->q01 B≠some g:=λg f J=>by
       rcases b4 with h|h
       ·exact H g (h▸f) J
       ·rw[h] at f;have h1:=(Z g J).2;injection f with f;omega
      have R:Turn (λg=>g=w.1.size+1) w3 (w3.setCell ⟨w.1.size+1,1,none⟩ (.slice K (n+Y) c3)):=Cc (a:=⟨w.1.size+1,1,none⟩) _ rfl;have f1:=N3.fz 1;have p1:=N3.c1;have N4:=N3.set1 K (n+Y) c3;have X4:=X3.keep (R.block wr.1.size X3.lt (by show ¬wr.1.size=w.1.size+1;omega));have a9:=a0.keep (R.block w.1.size a0.lt (by show ¬w.1.size=w.1.size+1;omega));have q4:=q3.turned R (λg h1 h2=>by have h2:g=w.1.size+1:=h2;have:=G g h1;omega);have k4:=k3.turned R (λg h1 h2=>by have h2:g=w.1.size+1:=h2;have:=(Z g h1).1;omega);have a4:=b7.trans (R.below (B:=w.1.size) (λx u=>by have u:x=w.1.size+1:=u;omega) (by omega));have e5:=R.size;have u2:=N4.c2;have v2:=X4.c2)
    |(at_builtin;refine qie rfl _ _ rfl rfl k4 rfl (y.Bg _ (Zb a4)) (by omega) (by omega) ?_;intro B5 d5 w5 k5 T5 b5
      have e6:=T5.size;have N5:=N4.turned T5 (λh=>by have:=(Z _ h).1;omega);have a1:=a9.turned T5 (λh=>by have:=(Z _ h).1;omega);have q5:=q4.turned T5 (λg h1 h2=>E g h1 h2);have b8:=a4.trans (T5.below (B:=w.1.size) (λx u=>by have:=(Z _ u).1;omega) (by omega));have a2:∀g,q01 B5=some g->w.1.size+2<=g:=λg f=>(k5.Qc g f).1
      have I:∀g,q01 K=some g->q01 B5≠some g:=λg f J=>by
       rcases b5 with h|h
       ·exact E g f (h▸J)
       ·rw[h] at J;have h1:=(q4.Qc g f).2;injection J with J;omega
      have F:Turn (λg=>g=w.1.size+1) w5 (w5.setCell ⟨w.1.size+1,2,none⟩ (.slice B5 (m+W) d5)):=Cc (a:=⟨w.1.size+1,2,none⟩) _ rfl;have f2:=N5.fz 2;have p2:=N5.c2;have N6:=N5.set2 B5 (m+W) d5;have b3:=a1.keep (F.block w.1.size a1.lt (by show ¬w.1.size=w.1.size+1;omega));have q6:=q5.turned F (λg h1 h2=>by have h2:g=w.1.size+1:=h2;have:=G g h1;omega);have k6:=k5.turned F (λg h1 h2=>by have h2:g=w.1.size+1:=h2;have:=a2 g h1;omega);have b9:=b8.trans (F.below (B:=w.1.size) (λx u=>by have u:x=w.1.size+1:=u;omega) (by omega)))
    |fail)
   rw[<-e1] at q6;rw[<-e2] at k6;exact⟨⟨j+1,K,_,c3,B5,_,d5,by omega,by go_num,N6,b3,q6,k6,I,b9⟩,by simp[intOf];omega⟩
  ·have d7:j=k:=by omega
   have c0:=M.c0;have eI:=qu0 (Ns:=Ns) (j:=j) (by omega);have eK:=qu1 (Ns:=Ns) (j:=j) (by omega);rw[eI] at qI;rw[eK] at qK;have d6:¬(j:Int)<(k:Int):=by omega
   go_wp2_with (first
    |(refine q22 rfl _ _ rfl w.1.size rfl l A n c B m d rfl RR ?_;intro wz Rz Tz)
    |fail)
   refine bodyPost_ret (Oc Tryz.results142 rfl (qan Rz)) rfl ?_;have a5:=hb.trans (Tz.below (B:=w.1.size) (λx u=>by have u:x=w.1.size:=u;omega) (by omega));have qz:=qI.turned Tz (λg h1 h2=>by have h2:g=w.1.size:=h2;have:=(zq g h1).1;omega);have kz:=qK.turned Tz (λg h1 h2=>by have h2:g=w.1.size:=h2;have:=(Z g h1).1;omega);exact⟨A,n,c,B,m,d,rfl,qyw hS a5 (by omega) qz kz hn hm,a5⟩
section
variable {b:Nat}{w w':WD}{d p:Nat}{S0 S T:NP}{D:DM}{P P':Pl}
theorem Qh.step (H:Qh b w d p S0 S T D P)(R:Pool w' p d S T P')(X:Turn S w w'):Qh b w' d p S0 S T D P':=by
 have g:=X.size;exact⟨H.Bc.keep λk e f=>X.block k e (H.apart k f),R,H.sub,H.apart,λk e=>⟨(H.tight k e).1,by have:=(H.tight k e).2;omega⟩⟩
theorem Qh.low (H:Qh b w d p S0 S T D P):∀k,S k->k<w.1.size:=λk e=>(H.tight k (H.Dw k e)).2
theorem Qh.tab (H:Qh b w d p S0 S T D P)(hb:1<b)(ht:Tab w)(X:Turn S w w'):Tab w':=ht.turned X λh=>by have:=(H.tight _ (H.Dw _ h)).1;omega
theorem Qh.less {T':NP}(H:Qh b w d p S0 S T' D P)(hT:∀k,T k->T' k)(h0:∀k,S0 k->T k)(h1:∀k,S k->T k):Qh b w d p S0 S T D P:=
 ⟨H.Bc,H.pool.mono (λ_ _ h=>h) (λk _ h=>hT k h) h1,h0,H.apart,λk e=>H.tight k (hT k e)⟩
theorem qyx (H:Qh b w d p S0 S T D P)(g:1<b)(u:Tab w)(a:Int) :
  Calls prog 177 #[.pointer (some ⟨p,0,none⟩),.int .i64 a] w λe w'=>e=.returned (.int .i64 (P.C.Y0 a))/\Qh b w' d p S0 S T D ⟨P.S,P.C.ref a,P.L⟩/\Turn S w w'/\Tab w':=
 (qtu H.pool a).mono λ_ _ ⟨h1,h2,f⟩=>⟨h1,H.step h2 f,f,H.tab g u f⟩
theorem qkc (H:Qh b w d p S0 S T D P)(g:1<b)(u:Tab w)(a:Int) :
  Calls prog 178 #[.pointer (some ⟨p,0,none⟩),.int .i64 a] w λe w'=>e=.returned (.tuple #[.int .i64 (P.C.Jv a),.int .i64 (P.C.Jp a)])/\Qh b w' d p S0 S T D ⟨P.S,P.C.Qp a,P.L⟩/\Turn S w w'/\Tab w':=
 (qmh H.pool a).mono λ_ _ ⟨h1,h2,f⟩=>⟨h1,H.step h2 f,f,H.tab g u f⟩
def tv (p:Nat):Value:=.agg #[.pointer (some ⟨p,0,none⟩)]
theorem qcs {w:WD}{base:Nat}{A:OA}{n c:Nat}{zs:LI}(h:Qz w base 3 1 A n c (zs.map iv)){j:Nat}(F:j<n):∃g o,A=some ⟨g,o,none⟩/\w.cell? ⟨g,o+j,none⟩=some (.int .i64 (zs.getD j 0)):=by
 have f:=h.Um (by omega);have u:=f.len;rw[AF] at u;obtain⟨g,o,e,E,_,y⟩:=f.2.2.2 j (iv (zs.getD j 0)) (by
  rw[BA,AC (by omega),AG,AC (by omega)];rfl)
 have:=y 0 _ rfl;rw[Nat.mul_one,Nat.add_zero] at this;exact⟨g,o,e,this⟩
theorem qkd {zs:LI}{j:Nat}(h:j<zs.length):zs.drop j=zs.getD j 0::zs.drop (j+1):=by
 rw[List.drop_eq_getElem_cons h,AG,AC h];rfl
theorem qq3 (H:Qh b w d p S0 S T D P)(hb:1<b)(ht:Tab w)(N:Nd)(W:N.fit)(A:OA)(n c:Nat)(B:OA)(m E:Nat)(J:Je (Turn S w) N A n c B m E)(hP:Vk N.named P=some P') :
  Calls prog 163 #[tv p,Xx N.lvl A n c B m E] w λe w'=>e=.returned (.int .i64 0)/\Qh b w' d p S0 S T D P'/\Turn S w w'/\Tab w':=by
 have hS:=H.low;have G:NB ((w.alloc (.cells #[.pointer (some ⟨p,0,none⟩)] 188)).alloc (.cells #[.int .i64 N.lvl,.slice A n c,.slice B m E] 193)) (w.1.size+1) N.lvl A n c B m E:=NB.new2 w _ _ _ _ _ _ _ _ _;have M:RB ((w.alloc (.cells #[.pointer (some ⟨p,0,none⟩)] 188)).alloc (.cells #[.int .i64 N.lvl,.slice A n c,.slice B m E] 193)) w.1.size [.pointer (some ⟨p,0,none⟩)]:=(RB.new w [.pointer (some ⟨p,0,none⟩)] 188).below (Ql) (by simp);have O:Below w.1.size w ((w.alloc (.cells #[.pointer (some ⟨p,0,none⟩)] 188)).alloc (.cells #[.int .i64 N.lvl,.slice A n c,.slice B m E] 193)):=(Ql).alloc (by simp) _;have c0:=G.c0;have c1:=G.c1;have c2:=G.c2;have hn:=J.hn;have hm:=J.hm;have Hk:=HI (λu (hu:Below w.1.size w u)=>qc5 N W A n c B m E u (J.its.Y6 (Zb hu)) (J.Bg u (Zb hu)) (by omega) (by omega));have HP:=HI hP;clear hP;unfold Xx tv;go_enter func163,ntmps163
 go_wp2_with fail
 generalize ((w.alloc (.cells #[.pointer (some ⟨p,0,none⟩)] 188)).alloc (.cells #[.int .i64 N.lvl,.slice A n c,.slice B m E] 193))=w1 at G M O c0 c1 c2 ⊢;refine (Hk.out w1 O).mono ?_;rintro e w2 ⟨A2,I,k2,rfl,y,b2⟩;have a2:=Qz.len y (by omega);rw[AF] at a2;have B2:=O.trans (b2.mono O.size);have T2:=M.below b2 M.lt;have H2:=H.below B2;have t2:=ht.below B2 ht.1;have X2:Turn S w w2:=Zb B2;have a6:I<=120:=by
  have h1:N.named.length<=N.kids.length+N.items.length:=by
   unfold Nd.named;rw[AD,AF];have:=List.length_filterMap_le Ky N.items;omega
  have:=J.ln;have:=J.lm;omega
 have z1:=G.lt;have Y:∀k,q01 A2=some k->w.1.size<k:=λk X=>by have:=(y.Qc k X).1;have:=M.lt;have:=G.lt;omega
 clear c0 c1 c2 G M O b2 Hk B2;go_wp2_with fail
 go_loopw [12] (λi wr=>∃(j:Nat) (f:Pl),j<=I/\i=.int .i64 (j:Int)/\Vk (N.named.drop j) f=some P'/\Qh b wr d p S0 S T D f/\Tab wr/\Turn S w wr/\RB wr w.1.size [.pointer (some ⟨p,0,none⟩)]/\Qz wr (w.1.size+1) 3 1 A2 I k2 (N.named.map iv)) (λi _=>I-(intOf i).toNat)
 case atStart=>exact⟨0,P,AW _,rfl,HP.out,H2,t2,X2,T2,y.less (by omega)⟩
 case round=>
  obtain⟨j,f,hj,rfl,R,Hj,tj,Xj,Tj,F⟩:=hrel;have K:=HI R;clear R;by_cases a3:j<I
  ·obtain⟨g,o,hA,y0⟩:=qcs F a3;subst hA;have hd:=qkd (zs:=N.named) (j:=j) (by omega);obtain⟨z,hz⟩:∃z,N.named.getD j 0=z:=⟨_,rfl⟩;rw[hz] at y0 hd;have HD:=HI hd;clear hz hd;have q0:=Tj.cell 0 rfl;have hr:f.C.Y0 z=0/\Vk (N.named.drop (j+1)) ⟨f.S,f.C.ref z,f.L⟩=some P':=by
    have h:=K.out;rw[HD.out] at h;have h:(if f.C.Y0 z=0 then Vk (N.named.drop (j+1)) ⟨f.S,f.C.ref z,f.L⟩ else none)=some P':=h;split at h
    ·rename_i h0;exact⟨h0,h⟩
    ·cases h
   obtain⟨Z,a0⟩:=hr;have HR:=HI a0;have Hc:=qyx Hj hb tj z;rw[Z] at Hc;have Hc:=HI Hc;clear a0 Z;go_wp2_with fail
   refine Hc.out.mono ?_;rintro e w3 ⟨rfl,H3,X3,t3⟩;have T3:=Tj.turned X3 (λh=>by have:=hS _ h;omega);have a1:=Qz.turned F X3 (λk X hs=>by have:=hS _ hs;have:=Y k X;omega);have XX:=Xj.trans X3 λk X=>.inl X
   go_wp2;exact⟨⟨j+1,_,by omega,by go_num,HR.out,H3,t3,XX,T3,a1⟩,by simp[intOf];omega⟩
  ·have a5:j=I:=by omega
   have U:f=P':=by
    have h:=K.out;rw[List.drop_of_length_le (by omega)] at h;exact OI h
   subst U;have a4:¬(j:Int)<(I:Int):=by omega
   go_wp2;go_ret;exact⟨rfl,Hj,Xj,tj⟩
theorem qif (H:Qh b w d p S0 S T D P)(hb:1<b)(ht:Tab w)(N:Nd)(W:N.fit)(A:OA)(n c:Nat)(B:OA)(m E:Nat)(J:Je (Turn S w) N A n c B m E)(hP:Rh N.named P=some P') :
  Calls prog 164 #[tv p,Xx N.lvl A n c B m E] w λe w'=>e=.returned (.int .i64 0)/\Qh b w' d p S0 S T D P'/\Turn S w w'/\Tab w':=by
 have hS:=H.low;have G:NB ((w.alloc (.cells #[.pointer (some ⟨p,0,none⟩)] 188)).alloc (.cells #[.int .i64 N.lvl,.slice A n c,.slice B m E] 193)) (w.1.size+1) N.lvl A n c B m E:=NB.new2 w _ _ _ _ _ _ _ _ _;have M:RB ((w.alloc (.cells #[.pointer (some ⟨p,0,none⟩)] 188)).alloc (.cells #[.int .i64 N.lvl,.slice A n c,.slice B m E] 193)) w.1.size [.pointer (some ⟨p,0,none⟩)]:=(RB.new w [.pointer (some ⟨p,0,none⟩)] 188).below (Ql) (by simp);have O:Below w.1.size w ((w.alloc (.cells #[.pointer (some ⟨p,0,none⟩)] 188)).alloc (.cells #[.int .i64 N.lvl,.slice A n c,.slice B m E] 193)):=(Ql).alloc (by simp) _;have c0:=G.c0;have c1:=G.c1;have c2:=G.c2;have hn:=J.hn;have hm:=J.hm;have Hk:=HI (λu (hu:Below w.1.size w u)=>qc5 N W A n c B m E u (J.its.Y6 (Zb hu)) (J.Bg u (Zb hu)) (by omega) (by omega));have HP:=HI hP;clear hP;unfold Xx tv;go_enter func164,ntmps164
 go_wp2_with fail
 generalize ((w.alloc (.cells #[.pointer (some ⟨p,0,none⟩)] 188)).alloc (.cells #[.int .i64 N.lvl,.slice A n c,.slice B m E] 193))=w1 at G M O c0 c1 c2 ⊢;refine (Hk.out w1 O).mono ?_;rintro e w2 ⟨A2,I,k2,rfl,y,b2⟩;have a2:=Qz.len y (by omega);rw[AF] at a2;have B2:=O.trans (b2.mono O.size);have T2:=M.below b2 M.lt;have H2:=H.below B2;have t2:=ht.below B2 ht.1;have X2:Turn S w w2:=Zb B2;have a6:I<=120:=by
  have h1:N.named.length<=N.kids.length+N.items.length:=by
   unfold Nd.named;rw[AD,AF];have:=List.length_filterMap_le Ky N.items;omega
  have:=J.ln;have:=J.lm;omega
 have z1:=G.lt;have Y:∀k,q01 A2=some k->w.1.size<k:=λk X=>by have:=(y.Qc k X).1;have:=M.lt;have:=G.lt;omega
 clear c0 c1 c2 G M O b2 Hk B2;go_wp2_with fail
 go_loopw [13] (λi wr=>∃(j:Nat) (f:Pl),j<=I/\i=.int .i64 (j:Int)/\Rh (N.named.drop j) f=some P'/\Qh b wr d p S0 S T D f/\Tab wr/\Turn S w wr/\RB wr w.1.size [.pointer (some ⟨p,0,none⟩)]/\Qz wr (w.1.size+1) 3 1 A2 I k2 (N.named.map iv)) (λi _=>I-(intOf i).toNat)
 case atStart=>exact⟨0,P,AW _,rfl,HP.out,H2,t2,X2,T2,y.less (by omega)⟩
 case round=>
  obtain⟨j,f,hj,rfl,R,Hj,tj,Xj,Tj,F⟩:=hrel;have K:=HI R;clear R;by_cases a3:j<I
  ·obtain⟨g,o,hA,y0⟩:=qcs F a3;subst hA;have hd:=qkd (zs:=N.named) (j:=j) (by omega);obtain⟨z,hz⟩:∃z,N.named.getD j 0=z:=⟨_,rfl⟩;rw[hz] at y0 hd;have HD:=HI hd;clear hz hd;have q0:=Tj.cell 0 rfl;have hr:f.C.Jp z=0/\Rh (N.named.drop (j+1)) ⟨f.S,f.C.Qp z,f.L⟩=some P':=by
    have h:=K.out;rw[HD.out] at h;have h:(if f.C.Jp z=0 then Rh (N.named.drop (j+1)) ⟨f.S,f.C.Qp z,f.L⟩ else none)=some P':=h;split at h
    ·rename_i h0;exact⟨h0,h⟩
    ·cases h
   obtain⟨Z,a0⟩:=hr;have HR:=HI a0;have Hc:=qkc Hj hb tj z;rw[Z] at Hc;have Hc:=HI Hc;clear a0 Z;go_wp2_with fail
   refine Hc.out.mono ?_;rintro e w3 ⟨rfl,H3,X3,t3⟩;have T3:=Tj.turned X3 (λh=>by have:=hS _ h;omega);have a1:=Qz.turned F X3 (λk X hs=>by have:=hS _ hs;have:=Y k X;omega);have XX:=Xj.trans X3 λk X=>.inl X
   go_wp2;exact⟨⟨j+1,_,by omega,by go_num,HR.out,H3,t3,XX,T3,a1⟩,by simp[intOf];omega⟩
  ·have a5:j=I:=by omega
   have U:f=P':=by
    have h:=K.out;rw[List.drop_of_length_le (by omega)] at h;exact OI h
   subst U;have a4:¬(j:Int)<(I:Int):=by omega
   go_wp2;go_ret;exact⟨rfl,Hj,Xj,tj⟩
end
def Ea (s:Qr)(A:OA)(n c:Nat)(B:OA)(m d:Nat):LV:=Ja s.N.lvl A n c B m d s.addr (s.next:Int) s.held s.shared
def Vm (s:Qr)(A:OA)(n c:Nat)(B:OA)(m d:Nat):Value:=.agg #[.int .i64 s.N.lvl,.slice A n c,.slice B m d,.int .i64 s.addr,.int .i64 (s.next:Int),.bool s.held,.bool s.shared]
theorem qxb {w w':WD}{S:NP}(H:∀k,S k->k<w.1.size){M:Nd}{O R:OA}{J c1 G U:Nat}(hn:J<=20)(hm:G<=20)(E:J5 w' w.1.size O J c1 M.items)(F:Qz w' w.1.size 159 4 R G U (M.kids.map Qk.vs)):Je (Turn S w') M O J c1 R G U:=by
 have l1:=E.Y6.len;have l2:M.kids.length=G:=by have:=Qz.len F (by omega);rw[AF] at this;exact this
 have W:=E.Y6.bounds;have X:=Qz.Um F (by omega);refine⟨?_,λu y=>Qz.Um (Qz.turned F y λk f g=>by have:=(Qz.Qc F k f).1;have:=H k g;omega) (by omega),l1,l2,⟨by omega,W.1,W.2⟩,⟨by omega,X.cap,X.max⟩⟩;have Z:=E.Qc;obtain⟨K,h1,h2,Y⟩:=E;refine⟨K,λu y=>(h1.turned y λk f g=>by have:=(Z k f).1;have:=H k g;omega).Um (by omega),h2,λj r x hr hx=>?_⟩;obtain⟨V,p,q,e,hv,I⟩:=Y j r x hr hx;exact⟨V,p,q,e,λu y=>hv.turned' y λhl k f g=>by have:=(I hl k f).1;have:=H k g;omega⟩
section
variable {b:Nat}{w w':WD}{d p:Nat}{S0 S T:NP}{D:DM}{P P':Pl}
theorem q5h (H:Qh b w d p S0 S T D P)(X:1<b)(J:Tab w)(s:Qr)(A:OA)(n c:Nat)(B:OA)(m E:Nat)(g:P.leave s=some P') :
  Calls prog 165 #[tv p,Vm s A n c B m E] w λe w'=>e=.returned (.int .i64 0)/\Qh b w' d p S0 S T D P'/\Turn S w w'/\Tab w':=by
 obtain⟨N,f,F,hd,G⟩:=s;have O:RB ((w.alloc (.cells #[.pointer (some ⟨p,0,none⟩)] 188)).alloc (.cells (Ja N.lvl A n c B m E f (F:Int) hd G).toArray 195)) w.1.size [.pointer (some ⟨p,0,none⟩)]:=(RB.new w [.pointer (some ⟨p,0,none⟩)] 188).below (Ql) (by simp);have K:RB ((w.alloc (.cells #[.pointer (some ⟨p,0,none⟩)] 188)).alloc (.cells (Ja N.lvl A n c B m E f (F:Int) hd G).toArray 195)) (w.1.size+1) (Ja N.lvl A n c B m E f (F:Int) hd G):=by
  have:=RB.new (w.alloc (.cells #[.pointer (some ⟨p,0,none⟩)] 188)) (Ja N.lvl A n c B m E f (F:Int) hd G) 195;rwa [BH] at this
 have u:Below w.1.size w ((w.alloc (.cells #[.pointer (some ⟨p,0,none⟩)] 188)).alloc (.cells (Ja N.lvl A n c B m E f (F:Int) hd G).toArray 195)):=(Ql).alloc (by simp) _;have y0:=O.cell 0 rfl;have y1:=K.cell 3 rfl;have y3:=K.cell 5 rfl;unfold Pl.leave at g;dsimp only at g;have y:=qkc (H.below u) X (J.below u J.1) f;have M:=H.below u;have R:=J.below u J.1;unfold tv Vm;dsimp only;unfold Ja at u y3 y1 y0 y M R;clear K O
 cases hd with
 |true=>
  obtain rfl:=OI g;clear y;go_enter func165,ntmps165
  go_wp2;go_ret;exact⟨rfl,M,Zb u,R⟩
 |false=>
  have I:P.C.Jp f=0/\⟨P.S,P.C.Qp f,P.L⟩=P':=by
   rw[AB Bool.false_ne_true] at g;split at g
   ·rename_i h;exact⟨h,OI g⟩
   ·cases g
  obtain⟨I,rfl⟩:=I;rw[I] at y;have y:=HI y;clear g I;go_enter func165,ntmps165
  go_wp2_with fail
  refine y.out.mono ?_;rintro e w2 ⟨rfl,U,W,Z⟩;go_wp2;go_ret;exact⟨rfl,U,(Zb (S:=S) u).trans W λk Y=>.inl Y,Z⟩
theorem qgc (H:Qh b w d p S0 S T D P)(ht:Tab w)(a0:∀a b,P.L a=some b->b.kindOk)(a:Int)(held:Bool)(hE:P.Qe D a=0) :
  Calls prog 139 #[tv p,.int .i64 a,.bool held] w λe w'=>∃A n c B m dd,e=.returned (.tuple #[Vm (P.spot D a held) A n c B m dd,.int .i64 0])/\Je (Turn (λk=>k<w.1.size) w') (P.Qd D a) A n c B m dd/\Below w.1.size w w':=by
 have U:RB ((w.alloc (.cells #[.pointer (some ⟨p,0,none⟩)] 188)).alloc (.cells #[.int .i64 0,.slice none 0 0,.slice none 0 0,.int .i64 0,.int .i64 0,.bool false,.bool false] 195)) w.1.size [.pointer (some ⟨p,0,none⟩)]:=(RB.new w [.pointer (some ⟨p,0,none⟩)] 188).below (Ql) (by simp);have Y:RB ((w.alloc (.cells #[.pointer (some ⟨p,0,none⟩)] 188)).alloc (.cells #[.int .i64 0,.slice none 0 0,.slice none 0 0,.int .i64 0,.int .i64 0,.bool false,.bool false] 195)) (w.1.size+1) (Ja 0 none 0 0 none 0 0 0 0 false false):=by
  have:=RB.new (w.alloc (.cells #[.pointer (some ⟨p,0,none⟩)] 188)) (Ja 0 none 0 0 none 0 0 0 0 false false) 195;rwa [BH] at this
 have Z:Below w.1.size w ((w.alloc (.cells #[.pointer (some ⟨p,0,none⟩)] 188)).alloc (.cells #[.int .i64 0,.slice none 0 0,.slice none 0 0,.int .i64 0,.int .i64 0,.bool false,.bool false] 195)):=(Ql).alloc (by simp) _;have y0:=U.cell 0 rfl;have hS:=H.low;obtain⟨M,hM⟩:∃M,P.Qd D a=M:=⟨_,rfl⟩;obtain⟨x,hx⟩:∃x,P.C.get a=x:=⟨_,rfl⟩;have W:=λ(u:WD) (I:Below w.1.size w u)=>qaf (H.below I).Bc (H.below I).pool a0 (ht.below I ht.1) a
 rw[hM,hE] at W;have W:=HI W;have Hc:=HI (λ(u:WD) (I:Below w.1.size w u)=>q5b (H.below I).pool a x hx);obtain⟨r,hr⟩:∃r,decide (1<x)=r:=⟨_,rfl⟩;unfold Pl.spot;rw[hM,hx,hr];clear hx hM hE;unfold tv;go_enter func139,ntmps139
 go_wp2_with fail
 generalize ((w.alloc (.cells #[.pointer (some ⟨p,0,none⟩)] 188)).alloc (.cells #[.int .i64 0,.slice none 0 0,.slice none 0 0,.int .i64 0,.int .i64 0,.bool false,.bool false] 195))=w1 at U Y Z y0 ⊢;refine (W.out w1 Z).mono ?_;rintro e f ⟨g,G,c1,y,F,E,rfl,a2,a1,hI,hK,b2⟩;have z1:=Y.lt;have z0:=Z.size;have z2:=b2.size;have hq:Je (Turn (λk=>k<w1.1.size) f) M g G c1 y F E:=qxb (λk O=>O) a2 a1 hI hK;have B2:=Z.trans (b2.mono Z.size);have J:Below f.1.size f (f.alloc (.cells #[.int .i64 M.lvl,.slice g G c1,.slice y F E] 108)):=Ql;have X:NB (f.alloc (.cells #[.int .i64 M.lvl,.slice g G c1,.slice y F E] 108)) f.1.size M.lvl g G c1 y F E:=NB.new f _ _ _ _ _ _ _ _;have T3:=(U.below b2 U.lt).below J (by have:=U.lt;omega);have R3:=(Y.below b2 Y.lt).below J (by omega);have B3:=B2.trans (J.mono B2.size);have fin:∀(u K:WD),Below f.1.size f u->Turn (λk=>k=w.1.size+1) u K->Je (Turn (λk=>k<w.1.size) K) M g G c1 y F E/\Below w.1.size w K:=λu K I T=>by
  have h1:=I.size;refine⟨hq.mono λv hv=>(((Zb (S:=λk=>k<w1.1.size) I).trans T λk O=>.inl (by have:k=w.1.size+1:=O;show k<_;omega)).trans hv λk O=>.inl (by have:k<w.1.size:=O;show k<_;omega)),B2.trans ((I.mono B2.size).trans (T.below (λk O=>by have:k=w.1.size+1:=O;omega) (by omega)))⟩
 clear hI hK hq b2 U Y y0;go_wp2_with fail
 generalize f.alloc (.cells #[.int .i64 M.lvl,.slice g G c1,.slice y F E] 108)=R at J X T3 R3 B3 ⊢;have zR:=R3.lt;have zN:=X.lt;have zT:=T3.lt;have zB:=B3.size;have bD:Below R.1.size R R.drew:=(AI _ _).drew;have g0:∀u:Grown R,u.to.cell? ⟨w.1.size,0,none⟩=some (.pointer (some ⟨p,0,none⟩)):=Grown.cell (T3.cell 0 rfl) zT;have g1:∀u:Grown R,u.to.cell? ⟨f.1.size,0,none⟩=some (.int .i64 M.lvl):=Grown.cell X.c0 zN;have g2:∀u:Grown R,u.to.cell? ⟨f.1.size,1,none⟩=some (.slice g G c1):=Grown.cell X.c1 zN;have g3:∀u:Grown R,u.to.cell? ⟨f.1.size,2,none⟩=some (.slice y F E):=Grown.cell X.c2 zN;clear W
 cases held with
 |true=>
  go_wp2_with fail
  refine q27 13 (by kernel_rfl) (by kernel_rfl) ?_;simp only[List.take_succ_cons,List.take_zero,List.drop_succ_cons,List.drop_zero];repeat (go_big_quiet_step (first|fail))
  refine wpQuiet_nil ?_;rintro _ ⟨u,rfl⟩;have R4:=R3.below u.ok zR;go_wp2_with (first
   |(refine Nz rfl _ _ rfl (w.1.size+1) rfl M.lvl g G c1 y F E a 0 true true rfl R4 rfl ?_;intro K Rz Tz)
   |fail)
  refine bodyPost_ret (Ag Tryz.results139 rfl (q5g Rz)) rfl ?_;obtain⟨f1,f2⟩:=fin u.to K (J.trans (u.ok.mono J.size)) Tz;exact⟨g,G,c1,y,F,E,rfl,f1,f2⟩
 |false=>
  go_wp2_with fail
  refine q27 13 (by kernel_rfl) (by kernel_rfl) ?_;simp only[List.take_succ_cons,List.take_zero,List.drop_succ_cons,List.drop_zero];repeat (go_big_quiet_step (first|(go_at_call 104;exact Calls.J7 (Hc.out _ (B3.trans ((Grown.ok _).mono B3.size))))|fail))
  refine wpQuiet_nil ?_;rintro _ ⟨u,rfl⟩;have R4:=R3.below u.ok zR;go_wp2_with (first
   |(refine Nz rfl _ _ rfl (w.1.size+1) rfl M.lvl g G c1 y F E a 0 false r rfl R4 rfl ?_;intro K Rz Tz)
   |fail)
  refine bodyPost_ret (Ag Tryz.results139 rfl (q5g Rz)) rfl ?_;obtain⟨f1,f2⟩:=fin u.to K (J.trans (u.ok.mono J.size)) Tz;exact⟨g,G,c1,y,F,E,rfl,f1,f2⟩
end
