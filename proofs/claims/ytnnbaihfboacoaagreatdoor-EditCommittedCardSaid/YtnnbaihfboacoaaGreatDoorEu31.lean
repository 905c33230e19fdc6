/- The steps of Put and Delete in a pool some of whose nodes are open: who owns what then -/
import Derived.Test.YtnnbaihfboacoaaGreatDoorEu27
namespace Go.Proofs.YtnnbaihfboacoaaGreatDoor
open Go Go.RowKit Go.Proofs
section
variable {D:DM}{S0:Sp}{C0:Ct}{O H:List Int}{P:Pl}
theorem Keep.nonneg (K:Keep D S0 C0 O H P)(x:Int):0<=P.C.get x:=(Ct.Jc K.c x).1
theorem Keep.low (K:Keep D S0 C0 O H P)(hH:H.length<=30000){c:Nat}(h0:P.C.get (c:Int)≠0):P.C.get (c:Int)<=60000:=by
 obtain⟨c0,p⟩:=K.first h0
 have h:=K.Uc.eq c c0 p;have h1:H.count (c:Int)<=H.length:=List.count_le_length;have h2:=qlk (K:=λb=>(P.hide D O (b:Int)).1.named) (most:=P.C.n) (k:=12) (out:=P.cnt) (λb e=>by
  show ((P.hide D O (b:Int)).1.named).length<=12;by_cases f:P.C.get (b:Int)=0
  ·by_cases d:(b:Int)∈O
   ·rw[Pe d];exact Nat.zero_le _
   ·rw[q1z d,q0z f];exact Nat.zero_le _
  ·by_cases d:(b:Int)∈O
   ·rw[Pe d];exact Nat.zero_le _
   ·have L:=K.loc b e f d;rw[q3l L,List.length_map];by_cases m:(P.hide D O (b:Int)).1.lvl=0
    ·have:=(q1r L.may m).1;rw[this];exact Nat.zero_le _
    ·exact (Py L.may m).2.2.2.2.1) c
 have u:=K.c.1.2;have e:=Ct.Jc K.c (c:Int);have y:P.cnt c=(P.C.get (c:Int)).toNat:=rfl;omega
theorem qg7:∀(e:List Int) {H:List Int} {P:Pl},Keep D S0 C0 O H P->(∀x∈e,(P.hide D O x).2=0)->H.length+e.length<=30000->
  ∃d,Um e P=some d/\Keep D S0 C0 O (e++H) d/\∀l,Move l D O O P d 0
 |[],H,P,K,_,_=>⟨P,rfl,K,λl=>Move.refl l D O P⟩
 |a::r,H,P,K,hx,hl=>by
  rw[List.length_cons] at hl;obtain⟨E,_,n,rfl,hn,h0⟩:=q32 (hx a (List.mem_cons_self ..));have m:=K.low (by omega) h0;obtain⟨A,u,p⟩:=K.ref h0 (by omega) E;obtain⟨d,B,y,F⟩:=qg7 r u (λx f=>by
   have h1:=hx x (List.mem_cons_of_mem _ f);rw[(p 0).ext x h1];exact h1) (by rw[List.length_cons];omega)
  refine⟨d,?_,y.perm (λb _ _=>?_),λl=>(p l).trans K.nonneg (F l)⟩
  ·show (if P.C.Y8 (n:Int)=0 then _ else none)=_;rw[if_pos A];exact B
  ·simp only[List.count_append,List.count_cons,List.cons_append];omega
theorem O7 {R:Int->Nd × Int}{l:Nat}{N:Nd}{M:List (List Qc)}(h:Yr R l N M)(d:∀x∈M.flatten,Ko x=none):N.named=N.kids.map (·.a)/\(∀x∈N.named,(R x).2=0)/\N.named.length<=M.length:=by
 cases l with
 |zero=>
  obtain⟨its,rfl,rfl⟩:=h;rw[Ig] at d;have e:(⟨0,its,[]⟩:Nd).named=[]:=by
   unfold Nd.named;rw[List.filterMap_eq_nil_iff.2 d];rfl
  rw[e];exact⟨rfl,λx b=>(by cases b),Nat.zero_le _⟩
 |succ l=>
  obtain⟨G,rfl,rfl,f⟩:=h;have e:(⟨((l+1:Nat):Int),[],G.map Qn⟩:Nd).named=(G.map Qn).map (·.a):=by unfold Nd.named;simp
  refine⟨e,λx b=>?_,by rw[e];simp⟩;rw[e] at b;obtain⟨y,p,rfl⟩:=List.mem_map.1 b;obtain⟨t,m,rfl⟩:=List.mem_map.1 p;exact (Fq (f t m).1).2.2
theorem qk5 {α:Type}{M:List (List α)}{i j:Nat}{x:α}(h:x∈((M.drop i).take j).flatten):x∈M.flatten:=by
 obtain⟨r,b,d⟩:=List.mem_flatten.1 h;exact List.mem_flatten.2 ⟨r,List.mem_of_mem_drop (List.mem_of_mem_take b),d⟩
def Zx (s:Qu)(i j:Nat):Nd:=Jd s.N.lvl [s.N.cut 0 i,s.N.cut j s.N.size]
structure Outside (R:Int->Nd × Int)(l:Nat)(N:Nd)(i j:Nat)(ML MR:List (List Qc)):Prop where
 left:Yr R l (N.cut 0 i) ML
 right:Yr R l (N.cut j N.size) MR
 lvl:N.lvl=(l:Int)
 li:ML.length=i
 size:N.size=j+MR.length
 ij:i<=j
theorem qah {R:Int->Nd × Int}{l:Nat}{N:Nd}{M:List (List Qc)}(h:Yr R l N M){i j:Nat}(e:i<=j)(f:j<=M.length):Outside R l N i j (M.take i) (M.drop j):=by
 have b:=q5l h;refine⟨?_,?_,q4s h,by rw[List.length_take];omega,by rw[b,List.length_drop];omega,e⟩
 ·have:=q69 h 0 i;simpa using this
 ·have:=q69 h j N.size;rw[b] at this ⊢;have d:(M.drop j).take (M.length-j)=M.drop j:=List.take_of_length_le (by rw[List.length_drop];omega);rw[d] at this;exact this
theorem q94 {R:Int->Nd × Int}{l:Nat}{s:Qu}{i j:Nat}{d e:List (List Qc)}(h:Outside R l s.N i j d e):Yr R l (Zx s i j) (d++e):=by
 have h2:=q6u (R:=R) (l:=l) [(s.N.cut 0 i,d),(s.N.cut j s.N.size,e)] (λx b=>by
  rcases List.mem_cons.1 b with rfl|b
  ·exact h.left
  ·rcases List.mem_cons.1 b with rfl|b
   ·exact h.right
   ·cases b)
 unfold Zx;rw[h.lvl];simpa using h2
theorem qpo {R:Int->Nd × Int}{l:Nat}{s:Qu}{e f m:List (List Qc)}{b:Nd}{i j:Nat}(h:Outside R l s.N i j e f)(p:Yr R l b m):Yr R l (Ye s i j b) (e++(m++f)):=by
 have h2:=q6u (R:=R) (l:=l) [(s.N.cut 0 i,e),(b,m),(s.N.cut j s.N.size,f)] (λx d=>by
  rcases List.mem_cons.1 d with rfl|d
  ·exact h.left
  ·rcases List.mem_cons.1 d with rfl|d
   ·exact p
   ·rcases List.mem_cons.1 d with rfl|d
    ·exact h.right
    ·cases d)
 unfold Ye;rw[h.lvl];simpa using h2
theorem q8m (K:Keep D S0 C0 O H P){l:Nat}{s:Qu}{m p:List (List Qc)}{i j:Nat}(y:Outside (P.hide D O) l s.N i j m p)(b:∀x∈(m++p).flatten,Ko x=none)(d:s.shared=false->l=0->(s.N.cut i j).named=[])(G:m.length+p.length<=100)(F:H.length<=20000) :
  ∃u,P.Qx s i j=some u/\Keep D S0 C0 O ((if s.shared=true then (Zx s i j).named else [])++H) u/\∀l,Move l D O O P u 0:=by
 unfold Pl.Qx;by_cases f:s.shared=true
 ·rw[if_pos f,if_pos f];obtain⟨_,B,E⟩:=O7 (q94 y) b;refine qg7 _ K B ?_;rw[List.length_append] at E;show H.length+(Zx s i j).named.length<=30000;omega
 ·rw[if_neg f,if_neg f];have e:=y.lvl;by_cases A:0<s.N.lvl
  ·rw[if_pos A];exact⟨P,rfl,K,λl=>Move.refl l D O P⟩
  ·rw[if_neg A,d (by cases e:s.shared with|true=>exact absurd e f|false=>rfl) (by omega)];exact⟨P,rfl,K,λl=>Move.refl l D O P⟩
def own (s:Qu):List Int:=if s.held=true then [] else [s.addr]
structure Zv (P:Pl)(D:DM)(O:List Int)(l:Int)(s:Qu):Prop where
 shared:s.shared=true->s.held=false->2<=P.C.get s.addr/\s.addr∉O/\(P.Qh D s.addr).lvl=l
 mine:s.shared=false->s.held=false/\s.addr∈O/\(P.Qh D s.addr).lvl=l
theorem Zv.above {l l':Int}{s:Qu}(h:Zv P D O l s){O':List Int}{P':Pl}(K:Keep D S0 C0 O H P)(ha:Bc l' D O O' P P')(hl:l'<l):Zv P' D O' l s:=by
 refine⟨λh1 h2=>?_,λh1=>?_⟩
 ·obtain⟨e,d,b⟩:=h.shared h1 h2;obtain⟨j1,j2,j3⟩:=ha s.addr (by omega) (by rw[b];exact hl);exact⟨by omega,λh=>d (j3.2 h),by rw[j2];exact b⟩
 ·obtain⟨e,d,b⟩:=h.mine h1;have f:=(K.opened _ d).2.1;obtain⟨j1,j2,j3⟩:=ha s.addr (by omega) (by rw[b];exact hl);exact⟨e,j3.1 d,by rw[j2];exact b⟩
def Dw (O:List Int)(s:Qu):List Int:=if s.shared=true then O else less1 O s.addr
theorem qck (K:Keep D S0 C0 O H P){l:Int}{s:Qu}(I:Zv P D O l s){X:List Int}(d:∀a:Nat,0<a->a<P.C.n->H.count (a:Int)=(own s++X).count (a:Int)) :
  ∃m,P.leave s=some m/\Keep D S0 C0 (Dw O s) X m/\Move l D O (Dw O s) P m 0/\∀x,x≠s.addr->m.C.get x=P.C.get x/\m.Qh D x=P.Qh D x:=by
 unfold Pl.leave;by_cases f:s.held=true
 ·have b:s.shared=true:=by
   cases e:s.shared with
   |true=>rfl
   |false=>have:=(I.mine e).1;rw[this] at f;cases f
  rw[if_pos f];have e:Dw O s=O:=if_pos b;rw[e];have A:own s=[]:=if_pos f;rw[A] at d;exact⟨P,rfl,K.perm λa h1 h2=>(d a h1 h2).symm,Move.refl l D O P,λ_ _=>⟨rfl,rfl⟩⟩
 ·have F:s.held=false:=by cases e:s.held with|true=>exact absurd e f|false=>rfl
  rw[if_neg f];have A:own s=[s.addr]:=if_neg f;rw[A] at d;have other:∀c:Nat,∀x:Int,P.C.get (c:Int)≠0->x≠(c:Int)->(P.C.Qy (c:Int)).get x=P.C.get x/\Pl.Qh ⟨P.S,P.C.Qy (c:Int),P.L⟩ D x=P.Qh D x:=λc x h0 G=>by
   rw[(qe5 h0).2];exact qp9 G
  cases b:s.shared with
  |true=>
   obtain⟨R,p,M⟩:=I.shared b F;obtain⟨c,B,E⟩:=Ae (C:=P.C) (a:=s.addr) (by omega);rw[B] at R M d ⊢;obtain⟨y,u,Q⟩:=K.Qy (H0:=X) R d;have e:Dw O s=O:=if_pos b;rw[if_pos y,e];exact⟨_,rfl,u,Q l (by omega),λx J=>other c x (by omega) J⟩
  |false=>
   obtain⟨_,p,M⟩:=I.mine b;have T:=(K.opened _ p).2.1;obtain⟨c,B,E⟩:=Ae (C:=P.C) (a:=s.addr) (by omega);have e:Dw O s=less1 O s.addr:=if_neg (by rw[b];decide);rw[e];rw[B] at p M d T ⊢;obtain⟨y,u,Q⟩:=K.drop (H0:=X) p d;rw[if_pos y];exact⟨_,rfl,u,Q l (by omega),λx J=>other c x (by omega) J⟩
end
def Wq (b:Nd)(a:Int):Ql:=⟨b.least,a⟩
def Uu (R:Int->Nd × Int)(d:List Nd)(b:List Int):Prop:=∀p∈d.zip b,R p.2=(p.1,0)/\1<=p.2/\p.2<2048
theorem Uu.ext {R R':Int->Nd × Int}{dn:List Nd}{az:List Int}(h:Uu R dn az)(e:Ext R R'):Uu R' dn az:=λp d=>by
 obtain⟨b,f⟩:=h p d;exact⟨by rw[e _ (by rw[b])];exact b,f⟩
section
variable {D:DM}{S0:Sp}{C0:Ct}{O H:List Int}{P:Pl}
theorem Zv.other {l:Int}{s o:Qu}(h:Zv P D O l o)(hne:o.held=true\/o.addr≠s.addr){O':List Int}{P':Pl}(hf:∀x,x≠s.addr->P'.C.get x=P.C.get x/\P'.Qh D x=P.Qh D x)(hO:∀x,x≠s.addr->(x∈O'↔x∈O)):Zv P' D O' l o:=by
 refine⟨λh1 h2=>?_,λh1=>?_⟩
 ·obtain⟨b,f,m⟩:=h.shared h1 h2;have hn:o.addr≠s.addr:=hne.elim (λe=>by rw[h2] at e;cases e) id;obtain⟨p,d⟩:=hf _ hn;exact⟨by rw[p];exact b,λh=>f ((hO _ hn).1 h),by rw[d];exact m⟩
 ·obtain⟨b,f,m⟩:=h.mine h1;have hn:o.addr≠s.addr:=hne.elim (λe=>by rw[b] at e;cases e) id;obtain⟨p,d⟩:=hf _ hn;exact⟨b,(hO _ hn).2 f,by rw[d];exact m⟩
theorem qti {s:Qu}{x:Int}(b:x≠s.addr):x∈Dw O s↔x∈O:=by
 unfold Dw;split
 ·exact Iff.rfl
 ·rw[Fv];exact⟨λh=>h.1,λh=>⟨h,b⟩⟩
theorem qk6 {s:Qu}{x:Int}(h:x∈Dw O s):x∈O/\(s.shared=false->x≠s.addr):=by
 unfold Dw at h;split at h
 ·rename_i b;exact⟨h,λe=>by rw[e] at b;cases b⟩
 ·obtain⟨h1,h2⟩:=Fv.1 h;exact⟨h1,λ_=>h2⟩
theorem q4t {l:Int}:∀(olds:List Qu) {O H:List Int} {P:Pl} (d:List Nd) (F:List Ql) (X:List Int),Keep D S0 C0 O H P->(∀s∈olds,Zv P D O l s)->(olds.Pairwise λs o=>o.held=true\/o.addr≠s.addr)->
  (∀b∈d,Fits (P.hide D O) b)->(∀a:Nat,0<a->a<P.C.n->H.count (a:Int)=(olds.flatMap own++(d.flatMap Nd.named++X)).count (a:Int))->
  ∃u G B f A,d=B++f/\A.length=B.length/\Gu olds P d F=some (u,f,F++List.zipWith Wq B A)/\Keep D S0 C0 G (A++(f.flatMap Nd.named++X)) u/\Move l D O G P u 0/\
   (∀x,x∈G->x∈O/\∀s∈olds,s.shared=false->x≠s.addr)/\Uu (u.hide D G) B A
 |[],O,H,P,d,F,X,K,_,_,_,hH=>⟨P,O,[],d,[],rfl,rfl,by unfold Gu;simp,K.perm λa h1 h2=>(hH a h1 h2).symm,Move.refl l D O P,λx E=>⟨E,λs Y=>(by cases Y)⟩,λp M=>(by cases M)⟩
 |s::olds,O,H,P,d,F,X,K,Y,hd,hf,hH=>by
  obtain⟨R,T⟩:=List.pairwise_cons.1 hd;have Z:=Y s (List.mem_cons_self ..);have hcut:∀a:Nat,0<a->a<P.C.n->H.count (a:Int)=(own s++(olds.flatMap own++(d.flatMap Nd.named++X))).count (a:Int):=λa h1 h2=>by
   rw[hH a h1 h2,List.flatMap_cons,List.append_assoc]
  have m:(∀u,P.leave s=some u->Gu (s::olds) P d F=Gu olds u d F)->∃u G B f A,d=B++f/\A.length=B.length/\Gu (s::olds) P d F=some (u,f,F++List.zipWith Wq B A)/\Keep D S0 C0 G (A++(f.flatMap Nd.named++X)) u/\Move l D O G P u 0/\
   (∀x,x∈G->x∈O/\∀Q∈s::olds,Q.shared=false->x≠Q.addr)/\Uu (u.hide D G) B A:=λJ=>by
   obtain⟨P1,e1,K1,m1,f1⟩:=qck K Z hcut;obtain⟨P2,O2,B,f,A,g1,g2,g3,g4,g5,g6,g7⟩:=q4t olds d F X K1 (λo U=>(Y o (List.mem_cons_of_mem _ U)).other (R o U) f1 λx E=>qti E) T (λb hb=>(hf b hb).ext m1.ext) (λa _ _=>rfl);refine⟨P2,O2,B,f,A,g1,g2,by rw[J P1 e1];exact g3,g4,m1.trans K.nonneg g5,λx E=>?_,g7⟩;obtain⟨j1,j2⟩:=g6 x E;obtain⟨j3,j4⟩:=qk6 j1;refine⟨j3,λQ y=>?_⟩;rcases List.mem_cons.1 y with rfl|y
   ·exact j4
   ·exact j2 Q y
  match d,hf,hH,hcut,m with
  |[],hf,hH,hcut,m=>
   refine m λu e=>?_
   show (match P.leave s with|some u=>Gu olds u [] F|none=>none)=_;rw[e]
  |b::d,hf,hH,hcut,m=>
   by_cases I:s.shared=true\/P.C.fresh s.addr=false
   ·refine m λu e=>?_
    show (if s.shared=true\/P.C.fresh s.addr=false then (match P.leave s with|some u=>Gu olds u (b::d) F|none=>none) else _)=_;rw[if_pos I,e]
   ·have a7:s.shared=false:=by
     cases e:s.shared with
     |true=>exact absurd (.inl e) I
     |false=>rfl
    have a6:P.C.fresh s.addr=true:=by
     cases e:P.C.fresh s.addr with
     |true=>rfl
     |false=>exact absurd (.inr e) I
    obtain⟨m1,m2,m3⟩:=Z.mine a7;have hg:=(K.opened _ m2).2.1;obtain⟨c,hc,a8⟩:=Ae (C:=P.C) (a:=s.addr) (by omega);obtain⟨c0,_⟩:=K.first (c:=c) (by rw[<-hc];omega)
    have W:own s=[s.addr]:=if_neg (by rw[m1];decide);rw[W] at hcut;obtain⟨e0,K1,hN,mv,hC,a1⟩:=K.set (c:=c) (N:=b) (H0:=s.addr::(olds.flatMap own++(d.flatMap Nd.named++X))) (by rw[<-hc];exact m2) (by rw[<-hc];exact a6) (hf b (List.mem_cons_self ..)) (λa h1 h2=>by
     rw[hcut a h1 h2,List.flatMap_cons];simp only[List.count_append,List.count_cons,List.count_nil];omega)
    rw[<-hc] at e0 K1 hN mv hC a1;have a2:=mv l (by omega);obtain⟨P2,O2,B,f,A,g1,g2,g3,g4,g5,g6,g7⟩:=q4t olds d (F++[⟨b.least,s.addr⟩]) (s.addr::X) K1 (λo U=>(Y o (List.mem_cons_of_mem _ U)).other (R o U) (λx E=>⟨by rw[hC],a1 x E⟩) λx E=>by
      rw[Fv];exact⟨λh=>h.1,λh=>⟨h,E⟩⟩) T (λx E=>(hf x (List.mem_cons_of_mem _ E)).ext a2.ext) (λa h1 h2=>by
      simp only[List.count_append,List.count_cons];omega)
    refine⟨P2,O2,b::B,f,s.addr::A,by rw[g1];rfl,by rw[List.length_cons,List.length_cons,g2],?_,?_,a2.trans K.nonneg g5,λx E=>?_,λp M=>?_⟩
    ·show (if s.shared=true\/P.C.fresh s.addr=false then _ else if P.Gw s.addr b=0 then Gu olds (P.Vq s.addr b) d (F++[⟨b.least,s.addr⟩]) else none)=_;rw[if_neg I,if_pos e0,g3,List.zipWith_cons_cons,List.append_assoc];rfl
    ·refine g4.perm λa _ _=>?_
     simp only[List.count_append,List.count_cons,List.cons_append];omega
    ·obtain⟨j1,j2⟩:=g6 x E;obtain⟨j3,j4⟩:=Fv.1 j1;refine⟨j3,λQ y=>?_⟩;rcases List.mem_cons.1 y with rfl|y
     ·exact λ_=>j4
     ·exact j2 Q y
    ·rw[List.zip_cons_cons] at M;rcases List.mem_cons.1 M with rfl|M
     ·have hn:=K.c.1.2;exact⟨by show (P2.hide D O2) s.addr=(b,0);rw[g5.ext _ (by rw[hN])];exact hN,by show 1<=s.addr;omega,by show s.addr<2048;omega⟩
     ·exact g7 p M
theorem qaj:∀(d:List Nd) {H:List Int} {P:Pl} (u:List Ql) (X:List Int),Keep D S0 C0 O H P->(∀b∈d,Fits (P.hide D O) b)->(∀a:Nat,0<a->a<P.C.n->H.count (a:Int)=(d.flatMap Nd.named++X).count (a:Int))->
  (∃e y,y.length=d.length/\Xe d P u=some (e,some (u++List.zipWith Wq d y))/\Keep D S0 C0 O (y++X) e/\(∀l,Move l D O O P e d.length)/\Uu (e.hide D O) d y)\/(∃e,Xe d P u=some (e,none)/\P.C.free<d.length)
 |[],H,P,u,X,K,_,hH=>.inl ⟨P,[],rfl,by unfold Xe;simp,K.perm λa h1 h2=>(hH a h1 h2).symm,λl=>Move.refl l D O P,λp m=>(by cases m)⟩
 |b::d,H,P,u,X,K,hf,hH=>by
  have E:=hf b (List.mem_cons_self ..)
  cases m:P.C.pick with
  |none=>
   right
   have F:P.Jq b=6:=by unfold Pl.Jq;rw[if_pos E.may];exact (Ct.Vm m).1
   refine⟨P.Zn b,?_,by rw[Ct.Ws m];exact Nat.succ_pos _⟩;show (if P.Jq b=0 then _ else if P.Jq b=6 then some (P.Zn b,none) else none)=_;rw[if_neg (by rw[F];decide),if_pos F]
  |some c=>
   obtain⟨I,J,G,B,A,c1,c2⟩:=K.put (H0:=d.flatMap Nd.named++X) m E (λa h1 h2=>by
    rw[hH a h1 h2,List.flatMap_cons];simp only[List.count_append];omega)
   have f:Xe (b::d) P u=Xe d (P.Zn b) (u++[⟨b.least,P.Xg b⟩]):=by
    show (if P.Jq b=0 then _ else _)=_;rw[if_pos I]
   rcases qaj d (u++[⟨b.least,P.Xg b⟩]) ((c:Int)::X) G (λx Q=>(hf x (List.mem_cons_of_mem _ Q)).ext (A 0).ext) (λa _ _=>by
    simp only[List.count_append,List.count_cons];omega) with⟨e,y,g1,g2,g3,g4,g5⟩|⟨e,g1,g2⟩
   ·left
    refine⟨e,(c:Int)::y,by rw[List.length_cons,List.length_cons,g1],?_,g3.perm λa _ _=>?_,λl=>?_,λp m=>?_⟩
    ·rw[f,g2,List.zipWith_cons_cons,List.append_assoc,J];rfl
    ·simp only[List.count_append,List.count_cons,List.cons_append];omega
    ·have:=(A l).trans K.nonneg (g4 l);exact this.more (by rw[List.length_cons];omega)
    ·rw[List.zip_cons_cons] at m;rcases List.mem_cons.1 m with rfl|m
     ·exact⟨by show (e.hide D O) (c:Int)=(b,0);rw[(g4 0).ext _ (by rw[B])];exact B,by show (1:Int)<=(c:Int);omega,by show (c:Int)<2048;omega⟩
     ·exact g5 p m
   ·right
    have M:=(A 0).free;exact⟨e,by rw[f];exact g1,by rw[List.length_cons];omega⟩
theorem qk7 {l:Int}(K:Keep D S0 C0 O H P)(x:Px)(X:List Int)(W:∀s∈x.olds,Zv P D O l s)(hd:x.olds.Pairwise λs o=>o.held=true\/o.addr≠s.addr)
  (B:∀b∈pieces x.N,Fits (P.hide D O) b) (T:∀a:Nat,0<a->a<P.C.n->H.count (a:Int)=(x.olds.flatMap own++((pieces x.N).flatMap Nd.named++X)).count (a:Int)) :
  (∃e u d,d.length=(pieces x.N).length/\P.Y7 x=some (e,some (List.zipWith Wq (pieces x.N) d))/\Keep D S0 C0 u (d++X) e/\Move l D O u P e (pieces x.N).length/\
   (∀y,y∈u->y∈O/\∀s∈x.olds,s.shared=false->y≠s.addr)/\Uu (e.hide D u) (pieces x.N) d)\/(∃e,P.Y7 x=some (e,none)/\P.C.free<(pieces x.N).length):=by
 obtain⟨Y,F,G,m,d,f,I,J,M,A,Q,R⟩:=q4t x.olds (pieces x.N) [] X K W hd B T;unfold Pl.Y7;rw[J];dsimp only;rcases qaj m (List.zipWith Wq G d) (d++X) M (λb U=>(B b (by rw[f];exact List.mem_append_right _ U)).ext A.ext) (λa _ _=>by
   simp only[List.count_append];omega) with⟨P2,az2,j1,j2,j3,j4,j5⟩|⟨P2,j1,j2⟩
 ·left
  refine⟨P2,F,d++az2,by rw[f,List.length_append,List.length_append,I,j1],?_,j3.perm λa _ _=>?_,?_,Q,λp E=>?_⟩
  ·rw[List.nil_append,j2,f,List.zipWith_append (by omega)]
  ·simp only[List.count_append];omega
  ·exact (A.trans K.nonneg (j4 l)).more (by rw[f,List.length_append];omega)
  ·rw[f,List.zip_append (by omega)] at E;rcases List.mem_append.1 E with h|h
   ·exact R.ext (j4 0).ext p h
   ·exact j5 p h
 ·right
  have:=A.free;exact⟨P2,by rw[List.nil_append];exact j1,by rw[f,List.length_append];omega⟩
end
def Zu:List Qu->List Int->List Int
 |[],H0=>H0
 |t::way,H0=>own t++((if t.shared=true then [] else (Zx t t.next (t.next+1)).named)++Zu way H0)
def Y1 (P:Pl)(D:DM)(O:List Int):Nat->Qu->List Qu->List Qc->List Qc->Prop
 |_,_,[],L,Rr=>L=[]/\Rr=[]
 |l,s,t::way,L,Rr=>∃(b d:List Zw) (x:Zw) (e f:List Qc),t.N=⟨((l+1:Nat):Int),[],(b++x::d).map Qn⟩/\t.next=b.length/\x.1=s.addr/\s.held=t.shared/\t.N.may=true/\(way≠[]->6<=b.length+d.length+1)/\
  (∀y∈b++d,good1 (P.hide D O) l y)/\(s.shared=true->Qp (P.hide D O) l x.1 x.2)/\Zv P D O ((l+1:Nat):Int) t/\Y1 P D O (l+1) t way e f/\L=e++rowOf b/\Rr=rowOf d++f/\∀y∈b++d,y.1≠s.addr
section
variable {D:DM}{S0:Sp}{C0:Ct}{O H:List Int}{P:Pl}
theorem Y1.ext {O':List Int}{P':Pl}(K:Keep D S0 C0 O H P){lv:Nat}(e:Ext (P.hide D O) (P'.hide D O'))(ha:Bc (lv:Int) D O O' P P'):∀{way:List Qu} {l:Nat} {s:Qu} {L Rr:List Qc},lv<=l->Y1 P D O l s way L Rr->Y1 P' D O' l s way L Rr
 |[],l,s,L,Rr,_,h=>h
 |t::way,l,s,L,Rr,hl,h=>by
  obtain⟨m,p,x,u,A,h1,h2,B,E,F,G,I,J,M,b,d,f⟩:=h;exact⟨m,p,x,u,A,h1,h2,B,E,F,G,λy R=>q3m (I y R) e,λQ=>P9 e (J Q),M.above K ha (by omega),Y1.ext K e ha (by omega) b,d,f⟩
def qpp (way:List Qu):Prop:=∀t∈way,t.shared=false
theorem qed:∀{way:List Qu} {l:Nat} {s:Qu} {L Rr:List Qc},Y1 P D O l s way L Rr->s.held=false->qpp way
 |[],_,_,_,_,_,_=>λt d=>(by cases d)
 |t::way,l,s,L,Rr,h,hs=>by
  obtain⟨A,B,x,E,F,h1,h2,G,p,I,J,K,M,u,e,f,m⟩:=h;have d:t.shared=false:=p.symm.trans hs;intro y b;rcases List.mem_cons.1 b with rfl|b
  ·exact d
  ·exact qed e (u.mine d).1 y b
theorem q1j (l:Nat)(G:List Zw):(⟨((l+1:Nat):Int),[],G.map Qn⟩:Nd).named=G.map (·.1):=by
 unfold Nd.named;rw[List.filterMap_nil,List.append_nil,List.map_map];rfl
theorem q4u (l:Nat)(G:List Zw)(i j:Nat):(⟨((l+1:Nat):Int),[],G.map Qn⟩:Nd).cut i j=⟨((l+1:Nat):Int),[],((G.drop i).take (j-i)).map Qn⟩:=by
 unfold Nd.cut;rw[if_neg (by show ¬((l+1:Nat):Int)=0;omega),List.map_take,List.map_drop]
theorem q7v {t:Qu}{l:Nat}{G:List Zw}(h:t.N=⟨((l+1:Nat):Int),[],G.map Qn⟩)(i j:Nat):Zx t i j=⟨((l+1:Nat):Int),[],(G.take i++G.drop j).map Qn⟩:=by
 unfold Zx;rw[h,q4u,q4u];unfold Jd Nd.size;simp only[List.flatMap_cons,List.flatMap_nil,List.append_nil,List.length_nil,Nat.zero_add,List.length_map,List.drop_zero,Nat.sub_zero,List.map_append];have e:List.take (G.length-j) (List.drop j G)=List.drop j G:=List.take_of_length_le (by rw[List.length_drop];omega);rw[e]
theorem q2i {t:Qu}{l:Nat}{GL GR:List Zw}{x:Zw}(h:t.N=⟨((l+1:Nat):Int),[],(GL++x::GR).map Qn⟩)(hn:t.next=GL.length):(Zx t t.next (t.next+1)).named=GL.map (·.1)++GR.map (·.1):=by
 rw[q7v h,q1j,hn,List.take_left,List.drop_append,List.drop_of_length_le (by omega)];have e:GL.length+1-GL.length=1:=by omega
 rw[e];simp
theorem Y1.open_ (K:Keep D S0 C0 O H P){c:Nat}(h1:P.C.get (c:Int)=1)(hc:(c:Int)∈H){H0:List Int}:∀{way:List Qu} {l:Nat} {s:Qu} {L Rr:List Qc},Y1 P D O l s way L Rr->qpp way->s.shared=false->(c:Int)∉Zu way H0->Y1 P D ((c:Int)::O) l s way L Rr
 |[],l,s,L,Rr,h,_,_,_=>h
 |t::way,l,s,L,Rr,h,hb,hs,hn=>by
  obtain⟨E,F,x,G,I,u,A,J,M,Q,R,T,g8,U,f,m,p⟩:=h;have d:=hb t (List.mem_cons_self ..);have hn:(c:Int)∉own t++((if t.shared=true then [] else (Zx t t.next (t.next+1)).named)++Zu way H0):=hn;rw[d,if_neg (by decide),q2i u A] at hn;simp only[List.mem_append,not_or] at hn;obtain⟨n1,⟨n2,n3⟩,n4⟩:=hn;obtain⟨m1,m2,m3⟩:=U.mine d;refine⟨E,F,x,G,I,u,A,J,M,Q,R,λy B=>?_,λh=>?_,⟨λh=>?_,λ_=>⟨m1,List.mem_cons_of_mem _ m2,m3⟩⟩,Y1.open_ K h1 hc f (λt' W=>hb t' (List.mem_cons_of_mem _ W)) d n4,m,p⟩
  ·obtain⟨X,Y,Z⟩:=T y B;have b:y.1≠(c:Int):=λe=>by
    rcases List.mem_append.1 B with h|h
    ·exact n2 (e▸List.mem_map_of_mem h)
    ·exact n3 (e▸List.mem_map_of_mem h)
   exact⟨q4r K h1 hc l _ _ b X,by rw[q2g b];exact Y,Z⟩
  ·rw[hs] at h;cases h
  ·rw[d] at h;cases h
theorem Keep.long (K:Keep D S0 C0 O H P):∀(l:Nat) (y:Zw),good1 (P.hide D O) l y->3*6 ^ l<=y.2.length
 |0,y,h=>by
  obtain⟨h1,h2,_⟩:=h;rw[h1.1] at h2;unfold Nd.enough at h2;rw[if_pos rfl] at h2;simpa using h2
 |l+1,y,h=>by
  obtain⟨h1,h2,X⟩:=h;obtain⟨Q,_,n,hn,M,h0⟩:=q32 (Fq h1).2.2;have L:=K.told (x:=y.1) (by rw[hn];exact h0) Q;obtain⟨kids,parts,e,k1,k2,U,W⟩:=h1;rw[e] at h2;unfold Nd.enough at h2;rw[if_neg (show ¬(((l+1:Nat):Int))=0 by omega)] at h2;have h2:6<=kids.length:=by simpa using h2
  have d:∀p∈parts,3*6 ^ l<=p.length:=λp m=>by
   obtain⟨j,I,E⟩:=List.getElem_of_mem m;have f:j<kids.length:=by omega
   have T:(Qg kids j)∈((P.hide D O) y.1).1.kids:=by rw[e];exact List.mem_of_getElem? (Rf f)
   obtain⟨j1,j2,j3,j4⟩:=L.kids _ T;have B:=(W j f).1;have F:parts.getD j []=p:=by rw[List.getD_eq_getElem?_getD,List.getElem?_eq_getElem I,E];rfl
   rw[F] at B;obtain⟨_,_,c,Z,G,u⟩:=q32 j1;obtain⟨c0,_⟩:=K.first u
   have J:=K.c.1.2;exact K.long l ((Qg kids j).a,p) ⟨B,j4,by show 1<=(Qg kids j).a;omega,by show (Qg kids j).a<2048;omega⟩
  have A:∀(b:List (List Qc)),(∀p∈b,3*6 ^ l<=p.length)->b.length*(3*6 ^ l)<=b.flatten.length:=by
   intro b;induction b with
   |nil=>intro _;simp
   |cons p b ih=>
    intro m;have h1:=m p (List.mem_cons_self ..);have h2:=ih λq R=>m q (List.mem_cons_of_mem _ R)
    rw[List.flatten_cons,List.length_append,List.length_cons,Nat.add_mul,Nat.one_mul];omega
  have:=A parts d;rw[U];have Y:6*(3*6 ^ l)<=parts.length*(3*6 ^ l):=Nat.mul_le_mul_right _ (by omega);rw[Nat.pow_succ];omega
theorem Keep.Fp (K:Keep D S0 C0 O H P){l:Nat}{a:Int}{its:List Qc}(h:Qp (P.hide D O) l a its):∃M,Yr (P.hide D O) l (P.hide D O a).1 M/\M.flatten=its/\Loc (P.hide D O) a/\M≠[]:=by
 obtain⟨U,_,n,hn,T,h0⟩:=q32 (Fq h).2.2;have L:=K.told (x:=a) (by rw[hn];exact h0) U
 cases l with
 |zero=>
  rw[h.1];exact⟨its.map λx=>[x],⟨its,rfl,rfl⟩,Ig its,L,λe=>h.2 (List.map_eq_nil_iff.1 e)⟩
 |succ l=>
  obtain⟨kids,parts,e,Z,k2,k3,E⟩:=h;have B:(kids.zip parts).length=kids.length:=by rw[List.length_zip];omega
  have d:∀j (f:j<kids.length),kids[j]=Qg kids j/\parts[j]'(by omega)=parts.getD j []:=λj f=>by
   have:=Rf f;rw[List.getElem?_eq_getElem f] at this;exact⟨Option.some.inj this,by rw[List.getD_eq_getElem?_getD,List.getElem?_eq_getElem (by omega)];rfl⟩
  have Q:(List.zip (kids.map (·.a)) parts).map Qn=kids:=by
   apply List.ext_getElem
   ·rw[List.length_map,List.length_zip,List.length_map];omega
   ·intro j h1 h2;obtain⟨m,p⟩:=d j h2;obtain⟨_,x,r,F,G⟩:=E j h2;rw[List.getElem_map,List.getElem_zip,List.getElem_map,p,F,m];unfold Qn;show (⟨x.k,(Qg kids j).a⟩:Ql)=_;rw[<-G]
  have W:(List.zip (kids.map (·.a)) parts).map (·.2)=parts:=List.map_snd_zip (by rw[List.length_map];omega);refine⟨parts,⟨List.zip (kids.map (·.a)) parts,?_,W.symm,λy Y=>?_⟩,k3.symm,L,λI=>Z (List.eq_nil_of_length_eq_zero (by rw[<-k2,I];rfl))⟩
  ·rw[e,Q]
  ·obtain⟨j,f,A⟩:=List.getElem_of_mem Y;rw[List.length_zip,List.length_map] at f;have b:j<kids.length:=by omega
   obtain⟨m,p⟩:=d j b;rw[List.getElem_zip,List.getElem_map,m,p] at A;rw[<-A];have X:(Qg kids j)∈((P.hide D O) a).1.kids:=by rw[e];exact List.mem_of_getElem? (Rf b)
   obtain⟨j1,j2,j3,j4⟩:=L.kids _ X;obtain⟨_,_,c,hc,J,u⟩:=q32 j1;obtain⟨c0,_⟩:=K.first u
   have R:=K.c.1.2;exact⟨(E j b).1,j4,by show 1<=(Qg kids j).a;omega,by show (Qg kids j).a<2048;omega⟩
theorem qk8 {R:Int->Nd × Int}{l:Nat}{N:Nd}{M:List (List Qc)}(h:Yr R l N M)(hm:N.may=true):M.length<=Qq (l:Int)/\l<8:=by
 cases l with
 |zero=>
  obtain⟨its,rfl,rfl⟩:=h;have:=(q1r hm rfl).2.2.2;rw[List.length_map];exact⟨this,by omega⟩
 |succ l=>
  obtain⟨G,rfl,rfl,_⟩:=h;obtain⟨_,_,d,_,b,_⟩:=Py hm (by show ¬((l+1:Nat):Int)=0;omega);have d:((l+1:Nat):Int)<8:=d;have e:Qq ((l+1:Nat):Int)=12:=if_neg (by omega);rw[e,List.length_map];have b:(G.map Qn).length<=12:=b;rw[List.length_map] at b;exact⟨b,by omega⟩
end
