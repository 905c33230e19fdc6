/- The reference's Kids: the blocks that a node names -/
import Derived.Test.YtnnbaihfboacoaaGreatDoorEu9
namespace Go.Proofs.YtnnbaihfboacoaaGreatDoor
open Go Go.RowKit Go.Proofs
set_option maxHeartbeats 8000000
set_option maxRecDepth 100000
section
variable {P:Program}{t e:TypeId}{s b:Nat}{z:Value}(w:World)
end
theorem Qbu:Em Tryz.prog 36 3 1 8 (.int .i64 0):=⟨Tryz.underlying36,by kernel_rfl,rfl,by omega⟩
def iv (z:Int):List Value:=[.int .i64 z]
def Rt (w:World)(A:Option Addr)(n c:Nat)(zs:List Int):Prop:=Jf w 1 A n c (zs.map iv)
theorem qjf (w:World)(x:Int):Jf (w.alloc (.cells #[.int .i64 x] 3)) 1 (some ⟨w.1.size,0,none⟩) 1 1 [iv x]:=(q1q w 3 1 (iv x) _ rfl rfl).Vs (by omega)
theorem qv2 (x:Int):∀y∈[iv x],∀u∈y,u.oneCell'=true:=by
 intro y f u d;obtain rfl:y=iv x:=by simpa using f
 simp[iv] at d;subst d;rfl
def Ko (x:Qc):Option Int:=if x.k.kind=3/\x.v.length=3/\Wh x.v 0=1 then some (256*(Wh x.v 1:Int)+(Wh x.v 2:Int)) else none
def Nd.named (N:Nd):List Int:=N.kids.map (·.a)++N.items.filterMap Ko
def Uk (N:Nd)(j:Nat):List (List Value):=((N.kids.take j).map (·.a)).map iv
def Xx (N:Nd)(j:Nat):List (List Value):=(N.kids.map (·.a)++(N.items.take j).filterMap Ko).map iv
theorem qhm (N:Nd)(j:Nat)(h:j<N.kids.length):Uk N (j+1)=Uk N j++[iv (Qg N.kids j).a]:=by
 unfold Uk;rw[List.take_succ_eq_append_getElem h,List.map_append,List.map_append];have:=Rf h;rw[List.getElem?_eq_getElem h] at this;rw[Option.some.inj this];rfl
theorem qc0 (N:Nd):Uk N N.kids.length=Xx N 0:=by
 unfold Uk Xx;rw[List.take_length];simp
theorem qlj (N:Nd)(j:Nat)(h:j<N.items.length)(x:Int)(d:Ko (Qj N.items j)=some x):Xx N (j+1)=Xx N j++[iv x]:=by
 unfold Xx;have:=q11 h;rw[List.getElem?_eq_getElem h] at this;rw[List.take_succ_eq_append_getElem h,Option.some.inj this,List.filterMap_append,<-List.append_assoc,List.map_append];simp[d]
theorem qo4 (N:Nd)(j:Nat)(h:j<N.items.length)(d:Ko (Qj N.items j)=none):Xx N (j+1)=Xx N j:=by
 unfold Xx;have:=q11 h;rw[List.getElem?_eq_getElem h] at this;rw[List.take_succ_eq_append_getElem h,Option.some.inj this,List.filterMap_append];simp[d]
theorem qc1 (N:Nd):Xx N N.items.length=N.named.map iv:=by
 unfold Xx Nd.named;rw[List.take_length]
def sumTo:Nat->(Nat->Nat)->Nat
 |0,_=>0
 |n+1,f=>sumTo n f+f n
theorem q3z {f g:Nat->Nat}:∀{n:Nat},(∀b,b<n->f b=g b)->sumTo n f=sumTo n g
 |0,_=>rfl
 |n+1,h=>by
  unfold sumTo;rw[q3z (n:=n) (λb d=>h b (by omega)),h n (by omega)]
theorem qc4 {f:Nat->Nat}:∀{n:Nat},(∀b,b<n->f b=0)->sumTo n f=0
 |0,_=>rfl
 |n+1,h=>by
  unfold sumTo;rw[qc4 (n:=n) (λb d=>h b (by omega)),h n (by omega)]
theorem qfe {f g:Nat->Nat}{i:Nat}:∀{n:Nat},(∀b,b<n->b≠i->f b=g b)->i<n->sumTo n g+f i=sumTo n f+g i
 |0,_,hi=>by omega
 |n+1,h,hi=>by
  unfold sumTo;by_cases e:i=n
  ·subst e;rw[q3z (n:=i) (λb d=>h b (by omega) (by omega))];omega
  ·have:=qfe (n:=n) (λb d hn=>h b (by omega) hn) (by omega);have:=h n (by omega) (by omega);omega
theorem qff {f:Nat->Nat}:∀{n:Nat},0<sumTo n f->∃b,b<n/\0<f b
 |0,h=>by cases h
 |n+1,h=>by
  unfold sumTo at h;by_cases e:0<f n
  ·exact⟨n,by omega,e⟩
  ·obtain⟨b,h1,h2⟩:=qff (n:=n) (f:=f) (by omega);exact⟨b,by omega,h2⟩
theorem qdn {f:Nat->Nat}{i:Nat}:∀{n:Nat},i<n->f i<=sumTo n f
 |0,h=>by omega
 |n+1,h=>by
  unfold sumTo;by_cases e:i=n
  ·subst e;omega
  ·have:=qdn (f:=f) (n:=n) (i:=i) (by omega);omega
def refs (K:Nat->List Int)(most:Nat)(out:Nat->Nat)(a:Nat):Nat:=sumTo most λb=>if 1<=out b then (K b).count (a:Int) else 0
structure Ej (K:Nat->List Int)(roots:List Int)(most:Nat)(out:Nat->Nat)(todo:List Int):Prop where
 zero:out 0=0
 eq:∀a:Nat,0<a->a<most->out a+todo.count (a:Int)=roots.count (a:Int)+refs K most out a
structure Jo (n:Nat)(cnt:Nat->Nat)(K:Nat->List Int)(H:List Int):Prop where
 eq:∀a:Nat,0<a->a<n->cnt a=H.count (a:Int)+refs K n cnt a
section
variable {n:Nat}{cnt:Nat->Nat}{K:Nat->List Int}{H:List Int}
theorem Jo.perm (h:Jo n cnt K H){H':List Int}(hH:∀a:Nat,0<a->a<n->H'.count (a:Int)=H.count (a:Int)):Jo n cnt K H':=
 ⟨λa h1 h2=>by rw[hH a h1 h2];exact h.eq a h1 h2⟩
theorem q7m {K K':Nat->List Int}{cnt cnt':Nat->Nat}{n a:Nat}(h:∀b,b<n->(1<=cnt b↔1<=cnt' b)/\(1<=cnt b->K' b=K b)):refs K' n cnt' a=refs K n cnt a:=
 q3z λb f=>by
  obtain⟨h1,h2⟩:=h b f;by_cases e:1<=cnt b
  ·rw[if_pos e,if_pos (h1.1 e),h2 e]
  ·rw[if_neg e,if_neg (λd=>e (h1.2 d))]
theorem Jo.same (h:Jo n cnt K H){cnt':Nat->Nat}{K':Nat->List Int}(hc:∀b,b<n->cnt' b=cnt b)(hK:∀b,b<n->1<=cnt b->K' b=K b):Jo n cnt' K' H:=
 ⟨λa h1 h2=>by
  rw[hc a h2,h.eq a h1 h2];congr 1
  exact (q7m λb d=>⟨by rw[hc b d],hK b d⟩).symm⟩
theorem qhn {K K':Nat->List Int}{cnt cnt':Nat->Nat}{n i a:Nat}(u:i<n)(p:∀b,b<n->b≠i->cnt' b=cnt b)(m:∀b,b<n->b≠i->K' b=K b) :
  refs K' n cnt' a+(if 1<=cnt i then (K i).count (a:Int) else 0)=refs K n cnt a+(if 1<=cnt' i then (K' i).count (a:Int) else 0):=
 qfe (f:=λb=>if 1<=cnt b then (K b).count (a:Int) else 0) (g:=λb=>if 1<=cnt' b then (K' b).count (a:Int) else 0)
  (λb d hn=>by
   show (if 1<=cnt b then (K b).count (a:Int) else 0)=(if 1<=cnt' b then (K' b).count (a:Int) else 0);rw[p b d hn,m b d hn]) u
theorem Jo.put (h:Jo n cnt K H){c:Nat}{ks H0:List Int}{cnt':Nat->Nat}{K':Nat->List Int}(hc0:0<c)(hc:c<n)(hz:cnt c=0)(hH:∀a:Nat,0<a->a<n->H.count (a:Int)=ks.count (a:Int)+H0.count (a:Int))
  (h1:cnt' c=1) (h2:∀b,b<n->b≠c->cnt' b=cnt b) (h3:K' c=ks) (h4:∀b,b<n->b≠c->K' b=K b):Jo n cnt' K' ((c:Int)::H0):=by
 refine⟨λa d f=>?_⟩;have p:=qhn (a:=a) hc h2 h4;rw[if_neg (show ¬1<=cnt c by omega),if_pos (show 1<=cnt' c by omega),h3] at p;have u:=h.eq a d f;have y:=hH a d f;rw[List.count_cons];by_cases e:a=c
 ·subst e;rw[if_pos (by simp),h1];omega
 ·rw[if_neg (by intro m;have:=eq_of_beq m;omega),h2 a f e];omega
theorem Jo.ref (h:Jo n cnt K H){c:Nat}{cnt':Nat->Nat}(hc:1<=cnt c)(h1:cnt' c=cnt c+1)(h2:∀b,b<n->b≠c->cnt' b=cnt b):Jo n cnt' K ((c:Int)::H):=by
 refine⟨λa d f=>?_⟩;have u:refs K n cnt' a=refs K n cnt a:=q7m λb p=>⟨by
  by_cases e:b=c
  ·subst e;omega
  ·rw[h2 b p e],λ_=>rfl⟩
 have y:=h.eq a d f;rw[List.count_cons,u];by_cases e:a=c
 ·subst e;rw[if_pos (by simp),h1];omega
 ·rw[if_neg (by intro m;have:=eq_of_beq m;omega),h2 a f e];omega
theorem Jo.Qy (h:Jo n cnt K H){c:Nat}{H0:List Int}{cnt':Nat->Nat}(hH:∀a:Nat,0<a->a<n->H.count (a:Int)=((c:Int)::H0).count (a:Int))(hc:2<=cnt c)(h1:cnt' c+1=cnt c)(h2:∀b,b<n->b≠c->cnt' b=cnt b):Jo n cnt' K H0:=by
 refine⟨λa d f=>?_⟩;have y:refs K n cnt' a=refs K n cnt a:=q7m λb u=>⟨by
  by_cases e:b=c
  ·subst e;omega
  ·rw[h2 b u e],λ_=>rfl⟩
 have B:=h.eq a d f;have m:=hH a d f;rw[List.count_cons] at m;rw[y];by_cases e:a=c
 ·subst e;rw[if_pos (by simp)] at m;omega
 ·rw[if_neg (by intro p;have:=eq_of_beq p;omega)] at m;rw[h2 a f e];omega
theorem Jo.last (h:Jo n cnt K H){c:Nat}{H0:List Int}{cnt':Nat->Nat}(hc0:0<c)(hcn:c<n)(hH:∀a:Nat,0<a->a<n->H.count (a:Int)=((c:Int)::H0).count (a:Int))(hc:cnt c=1)(h1:cnt' c=0)(h2:∀b,b<n->b≠c->cnt' b=cnt b):Jo n cnt' K (K c++H0):=by
 refine⟨λa d f=>?_⟩;have u:=qhn (a:=a) (K:=K) (K':=K) hcn h2 (λ_ _ _=>rfl);rw[if_pos (show 1<=cnt c by omega),if_neg (show ¬1<=cnt' c by omega)] at u;have y:=h.eq a d f;have m:=hH a d f;rw[List.count_cons] at m;rw[List.count_append];by_cases e:a=c
 ·subst e;rw[if_pos (by simp)] at m;omega
 ·rw[if_neg (by intro p;have:=eq_of_beq p;omega)] at m;rw[h2 a f e];omega
theorem Jo.set (h:Jo n cnt K H){c:Nat}{ks H0:List Int}{K':Nat->List Int}(hcn:c<n)(hc:1<=cnt c)(hH:∀a:Nat,0<a->a<n->H.count (a:Int)=ks.count (a:Int)+H0.count (a:Int))(h3:K' c=ks)(h4:∀b,b<n->b≠c->K' b=K b):Jo n cnt K' (K c++H0):=by
 refine⟨λa d f=>?_⟩;have m:=qhn (a:=a) (cnt:=cnt) (cnt':=cnt) hcn (λ_ _ _=>rfl) h4;rw[if_pos hc,if_pos hc,h3] at m;have p:=h.eq a d f;have u:=hH a d f;rw[List.count_append];omega
theorem Jo.named (h:Jo n cnt K H){b c:Nat}(hc0:0<c)(hcn:c<n)(hb:b<n)(h1:1<=cnt b)(hm:(c:Int)∈K b):1<=cnt c:=by
 have h2:=h.eq c hc0 hcn;have d:=qdn (f:=λb=>if 1<=cnt b then (K b).count (c:Int) else 0) hb;have m:0<(K b).count (c:Int):=List.count_pos_iff.2 hm;rw[if_pos h1] at d;have e:refs K n cnt c=sumTo n λb=>if 1<=cnt b then (K b).count (c:Int) else 0:=rfl
 omega
theorem Jo.by_ (h:Jo n cnt K H){c:Nat}(hc0:0<c)(hcn:c<n)(h1:1<=cnt c):(c:Int)∈H\/∃b,b<n/\1<=cnt b/\(c:Int)∈K b:=by
 have h2:=h.eq c hc0 hcn;by_cases e:0<H.count (c:Int)
 ·exact .inl (List.count_pos_iff.1 e)
 ·obtain⟨b,p,d⟩:=qff (f:=λb=>if 1<=cnt b then (K b).count (c:Int) else 0) (n:=n) (by
   have e:refs K n cnt c=sumTo n λb=>if 1<=cnt b then (K b).count (c:Int) else 0:=rfl
   omega)
  have d:0<(if 1<=cnt b then (K b).count (c:Int) else 0):=d;by_cases m:1<=cnt b
  ·rw[if_pos m] at d;exact .inr ⟨b,p,m,List.count_pos_iff.1 d⟩
  ·rw[if_neg m] at d
   cases d
theorem Jo.reached (h:Jo n cnt K H){B:Nat}(Oa:Nat->Nat)(hlev:∀b a:Nat,b<n->1<=cnt b->(a:Int)∈K b->Oa a<Oa b)(hB:∀b,Oa b<=B)(h0:cnt 0=0){S:Nat->Prop}(hS:∀a:Nat,0<a->a<n->(a:Int)∈H->S a)
  (hK:∀b a:Nat,0<b->b<n->0<a->a<n->1<=cnt b->S b->(a:Int)∈K b->S a):∀L a,B-Oa a<=L->0<a->a<n->1<=cnt a->S a:=by
 intro L;induction L using Nat.strongRecOn with
 |ind L ih=>
  intro a G d u h1;rcases h.by_ d u h1 with h2|⟨b,y,f,p⟩
  ·exact hS a d u h2
  ·have D:=hlev b a y f p;have E:=hB b;have m:0<b:=by
    rcases Nat.eq_zero_or_pos b with e|e
    ·subst e;omega
    ·exact e
   exact hK b a m y d u f (ih (B-Oa b) (by omega) b (Nat.le_refl _) m y f) p
end
def Aj (R:Int->Nd × Int)(k:Kd):Nat->Int->List UInt8 × Int
 |0,a=>if (R a).2≠0 then ([],(R a).2) else if (R a).1.lvl≠0 then ([],5) else if Vb (R a).1.keys k ((R a).1.Za k)=true then ((Qj (R a).1.items ((R a).1.Za k)).v,0) else ([],10)
 |l+1,a=>if (R a).2≠0 then ([],(R a).2) else if (R a).1.lvl≠((l+1:Nat):Int) then ([],5) else Aj R k l (Qg (R a).1.kids ((R a).1.Za k)).a
def Gl (o:Option (List UInt8)):List UInt8 × Int:=match o with|some v=>(v,0)|none=>([],10)
theorem q39 {R:Int->Nd × Int}:∀{l:Nat} {a:Int} {its:List Qc},Qp R l a its->∃x r,its=x::r
 |0,a,its,h=>by
  match its,h.2 with
  |x::r,_=>exact⟨x,r,rfl⟩
 |l+1,a,its,h=>by
  obtain⟨kids,parts,_,h2,d,rfl,m⟩:=h;have f:0<kids.length:=List.length_pos_iff.2 h2;obtain⟨_,x,r,e,_⟩:=m 0 f;match parts,d with
  |[],d=>rw[<-d] at f;cases f
  |p::ps,_=>
   have e:p=x::r:=e;exact⟨x,r++ps.flatten,by rw[List.flatten_cons,e];rfl⟩
theorem qfg {R:Int->Nd × Int}(k:Kd):∀(l:Nat) (a:Int) (its:List Qc),Qp R l a its->Qd its->Aj R k l a=Gl (valOf its k)
 |0,a,its,h,hr=>by
  obtain⟨h1,_⟩:=h;have p:(⟨0,its,[]⟩:Nd).Za k=lead (its.map (·.k)) k:=by
   unfold Nd.Za;rw[if_pos rfl,q1u]
  unfold Aj;rw[h1];dsimp only;rw[if_neg (by simp),if_neg (by simp),p,q1u,qjg hr];split<;>rfl
 |l+1,a,its,h,hr=>by
  obtain⟨kids,part,h1,_,d,f,m⟩:=qsk h hr k;unfold Aj;rw[h1];dsimp only;rw[if_neg (by simp),if_neg (by simp),qfg k l _ part d f,m]
theorem P9 {R R':Int->Nd × Int}(h:∀a,(R a).2=0->R' a=R a):∀{l:Nat} {a:Int} {its:List Qc},Qp R l a its->Qp R' l a its
 |0,a,its,hh=>⟨by rw[h a (by rw[hh.1])];exact hh.1,hh.2⟩
 |l+1,a,its,hh=>by
  obtain⟨kids,parts,h1,h2,m,p,d⟩:=hh;exact⟨kids,parts,by rw[h a (by rw[h1])];exact h1,h2,m,p,λj f=>⟨P9 h (d j f).1,(d j f).2⟩⟩
abbrev Zw:=Int × List Qc
def Qn (x:Zw):Ql:=⟨(Qj x.2 0).k,x.1⟩
def rowOf (G:List Zw):List Qc:=(G.map (·.2)).flatten
theorem qdo {G:List Zw}{j:Nat}(d:j<G.length):Qg (G.map Qn) j=Qn G[j]:=by
 unfold Qg;rw[List.getD_eq_getElem?_getD,List.getElem?_map,List.getElem?_eq_getElem d];rfl
theorem q5d {G:List Zw}{j:Nat}(d:j<G.length):(G.map (·.2)).getD j []=(G[j]).2:=by
 rw[List.getD_eq_getElem?_getD,List.getElem?_map,List.getElem?_eq_getElem d];rfl
theorem q9s {R:Int->Nd × Int}{l:Nat}{b:Int}{G:List Zw}(h:∀x∈G,Qp R l x.1 x.2)(f:G≠[])(m:R b=(⟨((l+1:Nat):Int),[],G.map Qn⟩,0)):Qp R (l+1) b (rowOf G):=by
 refine⟨G.map Qn,G.map (·.2),m,?_,by rw[List.length_map,List.length_map],rfl,λj d=>?_⟩
 ·intro e;exact f (List.map_eq_nil_iff.1 e)
 ·rw[List.length_map] at d;rw[qdo d,q5d d];have h1:=h _ (List.getElem_mem d);obtain⟨x,r,e⟩:=q39 h1;exact⟨h1,x,r,e,by unfold Qn Qj;rw[e];rfl⟩
theorem qjh {ks:List Kd}(hm:∀k∈ks,k.may=true)(h:ks.Pairwise λa b=>a.less b=true):rises ks=true:=by
 refine qqt λj d=>?_
 have e:∀i,(f:i<ks.length)->keyAt ks i=ks[i]:=λi f=>by unfold keyAt;rw[List.getD_eq_getElem?_getD,List.getElem?_eq_getElem f];rfl
 unfold Wx;rw[e j d,hm _ (List.getElem_mem d),Bool.true_and];by_cases h0:j=0
 ·subst h0;rfl
 ·rw[e (j-1) (by omega),List.pairwise_iff_getElem.1 h (j-1) j (by omega) d (by omega),Bool.or_true]
theorem qsl {p:List Qc}(h1:1<=p.length)(u:p.length<=6)(y:Qd p)(m:∀x∈p,x.k.may=true/\x.v.length<=28):(⟨0,p,[]⟩:Nd).may=true:=by
 unfold Nd.may;rw[if_pos rfl,Bool.and_eq_true,Bool.and_eq_true];refine⟨?_,?_,decide_eq_true ⟨rfl,h1,u⟩⟩
 ·unfold q6e;rw[List.all_eq_true];exact λx d=>decide_eq_true (m x d).2
 ·rw[q1u];refine qjh (λk d=>?_) (List.Pairwise.map _ (λ_ _ h=>h) y);obtain⟨x,f,rfl⟩:=List.mem_map.1 d;exact (m x f).1
theorem qfk {l:Nat}{G:List Zw}(U:l<7)(h2:2<=G.length)(u:G.length<=12)(R:Qd (rowOf G))(Q:∀x∈rowOf G,x.k.may=true)(O:∀x∈G,1<=x.1/\x.1<2048)(E:∀x∈G,x.2≠[]):(⟨((l+1:Nat):Int),[],G.map Qn⟩:Nd).may=true:=by
 unfold Nd.may;have h0:¬((l+1:Nat):Int)=0:=by omega
 dsimp only;rw[if_neg h0,Bool.and_eq_true,Bool.and_eq_true];refine⟨?_,?_,decide_eq_true ⟨by omega,by omega,rfl,by rw[List.length_map];exact h2,by rw[List.length_map];exact u⟩⟩
 ·unfold G7;rw[List.all_eq_true];intro x d;obtain⟨y,T,rfl⟩:=List.mem_map.1 d;exact decide_eq_true (O y T)
 ·rw[q4n,List.map_map];have first:∀x∈G,∃y r,x.2=y::r/\(Qn x).k=y.k:=λx d=>by
   match e:x.2,E x d with
   |y::r,_=>exact⟨y,r,rfl,by unfold Qn Qj;rw[e];rfl⟩
  refine qjh (λk d=>?_) ?_
  ·obtain⟨x,f,rfl⟩:=List.mem_map.1 d;obtain⟨y,r,m,p⟩:=first x f
   show (Qn x).k.may=true;rw[p];refine Q y ?_;unfold rowOf;rw[List.mem_flatten];exact⟨x.2,List.mem_map_of_mem f,by rw[m];exact List.mem_cons_self ..⟩
  ·rw[List.pairwise_map,List.pairwise_iff_getElem];intro i j I D B;obtain⟨y,r,m,p⟩:=first _ (List.getElem_mem I)
   obtain⟨z,s,J,M⟩:=first _ (List.getElem_mem D)
   show (Qn G[i]).k.less (Qn G[j]).k=true;rw[p,M];refine q5c R B (by rw[List.length_map];exact D) (x:=y) (y:=z) ?_ ?_
   ·rw[q5d I,m];exact List.mem_cons_self ..
   ·rw[q5d D,J];exact List.mem_cons_self ..
def Zo (k:Kd)(v:List UInt8):Bool->List Qc->List Qc
 |done,[]=>if done=true then [] else [⟨k,v⟩]
 |done,x::r=>(if (!done&&(k.less x.k||x.k.same k))=true then [⟨k,v⟩] else [])++((if x.k.same k=true then [] else [x])++Zo k v (done||(k.less x.k||x.k.same k)) r)
theorem q9v (k:Kd)(v:List UInt8):∀(l:List Qc),(∀x∈l,x.k.same k=false)->Zo k v true l=l
 |[],_=>rfl
 |x::r,h=>by
  unfold Zo;rw[h x (List.mem_cons_self ..),Bool.true_or,q9v k v r λy d=>h y (List.mem_cons_of_mem _ d)];rfl
theorem Iq {a b:Kd}(h:a.less b=true):a.same b=false/\b.same a=false:=by
 constructor
 ·cases d:a.same b with
  |false=>rfl
  |true=>have:=q4m (a:=b) d;rw[q38,h] at this;cases this
 ·cases d:b.same a with
  |false=>rfl
  |true=>have:=q6j (a:=a) d;rw[q38,h] at this;cases this
theorem q1p {k:Kd}{v:List UInt8}{x:Qc}{r:List Qc}(u:Qd (x::r)) :
  Zo k v false (x::r)=if k.less x.k=true then ⟨k,v⟩::x::r else if x.k.same k=true then ⟨k,v⟩::r else x::Zo k v false r:=by
 obtain⟨h1,h2⟩:=List.pairwise_cons.1 u;rw[Zo];by_cases d:k.less x.k=true
 ·rw[if_pos d,d];have f:=(Iq d).2;rw[f];show [(⟨k,v⟩:Qc)]++([x]++Zo k v true r)=_;rw[q9v]
  ·rfl
  ·intro y m;exact (Iq (Kd.trans _ _ _ d (h1 y m))).2
 ·have d:k.less x.k=false:=by simpa using d
  rw[d];by_cases f:x.k.same k=true
  ·rw[f];show [(⟨k,v⟩:Qc)]++([]++Zo k v true r)=_;rw[q9v]
   ·rfl
   ·intro y m;have p:=h1 y m;rw[<-q4m f] at p;exact (Iq p).2
  ·have f:x.k.same k=false:=by simpa using f
   rw[f];rfl
theorem q41 {k:Kd}{v:List UInt8}:∀{l:List Qc},Qd l->∀y∈Zo k v false l,y=⟨k,v⟩\/y∈l
 |[],_,y,hy=>.inl (by simpa [Zo] using hy)
 |x::r,hr,y,hy=>by
  rw[q1p hr] at hy;have d:=(List.pairwise_cons.1 hr).2;split at hy
  ·rcases List.mem_cons.1 hy with h|h
   ·exact .inl h
   ·exact .inr h
  ·split at hy
   ·rcases List.mem_cons.1 hy with h|h
    ·exact .inl h
    ·exact .inr (List.mem_cons_of_mem _ h)
   ·rcases List.mem_cons.1 hy with h|h
    ·exact .inr (h▸List.mem_cons_self ..)
    ·rcases q41 d y h with h|h
     ·exact .inl h
     ·exact .inr (List.mem_cons_of_mem _ h)
theorem q25 {k:Kd}{v:List UInt8}:∀{l:List Qc},Qd l->Qd (Zo k v false l)
 |[],_=>by
  show Qd [⟨k,v⟩];exact List.pairwise_singleton ..
 |x::r,hr=>by
  obtain⟨h1,h2⟩:=List.pairwise_cons.1 hr;rw[q1p hr];split
  ·rename_i f;refine List.pairwise_cons.2 ⟨λy d=>?_,hr⟩;rcases List.mem_cons.1 d with rfl|d
   ·exact f
   ·exact Kd.trans _ _ _ f (h1 y d)
  ·rename_i f;split
   ·rename_i m;exact List.pairwise_cons.2 ⟨λy d=>by show k.less y.k=true;rw[q4m m];exact h1 y d,h2⟩
   ·rename_i m;have p:x.k.less k=true:=by
     rcases Kd.total x.k k with⟨h,_,_⟩|⟨_,h,_⟩|⟨_,_,h⟩
     ·exact h
     ·exact absurd h f
     ·exact absurd (by rw[h,Kd.same_iff];exact⟨rfl,rfl,rfl⟩) m
    refine List.pairwise_cons.2 ⟨λy d=>?_,q25 h2⟩;rcases q41 h2 y d with rfl|d
    ·exact p
    ·exact h1 y d
theorem q5f {k:Kd}{v:List UInt8}:∀{l:List Qc},Qd l->(Zo k v false l).length<=l.length+1
 |[],_=>by simp[Zo]
 |x::r,hr=>by
  rw[q1p hr];have:=q5f (k:=k) (v:=v) (List.pairwise_cons.1 hr).2;split
  ·simp
  ·split<;>simp<;>omega
structure Ky (l:List Qc)(m:Nat):Prop where
 Qd:Qd l
 may:∀x∈l,x.k.may=true/\x.v.length<=28
 len:l.length<=m
theorem q9t {f:Nat->Nat}{k:Nat}:∀{n:Nat},(∀b,b<n->f b<=k)->sumTo n f<=k*n
 |0,_=>Nat.zero_le _
 |n+1,h=>by
  unfold sumTo;have h1:=q9t (n:=n) (f:=f) (k:=k) (λb d=>h b (by omega));have h2:=h n (by omega);rw[Nat.mul_succ];omega
theorem qlk {K:Nat->List Int}{most k:Nat}{out:Nat->Nat}(d:∀b,b<most->(K b).length<=k)(a:Nat):refs K most out a<=k*most:=
 q9t λb f=>by
  by_cases e:1<=out b
  ·rw[if_pos e];exact Nat.le_trans List.count_le_length (d b f)
  ·rw[if_neg e];exact Nat.zero_le _
theorem Rt.cell {w:World}{A:Option Addr}{n c:Nat}{zs:List Int}(h:Rt w A n c zs){j:Nat}(hj:j<n):∃g o,A=some ⟨g,o,none⟩/\g<w.1.size/\w.cell? ⟨g,o+j,none⟩=some (.int .i64 (zs.getD j 0)):=by
 have m:zs.length=n:=by simpa using Jf.len h
 obtain⟨g,o,e,d,_,f⟩:=h.2.2.2 j (iv (zs.getD j 0)) (by rw[List.getElem?_map,List.getD_eq_getElem?_getD,List.getElem?_eq_getElem (by omega)];rfl);have:=f 0 _ rfl;rw[Nat.mul_one,Nat.add_zero] at this;exact⟨g,o,e,d,this⟩
def Ag (w:World)(base:Nat)(A:Option Addr)(n c:Nat)(xs:List Qc):Prop:=
 ∃d,Qs w base 68 4 A n c d/\d.length=xs.length/\∀(j:Nat) r x,d[j]?=some r->xs[j]?=some x->∃V p q,r=Yi x.k V p q/\Sl w V p q x.v/\(x.v≠[]->∀g,q01 V=some g->q01 A≠some g)
section
variable {w w':World}{base n c:Nat}{A:Option Addr}{xs:List Qc}
theorem Ag.Zq (h:Ag w base A n c xs):Zl w A n c xs:=by
 obtain⟨d,h1,h2,f⟩:=h;refine⟨d,h1.Vs (by omega),h2,λj r x m y=>?_⟩;obtain⟨V,p,q,e,u,_⟩:=f j r x m y;exact⟨V,p,q,e,u⟩
end
theorem q9w {l:List Qc}{j:Nat}(h:j<l.length):l.drop j=Qj l j::l.drop (j+1):=by
 have d:=q11 h;rw[List.getElem?_eq_getElem h] at d;rw[<-List.getElem_cons_drop (h:=h),Option.some.inj d]
theorem q1y (w:World)(k:Kd)(V:Option Addr)(p q:Nat):Jf (w.alloc (.cells #[.int .i64 k.obj,.int .i64 k.kind,.int .i64 k.off,.slice V p q] 68)) 4 (some ⟨w.1.size,0,none⟩) 1 1 [Yi k V p q]:=(q1q w 68 4 (Yi k V p q) _ rfl rfl).Vs (by omega)
theorem Ag.len {w:World}{base n c:Nat}{A:Option Addr}{xs:List Qc}(h:Ag w base A n c xs):xs.length=n:=h.Zq.len
theorem qlo {r:Result Bool}{s:Bool}{w:World}(h:r.andThen (λb w'=>.ok (Value.bool b) w')=.ok (.bool s) w):r.andThen (λb w'=>.ok (Value.bool (!b)) w')=.ok (.bool (!s)) w:=by
 cases r with
 |ok b w'=>
  simp only[Result.andThen_ok] at h ⊢;injection h with h1 h2;injection h1 with h1;rw[h1,h2]
 |_=>simp[Result.andThen] at h
theorem q9x (x y:Operand)(xs ys:Array Value)(w:World):(eqGuard .neq 30 x y (.agg xs) (.agg ys)).run Tryz.prog w=.ok () w:=
 run_eqGuard_agg w .neq 30 x y xs ys (by kernel_rfl)
theorem q2b (a b:Kd)(r d:Bool)(h:a.same b=r)(f:d=!r)(w:World):(binOp .neq 30 (.agg #[.int .i64 a.obj,.int .i64 a.kind,.int .i64 a.off]) (.agg #[.int .i64 b.obj,.int .i64 b.kind,.int .i64 b.off])).run Tryz.prog w=.ok (.bool d) w:=by
 have h1:=O9 a b r h w;rw[run_eql_struct] at h1;rw[run_neq_struct,f];exact qlo h1
theorem q2d {w:World}{base n c:Nat}{e:TypeId}{A:Option Addr}{l:List UInt8}(h:Own w base e A n c l)(b:Nat)(d:q01 A=some b):base<=b/\b<w.1.size:=by
 match A,d,h with
 |some ad,d,h=>
  obtain rfl:ad.block=b:=Option.some.inj d;exact h.block ad rfl
theorem qo9 {k:Kd}{v:List UInt8}{done:Bool}{l:List Qc}{j:Nat}(d:j<l.length):Zo k v done (l.drop j)=(if (!done&&(k.less (Qj l j).k||(Qj l j).k.same k))=true then [⟨k,v⟩] else [])++((if (Qj l j).k.same k=true then [] else [Qj l j])++Zo k v (done||(k.less (Qj l j).k||(Qj l j).k.same k)) (l.drop (j+1))):=by
 rw[q9w d,Zo]
theorem qoa {k:Kd}{v:List UInt8}{done:Bool}{l:List Qc}{j:Nat}(h:l.length<=j):Zo k v done (l.drop j)=if done=true then [] else [⟨k,v⟩]:=by
 rw[List.drop_of_length_le h,Zo]
def Le (F:Option Addr->List UInt8->Prop)(w:World)(V:Option Addr)(p q:Nat)(v:List UInt8):Prop:=Sl w V p q v/\F V v
theorem Le.below {F:Option Addr->List UInt8->Prop}{w w':World}{V:Option Addr}{p q:Nat}{v:List UInt8}(h:Le F w V p q v)(hb:Below w.1.size w w'):Le F w' V p q v:=⟨h.1.below hb,h.2⟩
def Zg (F:Option Addr->List UInt8->Prop)(w:World)(A:Option Addr)(n c:Nat)(xs:List Qc):Prop:=
 ∃d,Jf w 4 A n c d/\d.length=xs.length/\∀(j:Nat) r x,d[j]?=some r->xs[j]?=some x->∃V p q,r=Yi x.k V p q/\Le F w V p q x.v
theorem Zg.Zq {F:Option Addr->List UInt8->Prop}{w:World}{A:Option Addr}{n c:Nat}{xs:List Qc}(h:Zg F w A n c xs):Zl w A n c xs:=by
 obtain⟨d,h1,h2,f⟩:=h;refine⟨d,h1,h2,λj r x m y=>?_⟩;obtain⟨V,p,q,e,u⟩:=f j r x m y;exact⟨V,p,q,e,u.1⟩
theorem Zg.below {F:Option Addr->List UInt8->Prop}{w w':World}{A:Option Addr}{n c:Nat}{xs:List Qc}(h:Zg F w A n c xs)(hb:Below w.1.size w w'):Zg F w' A n c xs:=by
 obtain⟨d,h1,h2,f⟩:=h;refine⟨d,h1.below hb,h2,λj r x m y=>?_⟩;obtain⟨V,p,q,e,u⟩:=f j r x m y;exact⟨V,p,q,e,u.below hb⟩
theorem Zg.mono {F F':Option Addr->List UInt8->Prop}{w:World}{A:Option Addr}{n c:Nat}{xs:List Qc}(h:Zg F w A n c xs)(hF:∀V v,F V v->F' V v):Zg F' w A n c xs:=by
 obtain⟨d,h1,h2,m⟩:=h;refine⟨d,h1,h2,λj r x u y=>?_⟩;obtain⟨V,p,q,e,f⟩:=m j r x u y;exact⟨V,p,q,e,f.1,hF _ _ f.2⟩
theorem Zg.cell {F:Option Addr->List UInt8->Prop}{w:World}{A:Option Addr}{n c:Nat}{xs:List Qc}(h:Zg F w A n c xs){j:Nat}(hj:j<n):∃b o V p q,A=some ⟨b,o,none⟩/\b<w.1.size/\w.cell? ⟨b,o+j*4,none⟩=some (.int .i64 (Qj xs j).k.obj)/\w.cell? ⟨b,o+j*4+1,none⟩=some (.int .i64 (Qj xs j).k.kind)/\w.cell? ⟨b,o+j*4+2,none⟩=some (.int .i64 (Qj xs j).k.off)/\w.cell? ⟨b,o+j*4+3,none⟩=some (.slice V p q)/\Le F w V p q (Qj xs j).v:=by
 have I:=h.Zq.len;obtain⟨u,h1,h2,D⟩:=h;have y:u[j]?=some (u[j]'(by omega)):=List.getElem?_eq_getElem (by omega);obtain⟨B,m,d,e,G⟩:=D j _ _ y (q11 (by omega));obtain⟨g,o,rfl,E,_,f⟩:=h1.2.2.2 j _ y;rw[e] at f;exact⟨g,o,B,m,d,rfl,E,f 0 _ rfl,f 1 _ rfl,f 2 _ rfl,f 3 _ rfl,G⟩
def Je (F:Option Addr->List UInt8->Prop)(w:World)(base:Nat)(A:Option Addr)(n c:Nat)(xs:List Qc):Prop:=
 ∃d,Qs w base 68 4 A n c d/\d.length=xs.length/\∀(j:Nat) r x,d[j]?=some r->xs[j]?=some x->∃V p q,r=Yi x.k V p q/\Le F w V p q x.v/\(x.v≠[]->∀g,q01 V=some g->q01 A≠some g)
section
variable {F:Option Addr->List UInt8->Prop}{w w':World}{base n c:Nat}{A:Option Addr}{xs:List Qc}
theorem q26 (w:World):Je F (w.alloc (.cells #[] 68)) w.1.size (some ⟨w.1.size,0,none⟩) 0 0 []:=⟨[],qor w _ 4,rfl,λj r x d=>by simp at d⟩
theorem Je.below (h:Je F w base A n c xs)(hb:Below w.1.size w w'):Je F w' base A n c xs:=by
 obtain⟨f,h1,h2,m⟩:=h;refine⟨f,h1.below hb,h2,λj r x u B=>?_⟩;obtain⟨V,p,q,e,y,d⟩:=m j r x u B;exact⟨V,p,q,e,y.below hb,d⟩
theorem Je.Zq (h:Je F w base A n c xs):Zl w A n c xs:=by
 obtain⟨d,h1,h2,f⟩:=h;refine⟨d,h1.Vs (by omega),h2,λj r x m y=>?_⟩;obtain⟨V,p,q,e,u,_⟩:=f j r x m y;exact⟨V,p,q,e,u.1⟩
theorem Je.Qa (h:Je F w base A n c xs):∀k,q01 A=some k->base<=k/\k<w.1.size:=by
 obtain⟨d,h1,_⟩:=h;exact h1.Qa
end
theorem qc6 {F:Option Addr->List UInt8->Prop}{w:World}(ty:TypeId)(base:Nat)(A:Option Addr)(n c:Nat)(xs:List Qc)(J:Je F w base A n c xs)
  (B:Option Addr) (d:Nat) (u:Qc) (V:Option Addr) (p q:Nat) (m:Jf w 4 B 1 d [Yi u.k V p q]) (hv:Le F w V p q u.v) (Z:u.v≠[]->∀g,q01 V=some g->q01 A≠some g) (hn:n<=100000) (D:base<=w.1.size) :
  ∃y R w',(Builtin.append_ #[26,26] ty #[.slice A n c,.slice B 1 d]).run Tryz.prog w=.ok (.slice y (n+1) R) w'/\Je F w' base y (n+1) R (xs++[u])/\Turn (λk=>q01 A=some k) w w'/\(q01 y=q01 A\/q01 y=some w.1.size):=by
 obtain⟨E,h1,h2,h3⟩:=J;obtain⟨y,R,w',M,Q,T,G,_⟩:=q1w (P:=Tryz.prog) w Ad ty base A n c E h1 B 1 d [Yi u.k V p q] m (by omega) (q91 _ _ _ _) (by omega) (by omega) D;refine⟨y,R,w',M,⟨_,Q,by simp[h2],λj r x m O=>?_⟩,T,G⟩;have old:∀(V:Option Addr) (p q:Nat) (v:List UInt8),Le F w V p q v->(v≠[]->∀g,q01 V=some g->q01 A≠some g)->Le F w' V p q v/\(v≠[]->∀g,q01 V=some g->q01 y≠some g):=by
  intro V p q v X f;refine⟨⟨X.1.turned' T (λU k hk e=>f U k hk e),X.2⟩,λU g hg=>λe=>?_⟩;rcases G with W|W
  ·exact (f U g hg) (W.symm.trans e)
  ·have:=X.1.Qa U g hg;rw[W] at e;have:=Option.some.inj e;omega
 by_cases hj:j<E.length
 ·rw[List.getElem?_append_left hj] at m;rw[List.getElem?_append_left (by omega)] at O;obtain⟨V',p',q',e,Y,f⟩:=h3 j r x m O;obtain⟨o1,o2⟩:=old V' p' q' x.v Y f;exact⟨V',p',q',e,o1,o2⟩
 ·rw[List.getElem?_append_right (by omega)] at m O;have I:j-E.length=0:=by
   have:=(List.getElem?_eq_some_iff.1 m).1;simp at this;omega
  rw[I] at m;rw[<-h2,I] at O;obtain rfl:Yi u.k V p q=r:=by simpa using m
  obtain rfl:u=x:=by simpa using O
  obtain⟨o1,o2⟩:=old V p q u.v hv Z;exact⟨V,p,q,rfl,o1,o2⟩
theorem q1b {F:Option Addr->List UInt8->Prop}{w:World}{ops:Array Oper}{f:List Oper}{o:Oper}{a:Act}{Q:Exit->Act->World->Prop}(I:o.guard=none)(M x:Operand)
  (T:o.op=.call { callee:=.builtin .append,args:=#[M,x],argTypes:=#[26,26] })
  (base:Nat) (A:Option Addr) (n c:Nat) (xs:List Qc) (W:a.eval M=.slice A n c) (u:Je F w base A n c xs)
  (B:Option Addr) (d:Nat) (D:Qc) (V:Option Addr) (p q:Nat) (Y:a.eval x=.slice B 1 d) (U:Jf w 4 B 1 d [Yi D.k V p q]) (X:Le F w V p q D.v) (J:D.v≠[]->∀g,q01 V=some g->q01 A≠some g) (hn:n<=100000) (m:base<=w.1.size)
  (h:∀E G w',Je F w' base E (n+1) G (xs++[D])->Turn (λk=>q01 A=some k) w w'->wpList Tryz.prog ops Q f (a.put o.dst (.slice E (n+1) G)) w'):wpList Tryz.prog ops Q (o::f) a w:=
 wpList_plain I λK R=>by
  obtain⟨E,G,w',y,h2,O,Z⟩:=qc6 o.type base A n c xs u B d D V p q U X J hn m;unfold Oper.wp execOp;simp only[T,resolve,invoke,builtin,Sem.run_bind,Sem.run_pure,Result.andThen_ok,List.map_toArray,List.map_cons,List.map_nil,W,Y,y];exact R _ _ (h E G w' h2 O)
theorem q1e {F:Option Addr->List UInt8->Prop}{w:World}{ops:Array Oper}{o:Oper}{a:Act}{K:Act->World->Prop}{Q:Exit->Act->World->Prop}{E:Prop}(I:o.guard=none)(M x:Operand)
  (R:o.op=.call { callee:=.builtin .append,args:=#[M,x],argTypes:=#[26,26] })
  (base:Nat) (A:Option Addr) (n c:Nat) (xs:List Qc) (U:a.eval M=.slice A n c) (m:Je F w base A n c xs)
  (B:Option Addr) (d:Nat) (y:Qc) (V:Option Addr) (p q:Nat) (X:a.eval x=.slice B 1 d) (T:Jf w 4 B 1 d [Yi y.k V p q]) (W:Le F w V p q y.v) (J:y.v≠[]->∀g,q01 V=some g->q01 A≠some g) (hn:n<=100000) (f:base<=w.1.size)
  (h:∀D G w',Je F w' base D (n+1) G (xs++[y])->Turn (λk=>q01 A=some k) w w'->K (a.put o.dst (.slice D (n+1) G)) w') :
  if Region.wanted o (yielded ops a.tmps)=true then Oper.wp Tryz.prog o a w K Q else E:=by
 rw[if_pos (by simp[Region.wanted,I])];obtain⟨D,G,w',u,h2,O,Y⟩:=qc6 o.type base A n c xs m B d y V p q T W J hn f;unfold Oper.wp execOp;simp only[R,resolve,invoke,builtin,Sem.run_bind,Sem.run_pure,Result.andThen_ok,List.map_toArray,List.map_cons,List.map_nil,U,X,u];exact h D G w' h2 O
theorem Je.Gn {F:Option Addr->List UInt8->Prop}{w:World}{base n c:Nat}{A:Option Addr}{xs:List Qc}(h:Je F w base A n c xs):Zg F w A n c xs:=by
 obtain⟨d,h1,h2,f⟩:=h;refine⟨d,h1.Vs (by omega),h2,λj r x m y=>?_⟩;obtain⟨V,p,q,e,u,_⟩:=f j r x m y;exact⟨V,p,q,e,u⟩
theorem Zg.turned {S:Nat->Prop}{F:Option Addr->List UInt8->Prop}{w w':World}{A:Option Addr}{n c:Nat}{xs:List Qc}(h:Zg F w A n c xs)(T:Turn S w w')(hA:∀k,q01 A=some k->¬S k)(hF:∀V v,F V v->v≠[]->∀g,q01 V=some g->¬S g):Zg F w' A n c xs:=by
 obtain⟨f,h1,h2,m⟩:=h;refine⟨f,h1.keep T.size λg o e u=>T.block g u (hA g (by rw[e];rfl)),h2,λj r x D E=>?_⟩;obtain⟨V,p,q,e,d⟩:=m j r x D E;exact⟨V,p,q,e,d.1.turned' T (λB k y e=>hF _ _ d.2 B k y e),d.2⟩
theorem q61 (l:List Qc)(A:Option Addr)(n c:Nat)(I:Option Addr)(c2:Nat)(w:World)(D:Zl w A n c l)(E:Zl w I n c2 l) :
  Calls Tryz.prog 15 #[.slice A n c,.slice I n c2] w λe w'=>e=.returned (.bool true)/\Below w.1.size w w':=by
 have hg:=qu4;obtain⟨a6,G⟩:=D.bounds;unfold maxLen at G;go_enter Tryz.func15,Tryz.ntmps15
 go_wp2_with fail
 have T:=Lib.hid D.len;go_loopw [5] (λi wr=>∃j:Nat,j<=n/\i=.int .i64 (j:Int)/\Below w.1.size w wr) (λi _=>n-(intOf i).toNat)
 case atStart=>exact⟨0,Nat.zero_le _,rfl,Below.refl _ _⟩
 case round=>
  obtain⟨j,hj,rfl,p⟩:=hrel;by_cases f:j<n
  ·obtain⟨g,o,B',m',d',hA,a7,a0,U,W,a3,d⟩:=(D.below p).cell f;obtain⟨g2,o2,R,b2,Y,y,a8,Z,e1,e2,e3,u⟩:=(E.below p).cell f;subst hA y;obtain⟨x,M⟩:∃x,Qj l j=x:=⟨_,rfl⟩;rw[M] at a0 U W d Z e1 e2 u;clear M;obtain⟨X,J⟩:∃X,(⟨x.v.toArray⟩:ByteArray)=X:=⟨_,rfl⟩;have O:=λk=>Qch (d.drewN k)
   have Q:=λk=>Qch (u.drewN k)
   rw[J] at O Q;have hq:=qy4 x.k;have b0:(0:Int)<=(j:Int):=by omega
   have b1:(j:Int)<(n:Int):=by omega
   clear d u J;go_wp2_with fail
   go_quiet (fail)
   generalize m:World.drewN wr _=w5;have B:Below w.1.size w w5:=by rw[<-m];exact q1g p _
   clear m O Q;go_wp2;exact⟨⟨j+1,by omega,by go_num,B⟩,by simp[intOf];omega⟩
  ·obtain rfl:n=j:=by omega
   go_wp2;go_ret;exact⟨rfl,p⟩
