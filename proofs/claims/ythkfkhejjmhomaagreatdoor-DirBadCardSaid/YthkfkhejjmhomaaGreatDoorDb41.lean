/- The way down «to» a key's leaf: each node that is the tree's own is opened -/
import Derived.Test.YthkfkhejjmhomaaGreatDoorDb38
import Derived.Lib.Strings
import Derived.Lib.Bytealg
import Derived.Sort.Statements
namespace Go.Proofs.YthkfkhejjmhomaaGreatDoor
open Go Go.RowKit Go.Proofs
theorem qg0 {R:Int->Nd × Int}:∀{l:Nat} {a:Int} {its d:List Qb},Qm R l a its->Qm R l a d->its=d
 |0,a,its,d,h,h'=>by
  have e:=h.1.symm.trans h'.1;injection e with m _;injection m
 |l+1,a,its,d,h,h'=>by
  obtain⟨kids,parts,h1,h2,Q,rfl,I⟩:=h;obtain⟨B,f,p,F,G,rfl,u⟩:=h';have e:=h1.symm.trans p;injection e with m _;injection m with _ _ E;subst E;congr 1
  apply List.ext_getElem
  ·omega
  ·intro j J y;have K:=(I j (by omega)).1;have M:=(u j (by omega)).1;have:=qg0 K M;rw[List.getD_eq_getElem?_getD,List.getElem?_eq_getElem J,List.getD_eq_getElem?_getD,List.getElem?_eq_getElem y] at this;exact this
theorem qqv {G:List Zz}{x:Qb}(h:x∈rowOf G):∃q,∃d:q<G.length,x∈(G[q]).2:=by
 obtain⟨t,f,m⟩:=qpe.1 h;obtain⟨q,d,e⟩:=List.getElem_of_mem f;exact⟨q,d,by rw[e];exact m⟩
theorem qqw {R:Int->Nd × Int}{l:Nat}{G:List Zz}(Q:∀x∈G,good1 R l x)(E:Ql (rowOf G))(h0:G≠[])(k:Kd) :
  ∃j,(⟨((l+1:Nat):Int),[],G.map Qn⟩:Nd).Zc k=j/\j<G.length/\(∀x∈rowOf (G.take j),x.k.less k=true)/\(∀x∈rowOf (G.drop (j+1)),k.less x.k=true):=by
 have U:(⟨((l+1:Nat):Int),[],G.map Qn⟩:Nd).Zc k=lastTo ((G.map Qn).map (·.k)) k (G.map Qn).length:=by
  unfold Nd.Zc;have:¬((l+1:Nat):Int)=0:=by omega
  dsimp only;rw[if_neg this,q4q,List.length_map]
 obtain⟨j,J⟩:∃j,lastTo ((G.map Qn).map (·.k)) k (G.map Qn).length=j:=⟨_,rfl⟩;have W:0<G.length:=List.length_pos_iff.2 h0;have T:(G.map Qn).length=G.length:=List.length_map ..;have f:j<G.length:=by
  rcases q6w ((G.map Qn).map (·.k)) k (G.map Qn).length with e|e<;>omega
 have p:∀q (m:q<G.length),keyAt ((G.map Qn).map (·.k)) q=(Zb (G[q]).2 0).k:=λq m=>by
  rw[q4r _ (by omega),qee m];rfl
 have u:∀q (m:q<G.length),∃y r,(G[q]).2=y::r:=λq m=>q70 (Q _ (List.getElem_mem m)).1
 have E:Ql (G.map (·.2)).flatten:=E;refine⟨j,by rw[U,J],f,λx d=>?_,λx d=>?_⟩
 ·obtain⟨q,m,d⟩:=qqv d;rw[List.getElem_take] at d;rw[List.length_take] at m;obtain⟨z,s,I⟩:=u j f;have M:x.k.less z.k=true:=q5f (parts:=G.map (·.2)) E (i:=q) (j:=j) (by omega) (by rw[List.length_map];omega) (by rw[q5h (by omega)];exact d) (by rw[q5h f,I];exact List.mem_cons_self ..);have B:k.less z.k=false:=by
   have:=q5e ((G.map Qn).map (·.k)) k (G.map Qn).length (by omega);rw[J,p j f,I] at this;exact this
  exact qcv M B
 ·obtain⟨q,m,d⟩:=qqv d;rw[List.getElem_drop] at d;rw[List.length_drop] at m;obtain⟨y,r,F⟩:=u (j+1+q) (by omega);have B:k.less y.k=true:=by
   have:=q4o ((G.map Qn).map (·.k)) k (G.map Qn).length (j+1+q) (by omega) (by omega);rw[p _ (by omega),F] at this;exact this
  rw[F] at d;rcases List.mem_cons.1 d with rfl|d
  ·exact B
  ·have K:=q5g E (j+1+q);rw[q5h (by omega),F] at K;exact Kd.trans _ _ _ B ((List.pairwise_cons.1 K).1 x d)
theorem qi3 {R:Int->Nd × Int}{l:Nat}{GL GR:List Zz}{x:Zz}(E:∀y∈GL++x::GR,good1 R l y)(m:Ql (rowOf (GL++x::GR))):∀y∈GL++GR,y.1≠x.1:=λy F e=>by
 have f:=(E y (by rcases List.mem_append.1 F with h|h<;>simp[h])).1;have d:=(E x (by simp)).1;rw[e] at f;have p:=qg0 f d;obtain⟨z,s,u⟩:=q70 d;rcases List.mem_append.1 F with h|h
 ·obtain⟨A,B,rfl⟩:=List.append_of_mem h;rw[List.append_assoc,Po] at m;have h1:=(Md m).2;have h2:rowOf (y::B++x::GR)=y.2++(rowOf B++(x.2++rowOf GR)):=by
   rw[Po,show y::B=[y]++B from rfl,Po,q5x,show x::GR=[x]++GR from rfl,Po,q5x,List.append_assoc]
  rw[h2,p,u] at h1;have:=(List.pairwise_append.1 h1).2.2 z (List.mem_cons_self ..) z (List.mem_append_right _ (List.mem_append_left _ (List.mem_cons_self ..)));rw[q43] at this
  cases this
 ·obtain⟨A,B,rfl⟩:=List.append_of_mem h;rw[Po] at m;have h1:=(Md m).2;have h2:rowOf (x::(A++y::B))=x.2++(rowOf A++(y.2++rowOf B)):=by
   rw[show x::(A++y::B)=[x]++(A++([y]++B)) from rfl,Po,q5x,Po,Po,q5x]
  rw[h2,p,u] at h1;have:=(List.pairwise_append.1 h1).2.2 z (List.mem_cons_self ..) z (List.mem_append_right _ (List.mem_append_left _ (List.mem_cons_self ..)));rw[q43] at this
  cases this
section
variable {D:DM}{S0:Sp}{C0:Ct}{O H H0:List Int}{P:Pl}
theorem Ya.next {l:Nat}{s:Qs}{way:List Qs}{L Rr:List Qb}(h:Ya P D O l s way L Rr)(j:Nat):Ya P D O l { s with next:=j } way L Rr:=by
 cases way with
 |nil=>exact h
 |cons t way=>exact h
structure At (D:DM)(S0:Sp)(C0:Ct)(O H H0:List Int)(P:Pl)(l:Nat)(s:Qs)(up:List Qs)(L Rr:List Qb)(M:List (List Qb)):Prop where
 keep:Keep D S0 C0 O H P
 spot:Zj P D O (l:Int) s
 way:Ya P D O l s up L Rr
 held:∀a:Nat,0<a->a<P.C.n->H.count (a:Int)=(own s++((if s.shared=true then [] else s.N.named)++Zi up H0)).count (a:Int)
 opens:∀y∈O,(s.shared=false/\y=s.addr)\/∃t∈up,t.shared=false/\y=t.addr
 Fa:Yv (P.hide D O) l s.N M
 may:s.N.may=true
 dat:∀x∈M.flatten,Dat (P.hide D O) x
 ne:M≠[]
 enough:up≠[]->Qp (l:Int)<=M.length
theorem qg1 (K:Keep D S0 C0 O H P){l:Nat}{a:Int}{hd:Bool}{up:List Qs}{L Rr its:List Qb}(R:Qm (P.hide D O) l a its)(J:Ya P D O l (P.spot D a hd) up L Rr)
  (T:∀b:Nat,0<b->b<P.C.n->H.count (b:Int)=(own (P.spot D a hd)++Zi up H0).count (b:Int)) (hO:∀y∈O,∃t∈up,t.shared=false/\y=t.addr) (G:up≠[]->(P.hide D O a).1.enough) :
  ∃O' H' M,At D S0 C0 O' H' H0 P l (P.spot D a hd) up L Rr M/\M.flatten=its/\Since D O O' H0 P P 0:=by
 obtain⟨ho,n,hn,a2,h0⟩:=q30 (D8 R).2.2;obtain⟨Y,hE⟩:=q3a R;have F:∀x∈its,Dat (P.hide D O) x:=K.dat l a its R;obtain⟨M,E,u,hL,U⟩:=K.Fa R;have hN:(P.hide D O a).1=P.Qd D a:=by rw[Y];rfl
 rw[hN] at E G;have p:=hL.may;rw[hN] at p;have W:(P.Qd D a).lvl=(l:Int):=q4d E;by_cases d:(P.spot D a hd).shared=true
 ·refine⟨O,H,M,⟨K,⟨λ_ h2=>⟨?_,ho,W⟩,λh=>by rw[d] at h;cases h⟩,J,λb h1 h2=>?_,λy Z=>.inr (hO y Z),E,p,by rw[u];exact F,U,λhu=>(q3c E).1 (G hu)⟩,u,q5a (Move.refl (l:Int) D O P) H0⟩
  ·have h2:hd=false:=h2;have Q:(hd||decide (1<P.C.get a))=true:=d;rw[h2,Bool.false_or] at Q;have:=of_decide_eq_true Q;show 2<=P.C.get a;omega
  ·rw[if_pos d];exact T b h1 h2
 ·have Q:(hd||decide (1<P.C.get a))=false:=by
   cases e:(hd||decide (1<P.C.get a)) with
   |false=>rfl
   |true=>exact absurd e d
  obtain⟨h4,h5⟩:=Bool.or_eq_false_iff.1 Q;have h5:=of_decide_eq_false h5;subst hn;have f:P.C.get (n:Int)=1:=by
   have:=K.nonneg (n:Int);omega
  obtain⟨c0,cn⟩:=K.first h0
  have B:own (P.spot D (n:Int) hd)=[(n:Int)]:=if_neg (by show ¬hd=true;rw[h4];decide);rw[B] at T;have m:(n:Int)∈H:=List.count_pos_iff.1 (by rw[T n c0 cn,List.count_append];simp;omega);have K1:=K.open_ f m ho;obtain⟨o1,o2⟩:=K.once f m;have X:(n:Int)∉Zi up H0:=q4h (by
   rw[T n c0 cn,List.count_append] at o1;simp at o1;omega)
  rw[Y] at K1;have K1:Keep D S0 C0 ((n:Int)::O) ((P.Qd D (n:Int)).named++H) P:=K1;have I:(n:Int)∉(P.Qd D (n:Int)).kids.map (·.a):=qqi (y:=((n:Int),its)) E R;have a1:=q91 J h4;refine⟨(n:Int)::O,_,M,⟨K1,⟨λh=>absurd h d,λ_=>⟨h4,List.mem_cons_self ..,W,hE⟩⟩,J.open_ K f m a1 Q X,λb h1 h2=>?_,λy Z=>?_,qul K f m I E,p,by
   rw[u];exact λx hx=>qjj (F x hx) λe=>qk5 R (F x hx _ e) rfl,U,λhu=>(q3c E).1 (G hu)⟩,u,⟨λl' a' t ha ht=>q3b K f m l' a' t (λe=>X (e▸qe1.restH_sub up ha)) ht,Nat.le_refl _,rfl⟩⟩
  ·rw[if_neg d,B,List.count_append,T b h1 h2];show (P.Qd D (n:Int)).named.count _+_=(_++((P.Qd D (n:Int)).named++_)).count _;simp only[List.count_append];omega
  ·rcases List.mem_cons.1 Z with rfl|Z
   ·exact .inl ⟨Q,rfl⟩
   ·exact .inr (hO y Z)
structure P9 (D:DM)(S0:Sp)(C0:Ct)(O H0:List Int)(P:Pl)(k:Kd)(row:List Qb)(n:Nat)(W:Option (List Qs × Qs)):Prop where
 is:∃up s O' H' L Rr its A B,W=some (up,s)/\At D S0 C0 O' H' H0 P 0 s up L Rr (its.map λx=>[x])/\s.N=⟨0,its,[]⟩/\row=L++(its++Rr)/\Since D O O' H0 P P 0/\up.length<=n/\L=A/\Rr=B/\(∀x∈A,x.k.less k=true)/\∀x∈B,k.less x.k=true
theorem qkc (k:Kd):∀(l f:Nat) {O H:List Int} {a:Int} {hd:Bool} {up:List Qs} {L Rr its:List Qb},l<=f->Keep D S0 C0 O H P->Qm (P.hide D O) l a its->Ql its->Ya P D O l (P.spot D a hd) up L Rr->
  (∀b:Nat,0<b->b<P.C.n->H.count (b:Int)=(own (P.spot D a hd)++Zi up H0).count (b:Int))->(∀y∈O,∃t∈up,t.shared=false/\y=t.addr)->(up≠[]->(P.hide D O a).1.enough)->(∀x∈L,x.k.less k=true)->(∀x∈Rr,k.less x.k=true)->
  P9 D S0 C0 O H0 P k (L++(its++Rr)) (up.length+l) (P.Gw D k f (P.spot D a hd) up)
 |0,f,O,H,a,hd,up,L,Rr,its,hf,K,hT,hr,hup,hH,hO,hen,hL,hR=>by
  obtain⟨W,H',M,m,hM,J⟩:=qg1 K hT hup hH hO hen;obtain⟨Q,u,e2⟩:=m.Fa;subst e2;rw[q13] at hM;subst hM;have ew:P.Gw D k f (P.spot D a hd) up=some (up,P.spot D a hd):=by
   cases f with
   |zero=>show (if _ then _ else none)=_;rw[if_pos (by rw[u];exact Int.le_refl 0)]
   |succ f=>show (if _ then _ else _)=_;rw[if_pos (by rw[u];exact Int.le_refl 0)]
  exact⟨⟨up,_,W,H',L,Rr,Q,L,Rr,ew,m,u,rfl,J,by omega,rfl,rfl,hL,hR⟩⟩
 |l+1,0,_,_,_,_,_,_,_,_,hf,_,_,_,_,_,_,_,_,_=>by omega
 |l+1,f+1,O,H,a,hd,up,L,Rr,its,hf,K,hT,hr,hup,hH,hO,hen,hL,hR=>by
  obtain⟨W,H',M,m,hM,J⟩:=qg1 K hT hup hH hO hen;generalize hs:P.spot D a hd=s at m hup;obtain⟨G,u,e2,hg⟩:=m.Fa;subst e2;have a7:G≠[]:=λe=>m.ne (by rw[e];rfl)
  have F:rowOf G=its:=hM;obtain⟨j,hj,b0,b1,b2⟩:=qqw hg (by rw[F];exact hr) a7 k;rw[<-u] at hj;obtain⟨x,hx⟩:∃x,G[j]?=some x:=⟨_,List.getElem?_eq_getElem b0⟩;obtain⟨k1,k2⟩:=qw3 u hx;have d:G=G.take j++x::G.drop (j+1):=by
   obtain⟨_,ex⟩:=List.getElem?_eq_some_iff.1 hx;rw[<-ex,List.getElem_cons_drop,List.take_append_drop]
  have E:=hg x (List.mem_of_getElem? hx);obtain⟨b7,hE⟩:=q3a E.1;have b3:(P.Qd D x.1).lvl=(l:Int):=by
   have:=(D8 E.1).2.1;rw[b7] at this;exact this
  have X:(Qe s.N.kids j).a=x.1:=by rw[k2];rfl
  have b5:P.Wi D s j=true:=by
   unfold Pl.Wi;rw[X];refine decide_eq_true ⟨k1,hE,?_⟩;rw[b3,u];show (l:Int)=((l+1:Nat):Int)-1;omega
  have a6:P.Je D s j=P.spot D x.1 s.shared:=by unfold Pl.Je;rw[X]
  have ew:P.Gw D k (f+1) s up=P.Gw D k f (P.spot D x.1 s.shared) ({ s with next:=j }::up):=by
   show (if s.N.lvl<=0 then _ else if P.Wi D s (s.N.Zc k)=true then P.Gw D k f (P.Je D s (s.N.Zc k)) ({ s with next:=s.N.Zc k }::up) else none)=_;rw[if_neg (by rw[u];show ¬((l+1:Nat):Int)<=0;omega),hj,if_pos b5,a6]
  rw[ew];have Y:∀y∈G.take j++G.drop (j+1),y∈G:=λy T=>by
   rcases List.mem_append.1 T with h|h
   ·exact List.mem_of_mem_take h
   ·exact List.mem_of_mem_drop h
  have a8:∀y∈G.take j++G.drop (j+1),y.1≠x.1:=qi3 (R:=P.hide D W) (l:=l) (by rw[<-d];exact hg) (by rw[<-d,F];exact hr);have I:its=rowOf (G.take j)++(x.2++rowOf (G.drop (j+1))):=by
   rw[<-F,<-q5x x,<-Po,<-Po];exact congrArg rowOf d
  have U:Zj P D W ((l+1:Nat):Int) { s with next:=j }:=⟨m.spot.shared,m.spot.mine⟩;have Z:Ya P D W l (P.spot D x.1 s.shared) ({ s with next:=j }::up) (L++rowOf (G.take j)) (rowOf (G.drop (j+1))++Rr):=by
   refine⟨G.take j,G.drop (j+1),x,L,Rr,?_,?_,rfl,rfl,m.may,λhu=>?_,λy T=>hg y (Y y T),λ_=>E.1,U,m.way.next j,rfl,rfl,a8⟩
   ·show s.N=_;rw[u,<-d]
   ·show j=(G.take j).length;rw[List.length_take];omega
   ·have h1:=m.enough hu;have e6:Qp ((l+1:Nat):Int)=6:=if_neg (by omega);rw[e6,List.length_map] at h1;rw[List.length_take,List.length_drop];omega
  have b6:(Zl { s with next:=j } j (j+1)).named=(G.take j).map (·.1)++(G.drop (j+1)).map (·.1):=by
   have:=q27 (t:={ s with next:=j }) (l:=l) (GL:=G.take j) (GR:=G.drop (j+1)) (x:=x) (by show s.N=_;rw[u,<-d]) (by show j=_;rw[List.length_take];omega);exact this
  have b4:s.N.named=G.map (·.1):=by rw[u,q10]
  have ih:=qkc k l f (O:=W) (H:=H') (a:=x.1) (hd:=s.shared) (up:={ s with next:=j }::up) (L:=L++rowOf (G.take j)) (Rr:=rowOf (G.drop (j+1))++Rr) (its:=x.2) (by omega) m.keep E.1 (by
    rw[I] at hr;exact (Md (Md hr).2).1) Z (λb h1 h2=>by
    rw[m.held b h1 h2];show _=(own (P.spot D x.1 s.shared)++(own s++((if s.shared=true then [] else (Zl { s with next:=j } j (j+1)).named)++Zi up H0))).count _;have ho:own (P.spot D x.1 s.shared)=if s.shared=true then [] else [x.1]:=rfl
    rw[ho,b6,b4];have hc:(G.map (·.1)).count (b:Int)=((G.take j).map (·.1)).count (b:Int)+([x.1].count (b:Int)+((G.drop (j+1)).map (·.1)).count (b:Int)):=by
     rw[<-List.count_append,<-List.count_append];refine congrArg (List.count (b:Int)) ?_;conv=>lhs;rw[d]
     simp
    by_cases p:s.shared=true
    ·rw[if_pos p,if_pos p,if_pos p];simp only[List.nil_append]
    ·rw[if_neg p,if_neg p,if_neg p];simp only[List.count_append,hc];omega) (λy T=>by
    rcases m.opens y T with⟨h1,h2⟩|⟨t,h1,h2⟩
    ·exact⟨{ s with next:=j },List.mem_cons_self ..,h1,h2⟩
    ·exact⟨t,List.mem_cons_of_mem _ h1,h2⟩) (λ_=>E.2.1) (λy T=>by
    rcases List.mem_append.1 T with h|h
    ·exact hL y h
    ·exact b1 y h) (λy T=>by
    rcases List.mem_append.1 T with h|h
    ·exact b2 y h
    ·exact hR y h)
  obtain⟨b9,s',a2,a1,L',R',Q,A,B,i1,i2,i3,i4,i5,i6,i7,i8,i9,b8⟩:=ih.is;refine⟨⟨b9,s',a2,a1,L',R',Q,A,B,i1,i2,i3,?_,(J.trans i5),by rw[List.length_cons] at i6;omega,i7,i8,i9,b8⟩⟩;rw[<-i4,I];simp only[List.append_assoc]
end
def Ug (k:Kd)(l:List Qb):List Qb:=l.filter λx=>!(x.k.same k)
theorem qxu {a b:Kd}(h:a.same b=true):a=b:=by
 obtain⟨h1,h2,d⟩:=(Kd.same_iff a b).1 h
 cases a;cases b;simp only at h1 h2 d;subst h1;subst h2;subst d;rfl
theorem qkd {k:Kd}{v:List UInt8}:∀{B C:List Qb},(∀x∈C,k.less x.k=true)->Ql (B++C)->Xu k v false (B++C)=Xu k v false B++C
 |[],C,hC,hr=>by
  cases C with
  |nil=>simp
  |cons c r=>
   rw[List.nil_append] at hr ⊢;rw[q20 hr,if_pos (hC c (List.mem_cons_self ..))];rfl
 |b::B,C,hC,hr=>by
  have d:=(Md hr).1;rw[List.cons_append] at hr ⊢;rw[q20 hr,q20 d];split
  ·rfl
  ·split
   ·rfl
   ·rw[qkd hC (List.pairwise_cons.1 hr).2];rfl
theorem qe3 {k:Kd}{v:List UInt8}{B C:List Qb}:∀{A:List Qb},(∀x∈A,x.k.less k=true)->(∀x∈C,k.less x.k=true)->Ql (A++(B++C))->Xu k v false (A++(B++C))=A++(Xu k v false B++C)
 |[],_,hC,hr=>qkd hC hr
 |a::A,hA,hC,hr=>by
  rw[List.cons_append] at hr ⊢;have h1:=hA a (List.mem_cons_self ..);rw[q20 hr,if_neg (by rw[qb6 h1];decide),if_neg (by rw[(Sr h1).1];decide),qe3 (λx d=>hA x (List.mem_cons_of_mem _ d)) hC (List.pairwise_cons.1 hr).2];rfl
theorem qg2 (x:Qb)(r:List Qb)(k:Kd):lead ((x::r).map (·.k)) k=if x.k.less k=true then lead (r.map (·.k)) k+1 else 0:=by
 unfold lead;rw[List.map_cons,List.takeWhile_cons];split<;>simp
theorem qcf (x:Qb)(r:List Qb)(k:Kd)(i:Nat):Vd ((x::r).map (·.k)) k (i+1)=Vd (r.map (·.k)) k i:=by
 unfold Vd keyAt;rw[List.map_cons,List.length_cons,List.getD_cons_succ];congr 1
 exact decide_eq_decide.2 ⟨λh=>Nat.lt_of_succ_lt_succ h,λh=>Nat.succ_lt_succ h⟩
theorem q7q (x:Qb)(r:List Qb)(k:Kd):Vd ((x::r).map (·.k)) k 0=x.k.same k:=by
 unfold Vd keyAt;rw[List.map_cons,List.length_cons,List.getD_cons_zero,decide_eq_true (Nat.succ_pos _),Bool.true_and]
theorem qke {k:Kd}{v:List UInt8}:∀{B:List Qb},Ql B->Xu k v false B=B.take (lead (B.map (·.k)) k)++(⟨k,v⟩::B.drop (lead (B.map (·.k)) k+if Vd (B.map (·.k)) k (lead (B.map (·.k)) k)=true then 1 else 0))
 |[],_=>by
  have e:lead (([]:List Qb).map (·.k)) k=0:=rfl;rw[e];simp[Xu]
 |x::r,hr=>by
  rw[q20 hr,qg2];by_cases h1:k.less x.k=true
  ·rw[if_pos h1,if_neg (by rw[qb6 h1];decide),q7q,if_neg (by rw[(Sr h1).2];decide)];rfl
  ·rw[if_neg h1];by_cases h2:x.k.same k=true
   ·have d:x.k.less k=false:=by rw[q6z h2];exact q43 _
    rw[if_pos h2,if_neg (by rw[d];decide),q7q,if_pos h2];rfl
   ·rw[if_neg h2];have d:x.k.less k=true:=by
     rcases Kd.total x.k k with h|h|h
     ·exact h.1
     ·exact absurd h.2.1 h1
     ·exact absurd (by rw[h.2.2];exact qy6 _) h2
    rw[if_pos d,qcf,qke (List.pairwise_cons.1 hr).2,List.take_succ_cons,Nat.add_right_comm,List.drop_succ_cons];rfl
theorem qe4 {k:Kd}{l:List Qb}(h:∀x∈l,x.k.same k=false):Ug k l=l:=List.filter_eq_self.2 λx d=>by rw[h x d];rfl
theorem qqx {k:Kd}{A B C:List Qb}(m:∀x∈A,x.k.less k=true)(p:∀x∈C,k.less x.k=true):Ug k (A++(B++C))=A++(Ug k B++C):=by
 have e:Ug k A=A:=qe4 λx d=>(Sr (m x d)).1
 have f:Ug k C=C:=qe4 λx d=>(Sr (p x d)).2
 unfold Ug at e f ⊢;rw[List.filter_append,List.filter_append,e,f]
theorem qkf {k:Kd}:∀{B:List Qb},Ql B->Vd (B.map (·.k)) k (lead (B.map (·.k)) k)=true->Ug k B=B.take (lead (B.map (·.k)) k)++B.drop (lead (B.map (·.k)) k+1)/\lead (B.map (·.k)) k<B.length
 |[],_,h=>by cases h
 |x::r,hr,h=>by
  obtain⟨m,e⟩:=List.pairwise_cons.1 hr;rw[qg2] at h ⊢;by_cases d:x.k.less k=true
  ·rw[if_pos d] at h ⊢;rw[qcf] at h;obtain⟨f,u⟩:=qkf e h;refine⟨?_,by rw[List.length_cons];omega⟩;rw[List.take_succ_cons,List.drop_succ_cons];unfold Ug at f ⊢;rw[List.filter_cons_of_pos (by rw[(Sr d).1];rfl),f];rfl
  ·rw[if_neg d] at h ⊢;rw[q7q] at h;refine⟨?_,by rw[List.length_cons];omega⟩;unfold Ug;rw[List.filter_cons_of_neg (by rw[h];decide)];show Ug k r=_;rw[qe4]
   ·rfl
   ·intro y p;have:k=x.k:=(qxu h).symm;rw[this];exact (Sr (m y p)).2
theorem qqy {k:Kd}{l:List Qb}(h:Ql l):Ql (Ug k l):=List.Pairwise.filter _ h
theorem qxv {k:Kd}{l:List Qb}{x:Qb}(h:x∈Ug k l):x∈l:=(List.mem_filter.1 h).1
theorem qxw (k:Kd)(l:List Qb):(Ug k l).length<=l.length:=List.length_filter_le _ _
theorem qqz {l:List Qb}(f:Ql l)(k:Kd):Vd (l.map (·.k)) k (lead (l.map (·.k)) k)=true↔∃x∈l,x.k.same k=true:=by
 constructor
 ·intro h;unfold Vd at h;rw[Bool.and_eq_true] at h;obtain⟨h1,h2⟩:=h;have h1:=of_decide_eq_true h1;rw[List.length_map] at h1;rw[q17 l h1] at h2;have e:Zb l (lead (l.map (·.k)) k)=l[lead (l.map (·.k)) k]:=by unfold Zb;rw[List.getD_eq_getElem?_getD,List.getElem?_eq_getElem h1];rfl
  exact⟨_,by rw[e];exact List.getElem_mem h1,h2⟩
 ·rintro⟨x,p,m⟩
  cases d:Vd (l.map (·.k)) k (lead (l.map (·.k)) k) with
  |true=>rfl
  |false=>
   have h:=qky f k;rw[d,if_neg (by decide)] at h;unfold valOf at h;have h2:=List.find?_eq_none.1 (Option.map_eq_none_iff.1 h) x p;exact absurd m h2
section
variable {D:DM}{S0:Sp}{C0:Ct}{H0:List Int}{P:Pl}{root:Int}
theorem qg3 (X:List Int):∀(way:List Qs) (a:Int),(Zi way (X++H0)).count a=X.count a+(Zi way H0).count a
 |[],a=>List.count_append
 |t::way,a=>by
  show (own t++((if t.shared=true then [] else (Zl t t.next (t.next+1)).named)++Zi way (X++H0))).count a=_+(own t++((if t.shared=true then [] else (Zl t t.next (t.next+1)).named)++Zi way H0)).count a;have d:=qg3 X way a;simp only[List.count_append];omega
theorem qg4 {O:List Int}:∀{way:List Qs} {l:Nat} {s:Qs} {L Rr:List Qb},Ya P D O l s way L Rr->∀t∈way,∃u:Int,Zj P D O u t
 |[],_,_,_,_,_,t,ht=>by cases ht
 |t::way,l,s,L,Rr,h,t',d=>by
  obtain⟨y,B,x,E,F,h1,h2,G,I,J,K,M,Q,p,e,f,m⟩:=h;rcases List.mem_cons.1 d with rfl|d
  ·exact⟨_,p⟩
  ·exact qg4 e t' d
theorem Since.sub {O O' X:List Int}{P':Pl}{k:Nat}(h:Since D O O' (X++H0) P P' k):Since D O O' H0 P P' k:=⟨λl a t d e=>h.old l a t (List.mem_append_right _ d) e,h.free,h.n⟩
def nmI (x:Qb):List Int:=(Uc x).toList
theorem q1w (its:List Qb):(⟨0,its,[]⟩:Nd).named=its.filterMap Uc:=by unfold Nd.named;simp
theorem qg5 (x:Qb):(⟨0,[x],[]⟩:Nd).named=nmI x:=by
 rw[q1w];unfold nmI
 cases h:Uc x with
 |none=>rw[List.filterMap_cons_none h];rfl
 |some c=>rw[List.filterMap_cons_some h];rfl
theorem qe5 (its:List Qb)(i j:Nat):(⟨0,its,[]⟩:Nd).cut i j=⟨0,(its.drop i).take (j-i),[]⟩:=if_pos rfl
theorem qze {O H:List Int}{l:Nat}{s:Qs}{up:List Qs}{L Rr:List Qb}{M:List (List Qb)}{X:List Int}(d:At D S0 C0 O H X P l s up L Rr M){x:Qb}(B:Dat (P.hide D []) x):Dat (P.hide D O) x:=λc p=>by
 have h1:=B c p;rw[Td (by simp)] at h1;rw[Td (λu=>?_)]
 ·exact h1
 ·have m:=(qdn d.keep.Zx h1).2;rcases d.opens c u with⟨h2,e⟩|⟨t,y,h2,e⟩
  ·exact m (by rw[e];exact (d.spot.mine h2).2.2.2)
  ·obtain⟨E,f⟩:=qg4 d.way t y;exact m (by rw[e];exact (f.mine h2).2.2.2)
theorem qg6 {_k:Kd}{row:List Qb}{n:Nat}{O:List Int}{up:List Qs}{s:Qs}{I H' X:List Int}{L Rr its:List Qb}(p:At D S0 C0 I H' (X++H0) P 0 s up L Rr (its.map λx=>[x]))(W:s.N=⟨0,its,[]⟩)(T:Since D O I (X++H0) P P 0)(hn:up.length<=n)(a6:n<=7)
  {i j:Nat} (hi:i<=j) (hj:j<=its.length) {new:List Qb} (a2:new.length<=1) (hX:new.filterMap Uc=X) (Y:∀x∈new,Dat (P.hide D []) x) (a1:j<=i+1) (d:L++((its.take i++(new++its.drop j))++Rr)=row) (hr:Ql row) (hf:∀x∈row,Zr x) (K:row.length<=1000) (U:H0.length<=10000) :
  Xz D S0 C0 O H0 P row (2*n+3) (Y8 D up P s i j ⟨0,new,[]⟩):=by
 have hb:=p.Fa;have m:∀x∈its,Dat (P.hide D I) x:=λx G=>p.dat x (by rw[q13];exact G)
 have E:Yv (P.hide D I) 0 ⟨0,new,[]⟩ (new.map λx=>[x]):=⟨new,rfl,rfl⟩;have f:((its.map λx=>[x]).take i++((new.map λx=>[x])++(its.map λx=>[x]).drop j)).flatten=its.take i++(new++its.drop j):=by
  rw[<-List.map_take,<-List.map_drop,List.flatten_append,List.flatten_append,q13,q13,q13]
 have R:=qaf hb (i:=i) (j:=j) hi (by rw[List.length_map];exact hj);have y:((its.map λx=>[x]).take i++((new.map λx=>[x])++(its.map λx=>[x]).drop j)).length=i+new.length+(its.length-j):=by
  simp only[List.length_append,List.length_take,List.length_drop,List.length_map];omega
 have Q:Qo ((0:Nat):Int)=6:=rfl;have M:Qp ((0:Nat):Int)=3:=rfl;have Z:its.length<=6:=by
  have:=(qk3 hb p.may).1;rw[List.length_map,Q] at this;exact this
 have B:(s.N.cut i j).named=((its.drop i).take (j-i)).filterMap Uc:=by rw[W,qe5,q1w]
 have u:its=its.take i++((its.drop i).take (j-i)++its.drop j):=by
  have e:its.drop j=(its.drop i).drop (j-i):=by rw[List.drop_drop,show i+(j-i)=j by omega]
  rw[e,List.take_append_drop,List.take_append_drop]
 have hE:Ec D S0 C0 I H' H0 P 0 s up L Rr i j ⟨0,new,[]⟩ ((its.map λx=>[x]).take i) (new.map λx=>[x]) ((its.map λx=>[x]).drop j):=by
  refine⟨p.keep,p.spot,p.way,R,E,⟨?_,λc J=>?_⟩,λa h1 h2=>?_,λx G=>?_,p.opens,by rw[f,d];exact hr,by rw[f,d];exact hf,by rw[f,d];exact K,U,by rw[y,Q];omega,λhu=>?_,λh=>by omega,by omega⟩
  ·unfold Wh;split
   ·exact Nat.zero_le _
   ·rw[if_pos rfl,B];refine Nat.le_trans (List.length_filterMap_le _ _) ?_;rw[List.length_take];omega
  ·unfold Wh at J;split at J
   ·cases J
   ·rw[if_pos rfl,B] at J;obtain⟨x,G,e⟩:=List.mem_filterMap.1 J;exact m x (List.mem_of_mem_drop (List.mem_of_mem_take G)) c e
  ·have e1:(Zl s i j).named.count (a:Int)=((its.take i).filterMap Uc).count (a:Int)+((its.drop j).filterMap Uc).count (a:Int):=by
    unfold Zl;rw[q55,W,qe5,qe5];simp only[List.map_cons,List.map_nil,List.sum_cons,List.sum_nil,q1w,List.drop_zero,Nat.sub_zero];have e2:(its.drop j).take ((⟨0,its,[]⟩:Nd).size-j)=its.drop j:=List.take_of_length_le (by unfold Nd.size;simp);rw[e2];omega
   have e3:s.N.named.count (a:Int)=((its.take i).filterMap Uc).count (a:Int)+((((its.drop i).take (j-i)).filterMap Uc).count (a:Int)+((its.drop j).filterMap Uc).count (a:Int)):=by
    rw[W,q1w];conv=>lhs;rw[u]
    rw[List.filterMap_append,List.filterMap_append,List.count_append,List.count_append]
   have e4:=qg3 (H0:=H0) X up (a:Int);rw[p.held a h1 h2];unfold Wh;rw[q1w,hX];by_cases F:s.shared=true
   ·rw[if_pos F,if_pos F,if_pos F];simp only[List.count_append,List.count_nil,e4];omega
   ·rw[if_neg F,if_neg F,if_neg F,if_pos rfl,B];simp only[List.count_append,e1,e3,e4];omega
  ·rw[f] at G;rcases List.mem_append.1 G with h|h
   ·exact m x (List.mem_of_mem_take h)
   ·rcases List.mem_append.1 h with h|h
    ·exact qze p (Y x h)
    ·exact m x (List.mem_of_mem_drop h)
  ·have h1:=p.enough hu;rw[List.length_map,M] at h1;rw[y,M];omega
 have:=qaq up hE;rw[f,d] at this;exact (Xz.since T.sub this).more (by omega)
theorem q6p {its:List Qb}{k:Kd}:(⟨0,its,[]⟩:Nd).Zc k=lead (its.map (·.k)) k:=by
 unfold Nd.Zc;rw[if_pos rfl,q1m]
theorem qkg (K:Keep D S0 C0 [] ((if root=0 then [] else [root])++H0) P){its:List Qb}(J:Ji (P.hide D []) root its)(M:Ql its)(d:root≠0)(k:Kd):P9 D S0 C0 [] H0 P k its 6 (P.way D root k)/\P.Qi D root=0:=by
 rcases J with⟨_,h⟩|⟨l,hl,u,h1,h2⟩
 ·exact absurd h d
 ·rw[if_neg d] at K;have p:P.Qi D root=0:=(q3a u).2;refine⟨?_,p⟩;unfold Pl.way;rw[if_neg d,if_pos p];have f:Ya P D [] l (P.spot D root false) [] [] []:=⟨rfl,rfl⟩;have Q:=qkc (H0:=H0) k l 8 (hd:=false) (by omega) K u M f (λ_ _ _=>rfl) (λy R=>by cases R) (λh=>absurd rfl h) (λx m=>by cases m) (λx m=>by cases m);obtain⟨up,s,G,F,L,I,e,A,B,T,U,W,E,X,Y,Z⟩:=Q.is;rw[List.nil_append,List.append_nil] at E;exact⟨⟨up,s,G,F,L,I,e,A,B,T,U,W,E,X,by rw[List.length_nil] at Y;omega,Z⟩⟩
theorem qut {k:Kd}{v:List UInt8}(K:Keep D S0 C0 [] ((if root=0 then [] else [root])++(nmI ⟨k,v⟩++H0)) P){its:List Qb}(Q:Ji (P.hide D []) root its)(u:Ql its)(hf:∀x∈its,Zr x)(U:Zr ⟨k,v⟩)(p:Dat (P.hide D []) ⟨k,v⟩)(T:its.length<1000)(m:H0.length<=10000) :
  Xz D S0 C0 [] H0 P (Xu k v false its) 17 (P.Et D root ⟨k,v⟩):=by
 have F:∀x∈Xu k v false its,Zr x:=λx J=>by
  rcases qd8 u x J with rfl|h
  ·exact U
  ·exact hf x h
 have a2:=qiz (k:=k) (v:=v) u;have I:=qbj (k:=k) (v:=v) u;unfold Pl.Et;by_cases e:root=0
 ·rcases Q with⟨rfl,_⟩|⟨l,_,_,h1,_⟩
  ·have ew:P.way D root k=some ([],q4e):=if_pos e;rw[ew];dsimp only;have es:q4e.N.Zc k=0:=rfl;have Y:Vd q4e.N.keys k 0=false:=rfl;rw[es,Y,if_neg (by decide)];rw[if_pos e,List.nil_append] at K;have R:Yv (P.hide D []) 0 q4e.N []:=⟨[],rfl,rfl⟩;have hE:Ec D S0 C0 [] (nmI ⟨k,v⟩++H0) H0 P 0 q4e [] [] [] 0 0 ⟨0,[⟨k,v⟩],[]⟩ [] [[⟨k,v⟩]] []:=by
    refine⟨K,⟨λ_ h=>(by cases h),λh=>(by cases h)⟩,⟨rfl,rfl⟩,⟨R,R,rfl,rfl,rfl,Nat.le_refl _⟩,⟨[⟨k,v⟩],rfl,rfl⟩,⟨Nat.zero_le _,λc hc=>(by cases hc)⟩,λa _ _=>?_,λx h=>?_,λy hy=>(by cases hy),?_,?_,by simp,m,Nat.le_add_left 1 _,λh=>absurd rfl h,λh=>(by omega),by simp⟩
    ·rw[qg5];rfl
    ·have:x=⟨k,v⟩:=by simpa using h
     rw[this];exact p
    ·exact List.pairwise_singleton _ _
    ·intro x h;have:x=⟨k,v⟩:=by simpa using h
     rw[this];exact U
   have:=qaq [] hE;exact this.more (by decide)
  ·omega
 ·obtain⟨hw,_⟩:=qkg (H0:=nmI ⟨k,v⟩++H0) K Q u e k;obtain⟨up,s,O',H',L,Rr,d,A,B,i1,i2,W,X,i5,i6,rfl,rfl,i9,M⟩:=hw.is;rw[i1];dsimp only;have f:=u;rw[X] at f;have G:=(Md (Md f).2).1;have Z:(⟨0,d,[]⟩:Nd).keys=d.map (·.k):=q1m d;rw[W,q6p,Z];have a1:lead (d.map (·.k)) k<=d.length:=by have:=qb2 (d.map (·.k)) k;rw[List.length_map] at this;exact this
  have E:Vd (d.map (·.k)) k (lead (d.map (·.k)) k)=true->lead (d.map (·.k)) k<d.length:=λh=>by
   unfold Vd at h;rw[Bool.and_eq_true] at h;have:=of_decide_eq_true h.1;rw[List.length_map] at this;exact this
  refine (qg6 (_k:=k) (n:=6) i2 W i5 i6 (by omega) (by split<;>omega) (by
   split
   ·rename_i h;have:=E h;omega
   ·omega) (new:=[⟨k,v⟩]) (by simp) (by rw[<-q1w,qg5]) (λx h=>by rw[List.mem_singleton.1 h];exact p) (by split<;>omega) ?_ I F (by omega) m).more (by omega)
  rw[X,qe3 i9 M f,qke G];rfl
theorem quu (K:Keep D S0 C0 [] ((if root=0 then [] else [root])++H0) P){its:List Qb}(W:Ji (P.hide D []) root its)(J:Ql its)(Y:∀x∈its,Zr x)(I:root≠0)(k:Kd)(Q:its.length<1000)(G:H0.length<=10000) :
  ∃up s,P.way D root k=some (up,s)/\s.N.lvl=0/\(Vd s.N.keys k (s.N.Zc k)=true↔∃x∈its,x.k.same k=true)/\(Vd s.N.keys k (s.N.Zc k)=true->Xz D S0 C0 [] H0 P (Ug k its) 17 (P.Fp D root k)):=by
 obtain⟨hw,_⟩:=qkg K W J I k;obtain⟨up,s,O',H',L,Rr,d,A,B,R,i2,E,F,i5,i6,rfl,rfl,T,y⟩:=hw.is;have p:=J;rw[F] at p;have u:=(Md (Md p).2).1;have M:(⟨0,d,[]⟩:Nd).keys=d.map (·.k):=q1m d;refine⟨up,s,R,by rw[E],?_,λm=>?_⟩
 ·rw[E,q6p,M,qqz u];constructor
  ·rintro⟨x,f,e⟩;exact⟨x,by rw[F];simp[f],e⟩
  ·rintro⟨x,f,e⟩;rw[F] at f;rcases List.mem_append.1 f with h|h
   ·rw[(Sr (T x h)).1] at e;cases e
   ·rcases List.mem_append.1 h with h|h
    ·exact⟨x,h,e⟩
    ·rw[(Sr (y x h)).2] at e;cases e
 ·unfold Pl.Fp;rw[R];dsimp only;rw[E,q6p,M] at m;rw[E,q6p];obtain⟨U,d2⟩:=qkf u m;have Z:=qxw k its;refine (qg6 (_k:=k) (n:=6) (X:=[]) i2 E i5 i6 (by omega) (by omega) (by omega) (new:=[]) (by simp) rfl (λx h=>by cases h) (by omega) ?_ (qqy J) (λx f=>Y x (qxv f)) (by omega) G).more (by omega);rw[F,qqx T y,U];rfl
end
def eqS (s t:ByteArray):Bool:=s.toList==t.toList
theorem q32 (s t:ByteArray):eqS s t=true↔s=t:=by
 unfold eqS;rw[beq_iff_eq,Lib.toList_data,Lib.toList_data,Array.toList_inj];exact⟨λh=>ByteArray.ext h,λh=>h▸rfl⟩
theorem qzf {s t:ByteArray}(h:s≠t):eqS s t=false:=by
 cases d:eqS s t with
 |false=>rfl
 |true=>exact absurd ((q32 _ _).1 d) h
abbrev De:=Int × Za
def Yl (i:Int)(x:De):Qb:=⟨⟨i,2,x.1⟩,x.2.bytes⟩
def Qu (i:Int)(L:List De):List Qb:=L.map (Yl i)
theorem q2g (i:Int)(L:List De):(Qu i L).length=L.length:=by simp[Qu]
structure Jv (L:List De)(lim:Int):Prop where
 off:L.Pairwise λx y=>x.1<y.1
 low:∀x∈L,0<=x.1/\x.1<lim
 may:∀x∈L,x.2.may=true
 name:L.Pairwise λx y=>x.2.name≠y.2.name
theorem quv (lim:Int):Jv [] lim:=⟨List.Pairwise.nil,λ_ h=>absurd h List.not_mem_nil,λ_ h=>absurd h List.not_mem_nil,List.Pairwise.nil⟩
section
variable {L:List De}{lim:Int}{i:Int}{A C:List Qb}{n:ByteArray}{x:De}
def Jy (n:ByteArray)(L:List De):Option De:=L.foldl (λa x=>if eqS x.2.name n=true then some x else a) none
def Xm (L:List De):Int:=L.foldl (λ_ x=>x.1+1) 0
def Zo (n:ByteArray)(L:List De):Bool:=L.any λx=>eqS x.2.name n
theorem q7r (n:ByteArray)(L:List De)(x:De):Jy n (L++[x])=if eqS x.2.name n=true then some x else Jy n L:=by unfold Jy;rw[List.foldl_append];rfl
theorem qcg (L:List De)(x:De):Xm (L++[x])=x.1+1:=by unfold Xm;rw[List.foldl_append];rfl
theorem q5y (n:ByteArray)(L:List De)(x:De):Zo n (L++[x])=(Zo n L||eqS x.2.name n):=by unfold Zo;rw[List.any_append];simp
theorem qg7 (n:ByteArray):∀(r L:List De),L=r.reverse->(Jy n L=none/\Zo n L=false/\∀x∈L,x.2.name≠n)\/∃x∈L,Jy n L=some x/\Zo n L=true/\x.2.name=n
 |[],_,h=>by
  subst h;exact .inl ⟨rfl,rfl,λx f=>by cases f⟩
 |y::r,_,h=>by
  subst h;rw[List.reverse_cons,q7r,q5y]
  cases e:eqS y.2.name n with
  |true=>exact .inr ⟨y,List.mem_append_right _ (List.mem_singleton.2 rfl),by rw[if_pos rfl],by rw[Bool.or_true],(q32 _ _).1 e⟩
  |false=>
   rw[if_neg Bool.false_ne_true,Bool.or_false];rcases qg7 n r _ rfl with⟨h1,h2,d⟩|⟨x,h1,h2,d,m⟩
   ·refine .inl ⟨h1,h2,λx f=>?_⟩;rcases List.mem_append.1 f with h|h
    ·exact d x h
    ·rw[List.mem_singleton.1 h];intro p;rw[(q32 _ _).2 p] at e
     cases e
   ·exact .inr ⟨x,List.mem_append_left _ h1,h2,d,m⟩
theorem q3h (n:ByteArray)(L:List De):(Jy n L=none/\Zo n L=false/\∀x∈L,x.2.name≠n)\/∃x∈L,Jy n L=some x/\Zo n L=true/\x.2.name=n:=qg7 n L.reverse L (by simp)
theorem Jv.filter (h:Jv L lim)(f:De->Bool):Jv (L.filter f) lim:=⟨h.off.filter f,λy d=>h.low y (List.mem_filter.1 d).1,λy d=>h.may y (List.mem_filter.1 d).1,h.name.filter f⟩
theorem Jv.wider (h:Jv L lim){l2:Int}(hl:lim<=l2):Jv L l2:=⟨h.off,λx d=>⟨(h.low x d).1,by have:=(h.low x d).2;omega⟩,h.may,h.name⟩
theorem quw:∀(r L:List De),L=r.reverse->Jv L lim->0<=lim->0<=Xm L/\Xm L<=lim/\∀x∈L,x.1<Xm L
 |[],_,h,_,h0=>by
  subst h;exact⟨Int.le_refl 0,h0,λx d=>by cases d⟩
 |y::r,_,h,hd,h0=>by
  subst h;rw[List.reverse_cons] at hd ⊢;rw[qcg];have h1:=hd.low y (List.mem_append_right _ (List.mem_singleton.2 rfl));refine⟨by omega,by omega,λx d=>?_⟩;rcases List.mem_append.1 d with h|h
  ·have:=(List.pairwise_append.1 hd.off).2.2 x h y (List.mem_singleton.2 rfl);omega
  ·rw[List.mem_singleton.1 h];omega
theorem Jv.next (h:Jv L lim)(h0:0<=lim):0<=Xm L/\Xm L<=lim/\∀x∈L,x.1<Xm L:=quw L.reverse L (by simp) h h0
theorem Jv.snoc (h:Jv L lim)(h0:0<=lim){e:Za}(he:e.may=true)(hn:∀x∈L,x.2.name≠e.name):Jv (L++[(Xm L,e)]) (lim+1):=by
 obtain⟨a,b,c⟩:=h.next h0;refine⟨List.pairwise_append.2 ⟨h.off,List.pairwise_singleton ..,λx d y f=>?_⟩,λx d=>?_,λx d=>?_,List.pairwise_append.2 ⟨h.name,List.pairwise_singleton ..,λx d y f=>?_⟩⟩
 ·rw[List.mem_singleton.1 f];exact c x d
 ·rcases List.mem_append.1 d with d|d
  ·have:=h.low x d;omega
  ·rw[List.mem_singleton.1 d];dsimp only;omega
 ·rcases List.mem_append.1 d with d|d
  ·exact h.may x d
  ·rw[List.mem_singleton.1 d];exact he
 ·rw[List.mem_singleton.1 f];exact hn x d
theorem Jv.one (h:Jv L lim){x y:De}(hx:x∈L)(hy:y∈L)(hn:x.2.name=y.2.name):x=y:=by
 obtain⟨i,hi,rfl⟩:=List.mem_iff_getElem.1 hx;obtain⟨j,d,rfl⟩:=List.mem_iff_getElem.1 hy;have e:=List.pairwise_iff_getElem.1 h.name;rcases Nat.lt_trichotomy i j with h1|h1|h1
 ·exact absurd hn (e i j hi d h1)
 ·subst h1;rfl
 ·exact absurd hn.symm (e j i d hi h1)
theorem Jv.Sj (h:Jv L lim){x y:De}(hx:x∈L)(hy:y∈L)(hn:x.1=y.1):x=y:=by
 obtain⟨i,hi,rfl⟩:=List.mem_iff_getElem.1 hx;obtain⟨j,d,rfl⟩:=List.mem_iff_getElem.1 hy;have e:=List.pairwise_iff_getElem.1 h.off;rcases Nat.lt_trichotomy i j with h1|h1|h1
 ·have:=e i j hi d h1;omega
 ·subst h1;rfl
 ·have:=e j i d hi h1;omega
def Vw (e:Za)(L:List De):List De:=L.map λx=>if eqS x.2.name e.name=true then (x.1,e) else x
theorem qr0 (e:Za)(L:List De):(Vw e L).map (·.1)=L.map (·.1):=by
 unfold Vw;rw[List.map_map];refine List.map_congr_left λx d=>?_
 show (if eqS x.2.name e.name=true then (x.1,e) else x).1=x.1;split<;>rfl
theorem qmp (e:Za)(L:List De):(Vw e L).map (·.2.name)=L.map (·.2.name):=by
 unfold Vw;rw[List.map_map];refine List.map_congr_left λx d=>?_
 show (if eqS x.2.name e.name=true then (x.1,e) else x).2.name=x.2.name;split
 ·next h=>exact ((q32 _ _).1 h).symm
 ·rfl
theorem Jv.swap (h:Jv L lim){e:Za}(he:e.may=true):Jv (Vw e L) lim:=by
 have m:=List.pairwise_map.2 h.off;have hn:(L.map (·.2.name)).Pairwise (·≠·):=List.pairwise_map.2 h.name;rw[show (L.map λx=>x.1)=(Vw e L).map (·.1) from (qr0 e L).symm] at m;rw[<-qmp e L] at hn;have hm:∀x∈Vw e L,∃y∈L,x.1=y.1/\(x=(y.1,e)\/x=y):=λx d=>by
  obtain⟨y,f,rfl⟩:=List.mem_map.1 d;refine⟨y,f,?_⟩;split
  ·exact⟨rfl,.inl rfl⟩
  ·exact⟨rfl,.inr rfl⟩
 refine⟨List.pairwise_map.1 m,λx d=>?_,λx d=>?_,List.pairwise_map.1 hn⟩
 ·obtain⟨y,f,p,_⟩:=hm x d;rw[p];exact h.low y f
 ·obtain⟨y,f,_,rfl|rfl⟩:=hm x d
  ·exact he
  ·exact h.may _ f
structure Ctx (i:Int)(A C:List Qb):Prop where
 one:0<=i/\i<=2147483647
 lo:∀x∈A,x.k.obj<i
 hi:∀x∈C,i<x.k.obj
 ra:Ql A
 rc:Ql C
 fa:∀x∈A,Zr x
 fc:∀x∈C,Zr x
theorem qmq (hi:0<=i/\i<=2147483647)(h:Jv L lim)(f:lim<=2147483648)(d:x∈L):Zr (Yl i x):=by
 have h1:=h.low x d;have h2:=(Bool.and_eq_true_iff.1 (h.may x d)).1;have e:=of_decide_eq_true h2;refine⟨(Kd.Ba _).2 ⟨hi,⟨by show (0:Int)<=2;omega,by show (2:Int)<=255;omega⟩,h1.1,by show x.1<=2147483647;omega⟩,?_⟩;show x.2.bytes.length<=28;rw[q9r];omega
theorem q3i {y:Qb}(h:y∈Qu i L):∃x∈L,y=Yl i x:=by
 obtain⟨x,d,rfl⟩:=List.mem_map.1 h;exact⟨x,d,rfl⟩
theorem q8i (h:Jv L lim):Ql (Qu i L):=by
 refine List.pairwise_map.2 (h.off.imp ?_);intro x y d;exact (Kd.J8 _ _).2 (.inr ⟨rfl,.inr ⟨rfl,d⟩⟩)
theorem Ti {a b:Kd}(h:a.obj<b.obj):a.less b=true:=(Kd.J8 _ _).2 (.inl h)
theorem Ctx.Ql (X:Ctx i A C)(h:Jv L lim):Ql (A++(Qu i L++C)):=by
 refine List.pairwise_append.2 ⟨X.ra,List.pairwise_append.2 ⟨q8i h,X.rc,λa e b d=>?_⟩,λa e b d=>?_⟩
 ·obtain⟨x,_,rfl⟩:=q3i e;exact Ti (X.hi b d)
 ·rcases List.mem_append.1 d with d|d
  ·obtain⟨x,_,rfl⟩:=q3i d;exact Ti (X.lo a e)
  ·exact Ti (by have:=X.lo a e;have:=X.hi b d;omega)
theorem Ctx.fine (X:Ctx i A C)(h:Jv L lim)(hl:lim<=2147483648):∀x∈A++(Qu i L++C),Zr x:=λx d=>by
 rcases List.mem_append.1 d with d|d
 ·exact X.fa x d
 rcases List.mem_append.1 d with d|d
 ·obtain⟨y,e,rfl⟩:=q3i d;exact qmq X.one h hl e
 ·exact X.fc x d
theorem Ctx.within (X:Ctx i A C)(h:Jv L lim)(hl:lim<=2147483648):within ⟨i,2,0⟩ ⟨i,2,2147483647⟩ (A++(Qu i L++C))=Qu i L:=by
 unfold Go.Proofs.YthkfkhejjmhomaaGreatDoor.within;rw[List.filter_append,List.filter_append,List.filter_eq_nil_iff.2 λx d=>?_,List.filter_eq_self.2 λx d=>?_,List.filter_eq_nil_iff.2 λx d=>?_,List.nil_append,List.append_nil]
 ·have:(⟨i,2,2147483647⟩:Kd).less x.k=true:=Ti (X.hi x d);rw[this];simp
 ·obtain⟨y,p,rfl⟩:=q3i d;have h1:=h.low y p;have f:(Yl i y).k.less ⟨i,2,0⟩=false:=by
   cases e:(Yl i y).k.less ⟨i,2,0⟩ with
   |false=>rfl
   |true=>have:=(Kd.J8 _ _).1 e;simp only[Yl] at this;omega
  have m:(⟨i,2,2147483647⟩:Kd).less (Yl i y).k=false:=by
   cases e:(⟨i,2,2147483647⟩:Kd).less (Yl i y).k with
   |false=>rfl
   |true=>have:=(Kd.J8 _ _).1 e;simp only[Yl] at this;omega
  rw[f,m];rfl
 ·have:x.k.less ⟨i,2,0⟩=true:=Ti (X.lo x d);rw[this];simp
theorem qr1 {k:Kd}{v:List UInt8}:∀{l:List Qb},(∀x∈l,x.k.less k=true)->Xu k v false l=l++[⟨k,v⟩]
 |[],_=>by simp[Xu]
 |x::r,h=>by
  have h1:=(Kd.J8 _ _).1 (h x (List.mem_cons_self ..));have h2:x.k.same k=false:=by
   cases d:x.k.same k with
   |false=>rfl
   |true=>have:=(Kd.same_iff _ _).1 d;omega
  have e:k.less x.k=false:=by
   cases d:k.less x.k with
   |false=>rfl
   |true=>have:=(Kd.J8 _ _).1 d;omega
  rw[Xu,h2,e,Bool.or_self,Bool.and_false,Bool.or_self,qr1 λy f=>h y (List.mem_cons_of_mem _ f)];simp
theorem Ctx.Qbf (X:Ctx i A C)(h:Jv L lim)(h0:0<=lim)(e:Za):Xu ⟨i,2,Xm L⟩ e.bytes false (A++(Qu i L++C))=A++(Qu i (L++[(Xm L,e)])++C):=by
 rw[qe3 (λx d=>Ti (X.lo x d)) (λx d=>Ti (X.hi x d)) (X.Ql h),qr1 λx d=>?_]
 ·unfold Qu;rw[List.map_append];rfl
 ·obtain⟨y,f,rfl⟩:=q3i d;exact (Kd.J8 _ _).2 (.inr ⟨rfl,.inr ⟨rfl,(h.next h0).2.2 y f⟩⟩)
theorem qg8 {k:Kd}{v:List UInt8}:∀{l:List Qb},Ql l->(∃x∈l,x.k=k)->Xu k v false l=l.map λx=>if x.k.same k=true then ⟨k,v⟩ else x
 |[],_,⟨x,hx,_⟩=>by cases hx
 |x::r,hr,hx=>by
  obtain⟨h1,h2⟩:=List.pairwise_cons.1 hr;by_cases m:x.k=k
  ·have p:x.k.same k=true:=(Kd.same_iff _ _).2 ⟨by rw[m],by rw[m],by rw[m]⟩;have d:∀y∈r,y.k.same k=false:=λy u=>by
    have E:=(Kd.J8 _ _).1 (h1 y u);rw[m] at E
    cases f:y.k.same k with
    |false=>rfl
    |true=>have:=(Kd.same_iff _ _).1 f;omega
   rw[Xu,p,Bool.or_true,Bool.or_true,q6e k v r d,List.map_cons,if_pos p];rw[show (r.map λx=>if x.k.same k=true then (⟨k,v⟩:Qb) else x)=r from (List.map_congr_left λy u=>by rw[d y u];rfl).trans (List.map_id' r)];simp
  ·obtain⟨y,u,e⟩:=hx;have B:y∈r:=by
    rcases List.mem_cons.1 u with rfl|h
    ·exact absurd e m
    ·exact h
   have E:=(Kd.J8 _ _).1 (h1 y B);rw[e] at E;have p:x.k.same k=false:=by
    cases f:x.k.same k with
    |false=>rfl
    |true=>have:=(Kd.same_iff _ _).1 f;omega
   have F:k.less x.k=false:=by
    cases f:k.less x.k with
    |false=>rfl
    |true=>have:=(Kd.J8 _ _).1 f;omega
   rw[Xu,p,F,Bool.or_self,Bool.and_false,Bool.or_self,qg8 h2 ⟨y,B,e⟩,List.map_cons,p];simp
theorem Ctx.Qbg (X:Ctx i A C)(h:Jv L lim){e:Za}(d:x∈L)(hn:x.2.name=e.name):Xu ⟨i,2,x.1⟩ e.bytes false (A++(Qu i L++C))=A++(Qu i (Vw e L)++C):=by
 rw[qe3 (λx d=>Ti (X.lo x d)) (λx d=>Ti (X.hi x d)) (X.Ql h),qg8 (k:=⟨i,2,x.1⟩) (q8i h) ⟨Yl i x,List.mem_map.2 ⟨x,d,rfl⟩,rfl⟩];unfold Qu Vw;rw[List.map_map,List.map_map];congr 2
 refine List.map_congr_left λy p=>?_
 show (if (Yl i y).k.same ⟨i,2,x.1⟩=true then (⟨⟨i,2,x.1⟩,e.bytes⟩:Qb) else Yl i y)=Yl i (if eqS y.2.name e.name=true then (y.1,e) else y);by_cases f:eqS y.2.name e.name=true
 ·have m:y=x:=h.one p d (((q32 _ _).1 f).trans hn.symm);subst m;have u:(Yl i y).k.same ⟨i,2,y.1⟩=true:=(Kd.same_iff _ _).2 ⟨rfl,rfl,rfl⟩;rw[if_pos f,if_pos u];rfl
 ·rw[if_neg f,if_neg λB=>?_];have m:y=x:=h.Sj p d ((Kd.same_iff _ _).1 B).2.2;exact f ((q32 _ _).2 (by rw[m];exact hn))
def Fq (n:ByteArray)(L:List De):List De:=L.filter λx=>!eqS x.2.name n
theorem Ctx.del (X:Ctx i A C)(h:Jv L lim)(d:x∈L)(hn:x.2.name=n):Ug ⟨i,2,x.1⟩ (A++(Qu i L++C))=A++(Qu i (Fq n L)++C):=by
 rw[qqx (λx d=>Ti (X.lo x d)) (λx d=>Ti (X.hi x d))];unfold Ug Qu Fq;rw[List.filter_map];congr 3
 refine List.filter_congr λy m=>?_
 show (!(Yl i y).k.same ⟨i,2,x.1⟩)=!eqS y.2.name n;congr 1
 by_cases e:eqS y.2.name n=true
 ·have f:y=x:=h.one m d (((q32 _ _).1 e).trans hn.symm);rw[e];exact (Kd.same_iff _ _).2 ⟨rfl,rfl,by rw[f];rfl⟩
 ·rw[Bool.eq_false_iff.2 e];refine Bool.eq_false_iff.2 λp=>?_
  have f:y=x:=h.Sj m d ((Kd.same_iff _ _).1 p).2.2;exact e ((q32 _ _).2 (by rw[f];exact hn))
theorem Ctx.has (hx:x∈L):∃y∈A++(Qu i L++C),y.k.same ⟨i,2,x.1⟩=true:=
 ⟨Yl i x,List.mem_append_right _ (List.mem_append_left _ (List.mem_map.2 ⟨x,hx,rfl⟩)),(Kd.same_iff _ _).2 ⟨rfl,rfl,rfl⟩⟩
end
def Ae (L:List De):List Za:=L.map (·.2)
theorem qkh (L:List De):(Ae L).length=L.length:=by simp[Ae]
theorem qux (L:List De)(o:Int)(e:Za):Ae (L++[(o,e)])=Ae L++[e]:=by simp[Ae]
theorem q8j:∀(x y:List UInt8),Op.bytesLess x y=decide (x<y)
 |[],[]=>by simp[Op.bytesLess]
 |_::_,[]=>by simp[Op.bytesLess]
 |[],_::_=>by simp[Op.bytesLess]
 |a::x,b::y=>by
  rw[Op.bytesLess,q8j x y];simp only[List.cons_lt_cons_iff];by_cases h1:a<b<;>by_cases h2:a=b<;>by_cases d:x<y<;>simp[h1,h2,d]
def Js (s t:ByteArray):Bool:=Op.bytesLess s.toList t.toList
theorem q1s (s t:ByteArray):Js s t=true↔s.data.toList<t.data.toList:=by
 unfold Js;rw[q8j,Lib.toList_data,Lib.toList_data,decide_eq_true_iff]
theorem qg9 (s:ByteArray):Js s s=false:=by
 cases h:Js s s with
 |false=>rfl
 |true=>exact absurd ((q1s _ _).1 h) (List.lt_irrefl _)
theorem q3z {s t u:ByteArray}(h:Js s t=true)(h2:Js t u=true):Js s u=true:=
 (q1s _ _).2 (List.lt_trans ((q1s _ _).1 h) ((q1s _ _).1 h2))
theorem qi4 {s t:ByteArray}(h:Js s t=true)(h2:Js t s=true):False:=by
 have:=q3z h h2;rw[qg9] at this
 cases this
theorem q5z {s t:ByteArray}(h:s≠t):Js s t=true\/Js t s=true:=by
 by_cases h1:s.data.toList<t.data.toList
 ·exact .inl ((q1s _ _).2 h1)
 by_cases h2:t.data.toList<s.data.toList
 ·exact .inr ((q1s _ _).2 h2)
 exact absurd (ByteArray.ext (Array.toList_inj.1 (List.le_antisymm (List.not_lt.1 h2) (List.not_lt.1 h1)))) h
theorem q7s:∀(a b:List UInt8),Lib.compareBytes a b<0↔a<b
 |[],[]=>by simp[Lib.compareBytes]
 |[],_::_=>by simp[Lib.compareBytes]
 |_::_,[]=>by simp[Lib.compareBytes]
 |a::xs,b::ys=>by
  unfold Lib.compareBytes;rw[List.cons_lt_cons_iff];by_cases h1:a<b
  ·rw[if_pos h1];exact⟨λ_=>.inl h1,λ_=>by omega⟩
  ·rw[if_neg h1];by_cases h2:b<a
   ·rw[if_pos h2];refine⟨λh=>by omega,λh=>?_⟩;rcases h with h|⟨h,_⟩
    ·exact absurd h h1
    ·subst h;exact absurd h2 h1
   ·rw[if_neg h2,q7s xs ys];have e:a=b:=UInt8.le_antisymm (UInt8.not_lt.1 h2) (UInt8.not_lt.1 h1);exact⟨λh=>.inr ⟨e,h⟩,λh=>h.elim (λh=>absurd h h1) λh=>h.2⟩
def Ur (x y:Za):Int:=Lib.compareBytes x.name.data.toList y.name.data.toList
theorem qe6 (x y:Za):(decide (Ur x y<0))=Js x.name y.name:=by
 cases h:Js x.name y.name with
 |true=>exact decide_eq_true ((q7s _ _).2 ((q1s _ _).1 h))
 |false=>exact decide_eq_false λd=>by rw[(q1s _ _).2 ((q7s _ _).1 d)] at h;cases h
def q7t (l:List Za):Prop:=l.Pairwise λx y=>Js x.name y.name=true
def Jw (n:ByteArray)(l:List Za):Nat:=(l.takeWhile λx=>Js x.name n).length
def Dl (x:Za)(l:List Za):List Za:=l.take (Jw x.name l)++(x::l.drop (Jw x.name l))
def Kz (l:List Za):List Za:=l.foldl (λout x=>Dl x out) []
theorem qch (l:List Za)(x:Za):Kz (l++[x])=Dl x (Kz l):=by unfold Kz;rw[List.foldl_append];rfl
theorem q5c (n:ByteArray)(y:Za)(l:List Za):Jw n (y::l)=if Js y.name n=true then Jw n l+1 else 0:=by
 unfold Jw;rw[List.takeWhile_cons];split<;>rfl
theorem qki:∀{n:ByteArray} {l:List Za} {j:Nat} (_:j<Jw n l) (d:j<l.length),Js l[j].name n=true
 |n,y::l,j,h,d=>by
  rw[q5c] at h;split at h
  ·next hy=>
   cases j with
   |zero=>exact hy
   |succ j=>exact qki (l:=l) (j:=j) (by omega) (by simpa using d)
  ·omega
theorem qkj:∀{n:ByteArray} {l:List Za} (d:Jw n l<l.length),Js (l[Jw n l]'d).name n=false
 |n,y::l,d=>by
  by_cases f:Js y.name n=true
  ·have e:Jw n (y::l)=Jw n l+1:=by rw[q5c,if_pos f]
   have h2:Jw n l<l.length:=by rw[e] at d;simpa using d
   have:=qkj h2;simp only[e,List.getElem_cons_succ];exact this
  ·have e:Jw n (y::l)=0:=by rw[q5c,if_neg f]
   simp only[e,List.getElem_cons_zero];exact Bool.eq_false_iff.2 f
theorem qr2 (x:Za)(l:List Za):(Dl x l).Perm (x::l):=by
 unfold Dl;refine List.perm_middle.trans ?_;rw[List.take_append_drop]
theorem qi5 {x:Za}{l:List Za}(h:q7t l)(hn:∀y∈l,y.name≠x.name):q7t (Dl x l):=by
 unfold Dl;have p:=h;rw[<-List.take_append_drop (Jw x.name l) l] at p;obtain⟨h1,h2,B⟩:=List.pairwise_append.1 p;have E:∀y∈l.take (Jw x.name l),Js y.name x.name=true:=λy e=>by
  obtain⟨j,G,rfl⟩:=List.mem_iff_getElem.1 e;rw[List.length_take] at G;rw[List.getElem_take];exact qki (by omega) _
 have F:∀y∈l.drop (Jw x.name l),Js x.name y.name=true:=λy e=>by
  have m:Jw x.name l<l.length:=by
   have:=List.length_pos_of_mem e;rw[List.length_drop] at this;omega
  have h0:=qkj m;have u:Js x.name (l[Jw x.name l]'m).name=true:=by
   rcases q5z (hn _ (List.getElem_mem m)) with h|h
   ·rw[h] at h0;cases h0
   ·exact h
  rw[List.drop_eq_getElem_cons m] at e h2;rcases List.mem_cons.1 e with rfl|e
  ·exact u
  ·exact q3z u ((List.pairwise_cons.1 h2).1 y e)
 refine List.pairwise_append.2 ⟨h1,List.pairwise_cons.2 ⟨F,h2⟩,λa f b d=>?_⟩;rcases List.mem_cons.1 d with rfl|d
 ·exact E a f
 ·exact B a f b d
theorem qci (l:List Za):(Kz l).Perm l:=by
 suffices h:∀(r l:List Za),l=r.reverse->(Kz l).Perm l from h l.reverse l (by simp)
 intro r;induction r with
 |nil=>rintro _ rfl;exact List.Perm.refl _
 |cons y r ih=>
  rintro _ rfl;rw[List.reverse_cons,qch];refine (qr2 _ _).trans ?_;exact ((ih _ rfl).cons y).trans (List.perm_append_singleton y _).symm
theorem qga {l:List Za}(h:l.Pairwise λx y=>x.name≠y.name):q7t (Kz l):=by
 suffices ∀(r l:List Za),l=r.reverse->(l.Pairwise λx y=>x.name≠y.name)->q7t (Kz l) from this l.reverse l (by simp) h
 intro r;induction r with
 |nil=>rintro _ rfl _;exact List.Pairwise.nil
 |cons y r ih=>
  rintro _ rfl d;rw[List.reverse_cons] at d ⊢;rw[qch];obtain⟨h1,_,e⟩:=List.pairwise_append.1 d;exact qi5 (ih _ rfl h1) λz f=>e z ((qci _).mem_iff.1 f) y (List.mem_singleton.2 rfl)
theorem qmr {L:List De}{lim:Int}(h:Jv L lim):(Ae L).Pairwise λx y=>x.name≠y.name:=List.pairwise_map.2 h.name
theorem qms {a b:List Za}(d:q7t a)(e:q7t b)(f:a.Perm b):a=b:=
 List.Perm.eq_of_pairwise (λ_ _ _ _ h1 h2=>(qi4 h1 h2).elim) d e f
theorem qr3 [Inhabited Za]{d e:Array Za}(I:Sort.PermIn 0 d.size d e)(J:Sort.SortedIn (λx y=>decide (Ur x y<0)) 0 d.size e)(hn:d.toList.Pairwise λx y=>x.name≠y.name):e.toList=Kz d.toList:=by
 obtain⟨h1,_,m⟩:=I;have F:e.extract 0 d.size=e:=by rw[<-h1];exact Array.extract_size
 have G:d.extract 0 d.size=d:=Array.extract_size;rw[F,G] at m;refine qms ?_ (qga hn) (m.trans (qci _).symm);have B:e.toList.Pairwise λx y=>x.name≠y.name:=m.symm.pairwise hn λh=>h.symm
 refine List.pairwise_iff_getElem.2 λi j hi E f=>?_
 have u:j<d.size:=by rw[<-h1];simpa using E
 have p:decide (Ur e[j]! e[i]!<0)=false:=J i j (Nat.zero_le _) f u;rw[qe6,getElem!_pos e j (by omega),getElem!_pos e i (by omega)] at p;rcases q5z (List.pairwise_iff_getElem.1 B i j hi E f) with h|h
 ·exact h
 ·have:Js e[j].name e[i].name=true:=h;rw[this] at p
  cases p
