/- The way down «to» a key's leaf: each node that is the tree's own is opened -/
import Derived.Test.YthkfkhejjmhomaaGreatDoorEs36
namespace Go.Proofs.YthkfkhejjmhomaaGreatDoor
open Go Go.RowKit Go.Proofs
theorem qgf {R:Int->Nd × Int}:∀{l:Nat} {a:Int} {its b:List Qg},Qi R l a its->Qi R l a b->its=b
 |0,a,its,b,h,h'=>by
  have e:=h.1.symm.trans h'.1;injection e with f _;injection f
 |l+1,a,its,b,h,h'=>by
  obtain⟨kids,parts,h1,h2,K,rfl,F⟩:=h;obtain⟨y,d,m,B,E,rfl,p⟩:=h';have e:=h1.symm.trans m;injection e with f _;injection f with _ _ A;subst A;congr 1
  apply List.ext_getElem
  ·omega
  ·intro j G u;have I:=(F j (by omega)).1;have J:=(p j (by omega)).1;have:=qgf I J;rw[List.getD_eq_getElem?_getD,List.getElem?_eq_getElem G,List.getD_eq_getElem?_getD,List.getElem?_eq_getElem u] at this;exact this
theorem qqx {G:List Ja}{x:Qg}(h:x∈rowOf G):∃q,∃b:q<G.length,x∈(G[q]).2:=by
 obtain⟨t,d,f⟩:=qpu.1 h;obtain⟨q,b,e⟩:=List.getElem_of_mem d;exact⟨q,b,by rw[e];exact f⟩
theorem qqy {R:Int->Nd × Int}{l:Nat}{G:List Ja}(K:∀x∈G,good1 R l x)(A:Qk (rowOf G))(h0:G≠[])(k:Kd) :
  ∃j,(⟨((l+1:Nat):Int),[],G.map Qp⟩:Nd).Zb k=j/\j<G.length/\(∀x∈rowOf (G.take j),x.k.less k=true)/\(∀x∈rowOf (G.drop (j+1)),k.less x.k=true):=by
 have Q:(⟨((l+1:Nat):Int),[],G.map Qp⟩:Nd).Zb k=lastTo ((G.map Qp).map (·.k)) k (G.map Qp).length:=by
  unfold Nd.Zb;have:¬((l+1:Nat):Int)=0:=by omega
  dsimp only;rw[if_neg this,q5c,List.length_map]
 obtain⟨j,F⟩:∃j,lastTo ((G.map Qp).map (·.k)) k (G.map Qp).length=j:=⟨_,rfl⟩;have T:0<G.length:=List.length_pos_iff.2 h0;have M:(G.map Qp).length=G.length:=List.length_map ..;have d:j<G.length:=by
  rcases q7n ((G.map Qp).map (·.k)) k (G.map Qp).length with e|e<;>omega
 have m:∀q (f:q<G.length),keyAt ((G.map Qp).map (·.k)) q=(Qz (G[q]).2 0).k:=λq f=>by
  rw[q5d _ (by omega),qdn f];rfl
 have p:∀q (f:q<G.length),∃y r,(G[q]).2=y::r:=λq f=>q60 (K _ (List.getElem_mem f)).1
 have A:Qk (G.map (·.2)).flatten:=A;refine⟨j,by rw[Q,F],d,λx b=>?_,λx b=>?_⟩
 ·obtain⟨q,f,b⟩:=qqx b;rw[List.getElem_take] at b;rw[List.length_take] at f;obtain⟨z,s,E⟩:=p j d;have J:x.k.less z.k=true:=q5y (parts:=G.map (·.2)) A (i:=q) (j:=j) (by omega) (by rw[List.length_map];omega) (by rw[q5f (by omega)];exact b) (by rw[q5f d,E];exact List.mem_cons_self ..);have u:k.less z.k=false:=by
   have:=q5x ((G.map Qp).map (·.k)) k (G.map Qp).length (by omega);rw[F,m j d,E] at this;exact this
  exact qdi J u
 ·obtain⟨q,f,b⟩:=qqx b;rw[List.getElem_drop] at b;rw[List.length_drop] at f;obtain⟨y,r,B⟩:=p (j+1+q) (by omega);have u:k.less y.k=true:=by
   have:=q5a ((G.map Qp).map (·.k)) k (G.map Qp).length (j+1+q) (by omega) (by omega);rw[m _ (by omega),B] at this;exact this
  rw[B] at b;rcases List.mem_cons.1 b with rfl|b
  ·exact u
  ·have I:=q5z A (j+1+q);rw[q5f (by omega),B] at I;exact Kd.trans _ _ _ u ((List.pairwise_cons.1 I).1 x b)
theorem qiw {R:Int->Nd × Int}{l:Nat}{GL GR:List Ja}{x:Ja}(u:∀y∈GL++x::GR,good1 R l y)(f:Qk (rowOf (GL++x::GR))):∀y∈GL++GR,y.1≠x.1:=λy E e=>by
 have d:=(u y (by rcases List.mem_append.1 E with h|h<;>simp[h])).1;have b:=(u x (by simp)).1;rw[e] at d;have m:=qgf d b;obtain⟨z,s,p⟩:=q60 b;rcases List.mem_append.1 E with h|h
 ·obtain⟨A,B,rfl⟩:=List.append_of_mem h;rw[List.append_assoc,Rq] at f;have h1:=(q12 f).2;have h2:rowOf (y::B++x::GR)=y.2++(rowOf B++(x.2++rowOf GR)):=by
   rw[Rq,show y::B=[y]++B from rfl,Rq,q6g,show x::GR=[x]++GR from rfl,Rq,q6g,List.append_assoc]
  rw[h2,m,p] at h1;have:=(List.pairwise_append.1 h1).2.2 z (List.mem_cons_self ..) z (List.mem_append_right _ (List.mem_append_left _ (List.mem_cons_self ..)));rw[q4n] at this
  cases this
 ·obtain⟨A,B,rfl⟩:=List.append_of_mem h;rw[Rq] at f;have h1:=(q12 f).2;have h2:rowOf (x::(A++y::B))=x.2++(rowOf A++(y.2++rowOf B)):=by
   rw[show x::(A++y::B)=[x]++(A++([y]++B)) from rfl,Rq,q6g,Rq,Rq,q6g]
  rw[h2,m,p] at h1;have:=(List.pairwise_append.1 h1).2.2 z (List.mem_cons_self ..) z (List.mem_append_right _ (List.mem_append_left _ (List.mem_cons_self ..)));rw[q4n] at this
  cases this
section
variable {D:DM}{S0:Sp}{C0:Ct}{O H H0:List Int}{P:Pl}
theorem Xy.next {l:Nat}{s:Qs}{way:List Qs}{L Rr:List Qg}(h:Xy P D O l s way L Rr)(j:Nat):Xy P D O l { s with next:=j } way L Rr:=by
 cases way with
 |nil=>exact h
 |cons t way=>exact h
structure At (D:DM)(S0:Sp)(C0:Ct)(O H H0:List Int)(P:Pl)(l:Nat)(s:Qs)(up:List Qs)(L Rr:List Qg)(M:List (List Qg)):Prop where
 keep:Keep D S0 C0 O H P
 spot:Zo P D O (l:Int) s
 way:Xy P D O l s up L Rr
 held:∀a:Nat,0<a->a<P.C.n->H.count (a:Int)=(own s++((if s.shared=true then [] else s.N.named)++Zn up H0)).count (a:Int)
 opens:∀y∈O,(s.shared=false/\y=s.addr)\/∃t∈up,t.shared=false/\y=t.addr
 Fb:Yt (P.hide D O) l s.N M
 may:s.N.may=true
 dat:∀x∈M.flatten,Dat (P.hide D O) x
 ne:M≠[]
 enough:up≠[]->Qr (l:Int)<=M.length
theorem qgg (K:Keep D S0 C0 O H P){l:Nat}{a:Int}{hd:Bool}{up:List Qs}{L Rr its:List Qg}(Q:Qi (P.hide D O) l a its)(I:Xy P D O l (P.spot D a hd) up L Rr)
  (R:∀b:Nat,0<b->b<P.C.n->H.count (b:Int)=(own (P.spot D a hd)++Zn up H0).count (b:Int)) (hO:∀y∈O,∃t∈up,t.shared=false/\y=t.addr) (F:up≠[]->(P.hide D O a).1.enough) :
  ∃O' H' M,At D S0 C0 O' H' H0 P l (P.spot D a hd) up L Rr M/\M.flatten=its/\Since D O O' H0 P P 0:=by
 obtain⟨ho,n,hn,a1,h0⟩:=Iy (Ce Q).2.2;obtain⟨X,hE⟩:=q3v Q;have E:∀x∈its,Dat (P.hide D O) x:=K.dat l a its Q;obtain⟨M,B,u,hL,T⟩:=K.Fb Q;have hN:(P.hide D O a).1=P.Qa D a:=by rw[X];rfl
 rw[hN] at B F;have p:=hL.may;rw[hN] at p;have U:(P.Qa D a).lvl=(l:Int):=q4y B;by_cases d:(P.spot D a hd).shared=true
 ·refine⟨O,H,M,⟨K,⟨λ_ h2=>⟨?_,ho,U⟩,λh=>by rw[d] at h;cases h⟩,I,λb h1 h2=>?_,λy Y=>.inr (hO y Y),B,p,by rw[u];exact E,T,λhu=>(q3m B).1 (F hu)⟩,u,q5r (Move.refl (l:Int) D O P) H0⟩
  ·have h2:hd=false:=h2;have J:(hd||decide (1<P.C.get a))=true:=d;rw[h2,Bool.false_or] at J;have:=of_decide_eq_true J;show 2<=P.C.get a;omega
  ·rw[if_pos d];exact R b h1 h2
 ·have J:(hd||decide (1<P.C.get a))=false:=by
   cases e:(hd||decide (1<P.C.get a)) with
   |false=>rfl
   |true=>exact absurd e d
  obtain⟨h4,h5⟩:=Bool.or_eq_false_iff.1 J;have h5:=of_decide_eq_false h5;subst hn;have f:P.C.get (n:Int)=1:=by
   have:=K.nonneg (n:Int);omega
  obtain⟨c0,cn⟩:=K.first h0
  have A:own (P.spot D (n:Int) hd)=[(n:Int)]:=if_neg (by show ¬hd=true;rw[h4];decide);rw[A] at R;have m:(n:Int)∈H:=List.count_pos_iff.1 (by rw[R n c0 cn,List.count_append];simp;omega);have Z:=K.open_ f m ho;obtain⟨o1,o2⟩:=K.once f m;have W:(n:Int)∉Zn up H0:=q52 (by
   rw[R n c0 cn,List.count_append] at o1;simp at o1;omega)
  rw[X] at Z;have Z:Keep D S0 C0 ((n:Int)::O) ((P.Qa D (n:Int)).named++H) P:=Z;have G:(n:Int)∉(P.Qa D (n:Int)).kids.map (·.a):=qqw (y:=((n:Int),its)) B Q;have a0:=q9q I h4;refine⟨(n:Int)::O,_,M,⟨Z,⟨λh=>absurd h d,λ_=>⟨h4,List.mem_cons_self ..,U,hE⟩⟩,I.open_ K f m a0 J W,λb h1 h2=>?_,λy Y=>?_,qun K f m G B,p,by
   rw[u];exact λx hx=>qlk (E x hx) λe=>qkw Q (E x hx _ e) rfl,T,λhu=>(q3m B).1 (F hu)⟩,u,⟨λl' a' t ha ht=>q3x K f m l' a' t (λe=>W (e▸qeh.restH_sub up ha)) ht,Nat.le_refl _,rfl⟩⟩
  ·rw[if_neg d,A,List.count_append,R b h1 h2];show (P.Qa D (n:Int)).named.count _+_=(_++((P.Qa D (n:Int)).named++_)).count _;simp only[List.count_append];omega
  ·rcases List.mem_cons.1 Y with rfl|Y
   ·exact .inl ⟨J,rfl⟩
   ·exact .inr (hO y Y)
structure Sr (D:DM)(S0:Sp)(C0:Ct)(O H0:List Int)(P:Pl)(k:Kd)(row:List Qg)(n:Nat)(W:Option (List Qs × Qs)):Prop where
 is:∃up s O' H' L Rr its A B,W=some (up,s)/\At D S0 C0 O' H' H0 P 0 s up L Rr (its.map λx=>[x])/\s.N=⟨0,its,[]⟩/\row=L++(its++Rr)/\Since D O O' H0 P P 0/\up.length<=n/\L=A/\Rr=B/\(∀x∈A,x.k.less k=true)/\∀x∈B,k.less x.k=true
theorem qky (k:Kd):∀(l f:Nat) {O H:List Int} {a:Int} {hd:Bool} {up:List Qs} {L Rr its:List Qg},l<=f->Keep D S0 C0 O H P->Qi (P.hide D O) l a its->Qk its->Xy P D O l (P.spot D a hd) up L Rr->
  (∀b:Nat,0<b->b<P.C.n->H.count (b:Int)=(own (P.spot D a hd)++Zn up H0).count (b:Int))->(∀y∈O,∃t∈up,t.shared=false/\y=t.addr)->(up≠[]->(P.hide D O a).1.enough)->(∀x∈L,x.k.less k=true)->(∀x∈Rr,k.less x.k=true)->
  Sr D S0 C0 O H0 P k (L++(its++Rr)) (up.length+l) (P.Gn D k f (P.spot D a hd) up)
 |0,f,O,H,a,hd,up,L,Rr,its,hf,K,hT,hr,hup,hH,hO,hen,hL,hR=>by
  obtain⟨W,H',M,m,hM,J⟩:=qgg K hT hup hH hO hen;obtain⟨Q,u,e2⟩:=m.Fb;subst e2;rw[Po] at hM;subst hM;have ew:P.Gn D k f (P.spot D a hd) up=some (up,P.spot D a hd):=by
   cases f with
   |zero=>show (if _ then _ else none)=_;rw[if_pos (by rw[u];exact Int.le_refl 0)]
   |succ f=>show (if _ then _ else _)=_;rw[if_pos (by rw[u];exact Int.le_refl 0)]
  exact⟨⟨up,_,W,H',L,Rr,Q,L,Rr,ew,m,u,rfl,J,by omega,rfl,rfl,hL,hR⟩⟩
 |l+1,0,_,_,_,_,_,_,_,_,hf,_,_,_,_,_,_,_,_,_=>by omega
 |l+1,f+1,O,H,a,hd,up,L,Rr,its,hf,K,hT,hr,hup,hH,hO,hen,hL,hR=>by
  obtain⟨W,H',M,m,hM,J⟩:=qgg K hT hup hH hO hen;generalize hs:P.spot D a hd=s at m hup;obtain⟨G,u,e2,hg⟩:=m.Fb;subst e2;have a3:G≠[]:=λe=>m.ne (by rw[e];rfl)
  have F:rowOf G=its:=hM;obtain⟨j,hj,a5,a6,a7⟩:=qqy hg (by rw[F];exact hr) a3 k;rw[<-u] at hj;obtain⟨x,hx⟩:∃x,G[j]?=some x:=⟨_,List.getElem?_eq_getElem a5⟩;obtain⟨k1,k2⟩:=qw8 u hx;have d:G=G.take j++x::G.drop (j+1):=by
   obtain⟨_,ex⟩:=List.getElem?_eq_some_iff.1 hx;rw[<-ex,List.getElem_cons_drop,List.take_append_drop]
  have E:=hg x (List.mem_of_getElem? hx);obtain⟨b2,hE⟩:=q3v E.1;have a8:(P.Qa D x.1).lvl=(l:Int):=by
   have:=(Ce E.1).2.1;rw[b2] at this;exact this
  have X:(Qh s.N.kids j).a=x.1:=by rw[k2];rfl
  have b0:P.Wi D s j=true:=by
   unfold Pl.Wi;rw[X];refine decide_eq_true ⟨k1,hE,?_⟩;rw[a8,u];show (l:Int)=((l+1:Nat):Int)-1;omega
  have a2:P.Jf D s j=P.spot D x.1 s.shared:=by unfold Pl.Jf;rw[X]
  have ew:P.Gn D k (f+1) s up=P.Gn D k f (P.spot D x.1 s.shared) ({ s with next:=j }::up):=by
   show (if s.N.lvl<=0 then _ else if P.Wi D s (s.N.Zb k)=true then P.Gn D k f (P.Jf D s (s.N.Zb k)) ({ s with next:=s.N.Zb k }::up) else none)=_;rw[if_neg (by rw[u];show ¬((l+1:Nat):Int)<=0;omega),hj,if_pos b0,a2]
  rw[ew];have Y:∀y∈G.take j++G.drop (j+1),y∈G:=λy T=>by
   rcases List.mem_append.1 T with h|h
   ·exact List.mem_of_mem_take h
   ·exact List.mem_of_mem_drop h
  have a4:∀y∈G.take j++G.drop (j+1),y.1≠x.1:=qiw (R:=P.hide D W) (l:=l) (by rw[<-d];exact hg) (by rw[<-d,F];exact hr);have I:its=rowOf (G.take j)++(x.2++rowOf (G.drop (j+1))):=by
   rw[<-F,<-q6g x,<-Rq,<-Rq];exact congrArg rowOf d
  have U:Zo P D W ((l+1:Nat):Int) { s with next:=j }:=⟨m.spot.shared,m.spot.mine⟩;have Z:Xy P D W l (P.spot D x.1 s.shared) ({ s with next:=j }::up) (L++rowOf (G.take j)) (rowOf (G.drop (j+1))++Rr):=by
   refine⟨G.take j,G.drop (j+1),x,L,Rr,?_,?_,rfl,rfl,m.may,λhu=>?_,λy T=>hg y (Y y T),λ_=>E.1,U,m.way.next j,rfl,rfl,a4⟩
   ·show s.N=_;rw[u,<-d]
   ·show j=(G.take j).length;rw[List.length_take];omega
   ·have h1:=m.enough hu;have e6:Qr ((l+1:Nat):Int)=6:=if_neg (by omega);rw[e6,List.length_map] at h1;rw[List.length_take,List.length_drop];omega
  have b1:(Zq { s with next:=j } j (j+1)).named=(G.take j).map (·.1)++(G.drop (j+1)).map (·.1):=by
   have:=q2f (t:={ s with next:=j }) (l:=l) (GL:=G.take j) (GR:=G.drop (j+1)) (x:=x) (by show s.N=_;rw[u,<-d]) (by show j=_;rw[List.length_take];omega);exact this
  have a9:s.N.named=G.map (·.1):=by rw[u,q17]
  have ih:=qky k l f (O:=W) (H:=H') (a:=x.1) (hd:=s.shared) (up:={ s with next:=j }::up) (L:=L++rowOf (G.take j)) (Rr:=rowOf (G.drop (j+1))++Rr) (its:=x.2) (by omega) m.keep E.1 (by
    rw[I] at hr;exact (q12 (q12 hr).2).1) Z (λb h1 h2=>by
    rw[m.held b h1 h2];show _=(own (P.spot D x.1 s.shared)++(own s++((if s.shared=true then [] else (Zq { s with next:=j } j (j+1)).named)++Zn up H0))).count _;have ho:own (P.spot D x.1 s.shared)=if s.shared=true then [] else [x.1]:=rfl
    rw[ho,b1,a9];have hc:(G.map (·.1)).count (b:Int)=((G.take j).map (·.1)).count (b:Int)+([x.1].count (b:Int)+((G.drop (j+1)).map (·.1)).count (b:Int)):=by
     rw[<-List.count_append,<-List.count_append];refine congrArg (List.count (b:Int)) ?_;conv=>lhs;rw[d]
     simp
    by_cases p:s.shared=true
    ·rw[if_pos p,if_pos p,if_pos p];simp only[List.nil_append]
    ·rw[if_neg p,if_neg p,if_neg p];simp only[List.count_append,hc];omega) (λy T=>by
    rcases m.opens y T with⟨h1,h2⟩|⟨t,h1,h2⟩
    ·exact⟨{ s with next:=j },List.mem_cons_self ..,h1,h2⟩
    ·exact⟨t,List.mem_cons_of_mem _ h1,h2⟩) (λ_=>E.2.1) (λy T=>by
    rcases List.mem_append.1 T with h|h
    ·exact hL y h
    ·exact a6 y h) (λy T=>by
    rcases List.mem_append.1 T with h|h
    ·exact a7 y h
    ·exact hR y h)
  obtain⟨b4,s',a1,a0,L',R',Q,A,B,i1,i2,i3,i4,i5,i6,i7,i8,i9,b3⟩:=ih.is;refine⟨⟨b4,s',a1,a0,L',R',Q,A,B,i1,i2,i3,?_,(J.trans i5),by rw[List.length_cons] at i6;omega,i7,i8,i9,b3⟩⟩;rw[<-i4,I];simp only[List.append_assoc]
end
def Ur (k:Kd)(l:List Qg):List Qg:=l.filter λx=>!(x.k.same k)
theorem qxn {a b:Kd}(h:a.same b=true):a=b:=by
 obtain⟨h1,h2,d⟩:=(Kd.same_iff a b).1 h
 cases a;cases b;simp only at h1 h2 d;subst h1;subst h2;subst d;rfl
theorem qkz {k:Kd}{v:List UInt8}:∀{B C:List Qg},(∀x∈C,k.less x.k=true)->Qk (B++C)->Wq k v false (B++C)=Wq k v false B++C
 |[],C,hC,hr=>by
  cases C with
  |nil=>simp
  |cons c r=>
   rw[List.nil_append] at hr ⊢;rw[q2j hr,if_pos (hC c (List.mem_cons_self ..))];rfl
 |b::B,C,hC,hr=>by
  have d:=(q12 hr).1;rw[List.cons_append] at hr ⊢;rw[q2j hr,q2j d];split
  ·rfl
  ·split
   ·rfl
   ·rw[qkz hC (List.pairwise_cons.1 hr).2];rfl
theorem qqz {k:Kd}{v:List UInt8}{B C:List Qg}:∀{A:List Qg},(∀x∈A,x.k.less k=true)->(∀x∈C,k.less x.k=true)->Qk (A++(B++C))->Wq k v false (A++(B++C))=A++(Wq k v false B++C)
 |[],_,hC,hr=>qkz hC hr
 |a::A,hA,hC,hr=>by
  rw[List.cons_append] at hr ⊢;have h1:=hA a (List.mem_cons_self ..);rw[q2j hr,if_neg (by rw[qbk h1];decide),if_neg (by rw[(q0f h1).1];decide),qqz (λx b=>hA x (List.mem_cons_of_mem _ b)) hC (List.pairwise_cons.1 hr).2];rfl
theorem qgh (x:Qg)(r:List Qg)(k:Kd):lead ((x::r).map (·.k)) k=if x.k.less k=true then lead (r.map (·.k)) k+1 else 0:=by
 unfold lead;rw[List.map_cons,List.takeWhile_cons];split<;>simp
theorem qcv (x:Qg)(r:List Qg)(k:Kd)(i:Nat):Kz ((x::r).map (·.k)) k (i+1)=Kz (r.map (·.k)) k i:=by
 unfold Kz keyAt;rw[List.map_cons,List.length_cons,List.getD_cons_succ];congr 1
 exact decide_eq_decide.2 ⟨λh=>Nat.lt_of_succ_lt_succ h,λh=>Nat.succ_lt_succ h⟩
theorem q8g (x:Qg)(r:List Qg)(k:Kd):Kz ((x::r).map (·.k)) k 0=x.k.same k:=by
 unfold Kz keyAt;rw[List.map_cons,List.length_cons,List.getD_cons_zero,decide_eq_true (Nat.succ_pos _),Bool.true_and]
theorem ql0 {k:Kd}{v:List UInt8}:∀{B:List Qg},Qk B->Wq k v false B=B.take (lead (B.map (·.k)) k)++(⟨k,v⟩::B.drop (lead (B.map (·.k)) k+if Kz (B.map (·.k)) k (lead (B.map (·.k)) k)=true then 1 else 0))
 |[],_=>by
  have e:lead (([]:List Qg).map (·.k)) k=0:=rfl;rw[e];simp[Wq]
 |x::r,hr=>by
  rw[q2j hr,qgh];by_cases h1:k.less x.k=true
  ·rw[if_pos h1,if_neg (by rw[qbk h1];decide),q8g,if_neg (by rw[(q0f h1).2];decide)];rfl
  ·rw[if_neg h1];by_cases h2:x.k.same k=true
   ·have b:x.k.less k=false:=by rw[q7o h2];exact q4n _
    rw[if_pos h2,if_neg (by rw[b];decide),q8g,if_pos h2];rfl
   ·rw[if_neg h2];have b:x.k.less k=true:=by
     rcases Kd.total x.k k with h|h|h
     ·exact h.1
     ·exact absurd h.2.1 h1
     ·exact absurd (by rw[h.2.2];exact qy6 _) h2
    rw[if_pos b,qcv,ql0 (List.pairwise_cons.1 hr).2,List.take_succ_cons,Nat.add_right_comm,List.drop_succ_cons];rfl
theorem qei {k:Kd}{l:List Qg}(h:∀x∈l,x.k.same k=false):Ur k l=l:=List.filter_eq_self.2 λx b=>by rw[h x b];rfl
theorem qxo {k:Kd}{A B C:List Qg}(f:∀x∈A,x.k.less k=true)(m:∀x∈C,k.less x.k=true):Ur k (A++(B++C))=A++(Ur k B++C):=by
 have d:Ur k A=A:=qei λx b=>(q0f (f x b)).1
 have e:Ur k C=C:=qei λx b=>(q0f (m x b)).2
 unfold Ur at d e ⊢;rw[List.filter_append,List.filter_append,d,e]
theorem ql1 {k:Kd}:∀{B:List Qg},Qk B->Kz (B.map (·.k)) k (lead (B.map (·.k)) k)=true->Ur k B=B.take (lead (B.map (·.k)) k)++B.drop (lead (B.map (·.k)) k+1)/\lead (B.map (·.k)) k<B.length
 |[],_,h=>by cases h
 |x::r,hr,h=>by
  obtain⟨f,d⟩:=List.pairwise_cons.1 hr;rw[qgh] at h ⊢;by_cases b:x.k.less k=true
  ·rw[if_pos b] at h ⊢;rw[qcv] at h;obtain⟨e,p⟩:=ql1 d h;refine⟨?_,by rw[List.length_cons];omega⟩;rw[List.take_succ_cons,List.drop_succ_cons];unfold Ur at e ⊢;rw[List.filter_cons_of_pos (by rw[(q0f b).1];rfl),e];rfl
  ·rw[if_neg b] at h ⊢;rw[q8g] at h;refine⟨?_,by rw[List.length_cons];omega⟩;unfold Ur;rw[List.filter_cons_of_neg (by rw[h];decide)];show Ur k r=_;rw[qei]
   ·rfl
   ·intro y m;have:k=x.k:=(qxn h).symm;rw[this];exact (q0f (f y m)).2
theorem qr0 {k:Kd}{l:List Qg}(h:Qk l):Qk (Ur k l):=List.Pairwise.filter _ h
theorem qxp {k:Kd}{l:List Qg}{x:Qg}(h:x∈Ur k l):x∈l:=(List.mem_filter.1 h).1
theorem qxq (k:Kd)(l:List Qg):(Ur k l).length<=l.length:=List.length_filter_le _ _
theorem qr1 {l:List Qg}(d:Qk l)(k:Kd):Kz (l.map (·.k)) k (lead (l.map (·.k)) k)=true↔∃x∈l,x.k.same k=true:=by
 constructor
 ·intro h;unfold Kz at h;rw[Bool.and_eq_true] at h;obtain⟨h1,h2⟩:=h;have h1:=of_decide_eq_true h1;rw[List.length_map] at h1;rw[q1b l h1] at h2;have e:Qz l (lead (l.map (·.k)) k)=l[lead (l.map (·.k)) k]:=by unfold Qz;rw[List.getD_eq_getElem?_getD,List.getElem?_eq_getElem h1];rfl
  exact⟨_,by rw[e];exact List.getElem_mem h1,h2⟩
 ·rintro⟨x,m,f⟩
  cases b:Kz (l.map (·.k)) k (lead (l.map (·.k)) k) with
  |true=>rfl
  |false=>
   have h:=qli d k;rw[b,if_neg (by decide)] at h;unfold valOf at h;have h2:=List.find?_eq_none.1 (Option.map_eq_none_iff.1 h) x m;exact absurd f h2
section
variable {D:DM}{S0:Sp}{C0:Ct}{H0:List Int}{P:Pl}{root:Int}
theorem qgi (X:List Int):∀(way:List Qs) (a:Int),(Zn way (X++H0)).count a=X.count a+(Zn way H0).count a
 |[],a=>List.count_append
 |t::way,a=>by
  show (own t++((if t.shared=true then [] else (Zq t t.next (t.next+1)).named)++Zn way (X++H0))).count a=_+(own t++((if t.shared=true then [] else (Zq t t.next (t.next+1)).named)++Zn way H0)).count a;have b:=qgi X way a;simp only[List.count_append];omega
theorem qgj {O:List Int}:∀{way:List Qs} {l:Nat} {s:Qs} {L Rr:List Qg},Xy P D O l s way L Rr->∀t∈way,∃p:Int,Zo P D O p t
 |[],_,_,_,_,_,t,ht=>by cases ht
 |t::way,l,s,L,Rr,h,t',b=>by
  obtain⟨u,y,x,A,B,h1,h2,E,F,G,I,J,K,m,d,e,f⟩:=h;rcases List.mem_cons.1 b with rfl|b
  ·exact⟨_,m⟩
  ·exact qgj d t' b
theorem Since.sub {O O' X:List Int}{P':Pl}{k:Nat}(h:Since D O O' (X++H0) P P' k):Since D O O' H0 P P' k:=⟨λl a t b d=>h.old l a t (List.mem_append_right _ b) d,h.free,h.n⟩
def nmI (x:Qg):List Int:=(Y4 x).toList
theorem q21 (its:List Qg):(⟨0,its,[]⟩:Nd).named=its.filterMap Y4:=by unfold Nd.named;simp
theorem qgk (x:Qg):(⟨0,[x],[]⟩:Nd).named=nmI x:=by
 rw[q21];unfold nmI
 cases h:Y4 x with
 |none=>rw[List.filterMap_cons_none h];rfl
 |some c=>rw[List.filterMap_cons_some h];rfl
theorem qej (its:List Qg)(i j:Nat):(⟨0,its,[]⟩:Nd).cut i j=⟨0,(its.drop i).take (j-i),[]⟩:=if_pos rfl
theorem qz8 {O H:List Int}{l:Nat}{s:Qs}{up:List Qs}{L Rr:List Qg}{M:List (List Qg)}{X:List Int}(b:At D S0 C0 O H X P l s up L Rr M){x:Qg}(y:Dat (P.hide D []) x):Dat (P.hide D O) x:=λc m=>by
 have h1:=y c m;rw[Et (by simp)] at h1;rw[Et (λp=>?_)]
 ·exact h1
 ·have f:=(q7q b.keep.Ze h1).2;rcases b.opens c p with⟨h2,d⟩|⟨t,u,h2,d⟩
  ·exact f (by rw[d];exact (b.spot.mine h2).2.2.2)
  ·obtain⟨A,e⟩:=qgj b.way t u;exact f (by rw[d];exact (e.mine h2).2.2.2)
theorem qgl {_k:Kd}{row:List Qg}{n:Nat}{O:List Int}{up:List Qs}{s:Qs}{F Z X:List Int}{L Rr its:List Qg}(m:At D S0 C0 F Z (X++H0) P 0 s up L Rr (its.map λx=>[x]))(T:s.N=⟨0,its,[]⟩)(Q:Since D O F (X++H0) P P 0)(hn:up.length<=n)(a1:n<=7)
  {i j:Nat} (hi:i<=j) (hj:j<=its.length) {new:List Qg} (a0:new.length<=1) (hX:new.filterMap Y4=X) (U:∀x∈new,Dat (P.hide D []) x) (Y:j<=i+1) (b:L++((its.take i++(new++its.drop j))++Rr)=row) (hr:Qk row) (hf:∀x∈row,Zr x) (I:row.length<=1000) (R:H0.length<=10000) :
  Xx D S0 C0 O H0 P row (2*n+3) (Y8 D up P s i j ⟨0,new,[]⟩):=by
 have hb:=m.Fb;have f:∀x∈its,Dat (P.hide D F) x:=λx E=>m.dat x (by rw[Po];exact E)
 have A:Yt (P.hide D F) 0 ⟨0,new,[]⟩ (new.map λx=>[x]):=⟨new,rfl,rfl⟩;have d:((its.map λx=>[x]).take i++((new.map λx=>[x])++(its.map λx=>[x]).drop j)).flatten=its.take i++(new++its.drop j):=by
  rw[<-List.map_take,<-List.map_drop,List.flatten_append,List.flatten_append,Po,Po,Po]
 have M:=qaq hb (i:=i) (j:=j) hi (by rw[List.length_map];exact hj);have u:((its.map λx=>[x]).take i++((new.map λx=>[x])++(its.map λx=>[x]).drop j)).length=i+new.length+(its.length-j):=by
  simp only[List.length_append,List.length_take,List.length_drop,List.length_map];omega
 have K:Qq ((0:Nat):Int)=6:=rfl;have J:Qr ((0:Nat):Int)=3:=rfl;have W:its.length<=6:=by
  have:=(qku hb m.may).1;rw[List.length_map,K] at this;exact this
 have y:(s.N.cut i j).named=((its.drop i).take (j-i)).filterMap Y4:=by rw[T,qej,q21]
 have p:its=its.take i++((its.drop i).take (j-i)++its.drop j):=by
  have e:its.drop j=(its.drop i).drop (j-i):=by rw[List.drop_drop,show i+(j-i)=j by omega]
  rw[e,List.take_append_drop,List.take_append_drop]
 have hE:Ea D S0 C0 F Z H0 P 0 s up L Rr i j ⟨0,new,[]⟩ ((its.map λx=>[x]).take i) (new.map λx=>[x]) ((its.map λx=>[x]).drop j):=by
  refine⟨m.keep,m.spot,m.way,M,A,⟨?_,λc G=>?_⟩,λa h1 h2=>?_,λx E=>?_,m.opens,by rw[d,b];exact hr,by rw[d,b];exact hf,by rw[d,b];exact I,R,by rw[u,K];omega,λhu=>?_,λh=>by omega,by omega⟩
  ·unfold Wh;split
   ·exact Nat.zero_le _
   ·rw[if_pos rfl,y];refine Nat.le_trans (List.length_filterMap_le _ _) ?_;rw[List.length_take];omega
  ·unfold Wh at G;split at G
   ·cases G
   ·rw[if_pos rfl,y] at G;obtain⟨x,E,e⟩:=List.mem_filterMap.1 G;exact f x (List.mem_of_mem_drop (List.mem_of_mem_take E)) c e
  ·have e1:(Zq s i j).named.count (a:Int)=((its.take i).filterMap Y4).count (a:Int)+((its.drop j).filterMap Y4).count (a:Int):=by
    unfold Zq;rw[q5m,T,qej,qej];simp only[List.map_cons,List.map_nil,List.sum_cons,List.sum_nil,q21,List.drop_zero,Nat.sub_zero];have e2:(its.drop j).take ((⟨0,its,[]⟩:Nd).size-j)=its.drop j:=List.take_of_length_le (by unfold Nd.size;simp);rw[e2];omega
   have e3:s.N.named.count (a:Int)=((its.take i).filterMap Y4).count (a:Int)+((((its.drop i).take (j-i)).filterMap Y4).count (a:Int)+((its.drop j).filterMap Y4).count (a:Int)):=by
    rw[T,q21];conv=>lhs;rw[p]
    rw[List.filterMap_append,List.filterMap_append,List.count_append,List.count_append]
   have e4:=qgi (H0:=H0) X up (a:Int);rw[m.held a h1 h2];unfold Wh;rw[q21,hX];by_cases B:s.shared=true
   ·rw[if_pos B,if_pos B,if_pos B];simp only[List.count_append,List.count_nil,e4];omega
   ·rw[if_neg B,if_neg B,if_neg B,if_pos rfl,y];simp only[List.count_append,e1,e3,e4];omega
  ·rw[d] at E;rcases List.mem_append.1 E with h|h
   ·exact f x (List.mem_of_mem_take h)
   ·rcases List.mem_append.1 h with h|h
    ·exact qz8 m (U x h)
    ·exact f x (List.mem_of_mem_drop h)
  ·have h1:=m.enough hu;rw[List.length_map,J] at h1;rw[u,J];omega
 have:=qb1 up hE;rw[d,b] at this;exact (Xx.since Q.sub this).more (by omega)
theorem q79 {its:List Qg}{k:Kd}:(⟨0,its,[]⟩:Nd).Zb k=lead (its.map (·.k)) k:=by
 unfold Nd.Zb;rw[if_pos rfl,q1v]
theorem ql2 (K:Keep D S0 C0 [] ((if root=0 then [] else [root])++H0) P){its:List Qg}(I:Zl (P.hide D []) root its)(J:Qk its)(b:root≠0)(k:Kd):Sr D S0 C0 [] H0 P k its 6 (P.way D root k)/\P.Qd D root=0:=by
 rcases I with⟨_,h⟩|⟨l,Z,p,h1,h2⟩
 ·exact absurd h b
 ·rw[if_neg b] at K;have m:P.Qd D root=0:=(q3v p).2;refine⟨?_,m⟩;unfold Pl.way;rw[if_neg b,if_pos m];have e:Xy P D [] l (P.spot D root false) [] [] []:=⟨rfl,rfl⟩;have M:=qky (H0:=H0) k l 8 (hd:=false) (by omega) K p J e (λ_ _ _=>rfl) (λy Q=>by cases Q) (λh=>absurd rfl h) (λx f=>by cases f) (λx f=>by cases f);obtain⟨up,s,F,E,L,G,d,A,B,R,T,U,u,W,X,Y⟩:=M.is;rw[List.nil_append,List.append_nil] at u;exact⟨⟨up,s,F,E,L,G,d,A,B,R,T,U,u,W,by rw[List.length_nil] at X;omega,Y⟩⟩
theorem qur {k:Kd}{v:List UInt8}(K:Keep D S0 C0 [] ((if root=0 then [] else [root])++(nmI ⟨k,v⟩++H0)) P){its:List Qg}(M:Zl (P.hide D []) root its)(p:Qk its)(hf:∀x∈its,Zr x)(T:Zr ⟨k,v⟩)(m:Dat (P.hide D []) ⟨k,v⟩)(R:its.length<1000)(f:H0.length<=10000) :
  Xx D S0 C0 [] H0 P (Wq k v false its) 17 (P.Pn D root ⟨k,v⟩):=by
 have E:∀x∈Wq k v false its,Zr x:=λx I=>by
  rcases q7p p x I with rfl|h
  ·exact T
  ·exact hf x h
 have a1:=q9x (k:=k) (v:=v) p;have G:=q61 (k:=k) (v:=v) p;unfold Pl.Pn;by_cases d:root=0
 ·rcases M with⟨rfl,_⟩|⟨l,_,_,h1,_⟩
  ·have ew:P.way D root k=some ([],q49):=if_pos d;rw[ew];dsimp only;have Z:q49.N.Zb k=0:=rfl;have X:Kz q49.N.keys k 0=false:=rfl;rw[Z,X,if_neg (by decide)];rw[if_pos d,List.nil_append] at K;have Q:Yt (P.hide D []) 0 q49.N []:=⟨[],rfl,rfl⟩;have hE:Ea D S0 C0 [] (nmI ⟨k,v⟩++H0) H0 P 0 q49 [] [] [] 0 0 ⟨0,[⟨k,v⟩],[]⟩ [] [[⟨k,v⟩]] []:=by
    refine⟨K,⟨λ_ h=>(by cases h),λh=>(by cases h)⟩,⟨rfl,rfl⟩,⟨Q,Q,rfl,rfl,rfl,Nat.le_refl _⟩,⟨[⟨k,v⟩],rfl,rfl⟩,⟨Nat.zero_le _,λc hc=>(by cases hc)⟩,λa _ _=>?_,λx h=>?_,λy hy=>(by cases hy),?_,?_,by simp,f,Nat.le_add_left 1 _,λh=>absurd rfl h,λh=>(by omega),by simp⟩
    ·rw[qgk];rfl
    ·have:x=⟨k,v⟩:=by simpa using h
     rw[this];exact m
    ·exact List.pairwise_singleton _ _
    ·intro x h;have:x=⟨k,v⟩:=by simpa using h
     rw[this];exact T
   have:=qb1 [] hE;exact this.more (by decide)
  ·omega
 ·obtain⟨hw,_⟩:=ql2 (H0:=nmI ⟨k,v⟩++H0) K M p d k;obtain⟨up,s,O',H',L,Rr,b,A,B,i1,i2,U,W,i5,i6,rfl,rfl,i9,J⟩:=hw.is;rw[i1];dsimp only;have e:=p;rw[W] at e;have F:=(q12 (q12 e).2).1;have Y:(⟨0,b,[]⟩:Nd).keys=b.map (·.k):=q1v b;rw[U,q79,Y];have a0:lead (b.map (·.k)) k<=b.length:=by have:=qbi (b.map (·.k)) k;rw[List.length_map] at this;exact this
  have u:Kz (b.map (·.k)) k (lead (b.map (·.k)) k)=true->lead (b.map (·.k)) k<b.length:=λh=>by
   unfold Kz at h;rw[Bool.and_eq_true] at h;have:=of_decide_eq_true h.1;rw[List.length_map] at this;exact this
  refine (qgl (_k:=k) (n:=6) i2 U i5 i6 (by omega) (by split<;>omega) (by
   split
   ·rename_i h;have:=u h;omega
   ·omega) (new:=[⟨k,v⟩]) (by simp) (by rw[<-q21,qgk]) (λx h=>by rw[List.mem_singleton.1 h];exact m) (by split<;>omega) ?_ G E (by omega) f).more (by omega)
  rw[W,qqz i9 J e,ql0 F];rfl
theorem ql3 (K:Keep D S0 C0 [] ((if root=0 then [] else [root])++H0) P){its:List Qg}(U:Zl (P.hide D []) root its)(I:Qk its)(W:∀x∈its,Zr x)(G:root≠0)(k:Kd)(M:its.length<1000)(F:H0.length<=10000) :
  ∃up s,P.way D root k=some (up,s)/\s.N.lvl=0/\(Kz s.N.keys k (s.N.Zb k)=true↔∃x∈its,x.k.same k=true)/\(Kz s.N.keys k (s.N.Zb k)=true->Xx D S0 C0 [] H0 P (Ur k its) 17 (P.Oz D root k)):=by
 obtain⟨Z,_⟩:=ql2 K U I G k;obtain⟨up,s,O',H',L,Rr,b,A,B,Q,i2,y,E,i5,i6,rfl,rfl,R,u⟩:=Z.is;have m:=I;rw[E] at m;have p:=(q12 (q12 m).2).1;have J:(⟨0,b,[]⟩:Nd).keys=b.map (·.k):=q1v b;refine⟨up,s,Q,by rw[y],?_,λf=>?_⟩
 ·rw[y,q79,J,qr1 p];constructor
  ·rintro⟨x,d,e⟩;exact⟨x,by rw[E];simp[d],e⟩
  ·rintro⟨x,d,e⟩;rw[E] at d;rcases List.mem_append.1 d with h|h
   ·rw[(q0f (R x h)).1] at e;cases e
   ·rcases List.mem_append.1 h with h|h
    ·exact⟨x,h,e⟩
    ·rw[(q0f (u x h)).2] at e;cases e
 ·unfold Pl.Oz;rw[Q];dsimp only;rw[y,q79,J] at f;rw[y,q79];obtain⟨T,d2⟩:=ql1 p f;have Y:=qxq k its;refine (qgl (_k:=k) (n:=6) (X:=[]) i2 y i5 i6 (by omega) (by omega) (by omega) (new:=[]) (by simp) rfl (λx h=>by cases h) (by omega) ?_ (qr0 I) (λx d=>W x (qxp d)) (by omega) F).more (by omega);rw[E,qxo R u,T];rfl
end
