/- The way down «to» a key's leaf: each node that is the tree's own is opened -/
import Derived.Test.YtloolbmdiimanaaGreatDoorGv33
namespace Go.Proofs.YtloolbmdiimanaaGreatDoor
open Go Go.RowKit Go.Proofs
theorem qgh {R:Int->Nd × Int}:∀{l:Nat} {a:Int} {its d:List Qb},Qm R l a its->Qm R l a d->its=d
 |0,a,its,d,h,h'=>by
  have e:=h.1.symm.trans h'.1;injection e with g _;injection g
 |l+1,a,its,d,h,h'=>by
  obtain⟨kids,parts,h1,h2,K,rfl,F⟩:=h;obtain⟨y,f,m,B,E,rfl,p⟩:=h';have e:=h1.symm.trans m;injection e with g _;injection g with _ _ A;subst A;congr 1
  apply List.ext_getElem
  ·omega
  ·intro j G u;have I:=(F j (by omega)).1;have J:=(p j (by omega)).1;have:=qgh I J;rw[AG,AC G,AG,AC u] at this;exact this
theorem qqg {G:List Zx}{x:Qb}(h:x∈rowOf G):∃q,∃d:q<G.length,x∈(G[q]).2:=by
 obtain⟨t,f,g⟩:=qpm.1 h;obtain⟨q,d,e⟩:=List.getElem_of_mem f;exact⟨q,d,by rw[e];exact g⟩
theorem qqh {R:Int->Nd × Int}{l:Nat}{G:List Zx}(K:∀x∈G,good1 R l x)(A:Qg (rowOf G))(h0:G≠[])(k:Kd) :
  ∃j,(⟨((l+1:Nat):Int),[],G.map Qn⟩:Nd).Zo k=j/\j<G.length/\(∀x∈rowOf (G.take j),x.k.less k=true)/\(∀x∈rowOf (G.drop (j+1)),k.less x.k=true):=by
 have Q:(⟨((l+1:Nat):Int),[],G.map Qn⟩:Nd).Zo k=lastTo ((G.map Qn).map (·.k)) k (G.map Qn).length:=by
  unfold Nd.Zo;have:¬((l+1:Nat):Int)=0:=by omega
  dsimp only;rw[AB this,q7d,AF]
 obtain⟨j,F⟩:∃j,lastTo ((G.map Qn).map (·.k)) k (G.map Qn).length=j:=⟨_,rfl⟩;have T:0<G.length:=List.length_pos_iff.2 h0;have M:(G.map Qn).length=G.length:=AF ..;have f:j<G.length:=by
  rcases qbm ((G.map Qn).map (·.k)) k (G.map Qn).length with e|e<;>omega
 have m:∀q (g:q<G.length),keyAt ((G.map Qn).map (·.k)) q=(Qu (G[q]).2 0).k:=λq g=>by
  rw[qbo _ (by omega),qf4 g];rfl
 have p:∀q (g:q<G.length),∃y r,(G[q]).2=y::r:=λq g=>q7e (K _ (List.getElem_mem g)).1
 have A:Qg (G.map (·.2)).flatten:=A;refine⟨j,by rw[Q,F],f,λx d=>?_,λx d=>?_⟩
 ·obtain⟨q,g,d⟩:=qqg d;rw[List.getElem_take] at d;rw[AR] at g;obtain⟨z,s,E⟩:=p j f;have J:x.k.less z.k=true:=q8e (parts:=G.map (·.2)) A (i:=q) (j:=j) (by omega) (by rw[AF];omega) (by rw[q5t (by omega)];exact d) (by rw[q5t f,E];exact AP ..);have u:k.less z.k=false:=by
   have:=q8d ((G.map Qn).map (·.k)) k (G.map Qn).length (by omega);rw[F,m j f,E] at this;exact this
  exact qdn J u
 ·obtain⟨q,g,d⟩:=qqg d;rw[List.getElem_drop] at d;rw[AS] at g;obtain⟨y,r,B⟩:=p (j+1+q) (by omega);have u:k.less y.k=true:=by
   have:=q8x ((G.map Qn).map (·.k)) k (G.map Qn).length (j+1+q) (by omega) (by omega);rw[m _ (by omega),B] at this;exact this
  rw[B] at d;rcases List.mem_cons.1 d with rfl|d
  ·exact u
  ·have I:=qdo A (j+1+q);rw[q5t (by omega),B] at I;exact Kd.trans _ _ _ u ((List.pairwise_cons.1 I).1 x d)
theorem qim {R:Int->Nd × Int}{l:Nat}{GL GR:List Zx}{x:Zx}(u:∀y∈GL++x::GR,good1 R l y)(g:Qg (rowOf (GL++x::GR))):∀y∈GL++GR,y.1≠x.1:=λy E e=>by
 have f:=(u y (by rcases List.mem_append.1 E with h|h<;>simp[h])).1;have d:=(u x (by simp)).1;rw[e] at f;have m:=qgh f d;obtain⟨z,s,p⟩:=q7e d;rcases List.mem_append.1 E with h|h
 ·obtain⟨A,B,rfl⟩:=List.append_of_mem h;rw[AM,Ri] at g;have h1:=(q10 g).2;have h2:rowOf (y::B++x::GR)=y.2++(rowOf B++(x.2++rowOf GR)):=by
   rw[Ri,show y::B=[y]++B from rfl,Ri,q6b,show x::GR=[x]++GR from rfl,Ri,q6b,AM]
  rw[h2,m,p] at h1;have:=(List.pairwise_append.1 h1).2.2 z (AP ..) z (AU _ (List.mem_append_left _ (AP ..)));rw[q5r] at this
  cases this
 ·obtain⟨A,B,rfl⟩:=List.append_of_mem h;rw[Ri] at g;have h1:=(q10 g).2;have h2:rowOf (x::(A++y::B))=x.2++(rowOf A++(y.2++rowOf B)):=by
   rw[show x::(A++y::B)=[x]++(A++([y]++B)) from rfl,Ri,q6b,Ri,Ri,q6b]
  rw[h2,m,p] at h1;have:=(List.pairwise_append.1 h1).2.2 z (AP ..) z (AU _ (List.mem_append_left _ (AP ..)));rw[q5r] at this
  cases this
section
variable {D:DM}{S0:Sp}{C0:Ct}{O H H0:LI}{P:Pl}
theorem Ye.next {l:Nat}{s:Qr}{way:List Qr}{L Rr:List Qb}(h:Ye P D O l s way L Rr)(j:Nat):Ye P D O l { s with next:=j } way L Rr:=by
 cases way with
 |nil=>exact h
 |cons t way=>exact h
structure At (D:DM)(S0:Sp)(C0:Ct)(O H H0:LI)(P:Pl)(l:Nat)(s:Qr)(up:List Qr)(L Rr:List Qb)(M:List (List Qb)):Prop where
 keep:Keep D S0 C0 O H P
 spot:Zj P D O (l:Int) s
 way:Ye P D O l s up L Rr
 held:∀a:Nat,0<a->a<P.C.n->H.count (a:Int)=(own s++((if s.shared=true then [] else s.N.named)++Zi up H0)).count (a:Int)
 opens:∀y∈O,(s.shared=false/\y=s.addr)\/∃t∈up,t.shared=false/\y=t.addr
 Fa:Yt (P.hide D O) l s.N M
 may:s.N.may=true
 dat:∀x∈M.flatten,Dat (P.hide D O) x
 ne:M≠[]
 enough:up≠[]->Qs (l:Int)<=M.length
theorem qgi (K:Keep D S0 C0 O H P){l:Nat}{a:Int}{hd:Bool}{up:List Qr}{L Rr its:List Qb}(Q:Qm (P.hide D O) l a its)(I:Ye P D O l (P.spot D a hd) up L Rr)
  (R:∀b:Nat,0<b->b<P.C.n->H.count (b:Int)=(own (P.spot D a hd)++Zi up H0).count (b:Int)) (hO:∀y∈O,∃t∈up,t.shared=false/\y=t.addr) (E:up≠[]->(P.hide D O a).1.enough) :
  ∃O' H' M,At D S0 C0 O' H' H0 P l (P.spot D a hd) up L Rr M/\M.flatten=its/\Since D O O' H0 P P 0:=by
 obtain⟨ho,n,hn,a2,h0⟩:=q2r (D7 Q).2.2;obtain⟨W,hE⟩:=q3f Q;have B:∀x∈its,Dat (P.hide D O) x:=K.dat l a its Q;obtain⟨M,A,p,hL,T⟩:=K.Fa Q;have hN:(P.hide D O a).1=P.Qd D a:=by rw[W];rfl
 rw[hN] at A E;have m:=hL.may;rw[hN] at m;have U:(P.Qd D a).lvl=(l:Int):=q4r A;by_cases d:(P.spot D a hd).shared=true
 ·refine⟨O,H,M,⟨K,⟨λ_ h2=>⟨?_,ho,U⟩,λh=>by rw[d] at h;cases h⟩,I,λb h1 h2=>?_,λy X=>.inr (hO y X),A,m,by rw[p];exact B,T,λhu=>(q3o A).1 (E hu)⟩,p,q5k (Move.refl (l:Int) D O P) H0⟩
  ·have h2:hd=false:=h2;have J:(hd||decide (1<P.C.get a))=true:=d;rw[h2,Bool.false_or] at J;have:=AK J;show 2<=P.C.get a;omega
  ·rw[AA d];exact R b h1 h2
 ·have J:(hd||decide (1<P.C.get a))=false:=by
   cases e:(hd||decide (1<P.C.get a)) with
   |false=>rfl
   |true=>exact absurd e d
  obtain⟨h4,h5⟩:=Bool.or_eq_false_iff.1 J;have h5:=of_decide_eq_false h5;subst hn;have f:P.C.get (n:Int)=1:=by
   have:=K.nonneg (n:Int);omega
  obtain⟨c0,cn⟩:=K.first h0
  have u:own (P.spot D (n:Int) hd)=[(n:Int)]:=AB (by show ¬hd=true;rw[h4];decide);rw[u] at R;have g:(n:Int)∈H:=List.count_pos_iff.1 (by rw[R n c0 cn,A_];simp;omega);have Y:=K.open_ f g ho;obtain⟨o1,o2⟩:=K.once f g;have F:(n:Int)∉Zi up H0:=q4t (by
   rw[R n c0 cn,A_] at o1;simp at o1;omega)
  rw[W] at Y;have Y:Keep D S0 C0 ((n:Int)::O) ((P.Qd D (n:Int)).named++H) P:=Y;have G:(n:Int)∉(P.Qd D (n:Int)).kids.map (·.a):=qqf (y:=((n:Int),its)) A Q;have a0:=q99 I h4;refine⟨(n:Int)::O,_,M,⟨Y,⟨λh=>absurd h d,λ_=>⟨h4,AP ..,U,hE⟩⟩,I.open_ K f g a0 J F,λb h1 h2=>?_,λy X=>?_,qua K f g G A,m,by
   rw[p];exact λx hx=>qjc (B x hx) λe=>qko Q (B x hx _ e) rfl,T,λhu=>(q3o A).1 (E hu)⟩,p,⟨λl' Z t ha ht=>q3g K f g l' Z t (λe=>F (e▸q9a.restH_sub up ha)) ht,λZ ha a1=>(Py λe:Z=(n:Int)=>F (e▸q9a.restH_sub up ha)).trans a1,AE _,rfl⟩⟩
  ·rw[AB d,u,A_,R b h1 h2];show (P.Qd D (n:Int)).named.count _+_=(_++((P.Qd D (n:Int)).named++_)).count _;simp only[A_];omega
  ·rcases List.mem_cons.1 X with rfl|X
   ·exact .inl ⟨J,rfl⟩
   ·exact .inr (hO y X)
structure Rx (D:DM)(S0:Sp)(C0:Ct)(O H0:LI)(P:Pl)(k:Kd)(row:List Qb)(n:Nat)(W:Option (List Qr × Qr)):Prop where
 is:∃up s O' H' L Rr its A B,W=some (up,s)/\At D S0 C0 O' H' H0 P 0 s up L Rr (its.map λx=>[x])/\s.N=⟨0,its,[]⟩/\row=L++(its++Rr)/\Since D O O' H0 P P 0/\up.length<=n/\L=A/\Rr=B/\(∀x∈A,x.k.less k=true)/\∀x∈B,k.less x.k=true
theorem qkr (k:Kd):∀(l f:Nat) {O H:LI} {a:Int} {hd:Bool} {up:List Qr} {L Rr its:List Qb},l<=f->Keep D S0 C0 O H P->Qm (P.hide D O) l a its->Qg its->Ye P D O l (P.spot D a hd) up L Rr->
  (∀b:Nat,0<b->b<P.C.n->H.count (b:Int)=(own (P.spot D a hd)++Zi up H0).count (b:Int))->(∀y∈O,∃t∈up,t.shared=false/\y=t.addr)->(up≠[]->(P.hide D O a).1.enough)->(∀x∈L,x.k.less k=true)->(∀x∈Rr,k.less x.k=true)->
  Rx D S0 C0 O H0 P k (L++(its++Rr)) (up.length+l) (P.Gp D k f (P.spot D a hd) up)
 |0,f,O,H,a,hd,up,L,Rr,its,hf,K,hT,hr,hup,hH,hO,hen,hL,hR=>by
  obtain⟨U,H',M,g,Z,I⟩:=qgi K hT hup hH hO hen;obtain⟨J,p,e2⟩:=g.Fa;subst e2;rw[O7] at Z;subst Z;have ew:P.Gp D k f (P.spot D a hd) up=some (up,P.spot D a hd):=by
   cases f with
   |zero=>show (if _ then _ else none)=_;rw[AA (by rw[p];exact Int.le_refl 0)]
   |succ f=>show (if _ then _ else _)=_;rw[AA (by rw[p];exact Int.le_refl 0)]
  exact⟨⟨up,_,U,H',L,Rr,J,L,Rr,ew,g,p,rfl,I,by omega,rfl,rfl,hL,hR⟩⟩
 |l+1,0,_,_,_,_,_,_,_,_,hf,_,_,_,_,_,_,_,_,_=>by omega
 |l+1,f+1,O,H,a,hd,up,L,Rr,its,hf,K,hT,hr,hup,hH,hO,hen,hL,hR=>by
  obtain⟨U,H',M,g,Z,I⟩:=qgi K hT hup hH hO hen;generalize hs:P.spot D a hd=s at g hup;obtain⟨G,p,e2,hg⟩:=g.Fa;subst e2;have a3:G≠[]:=λe=>g.ne (by rw[e];rfl)
  have E:rowOf G=its:=Z;obtain⟨j,hj,a5,a6,a7⟩:=qqh hg (by rw[E];exact hr) a3 k;rw[<-p] at hj;obtain⟨x,hx⟩:∃x,G[j]?=some x:=⟨_,AC a5⟩;obtain⟨k1,k2⟩:=qvt p hx;have d:G=G.take j++x::G.drop (j+1):=by
   obtain⟨_,ex⟩:=List.getElem?_eq_some_iff.1 hx;rw[<-ex,List.getElem_cons_drop,AV]
  have u:=hg x (List.mem_of_getElem? hx);obtain⟨b2,hE⟩:=q3f u.1;have a8:(P.Qd D x.1).lvl=(l:Int):=by
   have:=(D7 u.1).2.1;rw[b2] at this;exact this
  have W:(Qi s.N.kids j).a=x.1:=by rw[k2];rfl
  have b0:P.Wj D s j=true:=by
   unfold Pl.Wj;rw[W];refine AL ⟨k1,hE,?_⟩;rw[a8,p];show (l:Int)=((l+1:Nat):Int)-1;omega
  have a2:P.Jd D s j=P.spot D x.1 s.shared:=by unfold Pl.Jd;rw[W]
  have ew:P.Gp D k (f+1) s up=P.Gp D k f (P.spot D x.1 s.shared) ({ s with next:=j }::up):=by
   show (if s.N.lvl<=0 then _ else if P.Wj D s (s.N.Zo k)=true then P.Gp D k f (P.Jd D s (s.N.Zo k)) ({ s with next:=s.N.Zo k }::up) else none)=_;rw[AB (by rw[p];show ¬((l+1:Nat):Int)<=0;omega),hj,AA b0,a2]
  rw[ew];have X:∀y∈G.take j++G.drop (j+1),y∈G:=λy Q=>by
   rcases List.mem_append.1 Q with h|h
   ·exact List.mem_of_mem_take h
   ·exact List.mem_of_mem_drop h
  have a4:∀y∈G.take j++G.drop (j+1),y.1≠x.1:=qim (R:=P.hide D U) (l:=l) (by rw[<-d];exact hg) (by rw[<-d,E];exact hr);have F:its=rowOf (G.take j)++(x.2++rowOf (G.drop (j+1))):=by
   rw[<-E,<-q6b x,<-Ri,<-Ri];exact congrArg rowOf d
  have T:Zj P D U ((l+1:Nat):Int) { s with next:=j }:=⟨g.spot.shared,g.spot.mine⟩;have Y:Ye P D U l (P.spot D x.1 s.shared) ({ s with next:=j }::up) (L++rowOf (G.take j)) (rowOf (G.drop (j+1))++Rr):=by
   refine⟨G.take j,G.drop (j+1),x,L,Rr,?_,?_,rfl,rfl,g.may,λhu=>?_,λy Q=>hg y (X y Q),λ_=>u.1,T,g.way.next j,rfl,rfl,a4⟩
   ·show s.N=_;rw[p,<-d]
   ·show j=(G.take j).length;rw[AR];omega
   ·have h1:=g.enough hu;have e6:Qs ((l+1:Nat):Int)=6:=AB (by omega);rw[e6,AF] at h1;rw[AR,AS];omega
  have b1:(Zm { s with next:=j } j (j+1)).named=(G.take j).map (·.1)++(G.drop (j+1)).map (·.1):=by
   have:=q2d (t:={ s with next:=j }) (l:=l) (GL:=G.take j) (GR:=G.drop (j+1)) (x:=x) (by show s.N=_;rw[p,<-d]) (by show j=_;rw[AR];omega);exact this
  have a9:s.N.named=G.map (·.1):=by rw[p,q13]
  have ih:=qkr k l f (O:=U) (H:=H') (a:=x.1) (hd:=s.shared) (up:={ s with next:=j }::up) (L:=L++rowOf (G.take j)) (Rr:=rowOf (G.drop (j+1))++Rr) (its:=x.2) (by omega) g.keep u.1 (by
    rw[F] at hr;exact (q10 (q10 hr).2).1) Y (λb h1 h2=>by
    rw[g.held b h1 h2];show _=(own (P.spot D x.1 s.shared)++(own s++((if s.shared=true then [] else (Zm { s with next:=j } j (j+1)).named)++Zi up H0))).count _;have ho:own (P.spot D x.1 s.shared)=if s.shared=true then [] else [x.1]:=rfl
    rw[ho,b1,a9];have hc:(G.map (·.1)).count (b:Int)=((G.take j).map (·.1)).count (b:Int)+([x.1].count (b:Int)+((G.drop (j+1)).map (·.1)).count (b:Int)):=by
     rw[<-A_,<-A_];refine congrArg (List.count (b:Int)) ?_;conv=>lhs;rw[d]
     simp
    by_cases m:s.shared=true
    ·rw[AA m,AA m,AA m];simp only[BG]
    ·rw[AB m,AB m,AB m];simp only[A_,hc];omega) (λy Q=>by
    rcases g.opens y Q with⟨h1,h2⟩|⟨t,h1,h2⟩
    ·exact⟨{ s with next:=j },AP ..,h1,h2⟩
    ·exact⟨t,AO _ h1,h2⟩) (λ_=>u.2.1) (λy Q=>by
    rcases List.mem_append.1 Q with h|h
    ·exact hL y h
    ·exact a6 y h) (λy Q=>by
    rcases List.mem_append.1 Q with h|h
    ·exact a7 y h
    ·exact hR y h)
  obtain⟨b4,s',a1,a0,L',R',J,A,B,i1,i2,i3,i4,i5,i6,i7,i8,i9,b3⟩:=ih.is;refine⟨⟨b4,s',a1,a0,L',R',J,A,B,i1,i2,i3,?_,(I.trans i5),by rw[AX] at i6;omega,i7,i8,i9,b3⟩⟩;rw[<-i4,F];simp only[AM]
end
def Ve (k:Kd)(l:List Qb):List Qb:=l.filter λx=>!(x.k.same k)
theorem qek {a b:Kd}(h:a.same b=true):a=b:=by
 obtain⟨h1,h2,d⟩:=(Kd.same_iff a b).1 h
 cases a;cases b;simp only at h1 h2 d;subst h1;subst h2;subst d;rfl
theorem qks {k:Kd}{v:LU}:∀{B C:List Qb},(∀x∈C,k.less x.k=true)->Qg (B++C)->Yp k v false (B++C)=Yp k v false B++C
 |[],C,hC,hr=>by
  cases C with
  |nil=>simp
  |cons c r=>
   rw[BG] at hr ⊢;rw[q1v hr,AA (hC c (AP ..))];rfl
 |b::B,C,hC,hr=>by
  have d:=(q10 hr).1;rw[List.cons_append] at hr ⊢;rw[q1v hr,q1v d];split
  ·rfl
  ·split
   ·rfl
   ·rw[qks hC (List.pairwise_cons.1 hr).2];rfl
theorem qqi {k:Kd}{v:LU}{B C:List Qb}:∀{A:List Qb},(∀x∈A,x.k.less k=true)->(∀x∈C,k.less x.k=true)->Qg (A++(B++C))->Yp k v false (A++(B++C))=A++(Yp k v false B++C)
 |[],_,hC,hr=>qks hC hr
 |a::A,hA,hC,hr=>by
  rw[List.cons_append] at hr ⊢;have h1:=hA a (AP ..);rw[q1v hr,AB (by rw[qhb h1];decide),AB (by rw[(Nb h1).1];decide),qqi (λx d=>hA x (AO _ d)) hC (List.pairwise_cons.1 hr).2];rfl
theorem qgj (x:Qb)(r:List Qb)(k:Kd):lead ((x::r).map (·.k)) k=if x.k.less k=true then lead (r.map (·.k)) k+1 else 0:=by
 unfold lead;rw[BJ,List.takeWhile_cons];split<;>simp
theorem qcx (x:Qb)(r:List Qb)(k:Kd)(i:Nat):Uf ((x::r).map (·.k)) k (i+1)=Uf (r.map (·.k)) k i:=by
 unfold Uf keyAt;rw[BJ,AX,List.getD_cons_succ];congr 1
 exact decide_eq_decide.2 ⟨λh=>Nat.lt_of_succ_lt_succ h,λh=>Nat.succ_lt_succ h⟩
theorem q81 (x:Qb)(r:List Qb)(k:Kd):Uf ((x::r).map (·.k)) k 0=x.k.same k:=by
 unfold Uf keyAt;rw[BJ,AX,List.getD_cons_zero,AL (Nat.succ_pos _),Bool.true_and]
theorem qkt {k:Kd}{v:LU}:∀{B:List Qb},Qg B->Yp k v false B=B.take (lead (B.map (·.k)) k)++(⟨k,v⟩::B.drop (lead (B.map (·.k)) k+if Uf (B.map (·.k)) k (lead (B.map (·.k)) k)=true then 1 else 0))
 |[],_=>by
  have e:lead (([]:List Qb).map (·.k)) k=0:=rfl;rw[e];simp[Yp]
 |x::r,hr=>by
  rw[q1v hr,qgj];by_cases h1:k.less x.k=true
  ·rw[AA h1,AB (by rw[qhb h1];decide),q81,AB (by rw[(Nb h1).2];decide)];rfl
  ·rw[AB h1];by_cases h2:x.k.same k=true
   ·have d:x.k.less k=false:=by rw[q7b h2];exact q5r _
    rw[AA h2,AB (by rw[d];decide),q81,AA h2];rfl
   ·rw[AB h2];have d:x.k.less k=true:=by
     rcases Kd.total x.k k with h|h|h
     ·exact h.1
     ·exact absurd h.2.1 h1
     ·exact absurd (by rw[h.2.2];exact qxu _) h2
    rw[AA d,qcx,qkt (List.pairwise_cons.1 hr).2,List.take_succ_cons,Nat.add_right_comm,List.drop_succ_cons];rfl
theorem q9b {k:Kd}{l:List Qb}(h:∀x∈l,x.k.same k=false):Ve k l=l:=List.filter_eq_self.2 λx d=>by rw[h x d];rfl
theorem qxe {k:Kd}{A B C:List Qb}(g:∀x∈A,x.k.less k=true)(m:∀x∈C,k.less x.k=true):Ve k (A++(B++C))=A++(Ve k B++C):=by
 have e:Ve k A=A:=q9b λx d=>(Nb (g x d)).1
 have f:Ve k C=C:=q9b λx d=>(Nb (m x d)).2
 unfold Ve at e f ⊢;rw[List.filter_append,List.filter_append,e,f]
theorem qku {k:Kd}:∀{B:List Qb},Qg B->Uf (B.map (·.k)) k (lead (B.map (·.k)) k)=true->Ve k B=B.take (lead (B.map (·.k)) k)++B.drop (lead (B.map (·.k)) k+1)/\lead (B.map (·.k)) k<B.length
 |[],_,h=>by cases h
 |x::r,hr,h=>by
  obtain⟨g,e⟩:=List.pairwise_cons.1 hr;rw[qgj] at h ⊢;by_cases d:x.k.less k=true
  ·rw[AA d] at h ⊢;rw[qcx] at h;obtain⟨f,p⟩:=qku e h;refine⟨?_,by rw[AX];omega⟩;rw[List.take_succ_cons,List.drop_succ_cons];unfold Ve at f ⊢;rw[List.filter_cons_of_pos (by rw[(Nb d).1];rfl),f];rfl
  ·rw[AB d] at h ⊢;rw[q81] at h;refine⟨?_,by rw[AX];omega⟩;unfold Ve;rw[List.filter_cons_of_neg (by rw[h];decide)];show Ve k r=_;rw[q9b]
   ·rfl
   ·intro y m;have:k=x.k:=(qek h).symm;rw[this];exact (Nb (g y m)).2
theorem qb0 {k:Kd}{l:List Qb}(h:Qg l):Qg (Ve k l):=List.Pairwise.filter _ h
theorem qqj {k:Kd}{l:List Qb}{x:Qb}(h:x∈Ve k l):x∈l:=(List.mem_filter.1 h).1
theorem qqk (k:Kd)(l:List Qb):(Ve k l).length<=l.length:=List.length_filter_le _ _
theorem qql {l:List Qb}(f:Qg l)(k:Kd):Uf (l.map (·.k)) k (lead (l.map (·.k)) k)=true↔∃x∈l,x.k.same k=true:=by
 constructor
 ·intro h;unfold Uf at h;rw[BN] at h;obtain⟨h1,h2⟩:=h;have h1:=AK h1;rw[AF] at h1;rw[q18 l h1] at h2;have e:Qu l (lead (l.map (·.k)) k)=l[lead (l.map (·.k)) k]:=by unfold Qu;rw[AG,AC h1];rfl
  exact⟨_,by rw[e];exact List.getElem_mem h1,h2⟩
 ·rintro⟨x,m,g⟩
  cases d:Uf (l.map (·.k)) k (lead (l.map (·.k)) k) with
  |true=>rfl
  |false=>
   have h:=qvb f k;rw[d,AB (by decide)] at h;unfold valOf at h;have h2:=List.find?_eq_none.1 (Option.map_eq_none_iff.1 h) x m;exact absurd g h2
theorem qkv {k:Kd}{l:List Qb}(h:¬∃x∈l,x.k.same k=true):Ve k l=l:=q9b λx d=>by
 cases e:x.k.same k with
 |false=>rfl
 |true=>exact absurd ⟨x,d,e⟩ h
section
variable {D:DM}{S0:Sp}{C0:Ct}{H0:LI}{P:Pl}{root:Int}
theorem qgk (X:LI):∀(way:List Qr) (a:Int),(Zi way (X++H0)).count a=X.count a+(Zi way H0).count a
 |[],a=>A_
 |t::way,a=>by
  show (own t++((if t.shared=true then [] else (Zm t t.next (t.next+1)).named)++Zi way (X++H0))).count a=_+(own t++((if t.shared=true then [] else (Zm t t.next (t.next+1)).named)++Zi way H0)).count a;have d:=qgk X way a;simp only[A_];omega
theorem qgl {O:LI}:∀{way:List Qr} {l:Nat} {s:Qr} {L Rr:List Qb},Ye P D O l s way L Rr->∀t∈way,∃p:Int,Zj P D O p t
 |[],_,_,_,_,_,t,ht=>by cases ht
 |t::way,l,s,L,Rr,h,t',d=>by
  obtain⟨u,y,x,A,B,h1,h2,E,F,G,I,J,K,m,e,f,g⟩:=h;rcases List.mem_cons.1 d with rfl|d
  ·exact⟨_,m⟩
  ·exact qgl e t' d
theorem Since.sub {O O' X:LI}{P':Pl}{k:Nat}(h:Since D O O' (X++H0) P P' k):Since D O O' H0 P P' k:=⟨λl a t d e=>h.old l a t (AU _ d) e,λa d hd=>h.Ig a (AU _ d) hd,h.free,h.n⟩
def Pv (x:Qb):LI:=(Ky x).toList
theorem q23 (its:List Qb):(⟨0,its,[]⟩:Nd).named=its.filterMap Ky:=by unfold Nd.named;simp
theorem qgm (x:Qb):(⟨0,[x],[]⟩:Nd).named=Pv x:=by
 rw[q23];unfold Pv
 cases h:Ky x with
 |none=>rw[List.filterMap_cons_none h];rfl
 |some c=>rw[List.filterMap_cons_some h];rfl
theorem qel (its:List Qb)(i j:Nat):(⟨0,its,[]⟩:Nd).cut i j=⟨0,(its.drop i).take (j-i),[]⟩:=AA rfl
theorem qz3 {O H:LI}{l:Nat}{s:Qr}{up:List Qr}{L Rr:List Qb}{M:List (List Qb)}{X:LI}(d:At D S0 C0 O H X P l s up L Rr M){x:Qb}(y:Dat (P.hide D []) x):Dat (P.hide D O) x:=λc m=>by
 have h1:=y c m;rw[O8 (by simp)] at h1;rw[O8 (λp=>?_)]
 ·exact h1
 ·have g:=(q53 d.keep.Zl h1).2;rcases d.opens c p with⟨h2,e⟩|⟨t,u,h2,e⟩
  ·exact g (by rw[e];exact (d.spot.mine h2).2.2.2)
  ·obtain⟨A,f⟩:=qgl d.way t u;exact g (by rw[e];exact (f.mine h2).2.2.2)
theorem qgn {_k:Kd}{row:List Qb}{n:Nat}{O:LI}{up:List Qr}{s:Qr}{F Z X:LI}{L Rr its:List Qb}(m:At D S0 C0 F Z (X++H0) P 0 s up L Rr (its.map λx=>[x]))(T:s.N=⟨0,its,[]⟩)(Q:Since D O F (X++H0) P P 0)(hn:up.length<=n)(a1:n<=7)
  {i j:Nat} (hi:i<=j) (hj:j<=its.length) {new:List Qb} (a0:new.length<=1) (hX:new.filterMap Ky=X) (U:∀x∈new,Dat (P.hide D []) x) (Y:j<=i+1) (d:L++((its.take i++(new++its.drop j))++Rr)=row) (hr:Qg row) (hf:∀x∈row,Jb x) (I:row.length<=1000) (R:H0.length<=10000) :
  Yd D S0 C0 O H0 P row (2*n+3) (Yy D up P s i j ⟨0,new,[]⟩):=by
 have hb:=m.Fa;have g:∀x∈its,Dat (P.hide D F) x:=λx E=>m.dat x (by rw[O7];exact E)
 have A:Yt (P.hide D F) 0 ⟨0,new,[]⟩ (new.map λx=>[x]):=⟨new,rfl,rfl⟩;have f:((its.map λx=>[x]).take i++((new.map λx=>[x])++(its.map λx=>[x]).drop j)).flatten=its.take i++(new++its.drop j):=by
  rw[<-List.map_take,<-List.map_drop,List.flatten_append,List.flatten_append,O7,O7,O7]
 have M:=qam hb (i:=i) (j:=j) hi (by rw[AF];exact hj);have u:((its.map λx=>[x]).take i++((new.map λx=>[x])++(its.map λx=>[x]).drop j)).length=i+new.length+(its.length-j):=by
  simp only[AD,AR,AS,AF];omega
 have K:Qo ((0:Nat):Int)=6:=rfl;have J:Qs ((0:Nat):Int)=3:=rfl;have W:its.length<=6:=by
  have:=(qkm hb m.may).1;rw[AF,K] at this;exact this
 have y:(s.N.cut i j).named=((its.drop i).take (j-i)).filterMap Ky:=by rw[T,qel,q23]
 have p:its=its.take i++((its.drop i).take (j-i)++its.drop j):=by
  have e:its.drop j=(its.drop i).drop (j-i):=by rw[List.drop_drop,show i+(j-i)=j by omega]
  rw[e,AV,AV]
 have hE:Eb D S0 C0 F Z H0 P 0 s up L Rr i j ⟨0,new,[]⟩ ((its.map λx=>[x]).take i) (new.map λx=>[x]) ((its.map λx=>[x]).drop j):=by
  refine⟨m.keep,m.spot,m.way,M,A,⟨?_,λc G=>?_⟩,λa h1 h2=>?_,λx E=>?_,m.opens,by rw[f,d];exact hr,by rw[f,d];exact hf,by rw[f,d];exact I,R,by rw[u,K];omega,λhu=>?_,λh=>by omega,by omega⟩
  ·unfold Wi;split
   ·exact AW _
   ·rw[AA rfl,y];refine AZ (List.length_filterMap_le _ _) ?_;rw[AR];omega
  ·unfold Wi at G;split at G
   ·cases G
   ·rw[AA rfl,y] at G;obtain⟨x,E,e⟩:=List.mem_filterMap.1 G;exact g x (List.mem_of_mem_drop (List.mem_of_mem_take E)) c e
  ·have e1:(Zm s i j).named.count (a:Int)=((its.take i).filterMap Ky).count (a:Int)+((its.drop j).filterMap Ky).count (a:Int):=by
    unfold Zm;rw[q5f,T,qel,qel];simp only[BJ,List.map_nil,List.sum_cons,List.sum_nil,q23,List.drop_zero,Nat.sub_zero];have e2:(its.drop j).take ((⟨0,its,[]⟩:Nd).size-j)=its.drop j:=AN (by unfold Nd.size;simp);rw[e2];omega
   have e3:s.N.named.count (a:Int)=((its.take i).filterMap Ky).count (a:Int)+((((its.drop i).take (j-i)).filterMap Ky).count (a:Int)+((its.drop j).filterMap Ky).count (a:Int)):=by
    rw[T,q23];conv=>lhs;rw[p]
    rw[List.filterMap_append,List.filterMap_append,A_,A_]
   have e4:=qgk (H0:=H0) X up (a:Int);rw[m.held a h1 h2];unfold Wi;rw[q23,hX];by_cases B:s.shared=true
   ·rw[AA B,AA B,AA B];simp only[A_,List.count_nil,e4];omega
   ·rw[AB B,AB B,AB B,AA rfl,y];simp only[A_,e1,e3,e4];omega
  ·rw[f] at E;rcases List.mem_append.1 E with h|h
   ·exact g x (List.mem_of_mem_take h)
   ·rcases List.mem_append.1 h with h|h
    ·exact qz3 m (U x h)
    ·exact g x (List.mem_of_mem_drop h)
  ·have h1:=m.enough hu;rw[AF,J] at h1;rw[u,J];omega
 have:=qaz up hE;rw[f,d] at this;exact (Yd.since Q.sub this).more (by omega)
theorem q71 {its:List Qb}{k:Kd}:(⟨0,its,[]⟩:Nd).Zo k=lead (its.map (·.k)) k:=by
 unfold Nd.Zo;rw[AA rfl,q2p]
theorem qkw (K:Keep D S0 C0 [] ((if root=0 then [] else [root])++H0) P){its:List Qb}(I:Xk (P.hide D []) root its)(J:Qg its)(d:root≠0)(k:Kd):Rx D S0 C0 [] H0 P k its 6 (P.way D root k)/\P.Qe D root=0:=by
 rcases I with⟨_,h⟩|⟨l,Z,p,h1,h2⟩
 ·exact absurd h d
 ·rw[AB d] at K;have m:P.Qe D root=0:=(q3f p).2;refine⟨?_,m⟩;unfold Pl.way;rw[AB d,AA m];have f:Ye P D [] l (P.spot D root false) [] [] []:=⟨rfl,rfl⟩;have M:=qkr (H0:=H0) k l 8 (hd:=false) (by omega) K p J f (λ_ _ _=>rfl) (λy Q=>by cases Q) (λh=>absurd rfl h) (λx g=>by cases g) (λx g=>by cases g);obtain⟨up,s,F,E,L,G,e,A,B,R,T,U,u,W,X,Y⟩:=M.is;rw[BG,BM] at u;exact⟨⟨up,s,F,E,L,G,e,A,B,R,T,U,u,W,by rw[List.length_nil] at X;omega,Y⟩⟩
theorem que {k:Kd}{v:LU}(K:Keep D S0 C0 [] ((if root=0 then [] else [root])++(Pv ⟨k,v⟩++H0)) P){its:List Qb}(M:Xk (P.hide D []) root its)(p:Qg its)(hf:∀x∈its,Jb x)(T:Jb ⟨k,v⟩)(m:Dat (P.hide D []) ⟨k,v⟩)(R:its.length<1000)(g:H0.length<=10000) :
  Yd D S0 C0 [] H0 P (Yp k v false its) 17 (P.Ih D root ⟨k,v⟩):=by
 have E:∀x∈Yp k v false its,Jb x:=λx I=>by
  rcases q95 p x I with rfl|h
  ·exact T
  ·exact hf x h
 have a1:=qe3 (k:=k) (v:=v) p;have G:=q3j (k:=k) (v:=v) p;unfold Pl.Ih;by_cases e:root=0
 ·rcases M with⟨rfl,_⟩|⟨l,_,_,h1,_⟩
  ·have ew:P.way D root k=some ([],q44):=AA e;rw[ew];dsimp only;have Z:q44.N.Zo k=0:=rfl;have X:Uf q44.N.keys k 0=false:=rfl;rw[Z,X,AB (by decide)];rw[AA e,BG] at K;have Q:Yt (P.hide D []) 0 q44.N []:=⟨[],rfl,rfl⟩;have hE:Eb D S0 C0 [] (Pv ⟨k,v⟩++H0) H0 P 0 q44 [] [] [] 0 0 ⟨0,[⟨k,v⟩],[]⟩ [] [[⟨k,v⟩]] []:=by
    refine⟨K,⟨λ_ h=>(by cases h),λh=>(by cases h)⟩,⟨rfl,rfl⟩,⟨Q,Q,rfl,rfl,rfl,AE _⟩,⟨[⟨k,v⟩],rfl,rfl⟩,⟨AW _,λc hc=>(by cases hc)⟩,λa _ _=>?_,λx h=>?_,λy hy=>(by cases hy),?_,?_,by simp,g,Nat.le_add_left 1 _,λh=>absurd rfl h,λh=>(by omega),by simp⟩
    ·rw[qgm];rfl
    ·have:x=⟨k,v⟩:=by simpa using h
     rw[this];exact m
    ·exact List.pairwise_singleton _ _
    ·intro x h;have:x=⟨k,v⟩:=by simpa using h
     rw[this];exact T
   have:=qaz [] hE;exact this.more (by decide)
  ·omega
 ·obtain⟨hw,_⟩:=qkw (H0:=Pv ⟨k,v⟩++H0) K M p e k;obtain⟨up,s,O',H',L,Rr,d,A,B,i1,i2,U,W,i5,i6,rfl,rfl,i9,J⟩:=hw.is;rw[i1];dsimp only;have f:=p;rw[W] at f;have F:=(q10 (q10 f).2).1;have Y:(⟨0,d,[]⟩:Nd).keys=d.map (·.k):=q2p d;rw[U,q71,Y];have a0:lead (d.map (·.k)) k<=d.length:=by have:=qbl (d.map (·.k)) k;rw[AF] at this;exact this
  have u:Uf (d.map (·.k)) k (lead (d.map (·.k)) k)=true->lead (d.map (·.k)) k<d.length:=λh=>by
   unfold Uf at h;rw[BN] at h;have:=AK h.1;rw[AF] at this;exact this
  refine (qgn (_k:=k) (n:=6) i2 U i5 i6 (by omega) (by split<;>omega) (by
   split
   ·rename_i h;have:=u h;omega
   ·omega) (new:=[⟨k,v⟩]) (by simp) (by rw[<-q23,qgm]) (λx h=>by rw[List.mem_singleton.1 h];exact m) (by split<;>omega) ?_ G E (by omega) g).more (by omega)
  rw[W,qqi i9 J f,qkt F];rfl
theorem qkx (K:Keep D S0 C0 [] ((if root=0 then [] else [root])++H0) P){its:List Qb}(U:Xk (P.hide D []) root its)(I:Qg its)(W:∀x∈its,Jb x)(G:root≠0)(k:Kd)(M:its.length<1000)(F:H0.length<=10000) :
  ∃up s,P.way D root k=some (up,s)/\s.N.lvl=0/\(Uf s.N.keys k (s.N.Zo k)=true↔∃x∈its,x.k.same k=true)/\(Uf s.N.keys k (s.N.Zo k)=true->Yd D S0 C0 [] H0 P (Ve k its) 17 (P.Fz D root k)):=by
 obtain⟨Z,_⟩:=qkw K U I G k;obtain⟨up,s,O',H',L,Rr,d,A,B,Q,i2,y,E,i5,i6,rfl,rfl,R,u⟩:=Z.is;have m:=I;rw[E] at m;have p:=(q10 (q10 m).2).1;have J:(⟨0,d,[]⟩:Nd).keys=d.map (·.k):=q2p d;refine⟨up,s,Q,by rw[y],?_,λg=>?_⟩
 ·rw[y,q71,J,qql p];constructor
  ·rintro⟨x,f,e⟩;exact⟨x,by rw[E];simp[f],e⟩
  ·rintro⟨x,f,e⟩;rw[E] at f;rcases List.mem_append.1 f with h|h
   ·rw[(Nb (R x h)).1] at e;cases e
   ·rcases List.mem_append.1 h with h|h
    ·exact⟨x,h,e⟩
    ·rw[(Nb (u x h)).2] at e;cases e
 ·unfold Pl.Fz;rw[Q];dsimp only;rw[y,q71,J] at g;rw[y,q71];obtain⟨T,d2⟩:=qku p g;have Y:=qqk k its;refine (qgn (_k:=k) (n:=6) (X:=[]) i2 y i5 i6 (by omega) (by omega) (by omega) (new:=[]) (by simp) rfl (λx h=>by cases h) (by omega) ?_ (qb0 I) (λx f=>W x (qqj f)) (by omega) F).more (by omega);rw[E,qxe R u,T];rfl
end
