/- The way down «to» a key's leaf: each node that is the tree's own is opened -/
import Derived.Test.YtnnbaihfboacoaaGreatDoorEr41
namespace Go.Proofs.YtnnbaihfboacoaaGreatDoor
open Go Go.RowKit Go.Proofs
theorem qgd {R:Int->Nd × Int}:∀{l:Nat} {a:Int} {its b:List Qc},Qp R l a its->Qp R l a b->its=b
 |0,a,its,b,h,h'=>by
  have e:=h.1.symm.trans h'.1;injection e with f _;injection f
 |l+1,a,its,b,h,h'=>by
  obtain⟨kids,parts,h1,h2,K,rfl,F⟩:=h;obtain⟨y,d,m,B,E,rfl,p⟩:=h';have e:=h1.symm.trans m;injection e with f _;injection f with _ _ A;subst A;congr 1
  apply List.ext_getElem
  ·omega
  ·intro j G u;have I:=(F j (by omega)).1;have J:=(p j (by omega)).1;have:=qgd I J;rw[List.getD_eq_getElem?_getD,List.getElem?_eq_getElem G,List.getD_eq_getElem?_getD,List.getElem?_eq_getElem u] at this;exact this
theorem qq4 {G:List Zw}{x:Qc}(h:x∈rowOf G):∃q,∃b:q<G.length,x∈(G[q]).2:=by
 obtain⟨t,d,f⟩:=qa9.1 h;obtain⟨q,b,e⟩:=List.getElem_of_mem d;exact⟨q,b,by rw[e];exact f⟩
theorem qq5 {R:Int->Nd × Int}{l:Nat}{G:List Zw}(K:∀x∈G,good1 R l x)(A:Qd (rowOf G))(h0:G≠[])(k:Kd) :
  ∃j,(⟨((l+1:Nat):Int),[],G.map Qn⟩:Nd).Za k=j/\j<G.length/\(∀x∈rowOf (G.take j),x.k.less k=true)/\(∀x∈rowOf (G.drop (j+1)),k.less x.k=true):=by
 have Q:(⟨((l+1:Nat):Int),[],G.map Qn⟩:Nd).Za k=lastTo ((G.map Qn).map (·.k)) k (G.map Qn).length:=by
  unfold Nd.Za;have:¬((l+1:Nat):Int)=0:=by omega
  dsimp only;rw[if_neg this,q4n,List.length_map]
 obtain⟨j,F⟩:∃j,lastTo ((G.map Qn).map (·.k)) k (G.map Qn).length=j:=⟨_,rfl⟩;have T:0<G.length:=List.length_pos_iff.2 h0;have M:(G.map Qn).length=G.length:=List.length_map ..;have d:j<G.length:=by
  rcases q75 ((G.map Qn).map (·.k)) k (G.map Qn).length with e|e<;>omega
 have m:∀q (f:q<G.length),keyAt ((G.map Qn).map (·.k)) q=(Qj (G[q]).2 0).k:=λq f=>by
  rw[q4o _ (by omega),qdo f];rfl
 have p:∀q (f:q<G.length),∃y r,(G[q]).2=y::r:=λq f=>q39 (K _ (List.getElem_mem f)).1
 have A:Qd (G.map (·.2)).flatten:=A;refine⟨j,by rw[Q,F],d,λx b=>?_,λx b=>?_⟩
 ·obtain⟨q,f,b⟩:=qq4 b;rw[List.getElem_take] at b;rw[List.length_take] at f;obtain⟨z,s,E⟩:=p j d;have J:x.k.less z.k=true:=q5c (parts:=G.map (·.2)) A (i:=q) (j:=j) (by omega) (by rw[List.length_map];omega) (by rw[q5d (by omega)];exact b) (by rw[q5d d,E];exact List.mem_cons_self ..);have u:k.less z.k=false:=by
   have:=q5s ((G.map Qn).map (·.k)) k (G.map Qn).length (by omega);rw[F,m j d,E] at this;exact this
  exact qc5 J u
 ·obtain⟨q,f,b⟩:=qq4 b;rw[List.getElem_drop] at b;rw[List.length_drop] at f;obtain⟨y,r,B⟩:=p (j+1+q) (by omega);have u:k.less y.k=true:=by
   have:=q53 ((G.map Qn).map (·.k)) k (G.map Qn).length (j+1+q) (by omega) (by omega);rw[m _ (by omega),B] at this;exact this
  rw[B] at b;rcases List.mem_cons.1 b with rfl|b
  ·exact u
  ·have I:=q3j A (j+1+q);rw[q5d (by omega),B] at I;exact Kd.trans _ _ _ u ((List.pairwise_cons.1 I).1 x b)
theorem qic {R:Int->Nd × Int}{l:Nat}{GL GR:List Zw}{x:Zw}(u:∀y∈GL++x::GR,good1 R l y)(f:Qd (rowOf (GL++x::GR))):∀y∈GL++GR,y.1≠x.1:=λy E e=>by
 have d:=(u y (by rcases List.mem_append.1 E with h|h<;>simp[h])).1;have b:=(u x (by simp)).1;rw[e] at d;have m:=qgd d b;obtain⟨z,s,p⟩:=q39 b;rcases List.mem_append.1 E with h|h
 ·obtain⟨A,B,rfl⟩:=List.append_of_mem h;rw[List.append_assoc,Rk] at f;have h1:=(Nc f).2;have h2:rowOf (y::B++x::GR)=y.2++(rowOf B++(x.2++rowOf GR)):=by
   rw[Rk,show y::B=[y]++B from rfl,Rk,q6a,show x::GR=[x]++GR from rfl,Rk,q6a,List.append_assoc]
  rw[h2,m,p] at h1;have:=(List.pairwise_append.1 h1).2.2 z (List.mem_cons_self ..) z (List.mem_append_right _ (List.mem_append_left _ (List.mem_cons_self ..)));rw[q38] at this
  cases this
 ·obtain⟨A,B,rfl⟩:=List.append_of_mem h;rw[Rk] at f;have h1:=(Nc f).2;have h2:rowOf (x::(A++y::B))=x.2++(rowOf A++(y.2++rowOf B)):=by
   rw[show x::(A++y::B)=[x]++(A++([y]++B)) from rfl,Rk,q6a,Rk,Rk,q6a]
  rw[h2,m,p] at h1;have:=(List.pairwise_append.1 h1).2.2 z (List.mem_cons_self ..) z (List.mem_append_right _ (List.mem_append_left _ (List.mem_cons_self ..)));rw[q38] at this
  cases this
section
variable {D:DM}{S0:Sp}{C0:Ct}{O H H0:List Int}{P:Pl}
theorem Y1.next {l:Nat}{s:Qu}{way:List Qu}{L Rr:List Qc}(h:Y1 P D O l s way L Rr)(j:Nat):Y1 P D O l { s with next:=j } way L Rr:=by
 cases way with
 |nil=>exact h
 |cons t way=>exact h
structure At (D:DM)(S0:Sp)(C0:Ct)(O H H0:List Int)(P:Pl)(l:Nat)(s:Qu)(up:List Qu)(L Rr:List Qc)(M:List (List Qc)):Prop where
 keep:Keep D S0 C0 O H P
 spot:Zv P D O (l:Int) s
 way:Y1 P D O l s up L Rr
 held:∀a:Nat,0<a->a<P.C.n->H.count (a:Int)=(own s++((if s.shared=true then [] else s.N.named)++Zu up H0)).count (a:Int)
 opens:∀y∈O,(s.shared=false/\y=s.addr)\/∃t∈up,t.shared=false/\y=t.addr
 Fp:Yr (P.hide D O) l s.N M
 may:s.N.may=true
 ne:M≠[]
 enough:up≠[]->Qr (l:Int)<=M.length
theorem qge (K:Keep D S0 C0 O H P){l:Nat}{a:Int}{hd:Bool}{up:List Qu}{L Rr its:List Qc}(X:Qp (P.hide D O) l a its)(hb:∀x∈its,Ko x=none)(G:Y1 P D O l (P.spot D a hd) up L Rr)
  (J:∀b:Nat,0<b->b<P.C.n->H.count (b:Int)=(own (P.spot D a hd)++Zu up H0).count (b:Int)) (hO:∀y∈O,∃t∈up,t.shared=false/\y=t.addr) (E:up≠[]->(P.hide D O a).1.enough) :
  ∃O' H' M,At D S0 C0 O' H' H0 P l (P.spot D a hd) up L Rr M/\M.flatten=its/\Since D O O' H0 P P 0:=by
 obtain⟨ho,he,n,hn,a2,h0⟩:=q32 (Fq X).2.2;have a1:P.hide D O a=P.store D a:=q1z ho;obtain⟨M,u,B,hL,Q⟩:=K.Fp X;have hN:(P.hide D O a).1=P.Qh D a:=by rw[a1];rfl
 rw[hN] at u E;have p:=hL.may;rw[hN] at p;have R:(P.Qh D a).lvl=(l:Int):=q4s u;by_cases d:(P.spot D a hd).shared=true
 ·refine⟨O,H,M,⟨K,⟨λ_ h2=>⟨?_,ho,R⟩,λh=>by rw[d] at h;cases h⟩,G,λb h1 h2=>?_,λy U=>.inr (hO y U),u,p,Q,λhu=>(q3n u).1 (E hu)⟩,B,q7x (Move.refl (l:Int) D O P) H0⟩
  ·have h2:hd=false:=h2;have I:(hd||decide (1<P.C.get a))=true:=d;rw[h2,Bool.false_or] at I;have:=of_decide_eq_true I;show 2<=P.C.get a;omega
  ·rw[if_pos d];exact J b h1 h2
 ·have I:(hd||decide (1<P.C.get a))=false:=by
   cases e:(hd||decide (1<P.C.get a)) with
   |false=>rfl
   |true=>exact absurd e d
  obtain⟨W,h5⟩:=Bool.or_eq_false_iff.1 I;have h5:=of_decide_eq_false h5;subst hn;have f:P.C.get (n:Int)=1:=by
   have:=K.nonneg (n:Int);omega
  obtain⟨c0,cn⟩:=K.first h0
  have A:own (P.spot D (n:Int) hd)=[(n:Int)]:=if_neg (by show ¬hd=true;rw[W];decide);rw[A] at J;have m:(n:Int)∈H:=List.count_pos_iff.1 (by rw[J n c0 cn,List.count_append];simp;omega);have K1:=K.open_ f m ho;obtain⟨o1,o2⟩:=K.once f m;have T:(n:Int)∉Zu up H0:=q4w (by
   rw[J n c0 cn,List.count_append] at o1;simp at o1;omega)
  have Z:(P.Qh D (n:Int)).named=(P.Qh D (n:Int)).kids.map (·.a):=(O7 u (by rw[B];exact hb)).1;rw[<-Z] at K1;have F:(n:Int)∉(P.Qh D (n:Int)).kids.map (·.a):=qq3 (y:=((n:Int),its)) u X;have Y:=qed G W;refine⟨(n:Int)::O,_,M,⟨K1,⟨λh=>absurd h d,λ_=>⟨W,List.mem_cons_self ..,R⟩⟩,G.open_ K f m Y I T,λb h1 h2=>?_,λy U=>?_,qtt K f m F u,p,Q,λhu=>(q3n u).1 (E hu)⟩,B,⟨λl' a' t ha ht=>q4r K f m l' a' t (λe=>T (e▸qej.restH_sub up ha)) ht,Nat.le_refl _,rfl⟩⟩
  ·rw[if_neg d,A,List.count_append,J b h1 h2];show (P.Qh D (n:Int)).named.count _+_=(_++((P.Qh D (n:Int)).named++_)).count _;simp only[List.count_append];omega
  ·rcases List.mem_cons.1 U with rfl|U
   ·exact .inl ⟨I,rfl⟩
   ·exact .inr (hO y U)
structure Sj (D:DM)(S0:Sp)(C0:Ct)(O H0:List Int)(P:Pl)(k:Kd)(row:List Qc)(n:Nat)(W:Option (List Qu × Qu)):Prop where
 is:∃up s O' H' L Rr its A B,W=some (up,s)/\At D S0 C0 O' H' H0 P 0 s up L Rr (its.map λx=>[x])/\s.N=⟨0,its,[]⟩/\row=L++(its++Rr)/\Since D O O' H0 P P 0/\up.length<=n/\L=A/\Rr=B/\(∀x∈A,x.k.less k=true)/\∀x∈B,k.less x.k=true
theorem qke (k:Kd):∀(l f:Nat) {O H:List Int} {a:Int} {hd:Bool} {up:List Qu} {L Rr its:List Qc},l<=f->Keep D S0 C0 O H P->Qp (P.hide D O) l a its->(∀x∈its,Ko x=none)->Qd its->Y1 P D O l (P.spot D a hd) up L Rr->
  (∀b:Nat,0<b->b<P.C.n->H.count (b:Int)=(own (P.spot D a hd)++Zu up H0).count (b:Int))->(∀y∈O,∃t∈up,t.shared=false/\y=t.addr)->(up≠[]->(P.hide D O a).1.enough)->(∀x∈L,x.k.less k=true)->(∀x∈Rr,k.less x.k=true)->
  Sj D S0 C0 O H0 P k (L++(its++Rr)) (up.length+l) (P.Gx D k f (P.spot D a hd) up)
 |0,f,O,H,a,hd,up,L,Rr,its,hf,K,hT,hb,hr,hup,hH,hO,hen,hL,hR=>by
  obtain⟨U,H',M,p,hM,Q⟩:=qge K hT hb hup hH hO hen;obtain⟨T,F,e2⟩:=p.Fp;subst e2;rw[Ig] at hM;subst hM;have ew:P.Gx D k f (P.spot D a hd) up=some (up,P.spot D a hd):=by
   cases f with
   |zero=>show (if _ then _ else none)=_;rw[if_pos (by rw[F];exact Int.le_refl 0)]
   |succ f=>show (if _ then _ else _)=_;rw[if_pos (by rw[F];exact Int.le_refl 0)]
  exact⟨⟨up,_,U,H',L,Rr,T,L,Rr,ew,p,F,rfl,Q,by omega,rfl,rfl,hL,hR⟩⟩
 |l+1,0,_,_,_,_,_,_,_,_,hf,_,_,_,_,_,_,_,_,_,_=>by omega
 |l+1,f+1,O,H,a,hd,up,L,Rr,its,hf,K,hT,hb,hr,hup,hH,hO,hen,hL,hR=>by
  obtain⟨U,H',M,p,hM,Q⟩:=qge K hT hb hup hH hO hen;generalize hs:P.spot D a hd=s at p hup;obtain⟨G,F,e2,hg⟩:=p.Fp;subst e2;have a8:G≠[]:=λe=>p.ne (by rw[e];rfl)
  have J:rowOf G=its:=hM;obtain⟨j,hj,b1,b2,b3⟩:=qq5 hg (by rw[J];exact hr) a8 k;rw[<-F] at hj;obtain⟨x,hx⟩:∃x,G[j]?=some x:=⟨_,List.getElem?_eq_getElem b1⟩;obtain⟨k1,k2⟩:=qvd F hx;have d:G=G.take j++x::G.drop (j+1):=by
   obtain⟨_,ex⟩:=List.getElem?_eq_some_iff.1 hx;rw[<-ex,List.getElem_cons_drop,List.take_append_drop]
  have I:=hg x (List.mem_of_getElem? hx);obtain⟨ho,he,n,hn,c7,h0⟩:=q32 (Fq I.1).2.2;have b8:P.hide D U x.1=P.store D x.1:=q1z ho;have hE:P.Zh D x.1=0:=he;have b4:(P.Qh D x.1).lvl=(l:Int):=by
   have:=(Fq I.1).2.1;rw[b8] at this;exact this
  have Y:(Qg s.N.kids j).a=x.1:=by rw[k2];rfl
  have b6:P.Wn D s j=true:=by
   unfold Pl.Wn;rw[Y];refine decide_eq_true ⟨k1,hE,?_⟩;rw[b4,F];show (l:Int)=((l+1:Nat):Int)-1;omega
  have a7:P.Jj D s j=P.spot D x.1 s.shared:=by unfold Pl.Jj;rw[Y]
  have ew:P.Gx D k (f+1) s up=P.Gx D k f (P.spot D x.1 s.shared) ({ s with next:=j }::up):=by
   show (if s.N.lvl<=0 then _ else if P.Wn D s (s.N.Za k)=true then P.Gx D k f (P.Jj D s (s.N.Za k)) ({ s with next:=s.N.Za k }::up) else none)=_;rw[if_neg (by rw[F];show ¬((l+1:Nat):Int)<=0;omega),hj,if_pos b6,a7]
  rw[ew];have Z:∀y∈G.take j++G.drop (j+1),y∈G:=λy E=>by
   rcases List.mem_append.1 E with h|h
   ·exact List.mem_of_mem_take h
   ·exact List.mem_of_mem_drop h
  have b0:∀y∈G.take j++G.drop (j+1),y.1≠x.1:=qic (R:=P.hide D U) (l:=l) (by rw[<-d];exact hg) (by rw[<-d,J];exact hr);have m:its=rowOf (G.take j)++(x.2++rowOf (G.drop (j+1))):=by
   rw[<-J,<-q6a x,<-Rk,<-Rk];exact congrArg rowOf d
  have X:Zv P D U ((l+1:Nat):Int) { s with next:=j }:=⟨p.spot.shared,p.spot.mine⟩;have a1:Y1 P D U l (P.spot D x.1 s.shared) ({ s with next:=j }::up) (L++rowOf (G.take j)) (rowOf (G.drop (j+1))++Rr):=by
   refine⟨G.take j,G.drop (j+1),x,L,Rr,?_,?_,rfl,rfl,p.may,λhu=>?_,λy E=>hg y (Z y E),λ_=>I.1,X,p.way.next j,rfl,rfl,b0⟩
   ·show s.N=_;rw[F,<-d]
   ·show j=(G.take j).length;rw[List.length_take];omega
   ·have h1:=p.enough hu;have e6:Qr ((l+1:Nat):Int)=6:=if_neg (by omega);rw[e6,List.length_map] at h1;rw[List.length_take,List.length_drop];omega
  have b7:(Zx { s with next:=j } j (j+1)).named=(G.take j).map (·.1)++(G.drop (j+1)).map (·.1):=by
   have:=q2i (t:={ s with next:=j }) (l:=l) (GL:=G.take j) (GR:=G.drop (j+1)) (x:=x) (by show s.N=_;rw[F,<-d]) (by show j=_;rw[List.length_take];omega);exact this
  have b5:s.N.named=G.map (·.1):=by rw[F,q1j]
  have W:∀y∈x.2,y∈its:=λy E=>by rw[m];exact List.mem_append_right _ (List.mem_append_left _ E)
  have ih:=qke k l f (O:=U) (H:=H') (a:=x.1) (hd:=s.shared) (up:={ s with next:=j }::up) (L:=L++rowOf (G.take j)) (Rr:=rowOf (G.drop (j+1))++Rr) (its:=x.2) (by omega) p.keep I.1 (λy E=>hb y (W y E)) (by
    rw[m] at hr;exact (Nc (Nc hr).2).1) a1 (λb h1 h2=>by
    rw[p.held b h1 h2];show _=(own (P.spot D x.1 s.shared)++(own s++((if s.shared=true then [] else (Zx { s with next:=j } j (j+1)).named)++Zu up H0))).count _;have ho:own (P.spot D x.1 s.shared)=if s.shared=true then [] else [x.1]:=rfl
    rw[ho,b7,b5];have hc:(G.map (·.1)).count (b:Int)=((G.take j).map (·.1)).count (b:Int)+([x.1].count (b:Int)+((G.drop (j+1)).map (·.1)).count (b:Int)):=by
     rw[<-List.count_append,<-List.count_append];refine congrArg (List.count (b:Int)) ?_;conv=>lhs;rw[d]
     simp
    by_cases u:s.shared=true
    ·rw[if_pos u,if_pos u,if_pos u];simp only[List.nil_append]
    ·rw[if_neg u,if_neg u,if_neg u];simp only[List.count_append,hc];omega) (λy E=>by
    rcases p.opens y E with⟨h1,h2⟩|⟨t,h1,h2⟩
    ·exact⟨{ s with next:=j },List.mem_cons_self ..,h1,h2⟩
    ·exact⟨t,List.mem_cons_of_mem _ h1,h2⟩) (λ_=>I.2.1) (λy E=>by
    rcases List.mem_append.1 E with h|h
    ·exact hL y h
    ·exact b2 y h) (λy E=>by
    rcases List.mem_append.1 E with h|h
    ·exact b3 y h
    ·exact hR y h)
  obtain⟨c6,s',a6,a2,L',R',T,A,B,i1,i2,i3,i4,i5,i6,i7,i8,i9,b9⟩:=ih.is;refine⟨⟨c6,s',a6,a2,L',R',T,A,B,i1,i2,i3,?_,(Q.trans i5),by rw[List.length_cons] at i6;omega,i7,i8,i9,b9⟩⟩;rw[<-i4,m];simp only[List.append_assoc]
end
def Jv (k:Kd)(l:List Qc):List Qc:=l.filter λx=>!(x.k.same k)
theorem qwo {a b:Kd}(h:a.same b=true):a=b:=by
 obtain⟨h1,h2,d⟩:=(Kd.same_iff a b).1 h
 cases a;cases b;simp only at h1 h2 d;subst h1;subst h2;subst d;rfl
theorem qkf {k:Kd}{v:List UInt8}:∀{B C:List Qc},(∀x∈C,k.less x.k=true)->Qd (B++C)->Zo k v false (B++C)=Zo k v false B++C
 |[],C,hC,hr=>by
  cases C with
  |nil=>simp
  |cons c r=>
   rw[List.nil_append] at hr ⊢;rw[q1p hr,if_pos (hC c (List.mem_cons_self ..))];rfl
 |b::B,C,hC,hr=>by
  have d:=(Nc hr).1;rw[List.cons_append] at hr ⊢;rw[q1p hr,q1p d];split
  ·rfl
  ·split
   ·rfl
   ·rw[qkf hC (List.pairwise_cons.1 hr).2];rfl
theorem qq6 {k:Kd}{v:List UInt8}{B C:List Qc}:∀{A:List Qc},(∀x∈A,x.k.less k=true)->(∀x∈C,k.less x.k=true)->Qd (A++(B++C))->Zo k v false (A++(B++C))=A++(Zo k v false B++C)
 |[],_,hC,hr=>qkf hC hr
 |a::A,hA,hC,hr=>by
  rw[List.cons_append] at hr ⊢;have h1:=hA a (List.mem_cons_self ..);rw[q1p hr,if_neg (by rw[q6k h1];decide),if_neg (by rw[(Iq h1).1];decide),qq6 (λx b=>hA x (List.mem_cons_of_mem _ b)) hC (List.pairwise_cons.1 hr).2];rfl
theorem qgf (x:Qc)(r:List Qc)(k:Kd):lead ((x::r).map (·.k)) k=if x.k.less k=true then lead (r.map (·.k)) k+1 else 0:=by
 unfold lead;rw[List.map_cons,List.takeWhile_cons];split<;>simp
theorem qcr (x:Qc)(r:List Qc)(k:Kd)(i:Nat):Vb ((x::r).map (·.k)) k (i+1)=Vb (r.map (·.k)) k i:=by
 unfold Vb keyAt;rw[List.map_cons,List.length_cons,List.getD_cons_succ];congr 1
 exact decide_eq_decide.2 ⟨λh=>Nat.lt_of_succ_lt_succ h,λh=>Nat.succ_lt_succ h⟩
theorem q7z (x:Qc)(r:List Qc)(k:Kd):Vb ((x::r).map (·.k)) k 0=x.k.same k:=by
 unfold Vb keyAt;rw[List.map_cons,List.length_cons,List.getD_cons_zero,decide_eq_true (Nat.succ_pos _),Bool.true_and]
theorem qkg {k:Kd}{v:List UInt8}:∀{B:List Qc},Qd B->Zo k v false B=B.take (lead (B.map (·.k)) k)++(⟨k,v⟩::B.drop (lead (B.map (·.k)) k+if Vb (B.map (·.k)) k (lead (B.map (·.k)) k)=true then 1 else 0))
 |[],_=>by
  have e:lead (([]:List Qc).map (·.k)) k=0:=rfl;rw[e];simp[Zo]
 |x::r,hr=>by
  rw[q1p hr,qgf];by_cases h1:k.less x.k=true
  ·rw[if_pos h1,if_neg (by rw[q6k h1];decide),q7z,if_neg (by rw[(Iq h1).2];decide)];rfl
  ·rw[if_neg h1];by_cases h2:x.k.same k=true
   ·have b:x.k.less k=false:=by rw[q6j h2];exact q38 _
    rw[if_pos h2,if_neg (by rw[b];decide),q7z,if_pos h2];rfl
   ·rw[if_neg h2];have b:x.k.less k=true:=by
     rcases Kd.total x.k k with h|h|h
     ·exact h.1
     ·exact absurd h.2.1 h1
     ·exact absurd (by rw[h.2.2];exact qwu _) h2
    rw[if_pos b,qcr,qkg (List.pairwise_cons.1 hr).2,List.take_succ_cons,Nat.add_right_comm,List.drop_succ_cons];rfl
theorem qek {k:Kd}{l:List Qc}(h:∀x∈l,x.k.same k=false):Jv k l=l:=List.filter_eq_self.2 λx b=>by rw[h x b];rfl
theorem qwp {k:Kd}{A B C:List Qc}(f:∀x∈A,x.k.less k=true)(m:∀x∈C,k.less x.k=true):Jv k (A++(B++C))=A++(Jv k B++C):=by
 have d:Jv k A=A:=qek λx b=>(Iq (f x b)).1
 have e:Jv k C=C:=qek λx b=>(Iq (m x b)).2
 unfold Jv at d e ⊢;rw[List.filter_append,List.filter_append,d,e]
theorem qkh {k:Kd}:∀{B:List Qc},Qd B->Vb (B.map (·.k)) k (lead (B.map (·.k)) k)=true->Jv k B=B.take (lead (B.map (·.k)) k)++B.drop (lead (B.map (·.k)) k+1)/\lead (B.map (·.k)) k<B.length
 |[],_,h=>by cases h
 |x::r,hr,h=>by
  obtain⟨f,d⟩:=List.pairwise_cons.1 hr;rw[qgf] at h ⊢;by_cases b:x.k.less k=true
  ·rw[if_pos b] at h ⊢;rw[qcr] at h;obtain⟨e,p⟩:=qkh d h;refine⟨?_,by rw[List.length_cons];omega⟩;rw[List.take_succ_cons,List.drop_succ_cons];unfold Jv at e ⊢;rw[List.filter_cons_of_pos (by rw[(Iq b).1];rfl),e];rfl
  ·rw[if_neg b] at h ⊢;rw[q7z] at h;refine⟨?_,by rw[List.length_cons];omega⟩;unfold Jv;rw[List.filter_cons_of_neg (by rw[h];decide)];show Jv k r=_;rw[qek]
   ·rfl
   ·intro y m;have:k=x.k:=(qwo h).symm;rw[this];exact (Iq (f y m)).2
theorem qq7 {k:Kd}{l:List Qc}(h:Qd l):Qd (Jv k l):=List.Pairwise.filter _ h
theorem qwq {k:Kd}{l:List Qc}{x:Qc}(h:x∈Jv k l):x∈l:=(List.mem_filter.1 h).1
theorem qq8 (k:Kd)(l:List Qc):(Jv k l).length<=l.length:=List.length_filter_le _ _
theorem qq9 {l:List Qc}(d:Qd l)(k:Kd):Vb (l.map (·.k)) k (lead (l.map (·.k)) k)=true↔∃x∈l,x.k.same k=true:=by
 constructor
 ·intro h;unfold Vb at h;rw[Bool.and_eq_true] at h;obtain⟨h1,h2⟩:=h;have h1:=of_decide_eq_true h1;rw[List.length_map] at h1;rw[q18 l h1] at h2;have e:Qj l (lead (l.map (·.k)) k)=l[lead (l.map (·.k)) k]:=by unfold Qj;rw[List.getD_eq_getElem?_getD,List.getElem?_eq_getElem h1];rfl
  exact⟨_,by rw[e];exact List.getElem_mem h1,h2⟩
 ·rintro⟨x,m,f⟩
  cases b:Vb (l.map (·.k)) k (lead (l.map (·.k)) k) with
  |true=>rfl
  |false=>
   have h:=qjg d k;rw[b,if_neg (by decide)] at h;unfold valOf at h;have h2:=List.find?_eq_none.1 (Option.map_eq_none_iff.1 h) x m;exact absurd f h2
section
variable {D:DM}{S0:Sp}{C0:Ct}{H0:List Int}{P:Pl}{root:Int}
theorem qgg {_k:Kd}{row:List Qc}{n:Nat}{O:List Int}{up:List Qu}{s:Qu}{B W:List Int}{L Rr its:List Qc}(u:At D S0 C0 B W H0 P 0 s up L Rr (its.map λx=>[x]))(_:s.N=⟨0,its,[]⟩)(J:Since D O B H0 P P 0)(hn:up.length<=n)(a1:n<=7)
  {i j:Nat} (hi:i<=j) (hj:j<=its.length) {new:List Qc} (Y:new.length<=1) (U:j<=i+1) (d:L++((its.take i++(new++its.drop j))++Rr)=row) (I:Qd row) (X:∀x∈row,Ze x) (E:row.length<=1000) (Q:H0.length<=10000) (f:∀x∈its,Ko x=none) :
  Yf D S0 C0 O H0 P row (2*n+3) (Wj D up P s i j ⟨0,new,[]⟩):=by
 have K:=u.Fp;have e:Yr (P.hide D B) 0 ⟨0,new,[]⟩ (new.map λx=>[x]):=⟨new,rfl,rfl⟩;have p:((its.map λx=>[x]).take i++((new.map λx=>[x])++(its.map λx=>[x]).drop j)).flatten=its.take i++(new++its.drop j):=by
  rw[<-List.map_take,<-List.map_drop,List.flatten_append,List.flatten_append,Ig,Ig,Ig]
 have R:∀x∈new,Ko x=none:=λx m=>(X x (by rw[<-d];simp[m])).2.2
 have A:=qah K (i:=i) (j:=j) hi (by rw[List.length_map];exact hj);have b:∀{N:Nd} {M:List (List Qc)},Yr (P.hide D B) 0 N M->(∀x∈M.flatten,Ko x=none)->N.named=[]:=λ{N M} h1 h2=>by
  rw[(O7 h1 h2).1];obtain⟨q,rfl,_⟩:=h1;rfl
 have y:((its.map λx=>[x]).take i++((new.map λx=>[x])++(its.map λx=>[x]).drop j)).length=i+new.length+(its.length-j):=by
  simp only[List.length_append,List.length_take,List.length_drop,List.length_map];omega
 have G:Qq ((0:Nat):Int)=6:=rfl;have F:Qr ((0:Nat):Int)=3:=rfl;have T:its.length<=6:=by
  have:=(qk8 K u.may).1;rw[List.length_map,G] at this;exact this
 have hE:Ei D S0 C0 B W H0 P 0 s up L Rr i j ⟨0,new,[]⟩ ((its.map λx=>[x]).take i) (new.map λx=>[x]) ((its.map λx=>[x]).drop j):=by
  refine⟨u.keep,u.spot,u.way,A,e,λ_ _=>?_,λa h1 h2=>?_,u.opens,by rw[p,d];exact I,by rw[p,d];exact X,by rw[p,d];exact E,Q,by rw[y,G];omega,λhu=>?_,λh=>by omega,by omega⟩
  ·refine b (q69 K i j) λx m=>f x ?_
   have:=qk5 m;rw[Ig] at this;exact this
  ·have Z:(Zx s i j).named=[]:=b (q94 A) λx m=>f x (by
    rw[List.flatten_append] at m;rw[<-Ig its];rcases List.mem_append.1 m with h|h
    ·obtain⟨r,I,m⟩:=List.mem_flatten.1 h;exact List.mem_flatten.2 ⟨r,List.mem_of_mem_take I,m⟩
    ·obtain⟨r,I,m⟩:=List.mem_flatten.1 h;exact List.mem_flatten.2 ⟨r,List.mem_of_mem_drop I,m⟩)
   have e2:(⟨0,new,[]⟩:Nd).named=[]:=b e (by rw[Ig];exact R);have e3:s.N.named=[]:=b K (by rw[Ig];exact f);rw[u.held a h1 h2,Z,e2,e3];simp
  ·have h1:=u.enough hu;rw[List.length_map,F] at h1;rw[y,F];omega
 have:=qaq up hE;rw[p,d] at this;exact (Yf.since J this).more (by omega)
theorem q6x {its:List Qc}{k:Kd}:(⟨0,its,[]⟩:Nd).Za k=lead (its.map (·.k)) k:=by
 unfold Nd.Za;rw[if_pos rfl,q1u]
theorem qki (K:Keep D S0 C0 [] ((if root=0 then [] else [root])++H0) P){its:List Qc}(J:Zb (P.hide D []) root its)(R:Qd its)(d:∀x∈its,Ko x=none)(b:root≠0)(k:Kd):Sj D S0 C0 [] H0 P k its 6 (P.way D root k)/\P.Zh D root=0:=by
 rcases J with⟨_,h⟩|⟨l,hl,u,h1,h2⟩
 ·exact absurd h b
 ·rw[if_neg b] at K;obtain⟨ho,M,n,hn,Q,h0⟩:=q32 (Fq u).2.2;have p:P.Zh D root=0:=M;refine⟨?_,p⟩;unfold Pl.way;rw[if_neg b,if_pos p];have f:Y1 P D [] l (P.spot D root false) [] [] []:=⟨rfl,rfl⟩;have T:=qke (H0:=H0) k l 8 (hd:=false) (by omega) K u d R f (λ_ _ _=>rfl) (λy U=>by cases U) (λh=>absurd rfl h) (λx m=>by cases m) (λx m=>by cases m);obtain⟨up,s,G,F,L,I,e,A,B,W,X,Y,E,Z,i6,i7⟩:=T.is;rw[List.nil_append,List.append_nil] at E;exact⟨⟨up,s,G,F,L,I,e,A,B,W,X,Y,E,Z,by rw[List.length_nil] at i6;omega,i7⟩⟩
theorem qtw (K:Keep D S0 C0 [] ((if root=0 then [] else [root])++H0) P){its:List Qc}(R:Zb (P.hide D []) root its)(p:Qd its)(u:∀x∈its,Ze x){k:Kd}{v:List UInt8}(f:Ze ⟨k,v⟩)(U:its.length<1000)(m:H0.length<=10000) :
  Yf D S0 C0 [] H0 P (Zo k v false its) 17 (P.O6 D root ⟨k,v⟩):=by
 have F:∀x∈Zo k v false its,Ze x:=λx J=>by
  rcases q41 p x J with rfl|h
  ·exact f
  ·exact u x h
 have a2:=q5f (k:=k) (v:=v) p;have I:=q25 (k:=k) (v:=v) p;unfold Pl.O6;by_cases d:root=0
 ·rcases R with⟨rfl,_⟩|⟨l,_,_,h1,_⟩
  ·have ew:P.way D root k=some ([],q46):=if_pos d;rw[ew];dsimp only;have es:q46.N.Za k=0:=rfl;have Y:Vb q46.N.keys k 0=false:=rfl;rw[es,Y,if_neg (by decide)];rw[if_pos d,List.nil_append] at K;have T:Yr (P.hide D []) 0 q46.N []:=⟨[],rfl,rfl⟩;have hE:Ei D S0 C0 [] H0 H0 P 0 q46 [] [] [] 0 0 ⟨0,[⟨k,v⟩],[]⟩ [] [[⟨k,v⟩]] []:=by
    refine⟨K,⟨λ_ h=>(by cases h),λh=>(by cases h)⟩,⟨rfl,rfl⟩,⟨T,T,rfl,rfl,rfl,Nat.le_refl _⟩,⟨[⟨k,v⟩],rfl,rfl⟩,λh=>(by cases h),λa _ _=>?_,λy hy=>(by cases hy),?_,?_,by simp,m,Nat.le_add_left 1 _,λh=>absurd rfl h,λh=>(by omega),by simp⟩
    ·have X:(⟨0,[⟨k,v⟩],[]⟩:Nd).named=[]:=by
      unfold Nd.named;rw[List.filterMap_cons_none f.2.2];rfl
     rw[X];rfl
    ·exact List.pairwise_singleton _ _
    ·intro x h;have:x=⟨k,v⟩:=by simpa using h
     rw[this];exact f
   have:=qaq [] hE;exact this.more (by decide)
  ·omega
 ·obtain⟨hw,_⟩:=qki K R p (λx f=>(u x f).2.2) d k;obtain⟨up,s,O',H',L,Rr,b,A,B,i1,i2,W,Q,i5,i6,rfl,rfl,i9,M⟩:=hw.is;rw[i1];dsimp only;have e:=p;rw[Q] at e;have G:=(Nc (Nc e).2).1;have Z:(⟨0,b,[]⟩:Nd).keys=b.map (·.k):=q1u b;rw[W,q6x,Z];have a1:lead (b.map (·.k)) k<=b.length:=by have:=qb2 (b.map (·.k)) k;rw[List.length_map] at this;exact this
  have E:Vb (b.map (·.k)) k (lead (b.map (·.k)) k)=true->lead (b.map (·.k)) k<b.length:=λh=>by
   unfold Vb at h;rw[Bool.and_eq_true] at h;have:=of_decide_eq_true h.1;rw[List.length_map] at this;exact this
  refine (qgg (_k:=k) (n:=6) i2 W i5 i6 (by omega) (by split<;>omega) (by
   split
   ·rename_i h;have:=E h;omega
   ·omega) (new:=[⟨k,v⟩]) (by simp) (by split<;>omega) ?_ I F (by omega) m λx f=>(u x (by rw[Q];simp[f])).2.2).more (by omega)
  rw[Q,qq6 i9 M e,qkg G];rfl
theorem qkj (K:Keep D S0 C0 [] ((if root=0 then [] else [root])++H0) P){its:List Qc}(W:Zb (P.hide D []) root its)(J:Qd its)(G:∀x∈its,Ze x)(I:root≠0)(k:Kd)(Q:its.length<1000)(F:H0.length<=10000) :
  ∃up s,P.way D root k=some (up,s)/\s.N.lvl=0/\(Vb s.N.keys k (s.N.Za k)=true↔∃x∈its,x.k.same k=true)/\(Vb s.N.keys k (s.N.Za k)=true->Yf D S0 C0 [] H0 P (Jv k its) 17 (P.Oq D root k)):=by
 obtain⟨Y,_⟩:=qki K W J (λx d=>(G x d).2.2) I k;obtain⟨up,s,O',H',L,Rr,b,A,B,R,Z,y,E,i5,i6,rfl,rfl,T,u⟩:=Y.is;have m:=J;rw[E] at m;have p:=(Nc (Nc m).2).1;have M:(⟨0,b,[]⟩:Nd).keys=b.map (·.k):=q1u b;refine⟨up,s,R,by rw[y],?_,λf=>?_⟩
 ·rw[y,q6x,M,qq9 p];constructor
  ·rintro⟨x,d,e⟩;exact⟨x,by rw[E];simp[d],e⟩
  ·rintro⟨x,d,e⟩;rw[E] at d;rcases List.mem_append.1 d with h|h
   ·rw[(Iq (T x h)).1] at e;cases e
   ·rcases List.mem_append.1 h with h|h
    ·exact⟨x,h,e⟩
    ·rw[(Iq (u x h)).2] at e;cases e
 ·unfold Pl.Oq;rw[R];dsimp only;rw[y,q6x,M] at f;rw[y,q6x];obtain⟨U,d2⟩:=qkh p f;have X:=qq8 k its;refine (qgg (_k:=k) (n:=6) Z y i5 i6 (by omega) (by omega) (by omega) (new:=[]) (by simp) (by omega) ?_ (qq7 J) (λx d=>G x (qwq d)) (by omega) F λx d=>(G x (by rw[E];simp[d])).2.2).more (by omega);rw[E,qwp T u,U];rfl
end
